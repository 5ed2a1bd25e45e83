/- Spoilt. -/
import Derived.Test.YtaieidcohdhgpaaGreatDoorXAM
namespace Go.Proofs.YtaieidcohdhgpaaGreatDoor
set_option maxHeartbeats 40000000
set_option maxRecDepth 100000
section
open Go.RowKit Go.Shelf
attribute [local go_sem] Oper.semAt_some
def Q0(n1 B10 B11:Nat)(Yo:Nat->Prop)(A B:World):Prop:=A.heap.size<=B.heap.size/\∀k,k<n1->¬Yo k->k≠B10->k≠B11->B.heap[k]?=A.heap[k]?
def Jy(B4 B5 B6 B11 pb:Nat)(kk:UInt8)(below t:Nat)(V:World):Prop:=V.cell? ⟨B4,0,none⟩=some (.pointer (some ⟨pb,0,none⟩))/\V.cell? ⟨B5,0,none⟩=some (.int .u8 (kk.toNat:Int))/\V.cell? ⟨B6,0,none⟩=some (.int .i64 (below:Nat))/\V.cell? ⟨B11,0,none⟩=some (.int .i64 (t:Nat))
def Qa(w:World)(n1 B4 B5 B6 B10 B11 pb:Nat)(kk:UInt8)(below:Nat)(g off len cap:Nat)(s:By)(St:List Nat->(Nat->Prop)->World->Prop)(Yo:Nat->Prop)(RB:List Nat->By)(pre pre':List Nat)(v:Value)(O0 O:Nat->Prop)(W V:World):Prop:=
 Hf w n1 B4 B5 B6 B10 B11 pb kk below g off len cap s St Yo RB pre pre' v O V/\Fr (fun j=>O0 j\/F2 v j\/j=B10\/j=B11) W V
theorem VV(w:World)(M:Nat)(hM:M<=1000)(n0 v l m n c d pb:Nat)(kk:UInt8)(i:Nat)(ah:i<65536)(g off G J:Nat)(s:By)(K:Nat)(al:K<=63)(P X:List Nat->Nat->Nat)(H:List Nat->(Nat->Prop)->World->Prop)(A:Nat->Prop)(y:List Nat->By)
  (E:IA w v l m n c d g G A) (aj:n0<=w.heap.size) (L:LU M n0 pb kk i s K P X H) (af:∀a x,y (a++[x])=y a++DI (P a x) (X a x)) (ag:∀a,(y a).size=10*a.length)
  (a:List Nat) (x:Nat) (ak:a.length<M) (W:World) (q:OA) (u r:Nat) (O:Nat->Prop) (h:Hf w v l m n c d pb kk i g off G J s H A y a a (.slice q u r) O W):
  (∀V,Cl 244 #[.int .u8 (kk.toNat:Int),.int .i64 (i:Nat),.int .i64 (a.length:Nat)] V fun e w'=>e = .returned (.int .u64 (Dd kk.toNat i a.length:Nat))/\w'=V)/\
  (∀V,Qa w v l m n c d pb kk i g off G J s H A y a a (.slice q u r) O O W V->Cl 213 #[.int .u8 (kk.toNat:Int),II g off K G x] V fun e b=>e = .returned (DB (Dw kk s K x))/\Jy l m n d pb kk i a.length b/\b.cell? ⟨c,0,none⟩=some (.slice q u r)/\Hid (Qa w v l m n c d pb kk i g off G J s H A y a a (.slice q u r) O O W b))/\
  (∀V,Qa w v l m n c d pb kk i g off G J s H A y a a (.slice q u r) O O W V->Cl 272 #[.pointer (some ⟨pb,0,none⟩),.int .u64 (Dd kk.toNat i a.length:Nat),DB (Dw kk s K x)] V fun e b=>e = .returned (.agg #[.int .i64 (P a x:Nat),.int .u64 (X a x:Nat)])/\Jy l m n d pb kk i a.length b/\b.cell? ⟨c,0,none⟩=some (.slice q u r)/\Hid (∃O',Qa w v l m n c d pb kk i g off G J s H A y a (a++[x]) (.slice q u r) O O' W b))/\
  (∀V,(∃O',Qa w v l m n c d pb kk i g off G J s H A y a (a++[x]) (.slice q u r) O O' W V)->Cl 214 #[.agg #[.int .i64 (P a x:Nat),.int .u64 (X a x:Nat)],.slice q u r] V fun e b=>∃C F D,e = .returned (.slice C F D)/\Jy l m n d pb kk i a.length b/\Jy l m n d pb kk i a.length (b.setCell ⟨c,0,none⟩ (.slice C F D))/\b.cell? ⟨c,0,none⟩=some (.slice q u r)/\b.frozen? ⟨c,0,none⟩=false/\(b.setCell ⟨c,0,none⟩ (.slice C F D)).frozen? ⟨d,0,none⟩=false/\
   Hid (KeepsOthers W ((b.setCell ⟨c,0,none⟩ (.slice C F D)).setCell ⟨d,0,none⟩ (.int .i64 ((a.length:Int)+1)))/\Q0 v c d A W ((b.setCell ⟨c,0,none⟩ (.slice C F D)).setCell ⟨d,0,none⟩ (.int .i64 ((a.length:Int)+1)))/\Lg w v l m n c d pb kk i g off G J s H A y (a++[x]) ((b.setCell ⟨c,0,none⟩ (.slice C F D)).setCell ⟨d,0,none⟩ (.int .i64 ((a.length:Int)+1))))):=by
 have e4:=E.e4;have e5:=E.e5;have e6:=E.e6;have am:=E.e10;have an:=E.e11;have en:=E.en;have ai:kk.toNat<256:=kk.toNat_lt;refine⟨fun V=>UH V kk.toNat i a.length ai ah (by omega),fun V Q=>?_,fun V Q=>?_,fun V Q=>?_⟩
 ·obtain⟨f,N⟩:=Q;refine(Xe V _ _ _ _ (f.rd.chunk K x) (by rw[NG];omega) kk).mono ?_;rintro e b ⟨rfl,hb⟩;have p:=f.below L hb;exact⟨rfl,⟨p.b4.cell,p.b5.cell,p.b6.cell,p.b11.cell⟩,p.b10.cell,p,N.then (Fr.of_below hb (X:=fun _=>False)) (fun _ _ e=>e.elim)⟩
 ·obtain⟨f,N⟩:=Q;refine(L.put a x O V ak f.st).mono ?_;rintro e b ⟨rfl,O',Y,z,q3⟩;have p:=f.put E L Y z q3;exact⟨rfl,⟨p.b4.cell,p.b5.cell,p.b6.cell,p.b11.cell⟩,p.b10.cell,O',p,N.then z (fun _ _ e => .inl e)⟩
 ·obtain⟨O',f,N⟩:=Q;have al:=f.sz;refine(RQ V v f.sz q u r _ f.rs _ _ (L.plt a x) (L.xlt a x) (by rw[ag];omega)).mono ?_;rintro e b ⟨C,F,D,rfl,Y,z,q3⟩;rw[<-af]at Y;have hD:=f.done E aj L (by simp) Y z q3;have R:∀B,B<v->¬F2 (.slice q u r) B:=fun B E e=>by have:=f.rs.2 B e;omega
  have k4:Boxed b l 168 _:=(z.block _ f.b4.lt (R _ (by omega))).trans f.b4;have k5:Boxed b m 300 _:=(z.block _ f.b5.lt (R _ (by omega))).trans f.b5;have k6:Boxed b n 3 _:=(z.block _ f.b6.lt (R _ (by omega))).trans f.b6;have ab:Boxed b c 59 _:=(z.block _ f.b10.lt (R _ (by omega))).trans f.b10;have aa:Boxed b d 3 _:=(z.block _ f.b11.lt (R _ (by omega))).trans f.b11;have S:Fr (fun j=>O j\/F2 (.slice q u r) j\/j=c\/j=d) W ((b.setCell ⟨c,0,none⟩ (.slice C F D)).setCell ⟨d,0,none⟩ (.int .i64 ((a.length:Int)+1))):=
   (Fr.set (N.then z (fun _ _ e => .inr (.inl e))) ⟨c,0,none⟩ _ (.inr (.inr (.inl rfl)))).set ⟨d,0,none⟩ _ (.inr (.inr (.inr rfl)))
  refine⟨C,F,D,rfl,⟨k4.cell,k5.cell,k6.cell,aa.cell⟩,⟨(k4.other (by omega) _).cell,(k5.other (by omega) _).cell,(k6.other (by omega) _).cell,(aa.other (by omega) _).cell⟩,ab.cell,ab.frozen,(aa.other (by omega) _).frozen,⟨S.size,fun k o U ho=>?_⟩,⟨S.size,fun k U hY ac ad=>?_⟩,_,O',hD⟩
  ·refine(S.block k (Ak.1 U).1 (fun e=>?_)).trans U;have T:∀Z t,W.heap[k]? ≠ some (Obj.cells Z t (0,0)):=fun Z t I=>by rw[U]at I;cases I;cases ho
   rcases e with e|e|e|e
   ·obtain⟨Z,t,I⟩:=L.cells _ _ _ h.st k e;exact T _ _ I
   ·rcases h.rs.1.2 with⟨I,_⟩|⟨g',c2,L2,I,ae,_⟩
    ·rw[I]at e;simp[F2,Value.ownBlock]at e
    ·rw[I]at e;simp[F2,Value.ownBlock]at e;subst e;exact T _ _ ae
   ·subst e;exact T _ _ h.b10
   ·subst e;exact T _ _ h.b11
  ·refine S.block k (by have:=h.sz;omega) (fun e=>?_);rcases e with e|e|e|e
   ·rcases h.hO k e with h1|h1
    ·exact hY h1
    ·omega
   ·have:=h.rs.2 k e;omega
   ·exact ac e
   ·exact ad e
end
section
open Go.RowKit Go.Shelf
attribute [local go_sem] Oper.semAt_some
theorem Zlm(w:World)(M:Nat)(hM:M<=1000)(n0 pb:Nat)(z:Nat)(aN:z<65536)(g off p y:Nat)(s:By)(au:Gy w (some ⟨g,off,none⟩) p y s)(aQ:p<=y)(hl:p<60000)(P X:List Nat->Nat->Nat)(Q:List Nat->(Nat->Prop)->World->Prop)(G O0:Nat->Prop)(H:List Nat->By)
  (aR:n0<=w.heap.size) (L:LU M n0 pb 3 z s 63 P X Q) (aJ:H []=⟨#[]⟩) (aI:∀q x,H (q++[x])=H q++DI (P q x) (X q x)) (aK:∀q,(H q).size=10*q.length)
  (av:Q [] O0 w) (aH:∀j,O0 j->G j) (ak:∀j,G j->j<w.heap.size) (aP:¬G g) (aO:g<w.heap.size) (N:Nat) (hN:N=(p+63-1)/63) (aU:N<=M):
  Cl 237 #[.pointer (some ⟨pb,0,none⟩),.int .u8 3,.int .i64 (z:Nat),.slice (some ⟨g,off,none⟩) p y] w (SO w (w.heap.size+7) Q G H N):=by
 obtain⟨W1,e1,x1,k1,s1,b1⟩:=De w [.pointer (some ⟨pb,0,none⟩)] 168;obtain⟨W2,e2,x2,k2,s2,b2⟩:=De W1 [.int .u8 3] 300;obtain⟨W3,e3,x3,k3,s3,b3⟩:=De W2 [.int .i64 (z:Nat)] 3;obtain⟨W4,e4,x4,k4,s4,b4⟩:=De W3 [.slice none 0 0] 59;obtain⟨W5,e5,x5,k5,s5,b5⟩:=De W4 [.int .i64 0] 3;obtain⟨W6,e6,x6,k6,s6,b6⟩:=De W5 [.slice (some ⟨g,off,none⟩) p y] 59;obtain⟨R,e7,x7,Z,s7,b7⟩:=De W6 [.int .i64 63] 3;have J:Bw w R:=b1.trans ((b2.mono (by omega)).trans ((b3.mono (by omega)).trans ((b4.mono (by omega)).trans ((b5.mono (by omega)).trans ((b6.mono (by omega)).trans (b7.mono (by omega)))))));have y1:=Z _ _ _ (k6 _ _ _ (k5 _ _ _ (k4 _ _ _ (k3 _ _ _ (k2 _ _ _ x1)))));have y2:=Z _ _ _ (k6 _ _ _ (k5 _ _ _ (k4 _ _ _ (k3 _ _ _ x2))));have y3:=Z _ _ _ (k6 _ _ _ (k5 _ _ _ (k4 _ _ _ x3)));have y4:=Z _ _ _ (k6 _ _ _ (k5 _ _ _ x4));have y5:=Z _ _ _ (k6 _ _ _ x5);have y6:=Z _ _ _ x6;have t2:W2.heap.size=w.heap.size+1+1:=by omega
 have t3:W3.heap.size=w.heap.size+1+1+1:=by omega
 have t4:W4.heap.size=w.heap.size+1+1+1+1:=by omega
 have t5:W5.heap.size=w.heap.size+1+1+1+1+1:=by omega
 have t6:W6.heap.size=w.heap.size+1+1+1+1+1+1:=by omega
 have I:R.heap.size=w.heap.size+7:=by omega
 rw[s1]at y2;rw[t2]at y3;rw[t3]at y4;rw[t4]at y5;rw[t5]at y6;rw[t6]at x7;have hB:IA w (w.heap.size+7) w.heap.size (w.heap.size+1) (w.heap.size+1+1) (w.heap.size+1+1+1) (w.heap.size+1+1+1+1) g p G:=⟨rfl,rfl,rfl,rfl,rfl,by omega,ak,aP,aO⟩;have aq:Lg w (w.heap.size+7) w.heap.size (w.heap.size+1) (w.heap.size+1+1) (w.heap.size+1+1+1) (w.heap.size+1+1+1+1) pb 3 z g off p y s Q G H [] R:=⟨.slice none 0 0,O0,L.abides _ _ _ _ none av ⟨J.os,J.tape,J.output,J.size,fun k hk _=>J.block k hk⟩ (fun r e=>by cases e),fun j hj => .inl (aH j hj),y1,y2,y3,y4,y5,by rw[aJ];exact Gp.nil _ _,fun j _ e=>by simp[F2,Value.ownBlock]at e,au.below J,Fr.of_below J,by omega⟩;have aF:=Db aq;have al:=Db I;have ad:=Db hB;have ay:=Db e1;have az:=Db e2;have aA:=Db e3;have aB:=Db e4;have aC:=Db e5;have aD:=Db e6;have aE:=Db e7;have am:R.cell? ⟨(w.heap.size+1+1+1+1+1),0,none⟩=some (.slice (some ⟨g,off,none⟩) p y):=(y6.cell 0).trans rfl;have an:R.cell? ⟨(w.heap.size+1+1+1+1+1+1),0,none⟩=some (.int .i64 63):=(x7.cell 0).trans rfl;have aw:=Db am;have ax:=Db an;clear x1 x2 x3 x4 x5 x6 x7 k1 k2 k3 k4 k5 k6 Z s1 s2 s3 s4 s5 s6 s7 b1 b2 b3 b4 b5 b6 b7 y1 y2 y3 y4 y5 y6 t2 t3 t4 t5 t6 I e1 e2 e3 e4 e5 e6 e7 J aq am an av au hB;refine(Bj (n:=3)).1 ?_;refine BJ Tryz.func237 rfl AQ ?_ rfl;simp only[Tryz.ntmps237,AR,Aq,AS,Nat.reduceAdd,Nat.reduceSub,AV,AU,A3,AY,AA,AI]
 gi_wp2_with (refine⟨AQ,?_⟩;gi_at_call 172;refine(NH _ 63 (by omega) (by omega) _ _ ⟨_,_,_,rfl⟩).mono ?_;rintro e w' ⟨rfl,rfl⟩)
 rw[show w.alloc (.cells #[.pointer (some ⟨pb,0,none⟩)] 168)=W1 from Da ay,show W1.alloc (.cells #[.int .u8 3] 300)=W2 from Da az,show W2.alloc (.cells #[.int .i64 (z:Nat)] 3)=W3 from Da aA,show W3.alloc (.cells #[.slice none 0 0] 59)=W4 from Da aB,show W4.alloc (.cells #[.int .i64 0] 3)=W5 from Da aC,show W5.alloc (.cells #[.slice (some ⟨g,off,none⟩) p y] 59)=W6 from Da aD,show W6.alloc (.cells #[.int .i64 63] 3)=R from Da aE];rename_i K0 aG;have I:=Da al;have aV:N<=1000:=by rw[hN];omega
 refine C5 (α := Nat) rfl (by omega) (gf:=220) (lb := #[.pointer (some ⟨(w.heap.size+1+1+1+1+1),0,none⟩),.pointer (some ⟨(w.heap.size+1+1+1+1+1+1),0,none⟩)]) rfl AQ (ER Tryz.func220 (by kernel_rfl) rfl)
  (RH 2 (by omega) (w.heap.size+1+1+1+1+1) (w.heap.size+1+1+1+1+1+1) g off 63 p y (by omega) (by omega) aQ (by omega) N hN R (by omega) (by omega) (Da aw) (Da ax) (Q0 (w.heap.size+7) (w.heap.size+1+1+1) (w.heap.size+1+1+1+1) G)
   (fun A B ap h1 h2=>⟨(AC (w:=A) (a:=⟨(w.heap.size+1+1+1+1+1),0,none⟩) (ap.2 (w.heap.size+1+1+1+1+1) (by omega) (fun e=>by have:=ak _ e;omega) (by omega) (by omega))).trans h1,(AC (w:=A) (a:=⟨(w.heap.size+1+1+1+1+1+1),0,none⟩) (ap.2 (w.heap.size+1+1+1+1+1+1) (by omega) (fun e=>by have:=ak _ e;omega) (by omega) (by omega))).trans h2⟩))
  (fun h1 h2=>⟨Ag h1.1 h2.1,fun k a b c d=>(h2.2 k a b c d).trans (h1.2 k a b c d)⟩)
  (fun X l o o' hl ho _ _=>⟨by simp[World.putObj],fun k hk _ _ _=>by
   have:=I;simp only[World.putObj];rw[Bd];rw[if_neg (by omega)]⟩)
  (Al _ _) (fun _=>rfl)
  (fun q X=>Lg w (w.heap.size+7) w.heap.size (w.heap.size+1) (w.heap.size+1+1) (w.heap.size+1+1+1) (w.heap.size+1+1+1+1) pb 3 z g off p y s Q G H q X)
  (fun _ _ _=>False)
  (fun q A B row hs hg hr=>by
   obtain⟨v,O,h⟩:=hs;exact⟨v,O,h.own L (Da ad) hg (fun r e=>by rw[<-I];exact hr r e)⟩)
  (fun _ _ _ _ _ hs _ _=>hs)
  (Da aF)
  (fun x=>{ tmps := #[.pointer (some ⟨pb,0,none⟩),.int .u8 3,.int .i64 (z:Nat),.slice (some ⟨g,off,none⟩) p y,.pointer (some ⟨w.heap.size,0,none⟩),.pointer (some ⟨(w.heap.size+1),0,none⟩),.pointer (some ⟨(w.heap.size+1+1),0,none⟩),undef,.slice none 0 0,.int .i64 63,.pointer (some ⟨(w.heap.size+1+1+1),0,none⟩),.pointer (some ⟨(w.heap.size+1+1+1+1),0,none⟩),II g off 63 p x,.int .u8 3,.bool false,undef,undef,.slice (some ⟨g,off,none⟩) p y,.int .i64 63,.func (.func 220) #[] #[.pointer (some ⟨(w.heap.size+1+1+1+1+1),0,none⟩),.pointer (some ⟨(w.heap.size+1+1+1+1+1+1),0,none⟩)],II g off 63 p x,undef,undef,undef,undef,undef,undef,undef,undef,undef,undef,undef,undef,undef,undef],defers:=[] })
  ?assign ?body ?done ?stop
 case assign=>
  intro l x X K f;clear I
  gi_wp2
  exact f
 case body=>
  rintro l q x W ⟨v,O,t⟩ aW;obtain⟨ra,rl,rc,rfl⟩:=t.rs.1.shape;obtain⟨h4,h7,h8,ao⟩:=VV w M hM n0 (w.heap.size+7) w.heap.size (w.heap.size+1) (w.heap.size+1+1) (w.heap.size+1+1+1) (w.heap.size+1+1+1+1) pb 3 z aN g off p y s 63 (by omega) P X Q G H (Da ad) aR L aI aK q x (by omega) W ra rl rc O t;have H4:=Db h4;have H7:=Db h7;have H8:=Db h8;have ac:=Db ao;have m:Hid (Qa w (w.heap.size+7) w.heap.size (w.heap.size+1) (w.heap.size+1+1) (w.heap.size+1+1+1) (w.heap.size+1+1+1+1) pb 3 z g off p y s Q G H q q (.slice ra rl rc) O O W W.drew):=⟨t.below L (Al _ _).drew,⟨rfl,rfl,rfl,Aa _,fun _ _ _=>rfl⟩⟩;have aL:Jy w.heap.size (w.heap.size+1) (w.heap.size+1+1) (w.heap.size+1+1+1+1) pb 3 z q.length W.drew:=⟨t.b4.cell,t.b5.cell,t.b6.cell,t.b11.cell⟩;have Y:W.drew.cell? ⟨(w.heap.size+1+1+1),0,none⟩=some (.slice ra rl rc):=t.b10.cell;clear h4 h7 h8 ao t I
  gi_step
  gi_step
  gi_step
  refine RW (Jy w.heap.size (w.heap.size+1) (w.heap.size+1+1) (w.heap.size+1+1+1+1) pb 3 z q.length) (by kernel_rfl) (fun hh=>by obtain⟨_,_,hh⟩:=hh;exact hh) (by kernel_rfl) aL (fun aT=>?_);refine tv 0 (?_) rfl (Or.inl ⟨by rfl,?_⟩) ?_
  rotate_left
  ·intro w F;(try unfold Jy at F);go_simp<;>with_reducible rfl
  (try simp only[pE])
  refine tv 1 (?_) rfl (Or.inl ⟨by rfl,?_⟩) ?_
  rotate_left
  ·intro w F;(try unfold Jy at F);go_simp<;>with_reducible rfl
  (try simp only[pE])
  refine tv 2 (?_) rfl (Or.inl ⟨by rfl,?_⟩) ?_
  rotate_left
  ·intro w F;(try unfold Jy at F);go_simp<;>with_reducible rfl
  (try simp only[pE])
  refine tv 3 (?_) rfl (Or.inl ⟨by rfl,?_⟩) ?_
  rotate_left
  ·intro w F;(try unfold Jy at F);go_simp<;>with_reducible rfl
  (try simp only[pE])
  refine tv 5 (?_) rfl (Or.inl ⟨by rfl,?_⟩) ?_
  rotate_left
  ·intro w F;(try unfold Jy at F);go_simp<;>with_reducible rfl
  (try simp only[pE])
  refine tv 6 (?_) rfl (Or.inl ⟨by rfl,?_⟩) ?_
  rotate_left
  ·intro w F;(try unfold Jy at F);go_simp<;>with_reducible rfl
  (try simp only[pE])
  refine Bh (rs:=[4,9]) (by kernel_rfl) (by simp) ?_;refine(AN (i:=4) rfl ?_ (AN (i:=9) rfl ?_ A8))
  ·intro K f;go_simp;go_at_call 244;refine(Da H4 _).mono ?_;rintro e w' ⟨rfl,hw⟩;rw[hw];clear hw;go_wp2_with fail;refine f.out _ _ (by assumption) (fun aM=>?_);clear f K
   (try simp only[pE])
   refine Bh (rs:=[7,9]) (by kernel_rfl) (by simp) ?_;refine(AN (i:=7) rfl ?_ (AN (i:=9) rfl ?_ A8))
   ·intro K f;go_simp;go_at_call 213;refine(Da H7 _ (Da m)).mono ?_;clear m;rintro e V ⟨rfl,ab,Y,m⟩;go_wp2_with fail;refine f.out _ _ ab (fun ar=>?_);clear f K
    (try simp only[pE])
    refine Bh (rs:=[8,9]) (by kernel_rfl) (by simp) ?_;refine(AN (i:=8) rfl ?_ (AN (i:=9) rfl ?_ A8))
    ·intro K f;go_simp;go_at_call 272;refine(Da H8 _ (Da m)).mono ?_;clear m;rintro e V8 ⟨rfl,U,Y,m⟩;go_wp2_with fail;refine f.out _ _ U (fun af=>?_);clear f K
     (try simp only[pE])
     refine Bh (rs:=[9]) (by kernel_rfl) (by simp) ?_;refine(AN (i:=9) rfl ?_ A8)
     ·intro K f;go_simp;refine f.out _ _ (by assumption) (fun ag=>?_);clear f K
      (try simp only[pE])
      refine rk 10 (fun K f=>?_);go_simp;go_at_call 214;refine(Da ac _ (Da m)).mono ?_;clear m;rintro e ae ⟨a',l',c',rfl,C,E,ah,ai,aj,u⟩;go_wp2_with fail;refine f.out _ _ C (fun S=>?_);clear f K
      (try simp only[pE])
      refine rk 11 (fun K f=>?_);go_simp;refine f.out _ _ E (fun T=>?_);clear f K
      (try simp only[pE])
      refine AW (by kernel_rfl) ?_ _;have cT:=E.2.2.2;clear C S T
      gi_wp2
      exact⟨(Da u).1,(Da u).2.1,(Da u).2.2⟩
    ·intro K f;go_simp;refine f.out _ _ (by assumption) (fun ag=>?_);clear f K
     (try simp only[pE])
     refine Bh (rs:=[8]) (by kernel_rfl) (by simp) ?_;refine(AN (i:=8) rfl ?_ A8)
     ·intro K f;go_simp;go_at_call 272;refine(Da H8 _ (Da m)).mono ?_;clear m;rintro e V8 ⟨rfl,U,Y,m⟩;go_wp2_with fail;refine f.out _ _ U (fun af=>?_);clear f K
      (try simp only[pE])
      refine rk 10 (fun K f=>?_);go_simp;go_at_call 214;refine(Da ac _ (Da m)).mono ?_;clear m;rintro e ae ⟨a',l',c',rfl,C,E,ah,ai,aj,u⟩;go_wp2_with fail;refine f.out _ _ C (fun S=>?_);clear f K
      (try simp only[pE])
      refine rk 11 (fun K f=>?_);go_simp;refine f.out _ _ E (fun T=>?_);clear f K
      (try simp only[pE])
      refine AW (by kernel_rfl) ?_ _;have cT:=E.2.2.2;clear C S T
      gi_wp2
      exact⟨(Da u).1,(Da u).2.1,(Da u).2.2⟩
   ·intro K f;go_simp;refine f.out _ _ (by assumption) (fun ag=>?_);clear f K
    (try simp only[pE])
    refine Bh (rs:=[7]) (by kernel_rfl) (by simp) ?_;refine(AN (i:=7) rfl ?_ A8)
    ·intro K f;go_simp;go_at_call 213;refine(Da H7 _ (Da m)).mono ?_;clear m;rintro e V ⟨rfl,ab,Y,m⟩;go_wp2_with fail;refine f.out _ _ ab (fun ar=>?_);clear f K
     (try simp only[pE])
     refine Bh (rs:=[8]) (by kernel_rfl) (by simp) ?_;refine(AN (i:=8) rfl ?_ A8)
     ·intro K f;go_simp;go_at_call 272;refine(Da H8 _ (Da m)).mono ?_;clear m;rintro e V8 ⟨rfl,U,Y,m⟩;go_wp2_with fail;refine f.out _ _ U (fun af=>?_);clear f K
      (try simp only[pE])
      refine rk 10 (fun K f=>?_);go_simp;go_at_call 214;refine(Da ac _ (Da m)).mono ?_;clear m;rintro e ae ⟨a',l',c',rfl,C,E,ah,ai,aj,u⟩;go_wp2_with fail;refine f.out _ _ C (fun S=>?_);clear f K
      (try simp only[pE])
      refine rk 11 (fun K f=>?_);go_simp;refine f.out _ _ E (fun T=>?_);clear f K
      (try simp only[pE])
      refine AW (by kernel_rfl) ?_ _;have cT:=E.2.2.2;clear C S T
      gi_wp2
      exact⟨(Da u).1,(Da u).2.1,(Da u).2.2⟩
  ·intro K f;go_simp;refine f.out _ _ (by assumption) (fun ag=>?_);clear f K
   (try simp only[pE])
   refine Bh (rs:=[4]) (by kernel_rfl) (by simp) ?_;refine(AN (i:=4) rfl ?_ A8)
   ·intro K f;go_simp;go_at_call 244;refine(Da H4 _).mono ?_;rintro e w' ⟨rfl,hw⟩;rw[hw];clear hw;go_wp2_with fail;refine f.out _ _ (by assumption) (fun aM=>?_);clear f K
    (try simp only[pE])
    refine Bh (rs:=[7]) (by kernel_rfl) (by simp) ?_;refine(AN (i:=7) rfl ?_ A8)
    ·intro K f;go_simp;go_at_call 213;refine(Da H7 _ (Da m)).mono ?_;clear m;rintro e V ⟨rfl,ab,Y,m⟩;go_wp2_with fail;refine f.out _ _ ab (fun ar=>?_);clear f K
     (try simp only[pE])
     refine Bh (rs:=[8]) (by kernel_rfl) (by simp) ?_;refine(AN (i:=8) rfl ?_ A8)
     ·intro K f;go_simp;go_at_call 272;refine(Da H8 _ (Da m)).mono ?_;clear m;rintro e V8 ⟨rfl,U,Y,m⟩;go_wp2_with fail;refine f.out _ _ U (fun af=>?_);clear f K
      (try simp only[pE])
      refine rk 10 (fun K f=>?_);go_simp;go_at_call 214;refine(Da ac _ (Da m)).mono ?_;clear m;rintro e ae ⟨a',l',c',rfl,C,E,ah,ai,aj,u⟩;go_wp2_with fail;refine f.out _ _ C (fun S=>?_);clear f K
      (try simp only[pE])
      refine rk 11 (fun K f=>?_);go_simp;refine f.out _ _ E (fun T=>?_);clear f K
      (try simp only[pE])
      refine AW (by kernel_rfl) ?_ _;have cT:=E.2.2.2;clear C S T
      gi_wp2
      exact⟨(Da u).1,(Da u).2.1,(Da u).2.2⟩
 case done=>
  rintro D ys X hD rfl ⟨v,O,t⟩ f;have aS:=t.b10.cell;obtain⟨ra,rl,rc,rfl⟩:=t.rs.1.shape;have HR:=Db t;clear t I;show K0 _ _;refine aG _ _ ?_
  gi_wp2
  have t:=Da HR;have I:=Da al;refine⟨by simp,.inl ⟨_,_,rfl,Cb f,?_⟩⟩;have hg:X.grownBy (X.putObj D (.deferred none)) (some D):=⟨rfl,rfl,rfl,by simp[World.putObj],fun k _ hk=>by
   simp only[World.putObj];rw[Bd,if_neg (fun e=>hk (by rw[e]))]⟩
  have aa:=t.own L (Da ad) hg (fun r e=>by cases e;exact⟨by omega,_,f,rfl⟩);exact⟨_,EF rfl _ _ _,ra,rl,rc,O,rfl,aa.rs,aa.st,aa.hO,aa.dis,aa.fr⟩
 case stop=>
  rintro D c q X _ _ h _;exact h.elim
end
section
open Go.RowKit Go.Shelf
attribute [local go_sem] Oper.semAt_some
theorem XO:(Tryz.prog.info? 245).map (fun i=>(i.zero,i.size))=some (some (.agg (List.replicate 60 (.bool false)).toArray),60):=by kernel_rfl
theorem YZ:∀w,(zeroValue 245).run Tryz.prog w = .ok (.agg (List.replicate 60 (.bool false)).toArray) w:=(EX XO).1
theorem Yv(n:Nat)(a:OA)(w:World):
  CallsIn Fence.wide n Tryz.prog 115 #[.pointer a] w fun e w'=>e = .returned (.func (.func 169) #[] #[.pointer (some ⟨w.heap.size,0,none⟩)])/\w'=w.alloc (.cells #[.pointer a] 37):=by
 refine Bj.2 ?_;go_enter Tryz.func115,Tryz.ntmps115;go_wp2;go_ret;exact⟨rfl,rfl⟩
end
section
open Go.RowKit Go.Shelf
attribute [local go_sem] Oper.semAt_some
def OC:By:=⟨#[0]⟩
def DG:By:=Dw 3 OC 63 0
theorem Sl.cellsKept{W b:World}{e:TypeId}{c:Nat}{v:Value}{n:Nat}{xs:F6}(h:Sl W e c v n xs)(l:∀(j:Nat) (cs:Array Value) (t:TypeId),W.heap[j]?=some (Obj.cells cs t (0,0))->b.heap[j]?=some (Obj.cells cs t (0,0))):Sl b e c v n xs:=by
 rcases h.2 with⟨a,i⟩|⟨g,f,d,a,k,q⟩
 ·exact⟨h.1,.inl ⟨a,i⟩⟩
 ·exact⟨h.1,.inr ⟨g,f,d,a,l _ _ _ k,q⟩⟩
theorem Sl.isCells{W:World}{e:TypeId}{d:Nat}{v:Value}{n:Nat}{xs:F6}(h:Sl W e d v n xs){k:Nat}(a:F2 v k):∃cs t,W.heap[k]?=some (Obj.cells cs t (0,0)):=by
 rcases h.2 with⟨b,h0⟩|⟨g',c',L',b,c,q⟩
 ·rw[b]at a;simp[F2,Value.ownBlock]at a
 ·rw[b]at a;simp[F2,Value.ownBlock]at a;subst a;exact⟨_,_,c⟩
theorem Gb.cellsKept{w w':World}{pb b e so:Nat}{d:Nat->Int}{cl:Bool}{c:Nat}{i:Value}{es:LI}{f g:Int}{k:Value}{ps:LB}(h:Gb w pb b e so d cl c i es f g k ps)(a:∀(j:Nat) (cs:Array Value) (t:TypeId),w.heap[j]?=some (Obj.cells cs t (0,0))->w'.heap[j]?=some (Obj.cells cs t (0,0))):Gb w' pb b e so d cl c i es f g k ps:=
 ⟨a _ _ _ h.row,h.sa.cellsKept a,Sl.cellsKept h.sp a,h.oa,h.op,h.ap⟩
theorem Gb.fr{w w':World}{pb f j so:Nat}{i:Nat->Int}{cl:Bool}{g:Nat}{d:Value}{es:LI}{l m:Int}{e:Value}{ps:LB}(h:Gb w pb f j so i cl g d es l m e ps){Z:Nat->Prop}(b:Fr Z w w')(a:∀k,(k=pb\/F2 d k\/F2 e k)->¬Z k):Gb w' pb f j so i cl g d es l m e ps:=
 ⟨h.row.fr b (a _ (.inl rfl)),h.sa.fr b (fun _g c=>a _ (.inr (.inl c))),Sl.fr h.sp b (fun _g c=>a _ (.inr (.inr c))),h.oa,h.op,h.ap⟩
theorem Gb.isCells{w:World}{pb d g so:Nat}{f:Nat->Int}{cl:Bool}{e:Nat}{b:Value}{es:LI}{i j:Int}{c:Value}{ps:LB}(h:Gb w pb d g so f cl e b es i j c ps)(k:Nat)(a:k=pb\/F2 b k\/F2 c k):∃cs t,w.heap[k]?=some (Obj.cells cs t (0,0)):=by
 rcases a with rfl|a|a
 ·exact⟨_,_,h.row⟩
 ·exact h.sa.isCells a
 ·exact Sl.isCells h.sp a
theorem Wp{W:World}{a:Addr}{v:Value}(h:W.cell? a=some v):∃cs t z,W.heap[a.block]?=some (Obj.cells cs t z):=by
 unfold World.cell? at h
 cases hb:W.heap[a.block]? with
 | none=>rw[hb]at h;cases h
 | some o=>cases o with
  | cells cs t z=>exact⟨cs,t,z,rfl⟩
  | _=>rw[hb]at h;cases h
end
section
open Go.RowKit Go.Shelf
attribute [local go_sem] Oper.semAt_some
def Ny(Q:Exit->Act->World->Prop):Exit->Act->World->Prop
 | .normal,a,w=>Q .normal a w
 | _,_,_=>False
theorem Qf{Q:Exit->Act->World->Prop}:∀e a w,Ny Q e a w->Q e a w:=fun e a w h=>by cases e<;>first|exact h|exact h.elim
theorem KY{Q:Exit->Act->World->Prop}{a:Act}{w:World}(h:Q .normal a w):Ny Q .normal a w:=h
theorem Gb.top{w:World}{pb a d so:Nat}{c:Nat->Int}{cl:Bool}{b:Nat}{e:Value}{es:LI}{l k:Int}{f:Value}{ps:LB}(h:Gb w pb a d so c cl b e es l k f ps)(tp' tx':Int):Gb ((w.setCell ⟨pb,101,none⟩ (.int .i64 tp')).setCell ⟨pb,102,none⟩ (.int .u64 tx')) pb a d so c cl b e es tp' tx' f ps:=by
 refine⟨?_,(h.sa.setCell ⟨pb,101,none⟩ _ h.oa).setCell ⟨pb,102,none⟩ _ h.oa,Sl.setCell (Sl.setCell h.sp ⟨pb,101,none⟩ _ h.op) ⟨pb,102,none⟩ _ h.op,h.oa,h.op,h.ap⟩;have g:=h.row.set 101 (.int .i64 tp');rw[UA (j:=3)]at g;have i:=F0.set (show F0 _ pb 184 (Kd a d so c cl b e tp' k f) from g) 102 (.int .u64 tx');rw[UA (j:=4)]at i;exact i
theorem Uc(p x:Nat)(a:p<65536):Gu (DI p x)=p:=by
 have:(Dg (DI p x) 2).data.toList=DC p 2:=by
  unfold Dg;rw[if_pos (by rw[K5];omega),Cc];simp only[DI];simp[D4]
 unfold Gu;rw[this,Kr 2 p a]
theorem Vb(p x:Nat)(b:x<18446744073709551616):GD (DI p x)=x:=by
 have:(Dg ((DI p x).extract 2 (DI p x).size) 8).data.toList=DC x 8:=by
  unfold Dg;rw[if_pos (by rw[Af,K5];omega),Cc,Cc,K5];simp only[DI];have a:(DC p 2++DC x 8).drop 2=DC x 8:=CQ (D4 2 p);simp[a];rw[Ah (by rw[Am,D4];omega),Ah (by rw[D4];omega)]
 unfold GD;rw[this,Kr 8 x (by exact b)]
end
open Go.RowKit
theorem UE{b:Nat->Option (Nat×Nat)}{a:F6}{i off size:Nat}{v:Value}{d:List (Nat×Value)}(f:b i=some (off,size))(c:v.cells.size=size)(e:off+size<=a.length):
  Instr.fill b a.toArray ((i,v)::d)=Instr.fill b (F8 a off v.cells.toList).toArray d:=by
 rw[Instr.fill,f];simp only;rw[if_neg (by simp only[c,AR,ne_eq,not_true_eq_false,decide_false,Bool.false_or,AJ];omega),U7 off v.cells a.toArray (by rw[c];simpa using e)]
def JJ(a b:Value)(m t:F6):F6:=[a,b]++m++t
theorem Uz(a b:Value)(m t:F6)(c:m.length=96)(d:t.length=6):(JJ a b m t).length=104:=by simp[JJ,c,d]
theorem Ye(a b x:Value)(m t:F6):F8 (JJ a b m t) 0 [x]=JJ x b m t:=by simp[F8,JJ]
theorem Yf(a b x:Value)(m t:F6):F8 (JJ a b m t) 1 [x]=JJ a x m t:=by simp[F8,JJ]
theorem Yg(a b:Value)(m c t:F6)(h:c.length=m.length):F8 (JJ a b m t) 2 c=JJ a b c t:=by
 have d:(JJ a b m t).take 2=[a,b]:=by simp[JJ]
 have e:(JJ a b m t).drop (2+c.length)=t:=by rw[h];unfold JJ;exact CQ (by simp;omega)
 unfold F8;rw[d,e];rfl
theorem SX(a b x:Value)(m t:F6)(d:m.length=96)(j:Nat):F8 (JJ a b m t) (98+j) [x]=JJ a b m (F8 t j [x]):=by
 unfold F8 JJ;have c:([a,b]++m).length=98:=by simp[d]
 rw[show 98+j=([a,b]++m).length+j by rw[c],CE,EM,CF];simp[List.append_assoc]
def MT:F6:=[.bool false,.int .i64 0,.slice none 0 0,.int .i64 0,.int .u64 0,.slice none 0 0]
theorem ZhB(a:List (Nat×Value)):Tryz.prog.built 184 a=Instr.fill (#[(0,1),(1,1),(2,96),(98,1),(99,1),(100,3),(103,1)][·]?) (JJ (.pointer none) (.pointer none) (List.replicate 96 (.int .i64 0)) MT).toArray a:=by kernel_rfl
theorem Z8(b e so:Nat)(a:Nat->Int)(cl:Bool)(c:Nat):Tryz.prog.built 184 [(0,.pointer (some ⟨b,0,none⟩)),(1,.pointer (some ⟨e,so,none⟩)),(2,.agg (GS a).toArray),(3,.bool cl),(4,.int .i64 (c:Nat))]=some (Kd b e so a cl c (.slice none 0 0) 0 0 (.slice none 0 0)).toArray:=by
 have d:(List.replicate 96 (Value.int .i64 0)).length=96:=Bk;rw[ZhB,UE (off:=0) (size:=1) rfl rfl (by rw[Uz _ _ _ _ d rfl];decide)];rw[show(Value.pointer (some ⟨b,0,none⟩)).cells.toList=[.pointer (some ⟨b,0,none⟩)] from rfl,Ye];rw[UE (off:=1) (size:=1) rfl rfl (by rw[Uz _ _ _ _ d rfl];decide)];rw[show(Value.pointer (some ⟨e,so,none⟩)).cells.toList=[.pointer (some ⟨e,so,none⟩)] from rfl,Yf];rw[UE (off:=2) (size:=96) rfl (by show(GS a).toArray.size=96;simp[Jv]) (by rw[Uz _ _ _ _ d rfl];decide)];rw[show(Value.agg (GS a).toArray).cells.toList=GS a from rfl,Yg _ _ _ _ _ (by rw[Jv,d])];rw[UE (off:=98) (size:=1) rfl rfl (by rw[Uz _ _ _ _ (Jv a) rfl];decide)];rw[show(Value.bool cl).cells.toList=[.bool cl] from rfl,SX _ _ _ _ _ (Jv a) 0];rw[UE (off:=99) (size:=1) rfl rfl (by rw[Uz _ _ _ _ (Jv a) rfl];decide)];rw[show(Value.int .i64 (c:Nat)).cells.toList=[.int .i64 (c:Nat)] from rfl,SX _ _ _ _ _ (Jv a) 1]
 rfl
theorem RE{P:Program}{o:Oper}{a:Act}(X:World)(t:TypeId)(c:Array (Nat×Operand))(ho:o.op = .build t c){vs:Array (Nat×Value)}(e:(c.map fun (i,x)=>(i,a.eval x))=vs){b:Array Value}(d:P.built t vs.toList=some b):(execOp a.eval o).run P X = .ok (.value (.agg b)) X:=by
 unfold execOp;simp only[ho,Cj,e];rw[run_build X t vs b d]
 rfl
theorem ZC{P:Program}{c:Array Oper}{o:Oper}{a:Act}{w:World}{K:Act->World->Prop}{Q:Exit->Act->World->Prop}{E:Prop}(d:o.guard=none)(t:TypeId)(x:Operand)(ho:o.op = .box t x)(b:F6)(f:a.eval x = .agg b.toArray)
  (h:K (a.put o.dst (.pointer (some ⟨w.heap.size,0,none⟩))) (w.alloc (.cells b.toArray t))):if Region.wanted o (yielded c a.tmps)=true then Oper.wp P o a w K Q else E:=by
 have e:Region.wanted o (yielded c a.tmps)=true:=by simp[Region.wanted,d]
 rw[if_pos e];unfold Oper.wp execOp;simp only[ho,Instr.box,Cj,f];simp[newVar,newRow,go_sem,Value.cells];exact h
theorem Mb:DH (Dj []) 96 16%1536=16:=by
 have h:¬(16%16=0/\0<Dj [] (16/16%96)):=by rw[PX];decide
 rw[Uy h]
theorem LQ:DS (Dj [(((Dd 3 0 0:Nat):Int),((16:Nat):Int))]) 96=1504:=by
 have e:∀k,DS (Dj [(((Dd 3 0 0:Nat):Int),((16:Nat):Int))]) k=DS (fun j=>if j=0 then 2 else if j=1 then 1 else 0) k:=fun k=>by
  induction k with
  | zero=>rfl
  | succ k ih=>
   unfold DS;rw[ih]
   congr 1
   have c:Dj [(((Dd 3 0 0:Nat):Int),((16:Nat):Int))] k=if k=0 then 2 else if k=1 then 1 else 0:=by
    have:=Rh [] (((Dd 3 0 0:Nat):Int),((16:Nat):Int)) k;rw[AA,PX]at this;rw[this];by_cases a:k=0
    ·subst a;decide
    ·by_cases b:k=1
     ·subst b;decide
     ·have d:¬((16:Nat):Int).toNat/16=k:=by rw[Bz];omega
      rw[if_neg a,if_neg d,if_neg a,if_neg b];rfl
   rw[c]
 rw[e 96]
 decide
structure Ho(w:World)(stb db:Nat)(vk:Value)(tp tx tn:Int)(vf vn vw ve:Value)(D:LY)(ps:LB)(es:List Int):Prop where
 row:F0 w stb 179 [.pointer (some ⟨db,0,none⟩),vk,.int .i64 tp,.int .u64 tx,.int .u64 tn]
 disk:DV w db vf vn vw ve D
 sw:Ih w vw ps
 se:Sl w 3 1 ve es.length (es.map (.int .i64))
 ne:stb≠db
 ns:¬F2 vn stb/\¬F2 vw stb/\¬F2 ve stb
 nd:¬F2 vn db/\¬F2 vw db/\¬F2 ve db
 d1:∀k,F2 vn k->¬F2 vw k
 d2:∀k,F2 vn k->¬F2 ve k
 d3:∀k,F2 vw k->¬F2 ve k
theorem Ho.below{w w':World}{d c:Nat}{l:Value}{f g e:Int}{j m vw i:Value}{D:LY}{ps:LB}{es:List Int}(h:Ho w d c l f g e j m vw i D ps es)(a:Bw w w'):Ho w' d c l f g e j m vw i D ps es:=
 ⟨(a.block _ h.row.lt).trans h.row,⟨(a.block _ h.disk.1.lt).trans h.disk.1,⟨h.disk.2.1.1.kept (fun k b _=>a.block k b),h.disk.2.1.2⟩,h.disk.2.2⟩,Sl.kept h.sw (fun k b _=>a.block k b),h.se.kept (fun k b _=>a.block k b),h.ne,h.ns,h.nd,h.d1,h.d2,h.d3⟩
theorem Ho.write{w w':World}{o c:Nat}{u:Value}{r t q:Int}{m f vw l:Value}{D:LY}{ps:LB}{es:List Int}(h:Ho w o c u r t q m f vw l D ps es){p:Nat}{s:By}{e:Ending}(A:NN w c m f vw l D ps p s e w'):
  ∃b,Ho w' o c u r t q m f b l (D.set p s) (ps++[(p,s)]) es/\Dm w vw b/\Fr (fun k=>k=c\/F2 f k\/F2 vw k) w w':=by
 obtain⟨_,b,v,x,i,n⟩:=A;have d:∀k,k<w.heap.size->F2 b k->F2 vw k:=fun k a e=>(n k e).elim id (fun h'=>by omega)
 have z:=h.row.lt;have y:=h.disk.1.lt;refine⟨b,⟨h.row.fr i (fun e=>?_),v,x,h.se.fr i (fun g j e=>?_),h.ne,⟨h.ns.1,fun e=>h.ns.2.1 (d _ z e),h.ns.2.2⟩,⟨h.nd.1,fun e=>h.nd.2.1 (d _ y e),h.nd.2.2⟩,fun k a e=>h.d1 k a (d k (h.disk.2.1.1.lt a) e),h.d2,fun k a e=>h.d3 k (d k (h.se.lt e) a) e⟩,n,i⟩
 ·rcases e with e|e|e
  ·exact h.ne e
  ·exact h.ns.1 e
  ·exact h.ns.2.1 e
 ·rcases e with e|e|e
  ·subst e;exact h.nd.2.2 j
  ·exact h.d2 _ e j
  ·exact h.d3 _ e j
theorem Ho.flush{w w':World}{p f:Nat}{t:Value}{r s q:Int}{l n vw c:Value}{D:LY}{ps:LB}{es:List Int}(h:Ho w p f t r s q l n vw c D ps es){m:Int}{e:Ending}(z:Rk w f l n vw c es m e w'):
  ∃d,Ho w' p f t r s q l n vw d D ps (es++[m])/\Dm w c d/\Fr (fun k=>k=f\/F2 c k) w w':=by
 obtain⟨_,d,u,v,i,o⟩:=z;have j:∀k,k<w.heap.size->F2 d k->F2 c k:=fun k a e=>(o k e).elim id (fun h'=>by omega)
 have y:=h.row.lt;have x:=h.disk.1.lt;refine⟨d,⟨h.row.fr i (fun e=>?_),⟨u,⟨h.disk.2.1.1.fr i (fun g b e=>?_),h.disk.2.1.2⟩,h.disk.2.2⟩,Sl.fr h.sw i (fun g b e=>?_),by rw[Ad];exact v,h.ne,⟨h.ns.1,h.ns.2.1,fun e=>h.ns.2.2 (j _ y e)⟩,⟨h.nd.1,h.nd.2.1,fun e=>h.nd.2.2 (j _ x e)⟩,h.d1,fun k a e=>h.d2 k a (j k (h.disk.2.1.1.lt a) e),fun k a e=>h.d3 k a (j k (Sl.lt h.sw a) e)⟩,o,i⟩
 ·rcases e with e|e
  ·exact h.ne e
  ·exact h.ns.2.2 e
 ·rcases e with e|e
  ·subst e;exact h.nd.1 b
  ·exact h.d2 _ b e
 ·rcases e with e|e
  ·subst e;exact h.nd.2.1 b
  ·exact h.d3 _ b e
end Go.Proofs.YtaieidcohdhgpaaGreatDoor
