/- Dumps. -/
import Derived.Test.YtaieidcohdhgpaaGreatDoorZAO
namespace Go.Proofs.YtaieidcohdhgpaaGreatDoor
set_option maxHeartbeats 40000000
set_option maxRecDepth 100000
section
open Go.RowKit Go.Shelf
attribute [local go_sem] Oper.semAt_some
def Q6(n1 B10 B11:Nat)(Yo:Nat->Prop)(A B:World):Prop:=A.heap.size<=B.heap.size/\∀k,k<n1->¬Yo k->k≠B10->k≠B11->B.heap[k]?=A.heap[k]?
def Jt(B4 B5 B6 B11 pb:Nat)(kk:UInt8)(below t:Nat)(V:World):Prop:=V.cell? ⟨B4,0,none⟩=some (.pointer (some ⟨pb,0,none⟩))/\V.cell? ⟨B5,0,none⟩=some (.int .u8 (kk.toNat:Int))/\V.cell? ⟨B6,0,none⟩=some (.int .i64 (below:Nat))/\V.cell? ⟨B11,0,none⟩=some (.int .i64 (t:Nat))
def Qo(w:World)(n1 B4 B5 B6 B10 B11 pb:Nat)(kk:UInt8)(below:Nat)(g off len cap:Nat)(s:By)(St:List Nat->(Nat->Prop)->World->Prop)(Yo:Nat->Prop)(RB:List Nat->By)(pre pre':List Nat)(v:Value)(O0 O:Nat->Prop)(W V:World):Prop:=
 GE w n1 B4 B5 B6 B10 B11 pb kk below g off len cap s St Yo RB pre pre' v O V/\Fr (fun j=>O0 j\/Own v j\/j=B10\/j=B11) W V
theorem Tv(w:World)(M:Nat)(hM:M<=1000)(n0 n1 m n p c f pb:Nat)(d:UInt8)(l:Nat)(ah:l<65536)(g off G J:Nat)(s:By)(K:Nat)(al:K<=63)(P X:List Nat->Nat->Nat)(H:List Nat->(Nat->Prop)->World->Prop)(A:Nat->Prop)(y:List Nat->By)
  (E:Hz w n1 m n p c f g G A) (aj:n0<=w.heap.size) (L:Lo M n0 pb d l s K P X H) (af:∀a x,y (a++[x])=y a++D3 (P a x) (X a x)) (ag:∀a,(y a).size=10*a.length)
  (a:List Nat) (x:Nat) (ak:a.length<M) (W:World) (r:OA) (v u:Nat) (O:Nat->Prop) (h:GE w n1 m n p c f pb d l g off G J s H A y a a (.slice r v u) O W):
  (∀V,Cl 244 #[.int .u8 (d.toNat:Int),.int .i64 (l:Nat),.int .i64 (a.length:Nat)] V fun e w'=>e = .returned (.int .u64 (Dp d.toNat l a.length:Nat))/\w'=V)/\
  (∀V,Qo w n1 m n p c f pb d l g off G J s H A y a a (.slice r v u) O O W V->Cl 213 #[.int .u8 (d.toNat:Int),Hj g off K G x] V fun e b=>e = .returned (DG (D9 d s K x))/\Jt m n p f pb d l a.length b/\b.cell? ⟨c,0,none⟩=some (.slice r v u)/\Hid (Qo w n1 m n p c f pb d l g off G J s H A y a a (.slice r v u) O O W b))/\
  (∀V,Qo w n1 m n p c f pb d l g off G J s H A y a a (.slice r v u) O O W V->Cl 272 #[.pointer (some ⟨pb,0,none⟩),.int .u64 (Dp d.toNat l a.length:Nat),DG (D9 d s K x)] V fun e b=>e = .returned (.agg #[.int .i64 (P a x:Nat),.int .u64 (X a x:Nat)])/\Jt m n p f pb d l a.length b/\b.cell? ⟨c,0,none⟩=some (.slice r v u)/\Hid (∃O',Qo w n1 m n p c f pb d l g off G J s H A y a (a++[x]) (.slice r v u) O O' W b))/\
  (∀V,(∃O',Qo w n1 m n p c f pb d l g off G J s H A y a (a++[x]) (.slice r v u) O O' W V)->Cl 214 #[.agg #[.int .i64 (P a x:Nat),.int .u64 (X a x:Nat)],.slice r v u] V fun e b=>∃C F D,e = .returned (.slice C F D)/\Jt m n p f pb d l a.length b/\Jt m n p f pb d l a.length (b.setCell ⟨c,0,none⟩ (.slice C F D))/\b.cell? ⟨c,0,none⟩=some (.slice r v u)/\b.frozen? ⟨c,0,none⟩=false/\(b.setCell ⟨c,0,none⟩ (.slice C F D)).frozen? ⟨f,0,none⟩=false/\
   Hid (KeepsOthers W ((b.setCell ⟨c,0,none⟩ (.slice C F D)).setCell ⟨f,0,none⟩ (.int .i64 ((a.length:Int)+1)))/\Q6 n1 c f A W ((b.setCell ⟨c,0,none⟩ (.slice C F D)).setCell ⟨f,0,none⟩ (.int .i64 ((a.length:Int)+1)))/\IE w n1 m n p c f pb d l g off G J s H A y (a++[x]) ((b.setCell ⟨c,0,none⟩ (.slice C F D)).setCell ⟨f,0,none⟩ (.int .i64 ((a.length:Int)+1))))):=by
 have e4:=E.e4;have e5:=E.e5;have e6:=E.e6;have am:=E.e10;have an:=E.e11;have en:=E.en;have ai:d.toNat<256:=d.toNat_lt;refine⟨fun V=>Vx V d.toNat l a.length ai ah (by omega),fun V Q=>?_,fun V Q=>?_,fun V Q=>?_⟩
 ·obtain⟨i,N⟩:=Q;refine(VX V _ _ _ _ (i.rd.chunk K x) (by rw[Qf];omega) d).mono ?_;rintro e b ⟨rfl,hb⟩;have q:=i.below L hb;exact⟨rfl,⟨q.b4.cell,q.b5.cell,q.b6.cell,q.b11.cell⟩,q.b10.cell,q,N.then (Fr.of_below hb (X:=fun _=>False)) (fun _ _ e=>e.elim)⟩
 ·obtain⟨i,N⟩:=Q;refine(L.put a x O V ak i.st).mono ?_;rintro e b ⟨rfl,O',Y,z,q3⟩;have q:=i.put E L Y z q3;exact⟨rfl,⟨q.b4.cell,q.b5.cell,q.b6.cell,q.b11.cell⟩,q.b10.cell,O',q,N.then z (fun _ _ e => .inl e)⟩
 ·obtain⟨O',i,N⟩:=Q;have al:=i.sz;refine(PP V n1 i.sz r v u _ i.rs _ _ (L.plt a x) (L.xlt a x) (by rw[ag];omega)).mono ?_;rintro e b ⟨C,F,D,rfl,Y,z,q3⟩;rw[<-af]at Y;have hD:=i.done E aj L (by simp) Y z q3;have R:∀B,B<n1->¬Own (.slice r v u) B:=fun B E e=>by have:=i.rs.2 B e;omega
  have k4:Boxed b m 168 _:=(z.block _ i.b4.lt (R _ (by omega))).trans i.b4;have k5:Boxed b n 300 _:=(z.block _ i.b5.lt (R _ (by omega))).trans i.b5;have k6:Boxed b p 3 _:=(z.block _ i.b6.lt (R _ (by omega))).trans i.b6;have ab:Boxed b c 59 _:=(z.block _ i.b10.lt (R _ (by omega))).trans i.b10;have aa:Boxed b f 3 _:=(z.block _ i.b11.lt (R _ (by omega))).trans i.b11;have S:Fr (fun j=>O j\/Own (.slice r v u) j\/j=c\/j=f) W ((b.setCell ⟨c,0,none⟩ (.slice C F D)).setCell ⟨f,0,none⟩ (.int .i64 ((a.length:Int)+1))):=
   (Fr.set (N.then z (fun _ _ e => .inr (.inl e))) ⟨c,0,none⟩ _ (.inr (.inr (.inl rfl)))).set ⟨f,0,none⟩ _ (.inr (.inr (.inr rfl)))
  refine⟨C,F,D,rfl,⟨k4.cell,k5.cell,k6.cell,aa.cell⟩,⟨(k4.other (by omega) _).cell,(k5.other (by omega) _).cell,(k6.other (by omega) _).cell,(aa.other (by omega) _).cell⟩,ab.cell,ab.frozen,(aa.other (by omega) _).frozen,⟨S.size,fun k o U ho=>?_⟩,⟨S.size,fun k U hY ac ad=>?_⟩,_,O',hD⟩
  ·refine(S.block k (Ah.1 U).1 (fun e=>?_)).trans U;have T:∀Z t,W.heap[k]? ≠ some (Obj.cells Z t (0,0)):=fun Z t I=>by rw[U]at I;cases I;cases ho
   rcases e with e|e|e|e
   ·obtain⟨Z,t,I⟩:=L.cells _ _ _ h.st k e;exact T _ _ I
   ·rcases h.rs.1.2 with⟨I,_⟩|⟨g',c2,L2,I,ae,_⟩
    ·rw[I]at e;simp[Own,Value.ownBlock]at e
    ·rw[I]at e;simp[Own,Value.ownBlock]at e;subst e;exact T _ _ ae
   ·subst e;exact T _ _ h.b10
   ·subst e;exact T _ _ h.b11
  ·refine S.block k (by have:=h.sz;omega) (fun e=>?_);rcases e with e|e|e|e
   ·rcases h.hO k e with h1|h1
    ·exact hY h1
    ·omega
   ·have:=h.rs.2 k e;omega
   ·exact ac e
   ·exact ad e
end
section
open Go.RowKit Go.Shelf
attribute [local go_sem] Oper.semAt_some
theorem ZI(w:World)(M:Nat)(hM:M<=1000)(n0 pb:Nat)(z:Nat)(aN:z<65536)(g off p y:Nat)(s:By)(au:Ge w (some ⟨g,off,none⟩) p y s)(aQ:p<=y)(hl:p<60000)(P X:List Nat->Nat->Nat)(Q:List Nat->(Nat->Prop)->World->Prop)(G O0:Nat->Prop)(H:List Nat->By)
  (aR:n0<=w.heap.size) (L:Lo M n0 pb 3 z s 63 P X Q) (aJ:H []=⟨#[]⟩) (aI:∀q x,H (q++[x])=H q++D3 (P q x) (X q x)) (aK:∀q,(H q).size=10*q.length)
  (av:Q [] O0 w) (aH:∀j,O0 j->G j) (ak:∀j,G j->j<w.heap.size) (aP:¬G g) (aO:g<w.heap.size) (N:Nat) (hN:N=(p+63-1)/63) (aU:N<=M):
  Cl 237 #[.pointer (some ⟨pb,0,none⟩),.int .u8 3,.int .i64 (z:Nat),.slice (some ⟨g,off,none⟩) p y] w (Rt w (w.heap.size+7) Q G H N):=by
 obtain⟨W1,e1,x1,k1,s1,b1⟩:=De w [.pointer (some ⟨pb,0,none⟩)] 168;obtain⟨W2,e2,x2,k2,s2,b2⟩:=De W1 [.int .u8 3] 300;obtain⟨W3,e3,x3,k3,s3,b3⟩:=De W2 [.int .i64 (z:Nat)] 3;obtain⟨W4,e4,x4,k4,s4,b4⟩:=De W3 [.slice none 0 0] 59;obtain⟨W5,e5,x5,k5,s5,b5⟩:=De W4 [.int .i64 0] 3;obtain⟨W6,e6,x6,k6,s6,b6⟩:=De W5 [.slice (some ⟨g,off,none⟩) p y] 59;obtain⟨R,e7,x7,Z,s7,b7⟩:=De W6 [.int .i64 63] 3;have J:Bw w R:=b1.trans ((b2.mono (by omega)).trans ((b3.mono (by omega)).trans ((b4.mono (by omega)).trans ((b5.mono (by omega)).trans ((b6.mono (by omega)).trans (b7.mono (by omega)))))));have y1:=Z _ _ _ (k6 _ _ _ (k5 _ _ _ (k4 _ _ _ (k3 _ _ _ (k2 _ _ _ x1)))));have y2:=Z _ _ _ (k6 _ _ _ (k5 _ _ _ (k4 _ _ _ (k3 _ _ _ x2))));have y3:=Z _ _ _ (k6 _ _ _ (k5 _ _ _ (k4 _ _ _ x3)));have y4:=Z _ _ _ (k6 _ _ _ (k5 _ _ _ x4));have y5:=Z _ _ _ (k6 _ _ _ x5);have y6:=Z _ _ _ x6;have t2:W2.heap.size=w.heap.size+1+1:=by omega
 have t3:W3.heap.size=w.heap.size+1+1+1:=by omega
 have t4:W4.heap.size=w.heap.size+1+1+1+1:=by omega
 have t5:W5.heap.size=w.heap.size+1+1+1+1+1:=by omega
 have t6:W6.heap.size=w.heap.size+1+1+1+1+1+1:=by omega
 have I:R.heap.size=w.heap.size+7:=by omega
 rw[s1]at y2;rw[t2]at y3;rw[t3]at y4;rw[t4]at y5;rw[t5]at y6;rw[t6]at x7;have hB:Hz w (w.heap.size+7) w.heap.size (w.heap.size+1) (w.heap.size+1+1) (w.heap.size+1+1+1) (w.heap.size+1+1+1+1) g p G:=⟨rfl,rfl,rfl,rfl,rfl,by omega,ak,aP,aO⟩;have aq:IE w (w.heap.size+7) w.heap.size (w.heap.size+1) (w.heap.size+1+1) (w.heap.size+1+1+1) (w.heap.size+1+1+1+1) pb 3 z g off p y s Q G H [] R:=⟨.slice none 0 0,O0,L.abides _ _ _ _ none av ⟨J.os,J.tape,J.output,J.size,fun k hk _=>J.block k hk⟩ (fun r e=>by cases e),fun j hj => .inl (aH j hj),y1,y2,y3,y4,y5,by rw[aJ];exact cP.nil _ _,fun j _ e=>by simp[Own,Value.ownBlock]at e,au.below J,Fr.of_below J,by omega⟩;have aF:=Db aq;have al:=Db I;have ad:=Db hB;have ay:=Db e1;have az:=Db e2;have aA:=Db e3;have aB:=Db e4;have aC:=Db e5;have aD:=Db e6;have aE:=Db e7;have am:R.cell? ⟨(w.heap.size+1+1+1+1+1),0,none⟩=some (.slice (some ⟨g,off,none⟩) p y):=(y6.cell 0).trans rfl;have an:R.cell? ⟨(w.heap.size+1+1+1+1+1+1),0,none⟩=some (.int .i64 63):=(x7.cell 0).trans rfl;have aw:=Db am;have ax:=Db an;clear x1 x2 x3 x4 x5 x6 x7 k1 k2 k3 k4 k5 k6 Z s1 s2 s3 s4 s5 s6 s7 b1 b2 b3 b4 b5 b6 b7 y1 y2 y3 y4 y5 y6 t2 t3 t4 t5 t6 I e1 e2 e3 e4 e5 e6 e7 J aq am an av au hB;refine(A0 (n:=3)).1 ?_;refine Bq Tryz.func237 rfl trivial ?_ rfl;simp only[Tryz.ntmps237,AQ,Af,Ay,Nat.reduceAdd,Nat.reduceSub,AP,AO,AV,AR,AJ,AL]
 gi_wp2_with (refine⟨trivial,?_⟩;gi_at_call 172;refine(Uk _ 63 (by omega) (by omega) _ _ ⟨_,_,_,rfl⟩).mono ?_;rintro e w' ⟨rfl,rfl⟩)
 rw[show w.alloc (.cells #[.pointer (some ⟨pb,0,none⟩)] 168)=W1 from Da ay,show W1.alloc (.cells #[.int .u8 3] 300)=W2 from Da az,show W2.alloc (.cells #[.int .i64 (z:Nat)] 3)=W3 from Da aA,show W3.alloc (.cells #[.slice none 0 0] 59)=W4 from Da aB,show W4.alloc (.cells #[.int .i64 0] 3)=W5 from Da aC,show W5.alloc (.cells #[.slice (some ⟨g,off,none⟩) p y] 59)=W6 from Da aD,show W6.alloc (.cells #[.int .i64 63] 3)=R from Da aE];rename_i K0 aG;have I:=Da al;have aV:N<=1000:=by rw[hN];omega
 refine CS (α := Nat) rfl (by omega) (gf:=220) (lb := #[.pointer (some ⟨(w.heap.size+1+1+1+1+1),0,none⟩),.pointer (some ⟨(w.heap.size+1+1+1+1+1+1),0,none⟩)]) rfl trivial (Ez Tryz.func220 (by kernel_rfl) rfl)
  (Nj 2 (by omega) (w.heap.size+1+1+1+1+1) (w.heap.size+1+1+1+1+1+1) g off 63 p y (by omega) (by omega) aQ (by omega) N hN R (by omega) (by omega) (Da aw) (Da ax) (Q6 (w.heap.size+7) (w.heap.size+1+1+1) (w.heap.size+1+1+1+1) G)
   (fun A B ap h1 h2=>⟨(Ax (w:=A) (a:=⟨(w.heap.size+1+1+1+1+1),0,none⟩) (ap.2 (w.heap.size+1+1+1+1+1) (by omega) (fun e=>by have:=ak _ e;omega) (by omega) (by omega))).trans h1,(Ax (w:=A) (a:=⟨(w.heap.size+1+1+1+1+1+1),0,none⟩) (ap.2 (w.heap.size+1+1+1+1+1+1) (by omega) (fun e=>by have:=ak _ e;omega) (by omega) (by omega))).trans h2⟩))
  (fun h1 h2=>⟨Ae h1.1 h2.1,fun k a b c d=>(h2.2 k a b c d).trans (h1.2 k a b c d)⟩)
  (fun X l o o' hl ho _ _=>⟨by simp[World.putObj],fun k hk _ _ _=>by
   have:=I;simp only[World.putObj];rw[A5];rw[if_neg (by omega)]⟩)
  (Ag _ _) (fun _=>rfl)
  (fun q X=>IE w (w.heap.size+7) w.heap.size (w.heap.size+1) (w.heap.size+1+1) (w.heap.size+1+1+1) (w.heap.size+1+1+1+1) pb 3 z g off p y s Q G H q X)
  (fun _ _ _=>False)
  (fun q A B row hs hg hr=>by
   obtain⟨v,O,h⟩:=hs;exact⟨v,O,h.own L (Da ad) hg (fun r e=>by rw[<-I];exact hr r e)⟩)
  (fun _ _ _ _ _ hs _ _=>hs)
  (Da aF)
  (fun x=>{ tmps := #[.pointer (some ⟨pb,0,none⟩),.int .u8 3,.int .i64 (z:Nat),.slice (some ⟨g,off,none⟩) p y,.pointer (some ⟨w.heap.size,0,none⟩),.pointer (some ⟨(w.heap.size+1),0,none⟩),.pointer (some ⟨(w.heap.size+1+1),0,none⟩),undef,.slice none 0 0,.int .i64 63,.pointer (some ⟨(w.heap.size+1+1+1),0,none⟩),.pointer (some ⟨(w.heap.size+1+1+1+1),0,none⟩),Hj g off 63 p x,.int .u8 3,.bool false,undef,undef,.slice (some ⟨g,off,none⟩) p y,.int .i64 63,.func (.func 220) #[] #[.pointer (some ⟨(w.heap.size+1+1+1+1+1),0,none⟩),.pointer (some ⟨(w.heap.size+1+1+1+1+1+1),0,none⟩)],Hj g off 63 p x,undef,undef,undef,undef,undef,undef,undef,undef,undef,undef,undef,undef,undef,undef],defers:=[] })
  ?assign ?body ?done ?stop
 case assign=>
  intro l x X K f;clear I
  gi_wp2
  exact f
 case body=>
  rintro l q x W ⟨v,O,t⟩ aW;obtain⟨ra,rl,rc,rfl⟩:=t.rs.1.shape;obtain⟨h4,h7,h8,ao⟩:=Tv w M hM n0 (w.heap.size+7) w.heap.size (w.heap.size+1) (w.heap.size+1+1) (w.heap.size+1+1+1) (w.heap.size+1+1+1+1) pb 3 z aN g off p y s 63 (by omega) P X Q G H (Da ad) aR L aI aK q x (by omega) W ra rl rc O t;have H4:=Db h4;have H7:=Db h7;have H8:=Db h8;have ac:=Db ao;have m:Hid (Qo w (w.heap.size+7) w.heap.size (w.heap.size+1) (w.heap.size+1+1) (w.heap.size+1+1+1) (w.heap.size+1+1+1+1) pb 3 z g off p y s Q G H q q (.slice ra rl rc) O O W W.drew):=⟨t.below L (Ag _ _).drew,⟨rfl,rfl,rfl,Aa _,fun _ _ _=>rfl⟩⟩;have aL:Jt w.heap.size (w.heap.size+1) (w.heap.size+1+1) (w.heap.size+1+1+1+1) pb 3 z q.length W.drew:=⟨t.b4.cell,t.b5.cell,t.b6.cell,t.b11.cell⟩;have Y:W.drew.cell? ⟨(w.heap.size+1+1+1),0,none⟩=some (.slice ra rl rc):=t.b10.cell;clear h4 h7 h8 ao t I
  gi_step
  gi_step
  gi_step
  refine QC (Jt w.heap.size (w.heap.size+1) (w.heap.size+1+1) (w.heap.size+1+1+1+1) pb 3 z q.length) (by kernel_rfl) (fun hh=>by obtain⟨_,_,hh⟩:=hh;exact hh) (by kernel_rfl) aL (fun aT=>?_);refine tv 0 (?_) rfl (Or.inl ⟨by rfl,?_⟩) ?_
  rotate_left
  ·intro w F;(try unfold Jt at F);go_simp<;>with_reducible rfl
  (try simp only[pE])
  refine tv 1 (?_) rfl (Or.inl ⟨by rfl,?_⟩) ?_
  rotate_left
  ·intro w F;(try unfold Jt at F);go_simp<;>with_reducible rfl
  (try simp only[pE])
  refine tv 2 (?_) rfl (Or.inl ⟨by rfl,?_⟩) ?_
  rotate_left
  ·intro w F;(try unfold Jt at F);go_simp<;>with_reducible rfl
  (try simp only[pE])
  refine tv 3 (?_) rfl (Or.inl ⟨by rfl,?_⟩) ?_
  rotate_left
  ·intro w F;(try unfold Jt at F);go_simp<;>with_reducible rfl
  (try simp only[pE])
  refine tv 5 (?_) rfl (Or.inl ⟨by rfl,?_⟩) ?_
  rotate_left
  ·intro w F;(try unfold Jt at F);go_simp<;>with_reducible rfl
  (try simp only[pE])
  refine tv 6 (?_) rfl (Or.inl ⟨by rfl,?_⟩) ?_
  rotate_left
  ·intro w F;(try unfold Jt at F);go_simp<;>with_reducible rfl
  (try simp only[pE])
  refine A6 (rs:=[4,9]) (by kernel_rfl) (by simp) ?_;refine(AE (i:=4) rfl ?_ (AE (i:=9) rfl ?_ AX))
  ·intro K f;go_simp;go_at_call 244;refine(Da H4 _).mono ?_;rintro e w' ⟨rfl,hw⟩;rw[hw];clear hw;go_wp2_with fail;refine f.out _ _ (by assumption) (fun aM=>?_);clear f K
   (try simp only[pE])
   refine A6 (rs:=[7,9]) (by kernel_rfl) (by simp) ?_;refine(AE (i:=7) rfl ?_ (AE (i:=9) rfl ?_ AX))
   ·intro K f;go_simp;go_at_call 213;refine(Da H7 _ (Da m)).mono ?_;clear m;rintro e V ⟨rfl,ab,Y,m⟩;go_wp2_with fail;refine f.out _ _ ab (fun ar=>?_);clear f K
    (try simp only[pE])
    refine A6 (rs:=[8,9]) (by kernel_rfl) (by simp) ?_;refine(AE (i:=8) rfl ?_ (AE (i:=9) rfl ?_ AX))
    ·intro K f;go_simp;go_at_call 272;refine(Da H8 _ (Da m)).mono ?_;clear m;rintro e V8 ⟨rfl,U,Y,m⟩;go_wp2_with fail;refine f.out _ _ U (fun af=>?_);clear f K
     (try simp only[pE])
     refine A6 (rs:=[9]) (by kernel_rfl) (by simp) ?_;refine(AE (i:=9) rfl ?_ AX)
     ·intro K f;go_simp;refine f.out _ _ (by assumption) (fun ag=>?_);clear f K
      (try simp only[pE])
      refine rk 10 (fun K f=>?_);go_simp;go_at_call 214;refine(Da ac _ (Da m)).mono ?_;clear m;rintro e ae ⟨a',l',c',rfl,C,E,ah,ai,aj,u⟩;go_wp2_with fail;refine f.out _ _ C (fun S=>?_);clear f K
      (try simp only[pE])
      refine rk 11 (fun K f=>?_);go_simp;refine f.out _ _ E (fun T=>?_);clear f K
      (try simp only[pE])
      refine AS (by kernel_rfl) ?_ _;have cT:=E.2.2.2;clear C S T
      gi_wp2
      exact⟨(Da u).1,(Da u).2.1,(Da u).2.2⟩
    ·intro K f;go_simp;refine f.out _ _ (by assumption) (fun ag=>?_);clear f K
     (try simp only[pE])
     refine A6 (rs:=[8]) (by kernel_rfl) (by simp) ?_;refine(AE (i:=8) rfl ?_ AX)
     ·intro K f;go_simp;go_at_call 272;refine(Da H8 _ (Da m)).mono ?_;clear m;rintro e V8 ⟨rfl,U,Y,m⟩;go_wp2_with fail;refine f.out _ _ U (fun af=>?_);clear f K
      (try simp only[pE])
      refine rk 10 (fun K f=>?_);go_simp;go_at_call 214;refine(Da ac _ (Da m)).mono ?_;clear m;rintro e ae ⟨a',l',c',rfl,C,E,ah,ai,aj,u⟩;go_wp2_with fail;refine f.out _ _ C (fun S=>?_);clear f K
      (try simp only[pE])
      refine rk 11 (fun K f=>?_);go_simp;refine f.out _ _ E (fun T=>?_);clear f K
      (try simp only[pE])
      refine AS (by kernel_rfl) ?_ _;have cT:=E.2.2.2;clear C S T
      gi_wp2
      exact⟨(Da u).1,(Da u).2.1,(Da u).2.2⟩
   ·intro K f;go_simp;refine f.out _ _ (by assumption) (fun ag=>?_);clear f K
    (try simp only[pE])
    refine A6 (rs:=[7]) (by kernel_rfl) (by simp) ?_;refine(AE (i:=7) rfl ?_ AX)
    ·intro K f;go_simp;go_at_call 213;refine(Da H7 _ (Da m)).mono ?_;clear m;rintro e V ⟨rfl,ab,Y,m⟩;go_wp2_with fail;refine f.out _ _ ab (fun ar=>?_);clear f K
     (try simp only[pE])
     refine A6 (rs:=[8]) (by kernel_rfl) (by simp) ?_;refine(AE (i:=8) rfl ?_ AX)
     ·intro K f;go_simp;go_at_call 272;refine(Da H8 _ (Da m)).mono ?_;clear m;rintro e V8 ⟨rfl,U,Y,m⟩;go_wp2_with fail;refine f.out _ _ U (fun af=>?_);clear f K
      (try simp only[pE])
      refine rk 10 (fun K f=>?_);go_simp;go_at_call 214;refine(Da ac _ (Da m)).mono ?_;clear m;rintro e ae ⟨a',l',c',rfl,C,E,ah,ai,aj,u⟩;go_wp2_with fail;refine f.out _ _ C (fun S=>?_);clear f K
      (try simp only[pE])
      refine rk 11 (fun K f=>?_);go_simp;refine f.out _ _ E (fun T=>?_);clear f K
      (try simp only[pE])
      refine AS (by kernel_rfl) ?_ _;have cT:=E.2.2.2;clear C S T
      gi_wp2
      exact⟨(Da u).1,(Da u).2.1,(Da u).2.2⟩
  ·intro K f;go_simp;refine f.out _ _ (by assumption) (fun ag=>?_);clear f K
   (try simp only[pE])
   refine A6 (rs:=[4]) (by kernel_rfl) (by simp) ?_;refine(AE (i:=4) rfl ?_ AX)
   ·intro K f;go_simp;go_at_call 244;refine(Da H4 _).mono ?_;rintro e w' ⟨rfl,hw⟩;rw[hw];clear hw;go_wp2_with fail;refine f.out _ _ (by assumption) (fun aM=>?_);clear f K
    (try simp only[pE])
    refine A6 (rs:=[7]) (by kernel_rfl) (by simp) ?_;refine(AE (i:=7) rfl ?_ AX)
    ·intro K f;go_simp;go_at_call 213;refine(Da H7 _ (Da m)).mono ?_;clear m;rintro e V ⟨rfl,ab,Y,m⟩;go_wp2_with fail;refine f.out _ _ ab (fun ar=>?_);clear f K
     (try simp only[pE])
     refine A6 (rs:=[8]) (by kernel_rfl) (by simp) ?_;refine(AE (i:=8) rfl ?_ AX)
     ·intro K f;go_simp;go_at_call 272;refine(Da H8 _ (Da m)).mono ?_;clear m;rintro e V8 ⟨rfl,U,Y,m⟩;go_wp2_with fail;refine f.out _ _ U (fun af=>?_);clear f K
      (try simp only[pE])
      refine rk 10 (fun K f=>?_);go_simp;go_at_call 214;refine(Da ac _ (Da m)).mono ?_;clear m;rintro e ae ⟨a',l',c',rfl,C,E,ah,ai,aj,u⟩;go_wp2_with fail;refine f.out _ _ C (fun S=>?_);clear f K
      (try simp only[pE])
      refine rk 11 (fun K f=>?_);go_simp;refine f.out _ _ E (fun T=>?_);clear f K
      (try simp only[pE])
      refine AS (by kernel_rfl) ?_ _;have cT:=E.2.2.2;clear C S T
      gi_wp2
      exact⟨(Da u).1,(Da u).2.1,(Da u).2.2⟩
 case done=>
  rintro D ys X hD rfl ⟨v,O,t⟩ f;have aS:=t.b10.cell;obtain⟨ra,rl,rc,rfl⟩:=t.rs.1.shape;have HR:=Db t;clear t I;show K0 _ _;refine aG _ _ ?_
  gi_wp2
  have t:=Da HR;have I:=Da al;refine⟨by simp,.inl ⟨_,_,rfl,BS f,?_⟩⟩;have hg:X.grownBy (X.putObj D (.deferred none)) (some D):=⟨rfl,rfl,rfl,by simp[World.putObj],fun k _ hk=>by
   simp only[World.putObj];rw[A5,if_neg (fun e=>hk (by rw[e]))]⟩
  have aa:=t.own L (Da ad) hg (fun r e=>by cases e;exact⟨by omega,_,f,rfl⟩);exact⟨_,EQ rfl _ _ _,ra,rl,rc,O,rfl,aa.rs,aa.st,aa.hO,aa.dis,aa.fr⟩
 case stop=>
  rintro D c q X _ _ h _;exact h.elim
end
section
open Go.RowKit Go.Shelf
attribute [local go_sem] Oper.semAt_some
theorem Xg:(Tryz.prog.info? 245).map (fun i=>(i.zero,i.size))=some (some (.agg (List.replicate 60 (.bool false)).toArray),60):=by kernel_rfl
theorem Ym:∀w,(zeroValue 245).run Tryz.prog w = .ok (.agg (List.replicate 60 (.bool false)).toArray) w:=(Ey Xg).1
theorem RK(n:Nat)(a:OA)(w:World):
  CallsIn Fence.wide n Tryz.prog 115 #[.pointer a] w fun e w'=>e = .returned (.func (.func 169) #[] #[.pointer (some ⟨w.heap.size,0,none⟩)])/\w'=w.alloc (.cells #[.pointer a] 37):=by
 refine A0.2 ?_;go_enter Tryz.func115,Tryz.ntmps115;go_wp2;go_ret;exact⟨rfl,rfl⟩
end
section
open Go.RowKit Go.Shelf
attribute [local go_sem] Oper.semAt_some
theorem Sl.cellsKept{W b:World}{e:TypeId}{c:Nat}{v:Value}{n:Nat}{xs:LV}(h:Sl W e c v n xs)(l:∀(j:Nat) (cs:Array Value) (t:TypeId),W.heap[j]?=some (Obj.cells cs t (0,0))->b.heap[j]?=some (Obj.cells cs t (0,0))):Sl b e c v n xs:=by
 rcases h.2 with⟨a,i⟩|⟨g,f,d,a,k,q⟩
 ·exact⟨h.1,.inl ⟨a,i⟩⟩
 ·exact⟨h.1,.inr ⟨g,f,d,a,l _ _ _ k,q⟩⟩
theorem Sl.isCells{W:World}{e:TypeId}{d:Nat}{v:Value}{n:Nat}{xs:LV}(h:Sl W e d v n xs){k:Nat}(a:Own v k):∃cs t,W.heap[k]?=some (Obj.cells cs t (0,0)):=by
 rcases h.2 with⟨b,h0⟩|⟨g',c',L',b,c,q⟩
 ·rw[b]at a;simp[Own,Value.ownBlock]at a
 ·rw[b]at a;simp[Own,Value.ownBlock]at a;subst a;exact⟨_,_,c⟩
theorem FO.cellsKept{w w':World}{pb b f so:Nat}{e:Nat->Int}{cl:Bool}{d:Nat}{k:Value}{c:LI}{g i:Int}{l:Value}{ps:LB}(h:FO w pb b f so e cl d k c g i l ps)(a:∀(j:Nat) (cs:Array Value) (t:TypeId),w.heap[j]?=some (Obj.cells cs t (0,0))->w'.heap[j]?=some (Obj.cells cs t (0,0))):FO w' pb b f so e cl d k c g i l ps:=
 ⟨a _ _ _ h.row,h.sa.cellsKept a,Sl.cellsKept h.sp a,h.oa,h.op,h.ap⟩
theorem FO.fr{w w':World}{pb f l so:Nat}{j:Nat->Int}{cl:Bool}{i:Nat}{d:Value}{g:LI}{m n:Int}{e:Value}{ps:LB}(h:FO w pb f l so j cl i d g m n e ps){Z:Nat->Prop}(b:Fr Z w w')(a:∀k,(k=pb\/Own d k\/Own e k)->¬Z k):FO w' pb f l so j cl i d g m n e ps:=
 ⟨h.row.fr b (a _ (.inl rfl)),h.sa.fr b (fun _g c=>a _ (.inr (.inl c))),Sl.fr h.sp b (fun _g c=>a _ (.inr (.inr c))),h.oa,h.op,h.ap⟩
theorem FO.isCells{w:World}{pb d i so:Nat}{g:Nat->Int}{cl:Bool}{f:Nat}{b:Value}{e:LI}{j l:Int}{c:Value}{ps:LB}(h:FO w pb d i so g cl f b e j l c ps)(k:Nat)(a:k=pb\/Own b k\/Own c k):∃cs t,w.heap[k]?=some (Obj.cells cs t (0,0)):=by
 rcases a with rfl|a|a
 ·exact⟨_,_,h.row⟩
 ·exact h.sa.isCells a
 ·exact Sl.isCells h.sp a
theorem ZkN{W:World}{a:Addr}{v:Value}(h:W.cell? a=some v):∃cs t z,W.heap[a.block]?=some (Obj.cells cs t z):=by
 unfold World.cell? at h
 cases hb:W.heap[a.block]? with
 | none=>rw[hb]at h;cases h
 | some o=>cases o with
  | cells cs t z=>exact⟨cs,t,z,rfl⟩
  | _=>rw[hb]at h;cases h
end
section
open Go.RowKit Go.Shelf
attribute [local go_sem] Oper.semAt_some
def MQ(Q:Exit->Act->World->Prop):Exit->Act->World->Prop
 | .normal,a,w=>Q .normal a w
 | _,_,_=>False
theorem Qt{Q:Exit->Act->World->Prop}:∀e a w,MQ Q e a w->Q e a w:=fun e a w h=>by cases e<;>first|exact h|exact h.elim
theorem Qg{Q:Exit->Act->World->Prop}{a:Act}{w:World}(h:Q .normal a w):MQ Q .normal a w:=h
theorem FO.top{w:World}{pb a d so:Nat}{c:Nat->Int}{cl:Bool}{b:Nat}{e:Value}{g:LI}{m l:Int}{f:Value}{ps:LB}(h:FO w pb a d so c cl b e g m l f ps)(tp' tx':Int):FO ((w.setCell ⟨pb,101,none⟩ (.int .i64 tp')).setCell ⟨pb,102,none⟩ (.int .u64 tx')) pb a d so c cl b e g tp' tx' f ps:=by
 refine⟨?_,(h.sa.setCell ⟨pb,101,none⟩ _ h.oa).setCell ⟨pb,102,none⟩ _ h.oa,Sl.setCell (Sl.setCell h.sp ⟨pb,101,none⟩ _ h.op) ⟨pb,102,none⟩ _ h.op,h.oa,h.op,h.ap⟩;have i:=h.row.set 101 (.int .i64 tp');rw[UA (j:=3)]at i;have k:=FH.set (show FH _ pb 184 (Kl a d so c cl b e tp' l f) from i) 102 (.int .u64 tx');rw[UA (j:=4)]at k;exact k
theorem WR(p x:Nat)(a:p<65536):GK (D3 p x)=p:=by
 have:(Dt (D3 p x) 2).data.toList=DK p 2:=by
  unfold Dt;rw[if_pos (by rw[Ne];omega),BO];simp only[D3];simp[Qz]
 unfold GK;rw[this,Vy 2 p a]
end
open Go.RowKit
theorem Uw{b:Nat->Option (Nat×Nat)}{a:LV}{i off size:Nat}{v:Value}{d:List (Nat×Value)}(f:b i=some (off,size))(c:v.cells.size=size)(e:off+size<=a.length):
  Instr.fill b a.toArray ((i,v)::d)=Instr.fill b (FM a off v.cells.toList).toArray d:=by
 rw[Instr.fill,f];simp only;rw[if_neg (by simp only[c,AQ,ne_eq,not_true_eq_false,decide_false,Bool.false_or,AM];omega),Va off v.cells a.toArray (by rw[c];simpa using e)]
def JI(a b:Value)(m t:LV):LV:=[a,b]++m++t
theorem Uz(a b:Value)(m t:LV)(c:m.length=96)(d:t.length=6):(JI a b m t).length=104:=by simp[JI,c,d]
theorem WI(a b x:Value)(m t:LV):FM (JI a b m t) 0 [x]=JI x b m t:=by simp[FM,JI]
theorem WJ(a b x:Value)(m t:LV):FM (JI a b m t) 1 [x]=JI a x m t:=by simp[FM,JI]
theorem WK(a b:Value)(m c t:LV)(h:c.length=m.length):FM (JI a b m t) 2 c=JI a b c t:=by
 have d:(JI a b m t).take 2=[a,b]:=by simp[JI]
 have e:(JI a b m t).drop (2+c.length)=t:=by rw[h];unfold JI;exact List.drop_left' (by simp;omega)
 unfold FM;rw[d,e];rfl
theorem Sj(a b x:Value)(m t:LV)(d:m.length=96)(j:Nat):FM (JI a b m t) (98+j) [x]=JI a b m (FM t j [x]):=by
 unfold FM JI;have c:([a,b]++m).length=98:=by simp[d]
 rw[show 98+j=([a,b]++m).length+j by rw[c],Ca,Eh,Cd];simp[List.append_assoc]
def Ma:LV:=[.bool false,.int .i64 0,.slice none 0 0,.int .i64 0,.int .u64 0,.slice none 0 0]
theorem Zg2(a:List (Nat×Value)):Tryz.prog.built 184 a=Instr.fill (#[(0,1),(1,1),(2,96),(98,1),(99,1),(100,3),(103,1)][·]?) (JI (.pointer none) (.pointer none) (List.replicate 96 (.int .i64 0)) Ma).toArray a:=by kernel_rfl
theorem Yl(b e so:Nat)(a:Nat->Int)(cl:Bool)(c:Nat):Tryz.prog.built 184 [(0,.pointer (some ⟨b,0,none⟩)),(1,.pointer (some ⟨e,so,none⟩)),(2,.agg (Gj a).toArray),(3,.bool cl),(4,.int .i64 (c:Nat))]=some (Kl b e so a cl c (.slice none 0 0) 0 0 (.slice none 0 0)).toArray:=by
 have d:(List.replicate 96 (Value.int .i64 0)).length=96:=C5;rw[Zg2,Uw (off:=0) (size:=1) rfl rfl (by rw[Uz _ _ _ _ d rfl];decide)];rw[show(Value.pointer (some ⟨b,0,none⟩)).cells.toList=[.pointer (some ⟨b,0,none⟩)] from rfl,WI];rw[Uw (off:=1) (size:=1) rfl rfl (by rw[Uz _ _ _ _ d rfl];decide)];rw[show(Value.pointer (some ⟨e,so,none⟩)).cells.toList=[.pointer (some ⟨e,so,none⟩)] from rfl,WJ];rw[Uw (off:=2) (size:=96) rfl (by show(Gj a).toArray.size=96;simp[Js]) (by rw[Uz _ _ _ _ d rfl];decide)];rw[show(Value.agg (Gj a).toArray).cells.toList=Gj a from rfl,WK _ _ _ _ _ (by rw[Js,d])];rw[Uw (off:=98) (size:=1) rfl rfl (by rw[Uz _ _ _ _ (Js a) rfl];decide)];rw[show(Value.bool cl).cells.toList=[.bool cl] from rfl,Sj _ _ _ _ _ (Js a) 0];rw[Uw (off:=99) (size:=1) rfl rfl (by rw[Uz _ _ _ _ (Js a) rfl];decide)];rw[show(Value.int .i64 (c:Nat)).cells.toList=[.int .i64 (c:Nat)] from rfl,Sj _ _ _ _ _ (Js a) 1]
 rfl
theorem Pu{P:Program}{o:Oper}{a:Act}(X:World)(t:TypeId)(c:Array (Nat×Operand))(ho:o.op = .build t c){vs:Array (Nat×Value)}(e:(c.map fun (i,x)=>(i,a.eval x))=vs){b:Array Value}(d:P.built t vs.toList=some b):(execOp a.eval o).run P X = .ok (.value (.agg b)) X:=by
 unfold execOp;simp only[ho,Cy,e];rw[run_build X t vs b d]
 rfl
theorem YT{P:Program}{c:Array Oper}{o:Oper}{a:Act}{w:World}{K:Act->World->Prop}{Q:Exit->Act->World->Prop}{E:Prop}(d:o.guard=none)(t:TypeId)(x:Operand)(ho:o.op = .box t x)(b:LV)(f:a.eval x = .agg b.toArray)
  (h:K (a.put o.dst (.pointer (some ⟨w.heap.size,0,none⟩))) (w.alloc (.cells b.toArray t))):if Region.wanted o (yielded c a.tmps)=true then Oper.wp P o a w K Q else E:=by
 have e:Region.wanted o (yielded c a.tmps)=true:=by simp[Region.wanted,d]
 rw[if_pos e];unfold Oper.wp execOp;simp only[ho,Instr.box,Cy,f];simp[newVar,newRow,go_sem,Value.cells];exact h

structure GN(w:World)(stb db:Nat)(vk:Value)(tp tx tn:Int)(vf vn vw ve:Value)(D:LY)(ps:LB)(es:List Int):Prop where
 row:FH w stb 179 [.pointer (some ⟨db,0,none⟩),vk,.int .i64 tp,.int .u64 tx,.int .u64 tn]
 disk:Kt w db vf vn vw ve D
 sw:Hb w vw ps
 se:Sl w 3 1 ve es.length (es.map (.int .i64))
 ne:stb≠db
 ns:¬Own vn stb/\¬Own vw stb/\¬Own ve stb
 nd:¬Own vn db/\¬Own vw db/\¬Own ve db
 d1:∀k,Own vn k->¬Own vw k
 d2:∀k,Own vn k->¬Own ve k
 d3:∀k,Own vw k->¬Own ve k
theorem GN.below{w w':World}{e c:Nat}{m:Value}{g i f:Int}{l n vw j:Value}{D:LY}{ps:LB}{d:List Int}(h:GN w e c m g i f l n vw j D ps d)(a:Bw w w'):GN w' e c m g i f l n vw j D ps d:=
 ⟨(a.block _ h.row.lt).trans h.row,⟨(a.block _ h.disk.1.lt).trans h.disk.1,⟨h.disk.2.1.1.kept (fun k b _=>a.block k b),h.disk.2.1.2⟩,h.disk.2.2⟩,Sl.kept h.sw (fun k b _=>a.block k b),h.se.kept (fun k b _=>a.block k b),h.ne,h.ns,h.nd,h.d1,h.d2,h.d3⟩
theorem GN.write{w w':World}{q c:Nat}{v:Value}{t u r:Int}{m f vw l:Value}{D:LY}{ps:LB}{n:List Int}(h:GN w q c v t u r m f vw l D ps n){p:Nat}{s:By}{e:Ending}(B:Nh w c m f vw l D ps p s e w'):
  ∃b,GN w' q c v t u r m f b l (D.set p s) (ps++[(p,s)]) n/\Dh w vw b/\Fr (fun k=>k=c\/Own f k\/Own vw k) w w':=by
 obtain⟨_,b,x,y,i,o⟩:=B;have d:∀k,k<w.heap.size->Own b k->Own vw k:=fun k a e=>(o k e).elim id (fun h'=>by omega)
 have A:=h.row.lt;have z:=h.disk.1.lt;refine⟨b,⟨h.row.fr i (fun e=>?_),x,y,h.se.fr i (fun g j e=>?_),h.ne,⟨h.ns.1,fun e=>h.ns.2.1 (d _ A e),h.ns.2.2⟩,⟨h.nd.1,fun e=>h.nd.2.1 (d _ z e),h.nd.2.2⟩,fun k a e=>h.d1 k a (d k (h.disk.2.1.1.lt a) e),h.d2,fun k a e=>h.d3 k (d k (h.se.lt e) a) e⟩,o,i⟩
 ·rcases e with e|e|e
  ·exact h.ne e
  ·exact h.ns.1 e
  ·exact h.ns.2.1 e
 ·rcases e with e|e|e
  ·subst e;exact h.nd.2.2 j
  ·exact h.d2 _ e j
  ·exact h.d3 _ e j
theorem GN.flush{w w':World}{q f:Nat}{u:Value}{s t r:Int}{n o vw c:Value}{D:LY}{ps:LB}{l:List Int}(h:GN w q f u s t r n o vw c D ps l){m:Int}{e:Ending}(A:Pm w f n o vw c l m e w'):
  ∃d,GN w' q f u s t r n o vw d D ps (l++[m])/\Dh w c d/\Fr (fun k=>k=f\/Own c k) w w':=by
 obtain⟨_,d,v,x,i,p⟩:=A;have j:∀k,k<w.heap.size->Own d k->Own c k:=fun k a e=>(p k e).elim id (fun h'=>by omega)
 have z:=h.row.lt;have y:=h.disk.1.lt;refine⟨d,⟨h.row.fr i (fun e=>?_),⟨v,⟨h.disk.2.1.1.fr i (fun g b e=>?_),h.disk.2.1.2⟩,h.disk.2.2⟩,Sl.fr h.sw i (fun g b e=>?_),by rw[Ab];exact x,h.ne,⟨h.ns.1,h.ns.2.1,fun e=>h.ns.2.2 (j _ z e)⟩,⟨h.nd.1,h.nd.2.1,fun e=>h.nd.2.2 (j _ y e)⟩,h.d1,fun k a e=>h.d2 k a (j k (h.disk.2.1.1.lt a) e),fun k a e=>h.d3 k a (j k (Sl.lt h.sw a) e)⟩,p,i⟩
 ·rcases e with e|e
  ·exact h.ne e
  ·exact h.ns.2.2 e
 ·rcases e with e|e
  ·subst e;exact h.nd.1 b
  ·exact h.d2 _ b e
 ·rcases e with e|e
  ·subst e;exact h.nd.2.1 b
  ·exact h.d3 _ b e
end Go.Proofs.YtaieidcohdhgpaaGreatDoor
