/- Dumps. -/
import Derived.Test.YtaieidcohdhgpaaGreatDoorZAQ
namespace Go.Proofs.YtaieidcohdhgpaaGreatDoor
set_option maxHeartbeats 40000000
set_option maxRecDepth 100000
section
open Go.RowKit Go.Shelf
attribute [local go_sem] Oper.semAt_some
theorem ZH(w:World)(M:Nat)(hM:M<=1000)(n0 pb:Nat)(z:Nat)(aN:z<65536)(g off p y:Nat)(s:By)(au:Ge w (some ⟨g,off,none⟩) p y s)(aQ:p<=y)(hl:p<60000)(P X:List Nat->Nat->Nat)(Q:List Nat->(Nat->Prop)->World->Prop)(G O0:Nat->Prop)(H:List Nat->By)
  (aR:n0<=w.heap.size) (L:Lo M n0 pb 2 z s 60 P X Q) (aJ:H []=⟨#[]⟩) (aI:∀q x,H (q++[x])=H q++D3 (P q x) (X q x)) (aK:∀q,(H q).size=10*q.length)
  (av:Q [] O0 w) (aH:∀j,O0 j->G j) (ak:∀j,G j->j<w.heap.size) (aP:¬G g) (aO:g<w.heap.size) (N:Nat) (hN:N=(p+60-1)/60) (aU:N<=M):
  Cl 237 #[.pointer (some ⟨pb,0,none⟩),.int .u8 2,.int .i64 (z:Nat),.slice (some ⟨g,off,none⟩) p y] w (Rt w (w.heap.size+7) Q G H N):=by
 obtain⟨W1,e1,x1,k1,s1,b1⟩:=De w [.pointer (some ⟨pb,0,none⟩)] 168;obtain⟨W2,e2,x2,k2,s2,b2⟩:=De W1 [.int .u8 2] 300;obtain⟨W3,e3,x3,k3,s3,b3⟩:=De W2 [.int .i64 (z:Nat)] 3;obtain⟨W4,e4,x4,k4,s4,b4⟩:=De W3 [.slice none 0 0] 59;obtain⟨W5,e5,x5,k5,s5,b5⟩:=De W4 [.int .i64 0] 3;obtain⟨W6,e6,x6,k6,s6,b6⟩:=De W5 [.slice (some ⟨g,off,none⟩) p y] 59;obtain⟨R,e7,x7,Z,s7,b7⟩:=De W6 [.int .i64 60] 3;have J:Bw w R:=b1.trans ((b2.mono (by omega)).trans ((b3.mono (by omega)).trans ((b4.mono (by omega)).trans ((b5.mono (by omega)).trans ((b6.mono (by omega)).trans (b7.mono (by omega)))))));have y1:=Z _ _ _ (k6 _ _ _ (k5 _ _ _ (k4 _ _ _ (k3 _ _ _ (k2 _ _ _ x1)))));have y2:=Z _ _ _ (k6 _ _ _ (k5 _ _ _ (k4 _ _ _ (k3 _ _ _ x2))));have y3:=Z _ _ _ (k6 _ _ _ (k5 _ _ _ (k4 _ _ _ x3)));have y4:=Z _ _ _ (k6 _ _ _ (k5 _ _ _ x4));have y5:=Z _ _ _ (k6 _ _ _ x5);have y6:=Z _ _ _ x6;have t2:W2.heap.size=w.heap.size+1+1:=by omega
 have t3:W3.heap.size=w.heap.size+1+1+1:=by omega
 have t4:W4.heap.size=w.heap.size+1+1+1+1:=by omega
 have t5:W5.heap.size=w.heap.size+1+1+1+1+1:=by omega
 have t6:W6.heap.size=w.heap.size+1+1+1+1+1+1:=by omega
 have I:R.heap.size=w.heap.size+7:=by omega
 rw[s1]at y2;rw[t2]at y3;rw[t3]at y4;rw[t4]at y5;rw[t5]at y6;rw[t6]at x7;have hB:Hz w (w.heap.size+7) w.heap.size (w.heap.size+1) (w.heap.size+1+1) (w.heap.size+1+1+1) (w.heap.size+1+1+1+1) g p G:=⟨rfl,rfl,rfl,rfl,rfl,by omega,ak,aP,aO⟩;have aq:IE w (w.heap.size+7) w.heap.size (w.heap.size+1) (w.heap.size+1+1) (w.heap.size+1+1+1) (w.heap.size+1+1+1+1) pb 2 z g off p y s Q G H [] R:=⟨.slice none 0 0,O0,L.abides _ _ _ _ none av ⟨J.os,J.tape,J.output,J.size,fun k hk _=>J.block k hk⟩ (fun r e=>by cases e),fun j hj => .inl (aH j hj),y1,y2,y3,y4,y5,by rw[aJ];exact cP.nil _ _,fun j _ e=>by simp[Own,Value.ownBlock]at e,au.below J,Fr.of_below J,by omega⟩;have aF:=Db aq;have al:=Db I;have ad:=Db hB;have ay:=Db e1;have az:=Db e2;have aA:=Db e3;have aB:=Db e4;have aC:=Db e5;have aD:=Db e6;have aE:=Db e7;have am:R.cell? ⟨(w.heap.size+1+1+1+1+1),0,none⟩=some (.slice (some ⟨g,off,none⟩) p y):=(y6.cell 0).trans rfl;have an:R.cell? ⟨(w.heap.size+1+1+1+1+1+1),0,none⟩=some (.int .i64 60):=(x7.cell 0).trans rfl;have aw:=Db am;have ax:=Db an;clear x1 x2 x3 x4 x5 x6 x7 k1 k2 k3 k4 k5 k6 Z s1 s2 s3 s4 s5 s6 s7 b1 b2 b3 b4 b5 b6 b7 y1 y2 y3 y4 y5 y6 t2 t3 t4 t5 t6 I e1 e2 e3 e4 e5 e6 e7 J aq am an av au hB;refine(A0 (n:=3)).1 ?_;refine Bq Tryz.func237 rfl trivial ?_ rfl;simp only[Tryz.ntmps237,AQ,Af,Ay,Nat.reduceAdd,Nat.reduceSub,AP,AO,AV,AR,AJ,AL]
 gi_wp2_with (refine⟨trivial,?_⟩;gi_at_call 172;refine(Uk _ 60 (by omega) (by omega) _ _ ⟨_,_,_,rfl⟩).mono ?_;rintro e w' ⟨rfl,rfl⟩)
 rw[show w.alloc (.cells #[.pointer (some ⟨pb,0,none⟩)] 168)=W1 from Da ay,show W1.alloc (.cells #[.int .u8 2] 300)=W2 from Da az,show W2.alloc (.cells #[.int .i64 (z:Nat)] 3)=W3 from Da aA,show W3.alloc (.cells #[.slice none 0 0] 59)=W4 from Da aB,show W4.alloc (.cells #[.int .i64 0] 3)=W5 from Da aC,show W5.alloc (.cells #[.slice (some ⟨g,off,none⟩) p y] 59)=W6 from Da aD,show W6.alloc (.cells #[.int .i64 60] 3)=R from Da aE];rename_i K0 aG;have I:=Da al;have aV:N<=1000:=by rw[hN];omega
 refine CS (α := Nat) rfl (by omega) (gf:=220) (lb := #[.pointer (some ⟨(w.heap.size+1+1+1+1+1),0,none⟩),.pointer (some ⟨(w.heap.size+1+1+1+1+1+1),0,none⟩)]) rfl trivial (Ez Tryz.func220 (by kernel_rfl) rfl)
  (Nj 2 (by omega) (w.heap.size+1+1+1+1+1) (w.heap.size+1+1+1+1+1+1) g off 60 p y (by omega) (by omega) aQ (by omega) N hN R (by omega) (by omega) (Da aw) (Da ax) (Q6 (w.heap.size+7) (w.heap.size+1+1+1) (w.heap.size+1+1+1+1) G)
   (fun A B ap h1 h2=>⟨(Ax (w:=A) (a:=⟨(w.heap.size+1+1+1+1+1),0,none⟩) (ap.2 (w.heap.size+1+1+1+1+1) (by omega) (fun e=>by have:=ak _ e;omega) (by omega) (by omega))).trans h1,(Ax (w:=A) (a:=⟨(w.heap.size+1+1+1+1+1+1),0,none⟩) (ap.2 (w.heap.size+1+1+1+1+1+1) (by omega) (fun e=>by have:=ak _ e;omega) (by omega) (by omega))).trans h2⟩))
  (fun h1 h2=>⟨Ae h1.1 h2.1,fun k a b c d=>(h2.2 k a b c d).trans (h1.2 k a b c d)⟩)
  (fun X l o o' hl ho _ _=>⟨by simp[World.putObj],fun k hk _ _ _=>by
   have:=I;simp only[World.putObj];rw[A5];rw[if_neg (by omega)]⟩)
  (Ag _ _) (fun _=>rfl)
  (fun q X=>IE w (w.heap.size+7) w.heap.size (w.heap.size+1) (w.heap.size+1+1) (w.heap.size+1+1+1) (w.heap.size+1+1+1+1) pb 2 z g off p y s Q G H q X)
  (fun _ _ _=>False)
  (fun q A B row hs hg hr=>by
   obtain⟨v,O,h⟩:=hs;exact⟨v,O,h.own L (Da ad) hg (fun r e=>by rw[<-I];exact hr r e)⟩)
  (fun _ _ _ _ _ hs _ _=>hs)
  (Da aF)
  (fun x=>{ tmps := #[.pointer (some ⟨pb,0,none⟩),.int .u8 2,.int .i64 (z:Nat),.slice (some ⟨g,off,none⟩) p y,.pointer (some ⟨w.heap.size,0,none⟩),.pointer (some ⟨(w.heap.size+1),0,none⟩),.pointer (some ⟨(w.heap.size+1+1),0,none⟩),undef,.slice none 0 0,.int .i64 60,.pointer (some ⟨(w.heap.size+1+1+1),0,none⟩),.pointer (some ⟨(w.heap.size+1+1+1+1),0,none⟩),Hj g off 60 p x,.int .u8 2,.bool true,.int .i64 63,.int .i64 60,.slice (some ⟨g,off,none⟩) p y,.int .i64 60,.func (.func 220) #[] #[.pointer (some ⟨(w.heap.size+1+1+1+1+1),0,none⟩),.pointer (some ⟨(w.heap.size+1+1+1+1+1+1),0,none⟩)],Hj g off 60 p x,undef,undef,undef,undef,undef,undef,undef,undef,undef,undef,undef,undef,undef,undef],defers:=[] })
  ?assign ?body ?done ?stop
 case assign=>
  intro l x X K f;clear I
  gi_wp2
  exact f
 case body=>
  rintro l q x W ⟨v,O,t⟩ aW;obtain⟨ra,rl,rc,rfl⟩:=t.rs.1.shape;obtain⟨h4,h7,h8,ao⟩:=Tv w M hM n0 (w.heap.size+7) w.heap.size (w.heap.size+1) (w.heap.size+1+1) (w.heap.size+1+1+1) (w.heap.size+1+1+1+1) pb 2 z aN g off p y s 60 (by omega) P X Q G H (Da ad) aR L aI aK q x (by omega) W ra rl rc O t;have H4:=Db h4;have H7:=Db h7;have H8:=Db h8;have ac:=Db ao;have m:Hid (Qo w (w.heap.size+7) w.heap.size (w.heap.size+1) (w.heap.size+1+1) (w.heap.size+1+1+1) (w.heap.size+1+1+1+1) pb 2 z g off p y s Q G H q q (.slice ra rl rc) O O W W.drew):=⟨t.below L (Ag _ _).drew,⟨rfl,rfl,rfl,Aa _,fun _ _ _=>rfl⟩⟩;have aL:Jt w.heap.size (w.heap.size+1) (w.heap.size+1+1) (w.heap.size+1+1+1+1) pb 2 z q.length W.drew:=⟨t.b4.cell,t.b5.cell,t.b6.cell,t.b11.cell⟩;have Y:W.drew.cell? ⟨(w.heap.size+1+1+1),0,none⟩=some (.slice ra rl rc):=t.b10.cell;clear h4 h7 h8 ao t I
  gi_step
  gi_step
  gi_step
  refine QC (Jt w.heap.size (w.heap.size+1) (w.heap.size+1+1) (w.heap.size+1+1+1+1) pb 2 z q.length) (by kernel_rfl) (fun hh=>by obtain⟨_,_,hh⟩:=hh;exact hh) (by kernel_rfl) aL (fun aT=>?_);refine tv 0 (?_) rfl (Or.inl ⟨by rfl,?_⟩) ?_
  rotate_left
  ·intro w F;(try unfold Jt at F);go_simp<;>with_reducible rfl
  (try simp only[pE])
  refine tv 1 (?_) rfl (Or.inl ⟨by rfl,?_⟩) ?_
  rotate_left
  ·intro w F;(try unfold Jt at F);go_simp<;>with_reducible rfl
  (try simp only[pE])
  refine tv 2 (?_) rfl (Or.inl ⟨by rfl,?_⟩) ?_
  rotate_left
  ·intro w F;(try unfold Jt at F);go_simp<;>with_reducible rfl
  (try simp only[pE])
  refine tv 3 (?_) rfl (Or.inl ⟨by rfl,?_⟩) ?_
  rotate_left
  ·intro w F;(try unfold Jt at F);go_simp<;>with_reducible rfl
  (try simp only[pE])
  refine tv 5 (?_) rfl (Or.inl ⟨by rfl,?_⟩) ?_
  rotate_left
  ·intro w F;(try unfold Jt at F);go_simp<;>with_reducible rfl
  (try simp only[pE])
  refine tv 6 (?_) rfl (Or.inl ⟨by rfl,?_⟩) ?_
  rotate_left
  ·intro w F;(try unfold Jt at F);go_simp<;>with_reducible rfl
  (try simp only[pE])
  refine A6 (rs:=[4,9]) (by kernel_rfl) (by simp) ?_;refine(AE (i:=4) rfl ?_ (AE (i:=9) rfl ?_ AX))
  ·intro K f;go_simp;go_at_call 244;refine(Da H4 _).mono ?_;rintro e w' ⟨rfl,hw⟩;rw[hw];clear hw;go_wp2_with fail;refine f.out _ _ (by assumption) (fun aM=>?_);clear f K
   (try simp only[pE])
   refine A6 (rs:=[7,9]) (by kernel_rfl) (by simp) ?_;refine(AE (i:=7) rfl ?_ (AE (i:=9) rfl ?_ AX))
   ·intro K f;go_simp;go_at_call 213;refine(Da H7 _ (Da m)).mono ?_;clear m;rintro e V ⟨rfl,ab,Y,m⟩;go_wp2_with fail;refine f.out _ _ ab (fun ar=>?_);clear f K
    (try simp only[pE])
    refine A6 (rs:=[8,9]) (by kernel_rfl) (by simp) ?_;refine(AE (i:=8) rfl ?_ (AE (i:=9) rfl ?_ AX))
    ·intro K f;go_simp;go_at_call 272;refine(Da H8 _ (Da m)).mono ?_;clear m;rintro e V8 ⟨rfl,U,Y,m⟩;go_wp2_with fail;refine f.out _ _ U (fun af=>?_);clear f K
     (try simp only[pE])
     refine A6 (rs:=[9]) (by kernel_rfl) (by simp) ?_;refine(AE (i:=9) rfl ?_ AX)
     ·intro K f;go_simp;refine f.out _ _ (by assumption) (fun ag=>?_);clear f K
      (try simp only[pE])
      refine rk 10 (fun K f=>?_);go_simp;go_at_call 214;refine(Da ac _ (Da m)).mono ?_;clear m;rintro e ae ⟨a',l',c',rfl,C,E,ah,ai,aj,u⟩;go_wp2_with fail;refine f.out _ _ C (fun S=>?_);clear f K
      (try simp only[pE])
      refine rk 11 (fun K f=>?_);go_simp;refine f.out _ _ E (fun T=>?_);clear f K
      (try simp only[pE])
      refine AS (by kernel_rfl) ?_ _;have cT:=E.2.2.2;clear C S T
      gi_wp2
      exact⟨(Da u).1,(Da u).2.1,(Da u).2.2⟩
    ·intro K f;go_simp;refine f.out _ _ (by assumption) (fun ag=>?_);clear f K
     (try simp only[pE])
     refine A6 (rs:=[8]) (by kernel_rfl) (by simp) ?_;refine(AE (i:=8) rfl ?_ AX)
     ·intro K f;go_simp;go_at_call 272;refine(Da H8 _ (Da m)).mono ?_;clear m;rintro e V8 ⟨rfl,U,Y,m⟩;go_wp2_with fail;refine f.out _ _ U (fun af=>?_);clear f K
      (try simp only[pE])
      refine rk 10 (fun K f=>?_);go_simp;go_at_call 214;refine(Da ac _ (Da m)).mono ?_;clear m;rintro e ae ⟨a',l',c',rfl,C,E,ah,ai,aj,u⟩;go_wp2_with fail;refine f.out _ _ C (fun S=>?_);clear f K
      (try simp only[pE])
      refine rk 11 (fun K f=>?_);go_simp;refine f.out _ _ E (fun T=>?_);clear f K
      (try simp only[pE])
      refine AS (by kernel_rfl) ?_ _;have cT:=E.2.2.2;clear C S T
      gi_wp2
      exact⟨(Da u).1,(Da u).2.1,(Da u).2.2⟩
   ·intro K f;go_simp;refine f.out _ _ (by assumption) (fun ag=>?_);clear f K
    (try simp only[pE])
    refine A6 (rs:=[7]) (by kernel_rfl) (by simp) ?_;refine(AE (i:=7) rfl ?_ AX)
    ·intro K f;go_simp;go_at_call 213;refine(Da H7 _ (Da m)).mono ?_;clear m;rintro e V ⟨rfl,ab,Y,m⟩;go_wp2_with fail;refine f.out _ _ ab (fun ar=>?_);clear f K
     (try simp only[pE])
     refine A6 (rs:=[8]) (by kernel_rfl) (by simp) ?_;refine(AE (i:=8) rfl ?_ AX)
     ·intro K f;go_simp;go_at_call 272;refine(Da H8 _ (Da m)).mono ?_;clear m;rintro e V8 ⟨rfl,U,Y,m⟩;go_wp2_with fail;refine f.out _ _ U (fun af=>?_);clear f K
      (try simp only[pE])
      refine rk 10 (fun K f=>?_);go_simp;go_at_call 214;refine(Da ac _ (Da m)).mono ?_;clear m;rintro e ae ⟨a',l',c',rfl,C,E,ah,ai,aj,u⟩;go_wp2_with fail;refine f.out _ _ C (fun S=>?_);clear f K
      (try simp only[pE])
      refine rk 11 (fun K f=>?_);go_simp;refine f.out _ _ E (fun T=>?_);clear f K
      (try simp only[pE])
      refine AS (by kernel_rfl) ?_ _;have cT:=E.2.2.2;clear C S T
      gi_wp2
      exact⟨(Da u).1,(Da u).2.1,(Da u).2.2⟩
  ·intro K f;go_simp;refine f.out _ _ (by assumption) (fun ag=>?_);clear f K
   (try simp only[pE])
   refine A6 (rs:=[4]) (by kernel_rfl) (by simp) ?_;refine(AE (i:=4) rfl ?_ AX)
   ·intro K f;go_simp;go_at_call 244;refine(Da H4 _).mono ?_;rintro e w' ⟨rfl,hw⟩;rw[hw];clear hw;go_wp2_with fail;refine f.out _ _ (by assumption) (fun aM=>?_);clear f K
    (try simp only[pE])
    refine A6 (rs:=[7]) (by kernel_rfl) (by simp) ?_;refine(AE (i:=7) rfl ?_ AX)
    ·intro K f;go_simp;go_at_call 213;refine(Da H7 _ (Da m)).mono ?_;clear m;rintro e V ⟨rfl,ab,Y,m⟩;go_wp2_with fail;refine f.out _ _ ab (fun ar=>?_);clear f K
     (try simp only[pE])
     refine A6 (rs:=[8]) (by kernel_rfl) (by simp) ?_;refine(AE (i:=8) rfl ?_ AX)
     ·intro K f;go_simp;go_at_call 272;refine(Da H8 _ (Da m)).mono ?_;clear m;rintro e V8 ⟨rfl,U,Y,m⟩;go_wp2_with fail;refine f.out _ _ U (fun af=>?_);clear f K
      (try simp only[pE])
      refine rk 10 (fun K f=>?_);go_simp;go_at_call 214;refine(Da ac _ (Da m)).mono ?_;clear m;rintro e ae ⟨a',l',c',rfl,C,E,ah,ai,aj,u⟩;go_wp2_with fail;refine f.out _ _ C (fun S=>?_);clear f K
      (try simp only[pE])
      refine rk 11 (fun K f=>?_);go_simp;refine f.out _ _ E (fun T=>?_);clear f K
      (try simp only[pE])
      refine AS (by kernel_rfl) ?_ _;have cT:=E.2.2.2;clear C S T
      gi_wp2
      exact⟨(Da u).1,(Da u).2.1,(Da u).2.2⟩
 case done=>
  rintro D ys X hD rfl ⟨v,O,t⟩ f;have aS:=t.b10.cell;obtain⟨ra,rl,rc,rfl⟩:=t.rs.1.shape;have HR:=Db t;clear t I;show K0 _ _;refine aG _ _ ?_
  gi_wp2
  have t:=Da HR;have I:=Da al;refine⟨by simp,.inl ⟨_,_,rfl,BS f,?_⟩⟩;have hg:X.grownBy (X.putObj D (.deferred none)) (some D):=⟨rfl,rfl,rfl,by simp[World.putObj],fun k _ hk=>by
   simp only[World.putObj];rw[A5,if_neg (fun e=>hk (by rw[e]))]⟩
  have aa:=t.own L (Da ad) hg (fun r e=>by cases e;exact⟨by omega,_,f,rfl⟩);exact⟨_,EQ rfl _ _ _,ra,rl,rc,O,rfl,aa.rs,aa.st,aa.hO,aa.dis,aa.fr⟩
 case stop=>
  rintro D c q X _ _ h _;exact h.elim
end
open Go.RowKit
theorem F4.place_lt{E:FL}(h:F4 E)(c:Pl)(r:Nat)(s:By):(E.put c r s).1<1536:=by
 unfold FL.put
 split
 ·rename_i q a;unfold FL.stay at a
  split at a
  ·rename_i q' b
   split at a
   ·cases a;exact(h.at_some b).2
   ·cases a
  ·cases a
 ·show Jp _ _ _%1536<1536;omega
theorem FL.put_puts(E:FL)(a:Pl)(r:Nat)(s:By):(E.put a r s).2.puts=a.puts++[(r,(E.put a r s).1)]:=by
 unfold FL.put;split<;>rfl
theorem FL.put_ps(E:FL)(a:Pl)(r:Nat)(s:By):(E.put a r s).2.ps.length<=a.ps.length+1:=by
 unfold FL.put;split
 ·show a.ps.length<=_;omega
 ·show(a.ps++_).length<=_;rw[Ab];exact Aa _
theorem FL.put_hd(E:FL)(a:Pl)(r:Nat)(s:By)(h:a.hd<=1536):(E.put a r s).2.hd<=1536:=by
 unfold FL.put;split
 ·exact h
 ·show Jp _ _ _%1536+1<=1536;omega
def FL.puts(E:FL)(R:Nat->Nat)(B:NB):Pl->Nat->List Nat->Pl
 | st,_,[]=>st
 | st,i,x::xs=>E.puts R B (E.put st (R i) (B x)).2 (i+1) xs
theorem FL.puts_snoc(E:FL)(R:Nat->Nat)(B:NB):∀(st:Pl) (i:Nat) (xs:List Nat) (x:Nat),E.puts R B st i (xs++[x])=(E.put (E.puts R B st i xs) (R (i+xs.length)) (B x)).2
 | st,i,[],x=>rfl
 | st,i,y::xs,x=>by
  show E.puts R B _ (i+1) (xs++[x])=_;rw[FL.puts_snoc E R B _ (i+1) xs x,Af,show i+1+xs.length=i+(xs.length+1) by omega]
  rfl
theorem FL.puts_mem(E:FL)(R:Nat->Nat)(B:NB):∀(st:Pl) (i:Nat) (xs:List Nat),∀y∈(E.puts R B st i xs).puts,y∈st.puts\/∃j,i<=j/\j<i+xs.length/\y.1=R j
 | st,i,[],y,hy => .inl hy
 | st,i,x::xs,y,hy=>by
  rcases FL.puts_mem E R B _ (i+1) xs y hy with h|⟨j,h1,h2,a⟩
  ·rw[FL.put_puts]at h;rcases As.1 h with h|h
   ·exact .inl h
   ·rw[Av.1 h];exact .inr ⟨i,Aa _,by rw[Af];omega,rfl⟩
  ·exact .inr ⟨j,by omega,by rw[Af];omega,a⟩
theorem FL.puts_len(E:FL)(R:Nat->Nat)(B:NB):∀(st:Pl) (i:Nat) (xs:List Nat),(E.puts R B st i xs).puts.length=st.puts.length+xs.length/\(E.puts R B st i xs).ps.length<=st.ps.length+xs.length/\(st.hd<=1536->(E.puts R B st i xs).hd<=1536)
 | st,i,[]=>⟨rfl,Aa _,id⟩
 | st,i,x::xs=>by
  obtain⟨a,h2,b⟩:=FL.puts_len E R B (E.put st (R i) (B x)).2 (i+1) xs;have h4:=FL.put_ps E st (R i) (B x);rw[FL.put_puts,Ab]at a;refine⟨?_,?_,fun h=>b (FL.put_hd E st _ _ h)⟩
  ·show(E.puts R B _ (i+1) xs).puts.length=_;rw[a];simp only[Af,Ay];omega
  ·show(E.puts R B _ (i+1) xs).ps.length<=_;rw[Af];omega
def Gy(n0 pb db sb so:Nat)(E:FL)(st:Pl)(O:Nat->Prop)(W:World):Prop:=
 Hy W n0 db sb so E/\(∀k,O k->n0<=k)/\n0<=W.heap.size/\QE W pb db sb so E st 0 0 O
theorem Gy.abides{m pb g n so:Nat}{E:FL}{p:Pl}{O:Nat->Prop}{W c:World}{row:Option Nat}(h:Gy m pb g n so E p O W)(i:W.grownBy c row)(u:∀r,row=some r->∃o:Obj,W.heap[r]?=some o/\o.isCells=false):Gy m pb g n so E p O c:=by
 have l:∀(j:Nat) (a:Array Value) (t:TypeId) (z:Nat×Nat),W.heap[j]?=some (Obj.cells a t z)->c.heap[j]?=some (Obj.cells a t z):=fun j a t z f=>(i.block j (Ah.1 f).1 (fun e=>by obtain⟨o,b,d⟩:=u j e.symm;rw[f]at b;cases b;cases d)).trans f
 obtain⟨b,d,s,B,q,C,v,w,x,y,A⟩:=h;exact⟨b.kept (fun k a t z _ e=>l k a t z e),d,Ae s i.size,B,q,C,v.cellsKept (fun j a t=>l j a t _),w,x,y,A⟩
theorem Gy.keeps{b pb d l so:Nat}{E:FL}{m:Pl}{O Z:Nat->Prop}{W c:World}(h:Gy b pb d l so E m O W)(a:Fr Z W c)(f:∀j,Z j->¬O j/\b<=j):Gy b pb d l so E m O c:=by
 obtain⟨o,p,q,x,n,y,s,u,v,w,i⟩:=h;refine⟨o.kept (fun k cs t z g e=>(a.block k (Ah.1 e).1 (fun r=>?_)).trans e),p,Ae q a.size,x,n,y,s.fr a (fun k g e=>(f _ e).1 ((i k).2 g)),u,v,w,i⟩;have:=(f k r).2;omega
theorem Gy.cells{c pb a f so:Nat}{E:FL}{g:Pl}{O:Nat->Prop}{W:World}(h:Gy c pb a f so E g O W){j:Nat}(b:O j):∃cs t,W.heap[j]?=some (.cells cs t (0,0)):=by
 obtain⟨_,_,_,va,es,vp,d,_,_,_,e⟩:=h;exact d.isCells j ((e j).1 b)
theorem Gy.put{d pb c g so:Nat}{E:FL}(q:F4 E)(v:∃j,j<96/\E.nd j<=0){a:Pl}{O:Nat->Prop}{W:World}(h:Gy d pb c g so E a O W)(r:Nat)(s:By)(C:s.size=64)(A:∀y∈a.puts,y.1≠r)(x:a.puts.length<=10000)(B:a.ps.length<=1000000)(u:a.hd<=1536):
  Cl 272 #[.pointer (some ⟨pb,0,none⟩),.int .u64 r,DG s] W fun e b=>e = .returned (.agg #[.int .i64 ((E.put a r s).1:Nat),.int .u64 (D5 s:Nat)])/\∃O',Gy d pb c g so E (E.put a r s).2 O' b/\Fr O W b/\∀j,O' j->O j\/W.heap.size<=j:=by
 obtain⟨i,l,m,p⟩:=h;obtain⟨j,aa,w⟩:=v;refine(YE W d pb c g so E q a 0 0 O p i r s C A x B u ⟨(j+96-a.hd/16%96)%96,by omega,?_⟩).mono ?_
 ·rw[show(a.hd/16+(j+96-a.hd/16%96)%96)%96=j by omega];exact w
 ·rintro e b ⟨rfl,O',D,f,o⟩;refine⟨rfl,O',⟨i.kept (fun k cs t z n e=>(f.block k (Ah.1 e).1 (fun ho=>?_)).trans e),fun k n=>(o k n).elim (l k) (fun e=>Ae m e),Ae m f.size,D⟩,f,o⟩;have:=l k ho;omega
theorem Tu{b a i j:Nat}(h:Dp b a i=Dp b a j):i=j:=by unfold Dp at h;omega
theorem RS(M g pb k n so:Nat)(E:FL)(m:F4 E)(f:∃j,j<96/\E.nd j<=0)(st0:Pl)(h1:st0.puts.length+M<=10000)(h2:st0.ps.length+M<=1000000)(p:st0.hd<=1536)(a:UInt8)(c:Nat)(v:∀y∈st0.puts,∀i,i<M->y.1≠Dp a.toNat c i)(s:By)(d:Nat):
  Lo M g pb a c s d (fun b x=>(E.put (E.puts (Dp a.toNat c) (D9 a s d) st0 0 b) (Dp a.toNat c b.length) (D9 a s d x)).1) (fun _ x=>D5 (D9 a s d x)) (fun b O W=>Gy g pb k n so E (E.puts (Dp a.toNat c) (D9 a s d) st0 0 b) O W) where
 abides:=fun _ _ _ _ _ h w B=>h.abides w B
 keeps:=fun _ _ _ _ _ h u q=>h.keeps u q
 lt:=fun _ _ _ h _ f=>by obtain⟨cs,t,r⟩:=h.cells f;exact(Ah.1 r).1
 cells:=fun _ _ _ h _ f=>h.cells f
 plt:=fun b x=>Nat.lt_trans (m.place_lt _ _ _) (by omega)
 xlt:=fun _ x=>OG _
 put:=fun b x O W A h=>by
  obtain⟨l1,l2,D⟩:=FL.puts_len E (Dp a.toNat c) (D9 a s d) st0 0 b;refine(h.put m f (Dp a.toNat c b.length) (D9 a s d x) (Pn _ _ _ _) (fun y C e=>?_) (by omega) (by omega) (D p)).mono ?_
  ·rcases FL.puts_mem E _ _ st0 0 b y C with z|⟨j,_,q2,I⟩
   ·exact v y z _ A e
   ·have:=Tu (I.symm.trans e);omega
  ·rintro e o ⟨rfl,O',F,G,H⟩;refine⟨rfl,O',?_,G,H⟩;have l:=FL.puts_snoc E (Dp a.toNat c) (D9 a s d) st0 0 b x;rw[Au]at l;show Gy g pb k n so E (E.puts _ _ st0 0 (b++[x])) O' o;rw[l];exact F
def Kv:List UInt8->List UInt8->Nat
 | x::xs,y::ys=>if x=y then Kv xs ys+1 else 0
 | _,_=>0
theorem Pb:∀a b,Kv a b<=a.length/\Kv a b<=b.length
 | [],b=>by simp[Kv]
 | x::xs,[]=>by simp[Kv]
 | x::xs,y::ys=>by
  have:=Pb xs ys;unfold Kv
  split
  ·simp only[Af];omega
  ·simp
theorem SE:∀(a b:List UInt8) (n:Nat),n<=Kv a b->(Kv a b=n↔¬ ∃x,a[n]?=some x/\b[n]?=some x)
 | [],b,n,h=>by simp[Kv]at h ⊢;exact h.symm
 | x::xs,[],n,h=>by simp[Kv]at h ⊢;exact h.symm
 | x::xs,y::ys,n,h=>by
  unfold Kv at h ⊢;by_cases c:x=y
  ·rw[if_pos c]at h ⊢
   cases n with
   | zero=>simp[c]
   | succ n=>
    have:=SE xs ys n (by omega);simp only[BU];rw[<-this];omega
  ·rw[if_neg c]at h ⊢;obtain rfl:n=0:=by omega
   simp;exact fun e=>c e.symm
def Kz(a b:By):Nat:=Kv a.data.toList b.data.toList
theorem NC(a b:By)(w:World)(ha:a.size<=2000000)(_hb:b.size<=2000000):Cl 271 #[.string a,.string b] w fun e w'=>e = .returned (.int .i64 (Kz a b:Nat))/\w'.heap=w.heap/\Bw w w':=by
 obtain⟨N,g⟩:=ex (Kz a b);have o:=Pb a.data.toList b.data.toList;have aa:N<=a.size:=by rw[g];exact o.1
 have ab:N<=b.size:=by rw[g];exact o.2
 have t:∀n,n<=N->(N=n↔¬ ∃x,a.data.toList[n]?=some x/\b.data.toList[n]?=some x):=fun n l=>by rw[g]at l ⊢;exact SE _ _ n l
 rw[<-g];have p:=Db t;clear g o t;go_enter Tryz.func271,Tryz.ntmps271;go_wp2
 go_loopw [5] (fun v wr=>∃n:Nat,v = .int .i64 n/\n<=N/\Hid (wr.heap=w.heap/\Bw w wr)) (fun v _=>N-(intOf v).toNat)
 case atStart=>exact⟨0,rfl,Aw _,rfl,Ag _ _⟩
 case round=>
  obtain⟨n,rfl,l,d⟩:=hrel;obtain⟨M,hM⟩:=ex (min a.size b.size);by_cases ac:n<M
  ·have u:n<a.size:=by omega
   have y:n<b.size:=by omega
   have j:a.data.toList[n]?=some a[n]:=by rw[Ac (by simpa using u)];rfl
   have k:b.data.toList[n]?=some b[n]:=by rw[Ac (by simpa using y)];rfl
   have i1:(n:Int)<(a.size:Int):=by omega
   have i2:(n:Int)<(b.size:Int):=by omega
   by_cases f:a[n]=b[n]
   ·have ad:n<N:=by
     rcases Bk n N with h|h
     ·exact h
     ·obtain rfl:n=N:=by omega
      exact absurd ⟨_,j,by rw[f];exact k⟩ ((Da p n (Aa _)).1 rfl)
    have z:((a[n].toNat:Int)==(b[n].toNat:Int))=true:=by rw[f];simp
    clear j k f;go_upto_region 2 with fail;refine AN (S:=fun _=>True) (by kernel_rfl) trivial (fun s=>?_);refine tk 0 ?_;try simp only[pE];refine tk 1 ?_;try simp only[pE];refine tk 2 ?_;try simp only[pE];refine tk 3 ?_;try simp only[pE];refine tk 4 ?_;try simp only[pE];refine Bc (i:=5) (v := .int .i64 (M:Nat)) rfl (by kernel_rfl) (by kernel_rfl) (by kernel_rfl) (fun _ _ _ h=>h) (Or.inl ⟨by rfl,?_⟩) (by assumption) ?_
    ·intro w c;go_simp;omega
    (try simp only[pE])
    refine Bc (i:=6) (v := .bool true) rfl (by kernel_rfl) (by kernel_rfl) (by kernel_rfl) (fun _ _ _ h=>h) (Or.inl ⟨by rfl,?_⟩) (by assumption) ?_
    ·intro w c;go_simp;omega
    (try simp only[pE])
    refine tk 7 ?_;try simp only[pE];refine tk 8 ?_;try simp only[pE];refine tk 9 ?_;try simp only[pE];refine Bc (i:=10) (v := .int .u8 (a[n].toNat:Int)) rfl (by kernel_rfl) (by kernel_rfl) (by kernel_rfl) (fun _ _ _ h=>h) (Or.inl ⟨by rfl,?_⟩) (by assumption) ?_
    ·intro w c;go_simp
    (try simp only[pE])
    refine tk 11 ?_;try simp only[pE];refine tk 12 ?_;try simp only[pE];refine Bc (i:=13) (v := .int .u8 (b[n].toNat:Int)) rfl (by kernel_rfl) (by kernel_rfl) (by kernel_rfl) (fun _ _ _ h=>h) (Or.inl ⟨by rfl,?_⟩) (by assumption) ?_
    ·intro w c;go_simp
    (try simp only[pE])
    refine Bc (i:=14) (v := .bool true) rfl (by kernel_rfl) (by kernel_rfl) (by kernel_rfl) (fun _ _ _ h=>h) (Or.inl ⟨by rfl,?_⟩) (by assumption) ?_
    ·intro w c;go_simp
    (try simp only[pE])
    refine tk 15 ?_;try simp only[pE];refine AS (by kernel_rfl) ?_ _;go_wp2
    go_roundw
    case rel=>exact⟨n+1,by go_num,by omega,(Da d).1,(Da d).2.trans ((Ag _ _).drew.mono (Da d).2.size)⟩
    case measure=>simp[intOf];omega
   ·have m:N=n:=(Da p n l).2 (fun ⟨x,q,r⟩=>f (by rw[j]at q;rw[k]at r;exact BG (q.trans r.symm)));have z:((a[n].toNat:Int)==(b[n].toNat:Int))=false:=by
     rw[AH];intro h;exact f (EA.1 (by omega))
    clear j k f;go_upto_region 2 with fail;refine AN (S:=fun _=>True) (by kernel_rfl) trivial (fun s=>?_);refine tk 0 ?_;try simp only[pE];refine tk 1 ?_;try simp only[pE];refine tk 2 ?_;try simp only[pE];refine tk 3 ?_;try simp only[pE];refine tk 4 ?_;try simp only[pE];refine Bc (i:=5) (v := .int .i64 (M:Nat)) rfl (by kernel_rfl) (by kernel_rfl) (by kernel_rfl) (fun _ _ _ h=>h) (Or.inl ⟨by rfl,?_⟩) (by assumption) ?_
    ·intro w c;go_simp;omega
    (try simp only[pE])
    refine Bc (i:=6) (v := .bool true) rfl (by kernel_rfl) (by kernel_rfl) (by kernel_rfl) (fun _ _ _ h=>h) (Or.inl ⟨by rfl,?_⟩) (by assumption) ?_
    ·intro w c;go_simp;omega
    (try simp only[pE])
    refine tk 7 ?_;try simp only[pE];refine tk 8 ?_;try simp only[pE];refine tk 9 ?_;try simp only[pE];refine Bc (i:=10) (v := .int .u8 (a[n].toNat:Int)) rfl (by kernel_rfl) (by kernel_rfl) (by kernel_rfl) (fun _ _ _ h=>h) (Or.inl ⟨by rfl,?_⟩) (by assumption) ?_
    ·intro w c;go_simp
    (try simp only[pE])
    refine tk 11 ?_;try simp only[pE];refine tk 12 ?_;try simp only[pE];refine Bc (i:=13) (v := .int .u8 (b[n].toNat:Int)) rfl (by kernel_rfl) (by kernel_rfl) (by kernel_rfl) (fun _ _ _ h=>h) (Or.inl ⟨by rfl,?_⟩) (by assumption) ?_
    ·intro w c;go_simp
    (try simp only[pE])
    refine Bc (i:=14) (v := .bool false) rfl (by kernel_rfl) (by kernel_rfl) (by kernel_rfl) (fun _ _ _ h=>h) (Or.inl ⟨by rfl,?_⟩) (by assumption) ?_
    ·intro w c;go_simp
    (try simp only[pE])
    refine tk 15 ?_;try simp only[pE];refine AS (by kernel_rfl) ?_ _;go_wp2;go_ret;exact⟨by rw[m];rfl,(Da d).1,(Da d).2.trans ((Ag _ _).drew.mono (Da d).2.size)⟩
  ·have m:N=n:=by omega
   go_upto_region 2 with fail;refine AN (S:=fun _=>True) (by kernel_rfl) trivial (fun s=>?_);refine tk 0 ?_;try simp only[pE];refine tk 1 ?_;try simp only[pE];refine tk 2 ?_;try simp only[pE];refine tk 3 ?_;try simp only[pE];refine tk 4 ?_;try simp only[pE];refine Bc (i:=5) (v := .int .i64 (M:Nat)) rfl (by kernel_rfl) (by kernel_rfl) (by kernel_rfl) (fun _ _ _ h=>h) (Or.inl ⟨by rfl,?_⟩) (by assumption) ?_
   ·intro w c;go_simp;omega
   (try simp only[pE])
   refine Bc (i:=6) (v := .bool false) rfl (by kernel_rfl) (by kernel_rfl) (by kernel_rfl) (fun _ _ _ h=>h) (Or.inl ⟨by rfl,?_⟩) (by assumption) ?_
   ·intro w c;go_simp;omega
   (try simp only[pE])
   refine tk 7 ?_;try simp only[pE];refine tu 8 ?_
   (try simp only[pE])
   refine tu 9 ?_
   (try simp only[pE])
   refine tu 10 ?_
   (try simp only[pE])
   refine tu 11 ?_
   (try simp only[pE])
   refine tu 12 ?_
   (try simp only[pE])
   refine tu 13 ?_
   (try simp only[pE])
   refine tu 14 ?_
   (try simp only[pE])
   refine tk 15 ?_;try simp only[pE];refine AS (by kernel_rfl) ?_ _;go_wp2;go_ret;exact⟨by rw[m];rfl,(Da d).1,(Da d).2.trans ((Ag _ _).drew.mono (Da d).2.size)⟩
theorem UY(w:World)(b:Nat)(R:b<=w.heap.size)(v:Value)(s:By)(h:cP b w v s)(t:By)(hl:s.size+t.size<=4000000):
  ∃i n l w',(Builtin.append_ #[59,9] 59 #[v,.string t]).run Tryz.prog w = .ok (.slice i n l) w'/\cP b w' (.slice i n l) (s++t)/\Fr (Own v) w w'/\Dh w v (.slice i n l):=by
 obtain⟨q,x,H,A,I⟩:=Bn Qc;have z:Lib.strCells t=Dd t:=rfl;have X:∃d w',(Builtin.append_ #[59,9] 59 #[v,.string t]).run Tryz.prog w = .ok d w'/\Sl w' 5 1 d (s.size+t.size) (Dd s++Dd t)/\w.grownBy w' v.ownBlock/\Dh w v d:=by
  rcases h.1.2 with⟨rfl,M⟩|⟨g,a,L,rfl,G,h3,N,C,D⟩
  ·obtain⟨d,w',Y,B,Z,_⟩:=Lib.run_append_own_string (P:=Tryz.prog) w w.heap.size 59 9 59 5 q Tryz.underlying59 Tryz.underlying9 x H A I (.slice none 0 0) s.size (Dd s) ⟨h.1.1,.inl ⟨rfl,M⟩⟩ t (by unfold maxLen;omega) (by omega) (Aa _);rw[z]at B;exact⟨d,w',Y,Sl.of_owns B,Z,fun g r => .inr (B.lt g r).1⟩
  ·rw[Ci]at C D;by_cases y:s.size+t.size<=a
   ·have m:=Lib.run_append_room_string (P:=Tryz.prog) w 59 9 59 5 q Tryz.underlying59 Tryz.underlying9 x A g s.size a L.toArray G t y (by simpa [C] using y);rw[z]at m;refine⟨_,_,m,⟨by rw[Ab,Dj,Dj,Ci],.inr ⟨g,a,L.take s.size++Dd t++L.drop (s.size+t.size),rfl,Cu w g L.toArray _ 5 _ G,y,N,?_,?_⟩⟩,?_,fun k c => .inl c⟩
    ·simp only[Ab,Ar,AK,Dj];omega
    ·rw[D,Ci];have:s.size+t.size=(Dd s++Dd t).length:=by rw[Ab,Dj,Dj]
     rw[this];exact Fc
    ·exact⟨rfl,rfl,rfl,by simp,fun k _ c=>BZ w g k _ (fun e=>c (by simp[Value.ownBlock,e]))⟩
   ·have V:∀j u,(Dd s)[j]?=some u->w.cell? ((⟨g,0,none⟩:Addr).add j)=some u:=h.1.owns.cells (g:=g) rfl;have T:Builtin.nextslicecap (s.size+t.size) a*q.bytes<=281474976710656:=Fb (by omega) (by rw[I];omega);have m:=Lib.run_append_grow_string (P:=Tryz.prog) w 59 9 59 5 q _ Tryz.underlying59 Tryz.underlying9 x H ⟨g,0,none⟩ s.size a (Dd s) (by rw[Dj,A,Ci]) V t (by omega) (by omega) T;rw[z]at m;have U:=grownCap_ge w (s.size+t.size) a 5;have S:grownCap w (s.size+t.size) a 5<=maxLen:=Ew w (s.size+t.size) a 5 (by unfold maxLen;omega);have F:(Dd s++Dd t).length=(s.size+t.size)*1:=by rw[Ab,Dj,Dj,Ci]
    refine⟨_,_,m,⟨F,.inr ⟨w.heap.size,_,((Dd s).toArray++(Dd t).toArray++Builtin.zeroCells (Value.int .u8 0).cells (grownCap w (s.size+t.size) a 5-(s.size+t.size))).toList,rfl,by unfold FH;rw[Array.toArray_toList];exact Bs w.drew _,U,S,?_,?_⟩⟩,⟨rfl,rfl,rfl,by simp,fun k c _=>BE w.drew _ k c⟩,fun k c=>?_⟩
    ·simp only[Az,EH,AQ,C7,Dj];show _+_*1=_;omega
    ·simp only[Em,AC];rw[<-AC,<-F];exact Fc
    ·simp[Value.ownBlock]at c;omega
 obtain⟨d,w2,r1,J,o,K⟩:=X;obtain⟨i,n,l,rfl⟩:=J.shape;refine⟨i,n,l,w2,r1,⟨?_,fun g r=>(K g r).elim (h.2 g) (fun e=>Ae R e)⟩,⟨o.os,o.tape,o.output,o.size,fun k c Q=>o.block k c (fun e=>Q e.symm)⟩,K⟩;rw[KF,Ai];exact J
structure FV(w:World)(b n0 B4 B5 B7 pb db sb so:Nat)(E:FL)(p:By)(k:Nat)(f:Int)(vd:Value)(O0:Nat->Prop)(v0:Value)(st:Pl)(O:Nat->Prop)(v:Value)(t:By)(W:World):Prop where
 st:Gy n0 pb db sb so E st O W
 hO:∀j,O j->O0 j\/w.heap.size+3<=j
 b4:Boxed W B4 168 (.pointer (some ⟨pb,0,none⟩))
 b5:Boxed W B5 59 v
 b7:FH W B7 141 [.string p,.int .u8 k,.int .i64 f,vd]
 rs:cP b W v t
 hv:∀j,Own v j->Own v0 j\/w.heap.size+3<=j
 dis:∀j,O j->¬Own v j
 fr:Fr (fun j=>O0 j\/Own v0 j) w W
 sz:w.heap.size+3<=W.heap.size
structure IJ(w:World)(b n0 B4 B5 B7:Nat)(O0:Nat->Prop)(v0:Value):Prop where
 e4:B4=w.heap.size
 e5:B5=w.heap.size+1
 e7:B7=w.heap.size+2
 o0:∀j,O0 j->j<w.heap.size
 ov:∀j,Own v0 j->j<w.heap.size
 nv:∀j,Own v0 j->n0<=j
 nb:b<=w.heap.size
 n0w:n0<=w.heap.size
section
variable{w:World}{b n0 B4 B5 B7 pb db sb so:Nat}{E:FL}{p:By}{k:Nat}{f:Int}{vd:Value}{O0:Nat->Prop}{v0:Value}{st:Pl}{O:Nat->Prop}{v:Value}{t:By}{W W':World}
theorem FV.below(h:FV w b n0 B4 B5 B7 pb db sb so E p k f vd O0 v0 st O v t W)(a:Bw W W'):FV w b n0 B4 B5 B7 pb db sb so E p k f vd O0 v0 st O v t W':=
 ⟨h.st.abides (row:=none) ⟨a.os,a.tape,a.output,a.size,fun k c _=>a.block k c⟩ (fun r e=>by cases e),h.hO,(a.block _ h.b4.lt).trans h.b4,(a.block _ h.b5.lt).trans h.b5,(a.block _ h.b7.lt).trans h.b7,h.rs.below a,h.hv,h.dis,h.fr.then (Fr.of_below a (X:=fun _=>False)) (fun _ _ e=>e.elim),Ae h.sz a.size⟩
theorem FV.say(d:IJ w b n0 B4 B5 B7 O0 v0)(h:FV w b n0 B4 B5 B7 pb db sb so E p k f vd O0 v0 st O v t W){g:Value}{s:By}(n:cP b W' g s)(i:Fr (Own v) W W')(q:Dh W v g):FV w b n0 B4 B5 B7 pb db sb so E p k f vd O0 v0 st O g s (W'.setCell ⟨B5,0,none⟩ g):=by
 have e4:=d.e4;have e5:=d.e5;have e7:=d.e7;have ac:=h.sz;have aa:=i.size;have ab:=d.n0w;have m:∀B,w.heap.size<=B->B<w.heap.size+3->¬Own v B:=fun B l u e=>by
  rcases h.hv B e with c|c
  ·have:=d.ov B c;omega
  ·omega
 have r:∀j,Own g j->Own v0 j\/w.heap.size+3<=j:=fun j a=>(q j a).elim (h.hv j) (fun e => .inr (by omega))
 have D:∀B,w.heap.size<=B->B<w.heap.size+3->¬Own g B:=fun B l u e=>by
  rcases r B e with c|c
  ·have:=d.ov B c;omega
  ·omega
 have C:¬O B5:=fun e=>by
  rcases h.hO _ e with c|c
  ·have:=d.o0 _ c;omega
  ·omega
 have l:Gy n0 pb db sb so E st O W':=h.st.keeps i (fun j a=>⟨fun ho=>h.dis j ho a,(h.hv j a).elim (d.nv j) (fun e=>by omega)⟩);have o:Fr (fun j=>j=B5) W' (W'.setCell ⟨B5,0,none⟩ g):=(Fr.refl _ _).set _ _ rfl;have y:Boxed W' B4 168 _:=(i.block _ h.b4.lt (m _ (by omega) (by omega))).trans h.b4;have z:Boxed W' B5 59 _:=(i.block _ h.b5.lt (m _ (by omega) (by omega))).trans h.b5;have A:FH W' B7 141 _:=(i.block _ h.b7.lt (m _ (by omega) (by omega))).trans h.b7;refine⟨l.keeps o (fun j a=>⟨fun ho=>C (by rw[<-a];exact ho),by omega⟩),h.hO,y.other (by omega) _,z.set _,(AB _ _ _ _ (show B7≠B5 by omega)).trans A,⟨n.1.setCell _ _ (D B5 (by omega) (by omega)),n.2⟩,r,fun j ho a=>(q j a).elim (h.dis j ho) (fun e=>?_),?_,by simp[World.setCell];omega⟩
 ·obtain⟨cs,t,x⟩:=h.st.cells ho;have:=(Ah.1 x).1;omega
 ·refine(h.fr.then i (fun j a e=>(h.hv j e).elim .inr (fun e=>by omega))).then o (fun j a e=>by omega)
end
end Go.Proofs.YtaieidcohdhgpaaGreatDoor
