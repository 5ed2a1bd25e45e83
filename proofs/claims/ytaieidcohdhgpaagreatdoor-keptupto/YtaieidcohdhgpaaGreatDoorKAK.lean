/- Kept. -/
import Derived.Test.YtaieidcohdhgpaaGreatDoorKAJ
namespace Go.Proofs.YtaieidcohdhgpaaGreatDoor
variable{s:By}{F:By×Pl}{E:Ge}{G:Gh}{y:It}{ps:LB}{I:LF}{ns:LY}{ch:LY->List Ek}{ep:List Int}{L:List It}{C:NB}{V:NV}{a b c d db f i j k l pb stb tb:Nat}{O O':Nat->Prop}{o:Obj}{t:TypeId}{v ve vf vk vn:Value}{W X Y w w':World}
set_option maxHeartbeats 40000000
set_option maxRecDepth 100000
set_option linter.all false
section
open Tryz
open Go.RowKit Go.Shelf
attribute [local go_sem] Oper.semAt_some
def LZ(B0 tb qb l:Nat)(ns:LY)(X:World):Prop:=
 Gb X B0 37 [dP tb]/\Gb X (B0+1) 9 [dU (jn ns)]/\Gb X (B0+1+1) 247 [dP qb]/\Gb X (B0+1+1+1) 144 [.func (.yield l) #[] #[]]/\Gb X (B0+1+1+1+1) 4 [dV false]
theorem LZ.wk{n0:Nat}(h:LZ b tb c l ns X)(a:Hm n0 d c X Y)(h1:d<=b)(hq:c<b):LZ b tb c l ns Y:=
 ⟨a.row h.1 (.inr ⟨Ω,Ω,rfl⟩),a.row h.2.1 (.inr ⟨Ω,Ω,rfl⟩),a.row h.2.2.1 (.inr ⟨Ω,Ω,rfl⟩),a.row h.2.2.2.1 (.inr ⟨Ω,Ω,rfl⟩),a.row h.2.2.2.2 (.inr ⟨Ω,Ω,rfl⟩)⟩
theorem LZ.bn{B:Nat}(h:LZ b tb c l ns X)(a:G0 B X Y)(hB:b+5<=B):LZ b tb c l ns Y:=
 ⟨a.row h.1 Ω,a.row h.2.1 Ω,a.row h.2.2.1 Ω,a.row h.2.2.2.1 Ω,a.row h.2.2.2.2 Ω⟩
theorem Mq.entry{q:World}{E:NS}{o:Value}{C:IB}{e:NV}(H:Mq q tb d V E o G I C ch e)(l:Gd G d ns b){x:By×VS}(m:x∈E b):
  (∃c,x=(x.1,⟨some (dQ c 0),0⟩)/\Gd G d (ns++[x.1]) c)\/(∃(n:Nat) (r:VF),x=(x.1,⟨none,n⟩)/\n<60/\((n:Int),r)∈I/\e n=dT r.a r.l r.c):=by
 have g:=(H.tw.d.en ns b l _ _).1 m;rcases H.tw.d.c9 _ g with h|⟨c,h⟩;obtain⟨n,r,h1,i,j,k⟩:=H.num _ g h;refine .inr ⟨n,r,?_,i,j,k⟩;obtain⟨a,p,f⟩:=x;simp_all;refine .inl ⟨c,?_,?_⟩;grind;right;simp_all
theorem Gd.i1(a:Gp G)(h:Gd G c ns b):ns.length<=6/\GO ns:=by rcases h with⟨rfl,_⟩|h;exact⟨Θ,λn hn=>Γ⟩;exact⟨a.le _ h,a.az _ h⟩
theorem Wf{m:Nat}{P:Program}{f:FuncId}{tmps:Array Value}{assign body:Code}{R:Ending->World->Prop}(h:RoundIn Fence.wide m P l f tmps assign body w R):RoundIn (Fence.wide.inRound b) d P l f tmps assign body w R:=⟨trivial,λc a _=>h.2 c a (room_wide _)⟩
theorem Zgd{n0 r:Nat}(X:World)(o:Obj)(h:n0<=r):Below n0 X (X.putObj r o):=⟨rfl,rfl,rfl,Θ,by grind [World.putObj_heap_other]⟩
theorem Zn4(f:World)(tb rd:Nat)(V:NV)(E:NS)(vi:Value)(G:Gh)(I:LF)(C:IB)(ch:LY->List Ek)(dv:NV)(H:Mq f tb rd V E vi G I C ch dv)(L:List It)(l s a:Nat)(J:Nat->World->Prop)(bB:f.heap.size<=s)(a4:s<=a)(hJ:∀k A A',J k A->G0 s A A'->J k A')(hY:∀k W1,k<L.length->J k W1->YieldAt Fence.wide 1 prog l (LA dv L k) W1 λe W'=>e=dR (dV true)/\J (k+1) W'/\Lh f.heap.size s W1 W')(d:Nat)(a5:∀ns b K S W,Gd G rd ns b->7<=ns.length+d->(∀j y,(DY ch d ns S).1[j]?=some y->L[K+j]?=some y)->LD f a J K S W->
   Cl 170 #[dP tb,dP b,dU (jn ns),dP a,.func (.yield l) #[] #[]] W (TP f s a J (K+(DY ch d ns S).1.length) (DY ch d ns S).2 W))(ns:LY)(b K:Nat)(S:Gi)(w:World)(hd:Gd G rd ns b)(bA:7<=ns.length+(d+1))(hL:∀j y,(GS (DY ch d) ns (ch ns) S).1[j]?=some y->L[K+j]?=some y)(hw:LD f a J K S w):
  Cl 170 #[dP tb,dP b,dU (jn ns),dP a,.func (.yield l) #[] #[]] w (TP f s a J (K+(GS (DY ch d) ns (ch ns) S).1.length) (GS (DY ch d) ns (ch ns) S).2 w):=by
 obtain⟨W1,e1,x1,k1,s1,b1⟩:=Df w [dP tb] 37;obtain⟨W2,e2,x2,k2,s2,b2⟩:=Df W1 [dU (jn ns)] 9;obtain⟨W3,e3,x3,k3,s3,b3⟩:=Df W2 [dP a] 247;obtain⟨W4,e4,x4,k4,s4,b4⟩:=Df W3 [.func (.yield l) #[] #[]] 144;obtain⟨W5,e5,x5,k5,s5,b5⟩:=Df W4 [dV false] 4;obtain⟨v,e6,x6,k6,s6,b6⟩:=Df W5 [dP b] 307;have am:=b1.M ((b2.Q Ω).M ((b3.Q Ω).M ((b4.Q Ω).M ((b5.Q Ω).M (b6.Q Ω)))));have t1:W1.heap.size=w.heap.size+1:=Ω;have t2:W2.heap.size=w.heap.size+1+1:=Ω;have t3:W3.heap.size=w.heap.size+1+1+1:=Ω;have t4:W4.heap.size=w.heap.size+1+1+1+1:=Ω;have t5:W5.heap.size=w.heap.size+1+1+1+1+1:=Ω;have U:v.heap.size=w.heap.size+6:=Ω;rw[t1]at x2;rw[t2]at x3;rw[t3]at x4;rw[t4]at x5;rw[t5]at x6;have aS:LZ w.heap.size tb a l ns v:=⟨Γ,Γ,Γ,k6 _ _ _ (k5 _ _ _ x4),k6 _ _ _ x5⟩;have br:a<w.heap.size:=hw.s.lt;have aD:f.heap.size<=w.heap.size:=hw.t.size;have t:Gb w b 229 [V b]:=(hw.t.block _ (H.tw.d.row ns b hd).lt).M (H.tw.d.row ns b hd);have bs:=t.lt;have aX:∀g,(V b).ownBlock=some g->g<f.heap.size:=λg hg=>by obtain⟨R,T⟩:=(H.tw.d.sl ns b hd).type hg;exact T.lt
 have aU:Hm f.heap.size s a w v:=Hm.below am aD;have aB:=Db U;have a7:=Db aS;have bu:=Db am;have a8:=Db ((x6.J 0).M rfl);have ba:=Db ((am.J bs).M ((t.J 0).M rfl));have bh:=Db ((H.tw.d.sl ns b hd).e (Fr.S (hw.t.M (am.Q aD))) (λ_ _ e=>e));have bj:=Db (hw.bn hJ (G0.below am) Ω br aD);have be:=Db aU;have a9:=Db (H.ch ns b hd);have bg:=Db a5;have HY:=Db hY;have HL:=Db hL;have HJ:=Db hJ;have HH:=Db H;have bb:=Db aX;have aM:=Db e1;have aN:=Db e2;have aO:=Db e3;have aP:=Db e4;have aQ:=Db e5;have aR:=Db e6;have hc:=t.J 0;clear x1 x2 x3 x4 x5 x6 k1 k2 k3 k4 k5 k6 s1 s2 s3 s4 s5 s6 b1 b2 b3 b4 b5 b6 t1 t2 t3 t4 t5 U e1 e2 e3 e4 e5 e6 am t aS aU a5 hY hL hJ aX;refine(Bg (n:=3)).1 ?_;refine BY func170 rfl trivial ?_ rfl;simp only[ntmps170,AS,Ay,AR,Nat.reduceAdd,Nat.reduceSub,AY,AX,Be,A5,AH,AK]
 gi_wp2_with (refine⟨trivial,?_⟩;gi_at_call 179;apply(P9 _ _ trivial rfl _ _).Q;rintro e w'⟨rfl,rfl⟩)
 rw[Da aM,Da aN,Da aO,show W3.alloc (.cells #[.func (.yield l) #[] #[]] 144)=W4 from Da aP,show W4.alloc (.cells #[dV false] 4)=W5 from Da aQ,show W5.alloc (.cells #[dP b] 307)=v from Da aR];rename_i K0 bm;clear aM aN aO aP aQ aR;have U:=Da aB;refine ZgC (gf:=222) (lb:=#[.pointer (some ⟨w.heap.size+1+1+1+1+1,0,none⟩)]) rfl (EX func222 Φ rfl)
  (Zr4 (w.heap.size+1+1+1+1+1) b 0 (V b) (E b) (Ae (H.tw.d.le H.ok hd) H.gl) v Ω Ω (λ_ A B=>Below f.heap.size A B) (λg hg _ A B bk=>bk.block g (Da bb g hg)) (Da a8) (Da ba) (Da bh))
  (Ad _ _) Below.trans (λX o o' ho _=>Zgd X o' Ω) (ZpH _)
  (λk X=>LD f a J (K+(GS (DY ch d) ns ((ch ns).take k) S).1.length) (GS (DY ch d) ns ((ch ns).take k) S).2 X/\LZ w.heap.size tb a l ns X/\Hm f.heap.size s a w X)
  (λk A A' hA hc=>⟨hA.1.bn (Da HJ) hc Ω Ω Ω,hA.2.1.bn hc Ω,hA.2.2.bn hc Ω Ω⟩)
  ⟨by simpa [GS] using Da bj,Da a7,Da be⟩
  (λk a' X=>∃Bx x,(E b)[k]?=some x/\v.heap.size+2<=Bx/\Gb X Bx 260 [.pointer x.2.p,dI x.2.f]/\a'={ tmps:=#[dP tb,dP b,dU (jn ns),dP a,.func (.yield l) #[] #[],dP w.heap.size,undef,.pointer (some ⟨w.heap.size+1,0,none⟩),.pointer (some ⟨w.heap.size+1+1,0,none⟩),.pointer (some ⟨w.heap.size+1+1+1,0,none⟩),.pointer (some ⟨w.heap.size+1+1+1+1,0,none⟩),dU x.1,dP Bx,undef,dP b,dP b,dP b,.func (.func 222) #[] #[.pointer (some ⟨w.heap.size+1+1+1+1+1,0,none⟩)],dU x.1,.agg #[.pointer x.2.p,dI x.2.f],undef,undef,undef,undef,undef,undef,undef,undef,undef,undef,undef,undef,undef,undef,undef,undef,undef,undef,undef,undef,undef,undef,undef,undef,undef,undef],defers:=[] })
  (λk a' A A' hA hs hc hj=>by obtain⟨Bx,x,O,al,hr,ha⟩:=hA;exact⟨Bx,x,O,al,(hj Bx al).M hr,ha⟩)
  ?assign ?body ?done
 case assign=>
  rintro k X Kk hk⟨i,m,z⟩ D aY;obtain⟨x,O⟩:∃x,(E b)[k]?=some x:=⟨_,Ab hk⟩;rw[Tp O];have HX:=Db O;have bc:=Db aY;have HZ:=Db D;have Q:=Db i;have HB:=Db m;have HK:=Db z;clear U i m z O aY D
  gi_wp2
  have U:=Da aB;have aG:G0 (v.heap.size) X (X.alloc (.cells #[.pointer x.2.p,dI x.2.f] 260)):=G0.alloc _ _;exact Da bc _ _ ((El _ _).from _) ((Ad _ X).alloc (by grind [Da]) _) ⟨(Da Q).bn (Da HJ) aG Ω Ω Ω,(Da HB).bn aG Ω,(Da HK).bn aG Ω Ω⟩ ⟨X.heap.size,x,Da HX,Da HZ,Cn X _,rfl⟩
 case body=>
  rintro k a' X hk D⟨i,m,z⟩ ⟨Bx,x,O,al,t,rfl⟩;have aw:x∈E b:=Ai O;have aI:(ch ns)[k]?=some (Jk x):=by rw[Da a9,A8,O];rfl
  have aJ:=Yc (DY ch d) ns (ch ns) k _ aI S;have aH:=itL_at (DY ch d) ns (ch ns) k _ aI S;obtain⟨P,hP⟩:=ex (GS (DY ch d) ns ((ch ns).take k) S);rw[<-hP]at i aJ aH;have aE:∀j y,(Hx (DY ch d) ns P.2 (Jk x)).1[j]?=some y->L[K+P.1.length+j]?=some y:=λj y hj=>by rw[FO];exact Da HL _ _ (aH j y hj)
  obtain⟨bC,bq⟩:=Gd.i1 H.ok hd;have bz:=SX ns bq;have bD:x.1.size<=12:=by have h1:=H.ok.az _ ((H.tw.d.en ns b hd x.1 x.2).1 aw) x.1 Θ;simp_all[DZ,Bool.and_eq_true,decide_eq_true_eq]
  have bE:(jn ns).size+1<=9223372036854775807:=Ω;have bF:(jn ns).size+1+x.1.size<=9223372036854775807:=Ω;have aW:w.heap.size<=X.heap.size:=z.1.size;have ak:Hid (∀(a2:Act) Y,LD f a J (K+P.1.length+(Hx (DY ch d) ns P.2 (Jk x)).1.length) (Hx (DY ch d) ns P.2 (Jk x)).2 Y->Hm f.heap.size s a X Y->Yv v.heap.size (λA B=>Below f.heap.size A B) (λX=>LD f a J (K+(GS (DY ch d) ns ((ch ns).take (k+1)) S).1.length) (GS (DY ch d) ns ((ch ns).take (k+1)) S).2 X/\LZ w.heap.size tb a l ns X/\Hm f.heap.size s a w X) X .normal a2 Y):=λa2 Y h1 h2=>by refine⟨h2.a9 Ω Ω,h2.1,?_,m.wk h2 Ω Ω,z.M h2⟩;grind
  have ac:Hid (∀Y,Hm f.heap.size s a X Y->LZ w.heap.size tb a l ns Y/\Gb Y Bx 260 [.pointer x.2.p,dI x.2.f]):=λY h=>⟨m.wk h Ω Ω,h.row t (.inr ⟨Ω,Ω,rfl⟩)⟩;have F:Hid (∀c S' (y:It) (q:Gf),KY dv y=.agg q.toArray->(Hx (DY ch d) ns P.2 (Jk x)).1[0]?=some y->LD f a J (K+P.1.length) S' c->Hm f.heap.size s a X c->YieldAt Fence.wide 1 prog l #[.agg q.toArray] (c.alloc (.cells q.toArray 141)) λe Y=>e=dR (dV true)/\Hid (LD f a J (K+P.1.length+1) S' Y/\Hm f.heap.size s a X Y/\LZ w.heap.size tb a l ns Y/\Gb Y Bx 260 [.pointer x.2.p,dI x.2.f]/\Gb Y c.heap.size 141 q)):=λc S' y q hq bt h1 h2=>by have aF:=aE 0 y bt;have bG:w.heap.size<=c.heap.size:=Ae aW h2.1.size;have h3:=h1.bn (Da HJ) (G0.alloc (B:=c.heap.size) c (.cells q.toArray 141)) Ω Ω Ω;have hy:=Da HY _ (c.alloc (.cells q.toArray 141)) ((Ac.1 aF).1) h3.j;rw[Ep]at hy aF;rw[Tq aF,hq]at hy;apply hy.Q;rintro e Y⟨rfl,hj,aA⟩;have aK:Hm f.heap.size s a X Y:=h2.M ((Hm.below ((Ad _ c).alloc (Aa _) _) Ω).M (aA.wk a));refine⟨rfl,⟨hj,h3.t.M aA.1,aA.row h3.s (.inr ⟨a4,rfl⟩)⟩,aK,m.wk aK Ω Ω,aK.row t (.inr ⟨Ω,Ω,rfl⟩),?_⟩;exact aA.row (Cn c _) (.inr ⟨Ω,rfl⟩)
  have c0:=m.1.ca 0;have c1:=m.2.1.ca 0;have c2:=m.2.2.1.ca 0;have ay:=Db (ZtA ns x.1);have bv:=Db aJ;have aq:=Db aE;have HP:=Db hP;have aC:=Db aW;clear aH aJ hP aI aE;rcases H.entry hd aw with⟨b',aj,a6⟩|⟨n,r,aj,a1,bl,bn⟩
  .have an:Jk x=(x.1,none):=(by rw[aj];rfl);have ah:x.2=⟨some (dQ b' 0),0⟩:=(by rw[aj]);rw[ah]at t;have d0:=t.ca 0;have d1:=t.ca 1;have u:=Zru X (some (dQ tb 0)) (some (dQ a 0)) (jn ns++⟨#[47]⟩++x.1) (dQ b' 0) 0;rw[ZtE]at u;have ad:=Db u;rw[an]at F ak aq;rw[ah]at F ac ⊢;have Q:=Db i;have bi:=Db a6;have HK:=Db z;clear u aj an t i m z a6 ah aw O
   gi_wp2_with (fail)
   refine⟨trivial,?_⟩;apply(CQ _ (Bg.2 (Da ad))).Q;rintro e c⟨rfl,aa⟩;have ar:=Da aC;have au:=aa.size;have M:Hm f.heap.size s a X c:=Hm.below aa Ω;obtain⟨fn,tmps,assign,body,hy,T⟩:=Da F c P.2 ⟨ns++[x.1],1,0⟩ [dU (jn ns++⟨#[47]⟩++x.1),.int .u8 1,dI 0,dN] (by rw[Zrt,Da ay]) rfl ((Da Q).bn (Da HJ) (G0.below (B:=X.heap.size) aa) Ω Ω Ω) M;have R:=Db T;have N:=(Da ac c M).1;have e3:=(((Ad c.heap.size c).alloc (Aa _) (.cells #[dU (jn ns++⟨#[47]⟩++x.1),.int .u8 1,dI 0,dN] 141)).J (p:=⟨w.heap.size+1+1+1,0,none⟩) N.2.2.2.1.lt).M (N.2.2.2.1.ca 0);clear T F ac ad M N ar au aa c0 c1 c2 d0 d1 U D al
   gi_wp2
   apply(Wf (Da R)).Q;rintro e Y⟨rfl,ae⟩;obtain⟨ab,ag,af,ai,ao⟩:=Da ae;have f0:=af.1.ca 0;have f2:=af.2.2.1.ca 0;have f3:=af.2.2.2.1.ca 0;have fx:=ai.ca 0;have fm:=ao.ca 0;have ax:=Db ab;have ap:=Db ag;have u:=Da (Db (Da bg (ns++[x.1]) b' (K+P.1.length+1) P.2)) Y (Da bi) (by simp;omega) (λj y hj=>by have:=Da aq (j+1) y hj;grind) ab;rw[Da ay]at u;have aL:=Db u;clear R ae ab ag af ai ao e3 hy u
   gi_wp2_with (fail)
   refine⟨trivial,?_⟩;apply(CQ _ (Bg.2 (Da aL))).Q;rintro e Z⟨rfl,aZ,a0⟩;have bd:=Db aZ;have bf:=Db ((Da ap).M a0);clear aZ a0 aL f0 f2 f3 fx fm
   gi_wp2
   refine Da ak _ _ ?_ (Da bf);have D:=Da bd;rw[show K+P.1.length+1+(DY ch d (ns++[x.1]) P.2).1.length=K+P.1.length+((DY ch d (ns++[x.1]) P.2).1.length+1) by omega]at D;exact D
  .have an:Jk x=(x.1,some n):=(by rw[aj];rfl);have ah:x.2=⟨none,n⟩:=(by rw[aj]);rw[ah]at t;have d0:=t.ca 0;have d1:=t.ca 1;rw[an]at F ak aq;rw[ah]at F ac ⊢;have Q:=Db i;have HK:=Db z;cases hS:P.2 n with
   |true=>
    have u:=Zo8 X (some (dQ tb 0)) (jn ns++⟨#[47]⟩++x.1) n a1 a P.2 i.s hS;rw[ZtC]at u;have ad:=Db u;have av:Hx (DY ch d) ns P.2 (x.1,some n)=([⟨ns++[x.1],3,n⟩],P.2):=(by grind [Hx]);rw[av]at F ak;clear u aj an t i m z ah aw O hS av aq
    gi_wp2_with (fail)
    refine⟨trivial,?_⟩;apply(CQ _ (Bg.2 (Da ad))).Q;rintro e c⟨rfl,aa⟩;have ar:=Da aC;have au:=aa.size;have M:Hm f.heap.size s a X c:=Hm.below aa Ω;obtain⟨fn,tmps,assign,body,hy,T⟩:=Da F c P.2 ⟨ns++[x.1],3,n⟩ [dU (jn ns++⟨#[47]⟩++x.1),.int .u8 3,dI (n:Nat),dN] (by rw[Zo4,Da ay]) rfl ((Da Q).bn (Da HJ) (G0.below (B:=X.heap.size) aa) Ω Ω Ω) M;have R:=Db T;have N:=(Da ac c M).1;have e3:=(((Ad c.heap.size c).alloc (Aa _) (.cells #[dU (jn ns++⟨#[47]⟩++x.1),.int .u8 3,dI (n:Nat),dN] 141)).J (p:=⟨w.heap.size+1+1+1,0,none⟩) N.2.2.2.1.lt).M (N.2.2.2.1.ca 0);clear T F ac ad M N ar au aa c0 c1 c2 d0 d1 U D al
    gi_wp2
    apply(Wf (Da R)).Q;rintro e Y⟨rfl,ae⟩;obtain⟨ab,ag,af,ai,ao⟩:=Da ae;have fx:=ai.ca 0;have ax:=Db ab;have ap:=Db ag;clear R ae ab ag af ai ao e3 hy
    gi_wp2
    refine⟨trivial,?_⟩
    gi_wp2
    exact Da ak _ _ (Da ax) (Da ap)
   |false=>
    have aV:∀w',Fr (λk=>k=a) X w'->TW w' tb rd V E vi G I C:=λw' hf=>H.tw.below (B:=f.heap.size) (i.t.M ⟨hf.os,hf.tape,hf.output,hf.size,λj hj=>hf.block j Ω Ω⟩) (Aa _);have u:=Zo9 X tb rd V E vi G I C (H.tw.below i.t (Aa _)) H.il (jn ns++⟨#[47]⟩++x.1) n a1 r bl a P.2 i.s hS (by have:=H.tw.t.lt;omega) aV;have ad:=Db u;have av:Hx (DY ch d) ns P.2 (x.1,some n)=([⟨ns++[x.1],2,n⟩],P.2.add n):=(by grind [Hx]);rw[av]at F ak;clear u aj an t i m z ah aw O hS av aq aV
    gi_wp2_with (fail)
    refine⟨trivial,?_⟩;apply(CQ _ (Bg.2 (Da ad))).Q;rintro e c⟨rfl,a3,az⟩;rw[ZtD];have ar:=Da aC;have au:=az.size;have M:Hm f.heap.size s a X c:=Hm.e az Ω Ω;obtain⟨fn,tmps,assign,body,hy,T⟩:=Da F c (P.2.add n) ⟨ns++[x.1],2,n⟩ [dU (jn ns++⟨#[47]⟩++x.1),.int .u8 2,dI (n:Nat),dT r.a r.l r.c] (by rw[Zx,Da ay,bn]) rfl ⟨Da HJ _ _ _ (Da Q).j (G0.e az a4 (Da Q).s rfl),(Da Q).t.M M.1,a3⟩ M;have R:=Db T;have N:=(Da ac c M).1;have e3:=(((Ad c.heap.size c).alloc (Aa _) (.cells #[dU (jn ns++⟨#[47]⟩++x.1),.int .u8 2,dI (n:Nat),dT r.a r.l r.c] 141)).J (p:=⟨w.heap.size+1+1+1,0,none⟩) N.2.2.2.1.lt).M (N.2.2.2.1.ca 0);clear T F ac ad M N ar au az a3 c0 c1 c2 d0 d1 U D al
    gi_wp2
    apply(Wf (Da R)).Q;rintro e Y⟨rfl,ae⟩;obtain⟨ab,ag,af,ai,ao⟩:=Da ae;have fx:=ai.ca 0;have ax:=Db ab;have ap:=Db ag;clear R ae ab ag af ai ao e3 hy
    gi_wp2
    refine⟨trivial,?_⟩
    gi_wp2
    exact Da ak _ _ (Da ax) (Da ap)
 case done=>
  rintro X D⟨i,m,z⟩ hD;have bw:=m.2.2.2.2.ca 0;have bx:=m.2.2.2.2.A 0;have HD:=Db hD;have Q:=Db i;have HB:=Db m;have HK:=Db z;have HZ:=Db D;clear U hD i m z D;show K0 _ _;refine bm _ _ ?_
  gi_wp2
  have U:=Da aB;have D:=Da HZ;have aT:(X.setCell ⟨w.heap.size+1+1+1+1,0,none⟩ (dV true)).heap[v.heap.size]?=some (.deferred (some [])):=(Aw _ _ _ _ (show v.heap.size≠w.heap.size+1+1+1+1 by omega)).M (Da HD);refine⟨Θ,.inl ⟨_,_,rfl,BT aT,?_⟩⟩;have bp:Gb ((X.setCell ⟨w.heap.size+1+1+1+1,0,none⟩ (dV true)).putObj v.heap.size (.deferred none)) (w.heap.size+1+1+1+1) 4 [dV true]:=(BZ (show w.heap.size+1+1+1+1≠v.heap.size by omega)).M ((Da HB).2.2.2.2.set 0 (dV true));have g1:G0 w.heap.size X (X.setCell ⟨w.heap.size+1+1+1+1,0,none⟩ (dV true)):=⟨_,grownBy_setCell' X _ _,λr e=>by cases e;exact⟨Ω,_,(Da HB).2.2.2.2,.inr ⟨_,_,_,rfl,rfl⟩⟩⟩;have g2:G0 w.heap.size (X.setCell ⟨w.heap.size+1+1+1+1,0,none⟩ (dV true)) ((X.setCell ⟨w.heap.size+1+1+1+1,0,none⟩ (dV true)).putObj v.heap.size (.deferred none)):=G0.put _ Ω aT (.inl rfl);have bo:GS (DY ch d) ns ((ch ns).take (E b).length) S=GS (DY ch d) ns (ch ns) S:=by grind [List.take_of_length_le,Da,List.length_map]
  have i:=Da Q;rw[bo]at i;refine⟨_,by simp[results,results170,go_sem,(bp.ca 0)]<;>rfl,rfl,(i.bn (Da HJ) g1 Ω Ω Ω).bn (Da HJ) g2 Ω Ω Ω,((Da HK).bn g1 Ω Ω).bn g2 Ω Ω⟩
end
section
open Tryz
open Go.RowKit Go.Shelf
attribute [local go_sem] Oper.semAt_some
theorem Z1(c:World)(tb h:Nat)(V:NV)(E:NS)(i:Value)(G:Gh)(I:LF)(C:IB)(ch:LY->List Ek)(g:NV)(H:Mq c tb h V E i G I C ch g)(L:List It)(l a f:Nat)(J:Nat->World->Prop)(p:c.heap.size<=a)(q:a<=f)(n:∀k A A',J k A->G0 a A A'->J k A')(o:∀k W1,k<L.length->J k W1->YieldAt Fence.wide 1 prog l (LA g L k) W1 λe m=>e=dR (dV true)/\J (k+1) m/\Lh c.heap.size a W1 m):
  ∀(d:Nat) (ns:LY) (b K:Nat) (S:Gi) (w:World),Gd G h ns b->7<=ns.length+d->(∀j y,(DY ch d ns S).1[j]?=some y->L[K+j]?=some y)->LD c f J K S w->
   Cl 170 #[dP tb,dP b,dU (jn ns),dP f,.func (.yield l) #[] #[]] w (TP c a f J (K+(DY ch d ns S).1.length) (DY ch d ns S).2 w)
 |0,ns,b,K,S,w,hd,hlen,_,_=>by have:=(Gd.i1 H.ok hd).1;omega
 |d+1,ns,b,K,S,w,hd,hlen,hL,hw=>Zn4 c tb h V E i G I C ch g H L l a f J p q n o d (Z1 c tb h V E i G I C ch g H L l a f J p q n o d) ns b K S w hd hlen hL hw
theorem Znd:K4 (λ_=>false)=List.replicate 60 (dV false):=by rfl
def Dp(ch:LY->List Ek):List It:=(DY ch 7 [] (λ_=>false)).1
theorem Zr3(g x:World)(a tb f:Nat)(V:NV)(E:NS)(P:Value)(G:Gh)(I:LF)(C:IB)(ch:LY->List Ek)(q:NV)(H:Mq g tb f V E P G I C ch q)(t:Bw g x)(r:Gb x a 37 [dP tb]):
  Nb 169 #[dP a] (LA q (Dp ch)) (Dp ch).length (λn1 A B=>Lh g.heap.size n1 A B/\B.heap[a]?=A.heap[a]?) x:=λl J W u s L h0=>by
 have n:Gb W a 37 [dP tb]:=(u.block _ r.lt).M r;have m:=t.M (u.Q t.size);have z:=(n.J 0).M (rfl);obtain⟨i,D,Q,w,s1,b⟩:=Df W (List.replicate 60 (dV false)) 245;have Z:=(b.J (Ag _ _ z)).M z;have d2:i.cell? (dQ tb 0)=some (dP f):=((w _ _ _ ((m.block _ H.tw.t.lt).M H.tw.t)).J 0).M rfl;have d:=m.M (b.Q m.size);have N:LD g W.heap.size (λk X=>J k X/\Gb X a 37 [dP tb]) 0 (λ_=>false) i.drew:=⟨⟨s _ _ _ h0 (G0.below ⟨b.os,b.tape,b.output,b.size,b.block⟩),w _ _ _ n⟩,⟨d.os,d.tape,d.output,d.size,d.block⟩,by rw[Znd];exact Q⟩;have Y:Hid (Cl 170 #[dP tb,dP f,dU ⟨#[]⟩,dP W.heap.size,.func (.yield l) #[] #[]] i.drew λe w'=>e=dR (dV true)/\w'.cell? (dQ a 0)=some (dP tb)/\w'.cell? (dQ tb 0)=some (dP f)/\Hid (J (Dp ch).length w')):=(Z1 g tb f V E P G I C ch q H _ l _ _ _ m.size (Aa _) (λk A R h M=>⟨s k A R h.1 M,M.row h.2 (.inl n.lt)⟩) (λk i o h=>(L k i o h.1).Q λe W' ⟨v,c,o⟩=>⟨v,⟨c,o.2.M h.2⟩,o.1⟩) 7 [] f 0 _ _ (.inl ⟨rfl,rfl⟩) Θ (λj y c=>by rw[Av];exact c) N).Q λe w' ⟨v,O,ac⟩=>by have c:=O.j;rw[Av]at c;refine⟨v,(c.2.J 0).M rfl,(O.t.J (p:=dQ tb 0) H.tw.t.lt).M ((H.tw.t.J 0).M rfl),c.1⟩
 have T:=Db D;clear L s u r n m t Q w s1 b D N d H;go_enter func169,ntmps169;go_upto_region 0 with fail;refine A7 ?_;refine JG rfl 245 rfl ZsJ ?_;refine ER ?_;rw[Da T];try simp only[pE]
 go_upto_region 1 with fail;refine Az (S:=λX=>X.cell? (dQ a 0)=some _/\X.cell? (dQ tb 0)=some _) Φ ⟨Z,d2⟩ (λab=>?_);refine tk 0 ?_;refine tk 1 ?_;refine tr 2 ?_;refine tr 3 ?_;refine tk 4 ?_;refine tr 5 ?_;refine rk 6 (λK F=>?_);go_simp;go_at_call 170;apply(Da Y).Q;rintro e w'⟨rfl,q1,q2,U⟩;go_wp2_with fail;refine F.out _ _ ⟨q1,q2⟩ (λaa=>?_);clear F K;try simp only[pE]
 refine AL Φ ?_ _;go_wp2
 go_end0
 exact⟨⟨_,rfl⟩,Da U⟩
end
open Go.RowKit
def GE(d:By):Nat:=(d.size+64-1)/64
def Dv(E:Ge)(C:NB)(last:By)(st:Pl)(x:It):By×Pl:=
 if x.k=1 then(D2 last (jn x.ns) 1++DO last (jn x.ns),st)
 else if x.k=3 then(D2 last (jn x.ns) 3++DO last (jn x.ns)++⟨#[UInt8.ofNat x.f]⟩,st)
 else(D2 last (jn x.ns) 2++DO last (jn x.ns)++⟨#[UInt8.ofNat x.f]⟩++Ju (C x.f).size 2++Kf E x.f (C x.f) st 0 (List.range (GE (C x.f))),
  E.U (De 4 x.f) (GN (C x.f)) st 0 (List.range (GE (C x.f))))
def Dq(E:Ge)(C:NB):By->Pl->List It->By×Pl
 |_,st,[]=>(⟨#[]⟩,st)
 |last,st,x::xs=>((Dv E C last st x).1++(Dq E C (jn x.ns) (Dv E C last st x).2 xs).1,(Dq E C (jn x.ns) (Dv E C last st x).2 xs).2)
def KU:By->List It->By
 |last,[]=>last
 |_,x::xs=>KU (jn x.ns) xs
theorem V4:∀(last:By) (xs:List It) (x:It),KU last (xs++[x])=jn x.ns
 |_,[],_=>rfl
 |_,y::xs,x=>V4 _ xs x
theorem ZX(E:Ge)(C:NB):∀(last:By) (st:Pl) (xs:List It) (x:It),Dq E C last st (xs++[x])=((Dq E C last st xs).1++(Dv E C (KU last xs) (Dq E C last st xs).2 x).1,(Dv E C (KU last xs) (Dq E C last st xs).2 x).2)
 |last,st,[],x=>by show((Dv E C last st x).1++⟨#[]⟩,(Dv E C last st x).2)=(⟨#[]⟩++(Dv E C last st x).1,(Dv E C last st x).2);rw[UJ,Zt3]
 |last,st,y::xs,x=>by show((Dv E C last st y).1++(Dq E C (jn y.ns) (Dv E C last st y).2 (xs++[x])).1,(Dq E C (jn y.ns) (Dv E C last st y).2 (xs++[x])).2)=_;rw[ZX E C (jn y.ns) (Dv E C last st y).2 xs x];show(_++(_++_),_)=((_++_)++_,_);rw[JS];rfl
structure GV(C:NB)(L:List It):Prop where
 len:L.length<=100
 a8:∀x∈L,x.k=1\/x.k=2\/x.k=3
 c7:∀x∈L,(jn x.ns).size<=100
 num:∀x∈L,x.f<60
 size:∀x∈L,x.k=2->(C x.f).size<=1280
 fresh:∀(i j:Nat) x y,i<j->L[i]?=some x->L[j]?=some y->x.k=2->y.k=2->x.f≠y.f
theorem PP{d:By}(h:d.size<=1280):GE d<=20:=by grind [GE]
theorem Zp(a p:By):(DO a p).size<=p.size:=by grind [DO,ByteArray.size_extract]
theorem ZtT(E:Ge)(C:NB)(a:By)(st:Pl)(x:It)(hp:(jn x.ns).size<=100)(c:x.k=2->(C x.f).size<=1280)(b:x.k=1\/x.k=2\/x.k=3):
  (Dv E C a st x).1.size<=306/\(Dv E C a st x).2.U.length<=st.U.length+20/\(Dv E C a st x).2.ps.length<=st.ps.length+20/\(st.hd<=1536->(Dv E C a st x).2.hd<=1536)/\
  ∀y∈(Dv E C a st x).2.U,y∈st.U\/(x.k=2/\∃j,j<20/\y.1=De 4 x.f j):=by
 have ht:=Zp a (jn x.ns);have ha:∀k,(D2 a (jn x.ns) k).size=3:=λk=>rfl;have h1:∀u:UInt8,(⟨#[u]⟩:By).size=1:=λu=>rfl;unfold Dv;rcases b with e|e|e;grind;have hn:=PP (c e);obtain⟨l1,l2,l3⟩:=Ge.am E (De 4 x.f) (GN (C x.f)) st 0 (List.range (GE (C x.f)));grind [ByteArray.size_append,Q9,RX,List.length_range,Ge.af];grind
theorem UO(E:Ge)(C:NB):∀(last:By) (st:Pl) (xs:List It),(∀x∈xs,(jn x.ns).size<=100/\(x.k=2->(C x.f).size<=1280)/\(x.k=1\/x.k=2\/x.k=3))->
  (Dq E C last st xs).1.size<=306*xs.length/\(Dq E C last st xs).2.U.length<=st.U.length+20*xs.length/\(Dq E C last st xs).2.ps.length<=st.ps.length+20*xs.length/\(st.hd<=1536->(Dq E C last st xs).2.hd<=1536)/\
  ∀y∈(Dq E C last st xs).2.U,y∈st.U\/∃x∈xs,x.k=2/\∃j,j<20/\y.1=De 4 x.f j
 |last,st,[],_=>⟨Aa _,Aa _,Aa _,id,λy a => .inl a⟩
 |last,st,x::xs,h=>by obtain⟨i,k,l⟩:=h x Θ;obtain⟨a1,a2,a3,b,c⟩:=ZtT E C last st x i k l;obtain⟨b1,b2,b3,d,f⟩:=UO E C (jn x.ns) (Dv E C last st x).2 xs (λy a=>h y (AO _ a));refine⟨?_,?_,?_,λh=>d (b h),λy a=>?_⟩;show((Dv E C last st x).1++_).size<=_;rw[Aj,Ay];omega;show(Dq E C _ _ xs).2.U.length<=_;rw[Ay];omega;show(Dq E C _ _ xs).2.ps.length<=_;rw[Ay];omega;rcases f y a with h|⟨z,g,r⟩;rcases c y h with h|⟨e,r⟩;exact .inl h;exact .inr ⟨x,Θ,e,r⟩;exact .inr ⟨z,AO _ g,r⟩
theorem R4(hi:i<65536)(hj:j<65536)(_hf:f<65536)(_hf':a<65536)(h:De b f i=De b a j):f=a:=by grind [De]
theorem O7{kk':Nat}(hi:i<65536)(hj:j<65536)(hf:f<65536)(aa:a<65536)(h:De b f i=De kk' a j):b=kk':=by grind [De]
theorem GV.a5(h:GV C L)(E:Ge)(st0:Pl)(p:st0.U=[])(q:st0.ps=[])(r:st0.hd<=1536)(k:Nat)(x:It)(d:L[k]?=some x):
  (Dq E C ⟨#[]⟩ st0 (L.take k)).1.size<=30600/\(Dq E C ⟨#[]⟩ st0 (L.take k)).2.U.length<=2000/\(Dq E C ⟨#[]⟩ st0 (L.take k)).2.ps.length<=2000/\(Dq E C ⟨#[]⟩ st0 (L.take k)).2.hd<=1536/\
  (x.k=2->∀y∈(Dq E C ⟨#[]⟩ st0 (L.take k)).2.U,∀i,i<1000->y.1≠De 4 x.f i)/\(KU ⟨#[]⟩ (L.take k)).size<=100:=by
 have ac:=(Ac.1 d).1;have ab:=h.len;have ad:(L.take k).length=k:=Γ;obtain⟨b1,f,g,n,l⟩:=UO E C ⟨#[]⟩ st0 (L.take k) (λz a=>⟨h.c7 z (BS a),h.size z (BS a),h.a8 z (BS a)⟩);rw[p]at f l;rw[q]at g;simp only[AR]at f g;refine⟨Ω,Ω,Ω,n r,λs y b i hi e=>?_,?_⟩;rcases l y b with hn|⟨z,a,u,j,hj,o⟩;grind;obtain⟨m,c⟩:=BO.1 a;rw[AZ]at c;split at c;rename_i t;have hf:=h.num z (BS a);have aa:=h.num x (Ai d);exact h.fresh m k z x t c d u s (R4 Ω Ω Ω Ω (o.r.M e));simp_all;cases k with
 |zero=>exact Ao _
 |succ k=>
  obtain⟨y,b⟩:∃y,L[k]?=some y:=Γ;rw[Br,b,EH,V4];exact h.c7 y (Ai b)
def Kr(E:Ge)(R:Nat->Nat)(B:NB):Pl->Nat->List Nat->By
 |_,_,[]=>⟨#[]⟩
 |st,i,x::xs=>D7 (E.put st (R i) (B x)).1 (Dr (B x))++Kr E R B (E.put st (R i) (B x)).2 (i+1) xs
theorem RZ(E:Ge)(R:Nat->Nat)(B:NB):∀(st:Pl) (i:Nat) (xs:List Nat) (x:Nat),Kr E R B st i (xs++[x])=Kr E R B st i xs++D7 (E.put (E.U R B st i xs) (R (i+xs.length)) (B x)).1 (Dr (B x))
 |st,i,[],x=>by rfl
 |st,i,y::xs,x=>by show D7 _ _++Kr E R B _ (i+1) (xs++[x])=D7 _ _++Kr E R B _ (i+1) xs++_;rw[RZ E R B _ (i+1) xs x,JS,Ay,show i+1+xs.length=i+(xs.length+1) by omega];rfl
theorem RY(E:Ge)(R:Nat->Nat)(B:NB):∀(st:Pl) (i:Nat) (xs:List Nat),(Kr E R B st i xs).size=10*xs.length
 |st,i,[]=>rfl
 |st,i,x::xs=>by show(D7 _ _++Kr E R B _ (i+1) xs).size=_;rw[Aj,Pg,RY E R B _ (i+1) xs,Ay];omega
def DG(E:Ge)(kk:UInt8)(sz below:Nat)(st:Pl)(s:By):By×Pl:=
 (Kr E (De kk.toNat below) (Dy kk s sz) st 0 (List.range ((s.size+sz-1)/sz)),E.U (De kk.toNat below) (Dy kk s sz) st 0 (List.range ((s.size+sz-1)/sz)))
def DU(E:Ge):Nat->Nat->Pl->By->By×Pl
 |0,_,st,s=>(s,st)
 |d+1,below,st,s=>if 10<s.size then DU E d (below+1) (DG E 2 60 below st s).2 (DG E 2 60 below st s).1 else(s,st)
def JK(E:Ge)(C:NB)(st:Pl)(L:List It):By×Pl:=
 DU E 8 1 (DG E 3 63 0 (Dq E C ⟨#[]⟩ st L).2 ((Dq E C ⟨#[]⟩ st L).1++⟨#[0]⟩)).2 (DG E 3 63 0 (Dq E C ⟨#[]⟩ st L).2 ((Dq E C ⟨#[]⟩ st L).1++⟨#[0]⟩)).1
theorem Hv.bh{n0 sb so:Nat}{st:Pl}(h:Hv n0 pb db sb so E st O W)(c:O j):∃L t,Gb W j t L/\TT t=false:=by obtain⟨_,_,_,va,es,vp,b,_,_,_,d⟩:=h;rcases(d j).1 c with rfl|e|e;exact⟨_,_,b.row,rfl⟩;obtain⟨R,a⟩:=b.sa.type e;exact⟨R,350,a,rfl⟩;obtain⟨R,a⟩:=Sl.type b.sp e;exact⟨R,207,a,rfl⟩
theorem GD.bh(h:GD b w v s){g:Nat}(a:Own v g):∃L,Gb w g 5 L:=h.1.type a
theorem RA{L:Gf}(h:Gb W j t L)(ht:TT t=false)(ho:W.heap[j]?=some o):¬QW o:=λhm=>by rw[h]at ho;grind [Yk]
theorem Sr{L:Gf}(h:Gb W j t L)(ho:W.heap[j]?=some o):o.isCells=true:=by rw[h]at ho;cases ho;rfl
structure Ir(w:World)(n0 n1 pb db sb so tb:Nat)(E:Ge)(O0:Nat->Prop)(st:Pl)(s last:By)(v:Value)(O:Nat->Prop)(W:World):Prop where
 st:Hv n0 pb db sb so E st O W
 hO:∀j,O j->O0 j\/n1<=j
 b0:Gb W w.heap.size 168 [dP pb]
 b1:Gb W (w.heap.size+1) 59 [v]
 b2:Gb W (w.heap.size+1+1) 9 [dU last]
 b3:Gb W (w.heap.size+1+1+1) 37 [dP tb]
 rs:GD n1 W v s
 ar:∀j,O j->¬Own v j
 e:Fr O0 w W
 sz:w.heap.size+4<=W.heap.size
structure Nv(w:World)(n0 n1:Nat)(O0:Nat->Prop):Prop where
 o0:∀j,O0 j->j<w.heap.size
 n1:w.heap.size+4<=n1
 n0:n0<=w.heap.size
section
variable{w:World}{n0 n1 pb db sb so tb:Nat}{E:Ge}{O0:Nat->Prop}{st:Pl}{s last:By}{v:Value}{O:Nat->Prop}{W W':World}
theorem Ir.go(d:Nv w n0 n1 O0)(h:Ir w n0 n1 pb db sb so tb E O0 st s last v O W){Z:Nat->Prop}(a:Fr Z W W')(f:∀j,Z j->¬O j/\¬Own v j/\w.heap.size+4<=j):Ir w n0 n1 pb db sb so tb E O0 st s last v O W':=by have h2:=d.n0;have b:∀{j t L},Gb W j t L->j<w.heap.size+4->Gb W' j t L:=λ{j t L} c hj=>(a.block _ c.lt Γ).M c;refine⟨h.st.a9 a Γ,h.hO,b h.b0 Ω,b h.b1 Ω,b h.b2 Ω,b h.b3 Ω,⟨h.rs.1.e a (λg i e=>(f g e).2.1 i),h.rs.2⟩,h.ar,h.e.then a Γ,Ae h.sz a.size⟩
theorem Ir.bn(d:Nv w n0 n1 O0)(h:Ir w n0 n1 pb db sb so tb E O0 st s last v O W)(f:G0 (w.heap.size+4) W W'):Ir w n0 n1 pb db sb so tb E O0 st s last v O W':=by obtain⟨row,a,m⟩:=f;refine h.go d (Z:=λj=>row=some j) ⟨a.os,a.tape,a.output,a.size,λk i hX=>a.block k i Γ⟩ (λj g=>?_);obtain⟨c,o,ho,l⟩:=m j g;refine⟨λe=>?_,λe=>?_,c⟩;obtain⟨L,t,b,ht⟩:=h.st.bh e;grind [RA];obtain⟨L,b⟩:=h.rs.bh e;exact RA b rfl ho l
theorem Ir.au(g:Nv w n0 n1 O0)(hz:n1<=W.heap.size)(h:Ir w n0 n1 pb db sb so tb E O0 st s last v O W){n:Pl}{m:By}{a:Value}(r:Hv n0 pb db sb so E n O' W')(i:GD n1 W' a m)(o:∀j,O' j->O j\/W.heap.size<=j)(p:∀j,O' j->¬Own a j)(b:Fr (λj=>O j\/Own v j) W W'):
  Ir w n0 n1 pb db sb so tb E O0 n m last a O' (W'.setCell ⟨w.heap.size+1,0,none⟩ a)/\Fr (λj=>O j\/Own v j\/j=w.heap.size+1) W (W'.setCell ⟨w.heap.size+1,0,none⟩ a):=by
 have h1:=g.n1;have h2:=g.n0;have h4:=b.size;have nO:∀B,w.heap.size<=B->B<n1->¬O B:=λB x y e=>by rcases h.hO B e with q|q;have:=g.o0 B q;omega;omega
 have nV:∀B,B<n1->¬Own v B:=λB q e=>by have:=h.rs.2 B e;omega
 have u:∀B,B<n1->¬Own a B:=λB q e=>by have:=i.2 B e;omega
 have f:∀{j t L},Gb W j t L->w.heap.size<=j->j<n1->Gb W' j t L:=λ{j t L} d x y=>(b.block _ d.lt Γ).M d;have k:Fr (λj=>j=w.heap.size+1) W' (W'.setCell ⟨w.heap.size+1,0,none⟩ a):=(Fr.refl _ _).set _ _ rfl;have l:∀{j t L},Gb W' j t L->j≠w.heap.size+1->Gb (W'.setCell ⟨w.heap.size+1,0,none⟩ a) j t L:=λd c=>(Aw _ _ _ _ c).M d;refine⟨⟨r.a9 k Γ,(λj c=>(o j c).elim (h.hO j) Ω),l (f h.b0 Ω Ω) Ω,(f h.b1 Ω Ω).set 0 a,l (f h.b2 Ω Ω) Ω,l (f h.b3 Ω Ω) Ω,⟨i.1.setCell _ _ (u (w.heap.size+1) Ω),i.2⟩,p,?_,by grind [World.setCell]⟩,?_⟩;refine(h.e.then b (λj c e=>?_)).then k Ω;rcases e with e|e;exact(h.hO j e).elim id Ω;grind;exact(b.Q Γ).then k Ω
theorem Ir.c7(a:Nv w n0 n1 O0)(h:Ir w n0 n1 pb db sb so tb E O0 st s last v O W)(p:By):
  Ir w n0 n1 pb db sb so tb E O0 st s p v O (W.setCell ⟨w.heap.size+1+1,0,none⟩ (dU p))/\Fr (λj=>j=w.heap.size+1+1) W (W.setCell ⟨w.heap.size+1+1,0,none⟩ (dU p)):=by
 have h1:=a.n1;have h2:=a.n0;have h3:=h.sz;have nO:¬O (w.heap.size+1+1):=λe=>by rcases h.hO _ e with q|q;have:=a.o0 _ q;omega;omega
 have g:¬Own v (w.heap.size+1+1):=λe=>by have:=h.rs.2 _ e;omega
 have b:Fr (λj=>j=w.heap.size+1+1) W (W.setCell ⟨w.heap.size+1+1,0,none⟩ (dU p)):=(Fr.refl _ _).set _ _ rfl;have c:∀{j t L},Gb W j t L->j≠w.heap.size+1+1->Gb (W.setCell ⟨w.heap.size+1+1,0,none⟩ (dU p)) j t L:=λf d=>(Aw _ _ _ _ d).M f;exact⟨⟨h.st.a9 b Γ,h.hO,c h.b0 Ω,c h.b1 Ω,h.b2.set 0 _,c h.b3 Ω,⟨h.rs.1.setCell _ _ g,h.rs.2⟩,h.ar,h.e.then b Ω,Ξ⟩,b⟩
theorem Ir.a9(d:Nv w n0 n1 O0)(_hz:n1<=W.heap.size)(h:Ir w n0 n1 pb db sb so tb E O0 st s last v O W)(b:Fr (λj=>O j\/Own v j\/j=w.heap.size+1\/j=w.heap.size+1+1) W W'):
  Lh n0 n1 W W'/\W'.heap[w.heap.size+1+1+1]?=W.heap[w.heap.size+1+1+1]?/\∀(k:Nat) (o:Obj),W.heap[k]?=some o->o.isCells=false->W'.heap[k]?=some o:=by
 have h1:=d.n1;have h2:=d.n0;have lo:=h.st.2.1;refine⟨⟨⟨b.os,b.tape,b.output,b.size,λk f=>b.block k Ω (λe=>?_)⟩,λk o f ho g=>(b.block k (Au.1 ho).1 (λe=>?_)).M ho⟩,b.block _ h.b3.lt (λe=>?_),λk o ho a=>(b.block k (Au.1 ho).1 (λe=>?_)).M ho⟩;rcases e with e|e|e|e;grind;have:=h.rs.2 k e;omega;omega;omega;rcases e with e|e|e|e;obtain⟨L,t,c,i⟩:=h.st.bh e;grind [RA];obtain⟨L,c⟩:=h.rs.bh e;exact RA c rfl ho g;omega;omega;rcases e with e|e|e|e;rcases h.hO _ e with q|q;have:=d.o0 _ q;omega;omega;have:=h.rs.2 _ e;omega;omega;omega;rcases e with e|e|e|e;obtain⟨L,t,c,i⟩:=h.st.bh e;rw[Sr c ho]at a;cases a;obtain⟨L,c⟩:=h.rs.bh e;rw[Sr c ho]at a;cases a;subst e;rw[Sr h.b1 ho]at a;cases a;subst e;rw[Sr h.b2 ho]at a;cases a
end
theorem itmV_1(a:NV)(ns:LY)(f:Nat):KY a ⟨ns,1,f⟩=.agg #[dU (jn ns),.int .u8 1,dI (f:Nat),dN]:=rfl
theorem entP_1(E:Ge)(C:NB)(a:By)(st:Pl)(ns:LY)(f:Nat):Dv E C a st ⟨ns,1,f⟩=(D2 a (jn ns) 1++DO a (jn ns),st):=if_pos rfl
theorem entP_2(E:Ge)(C:NB)(a:By)(st:Pl)(ns:LY)(f:Nat):Dv E C a st ⟨ns,2,f⟩=(D2 a (jn ns) 2++DO a (jn ns)++⟨#[UInt8.ofNat f]⟩++Ju (C f).size 2++Kf E f (C f) st 0 (List.range (GE (C f))),E.U (De 4 f) (GN (C f)) st 0 (List.range (GE (C f)))):=(if_neg Θ).M Γ
theorem ZpD(X:World)(n0 m pb o p so:Nat)(E:Ge)(P:GI E)(S:∃j,j<96/\E.nd j<=0)(st:Pl)(O:Nat->Prop)(t:Hv n0 pb o p so E st O X)(a:OA)(l c:Nat)(s:By)(r:GD m X (dT a l c) s)(w:∀j,O j->¬Own (dT a l c) j)(x:m<=X.heap.size)(U:n0<=m)(C:NB)(B:NV)(y:It)(G:y.k=1\/y.k=2\/y.k=3)(V:(jn y.ns).size<=100)(R:y.f<60)(I:y.k=2->(C y.f).size<=1280)(d:By)(ab:d.size<=100)(F:y.k=2->∃u n v,B y.f=dT u n v/\Sl X 5 1 (dT u n v) n (Dd (C y.f))/\∀g,Own (dT u n v) g->g<n0)(q1:s.size<=30600)(q2:st.U.length<=2000)(q3:st.ps.length<=2000)(q4:st.hd<=1536)(J:y.k=2->∀z∈st.U,∀i,i<1000->z.1≠De 4 y.f i):
  Cl 236 #[dP pb,dT a l c,dU d,KY B y] X (UP X m n0 pb o p so E O (dT a l c) (Dv E C d st y).2 (s++(Dv E C d st y).1)):=by
 have q:∀j,Own (dT a l c) j->n0<=j:=λj e=>Ae U (r.2 j e);obtain⟨ns,k,f⟩:=y;simp only at G V R I F J;rcases G with rfl|rfl|rfl;have h:=ZpC X m n0 pb o p so E st O t a l c s r Ω w q x d (jn ns) Ω Ω f Ω dN ⟨_,_,_,rfl⟩;rw[JS]at h;rw[itmV_1,entP_1];exact h;obtain⟨u,n,v,M,D,T⟩:=F rfl;have A:n=(C f).size:=by have:=D.1;grind [Dh]
 have hn:=PP (I rfl);rw[Zx,M,entP_2];rcases D.2 with⟨e,h0⟩|⟨g,K,L,e,Q,N,_⟩;have h:=Zlo X m n0 pb o p so E st O t a l c s r Ω w q x d (jn ns) Ω Ω f Ω;have Z:(C f).size=0:=Ω;have H:GE (C f)=0:=by grind [GE]
 have W:E.U (De 4 f) (GN (C f)) st 0 (List.range (GE (C f)))=st:=by rw[H];rfl
 have Y:Kf E f (C f) st 0 (List.range (GE (C f)))=⟨#[]⟩:=by rw[H];rfl
 rw[JS,JS,JS]at h;rw[e,W,Y,UJ,JS,JS,Z];exact h;have aa:=T g (by rw[e];rfl);have h:=ZnF X m n0 pb o p so E st O t a l c s r Ω w q x d (jn ns) Ω Ω f Ω g 0 n K (C f) (GD.cc (b:=0) ⟨Ξ,λ_ _=>Ao _⟩) N Ω (λe=>by have:=t.2.1 g e;omega) (λe=>by have:=q g e;omega) Q.lt P S 1000 Ω Ω Ω q4 (J rfl) (GE (C f)) (by rw[A];rfl) Ω;rw[JS,JS,JS,JS,A]at h;rw[e,A,JS,JS,JS];exact h;have h:=ZnE X m n0 pb o p so E st O t a l c s r Ω w q x d (jn ns) Ω Ω f Ω dN ⟨_,_,_,rfl⟩;rw[JS,JS]at h;exact h
def Po(X:World)(n0 pb db sb so:Nat)(E:Ge)(O:Nat->Prop)(st':Pl)(s':By)(e:Ending)(w6:World):Prop:=
 ∃a' l' c' O',e=dR (dT a' l' c')/\Hv n0 pb db sb so E st' O' w6/\GD X.heap.size w6 (dT a' l' c') s'/\(∀j,O' j->O j\/X.heap.size<=j)/\(∀j,O' j->¬Own (dT a' l' c') j)/\Fr O X w6
theorem GD.some{a:OA}(h:GD b w (dT a l c) s)(hs:1<=s.size):∃g,a=some (dQ g 0)/\l=s.size/\s.size<=c/\g<w.heap.size:=by rcases h.1.2 with⟨_,h0⟩|⟨g,aa,L,e,d,q,_⟩;omega;cases e;exact⟨g,rfl,rfl,q,d.lt⟩
theorem ZqQ(X:World)(n0 pb f m so:Nat)(E:Ge)(w:GI E)(d:∃j,j<96/\E.nd j<=0)(st:Pl)(O:Nat->Prop)(k:Hv n0 pb f m so E st O X)(b:Nat)(a:OA)(l c:Nat)(s:By)(n:GD b X (dT a l c) s)(y:∀j,O j->¬Own (dT a l c) j)(u:1<=s.size)(v:s.size<60000)(D:st.U.length+1000<=10000)(F:st.ps.length+1000<=1000000)(G:st.hd<=1536)(H:∀z∈st.U,∀i,i<1000->z.1≠De 3 0 i):
  Cl 237 #[dP pb,.int .u8 3,dI ((0:Nat):Int),dT a l c] X (Po X n0 pb f m so E O (DG E 3 63 0 st s).2 (DG E 3 63 0 st s).1):=by
 obtain⟨g,rfl,rfl,B,A⟩:=n.some u;refine(Ze 3 63 Γ X 1000 Ω n0 pb 0 Ω g 0 _ c s n.cc B v _ _ _ O O (λo=>Kr E (De 3 0) (Dy 3 s 63) st 0 o) k.2.2.1
  (XT 1000 n0 pb f m so E w d st D F G 3 0 H s 63) rfl (λo x=>by simp_all[RZ,De,Dy,Nat.zero_add]) (RY E _ _ st 0) k (λ_ h=>h) (λj d=>by obtain⟨cs,t,hb⟩:=k.cells d;grind) (λe=>y g e rfl) A _ rfl Ω).Q ?_
 rintro e w6⟨q,C,r,O',rfl,p,I,r3,J,K⟩;exact⟨q,C,r,O',rfl,I,⟨p.1,λj d=>by have:=p.2 j d;omega⟩,Γ,J,K⟩
theorem ZqR(X:World)(n0 pb k n so:Nat)(E:Ge)(y:GI E)(f:∃j,j<96/\E.nd j<=0)(st:Pl)(O:Nat->Prop)(m:Hv n0 pb k n so E st O X)(b:Nat)(a:OA)(l c:Nat)(s:By)(o:GD b X (dT a l c) s)(B:∀j,O j->¬Own (dT a l c) j)(d:Nat)(A:d<65536)(v:1<=s.size)(w:s.size<60000)(G:st.U.length+1000<=10000)(H:st.ps.length+1000<=1000000)(I:st.hd<=1536)(J:∀z∈st.U,∀i,i<1000->z.1≠De 2 d i):
  Cl 237 #[dP pb,.int .u8 2,dI (d:Nat),dT a l c] X (Po X n0 pb k n so E O (DG E 2 60 d st s).2 (DG E 2 60 d st s).1):=by
 obtain⟨g,rfl,rfl,D,C⟩:=o.some v;refine(Ze 2 60 Γ X 1000 Ω n0 pb d A g 0 _ c s o.cc D w _ _ _ O O (λp=>Kr E (De 2 d) (Dy 2 s 60) st 0 p) m.2.2.1
  (XT 1000 n0 pb k n so E y f st G H I 2 d J s 60) rfl (λp x=>by simp_all[RZ,De,Dy,Nat.zero_add]) (RY E _ _ st 0) m (λ_ h=>h) (λj f=>by obtain⟨cs,t,hb⟩:=m.cells f;grind) (λe=>B g e rfl) C _ rfl Ω).Q ?_
 rintro e w6⟨r,F,u,O',rfl,q,K,r3,L,M⟩;exact⟨r,F,u,O',rfl,K,⟨q.1,λj f=>by have:=q.2 j f;omega⟩,Γ,L,M⟩
def Iy(below:Nat)(st:Pl):Prop:=∀y∈st.U,∃kk f i,y.1=De kk f i/\i<1000/\(kk=4/\f<60\/kk=3/\f=0\/kk=2/\f<below)
theorem Iy.row{st:Pl}(h:Iy a st)(_hb:a<60000)(E:Ge)(B:NB)(n:Nat)(hn:n<=1000):Iy (a+1) (E.U (De 2 a) B st 0 (List.range n)):=λy b=>by rcases Ge.af E _ _ st 0 _ y b with q|⟨j,_,q2,q3⟩;obtain⟨kk,f,i,e,hi,hk⟩:=h y q;grind;grind
theorem Iy.fresh{st:Pl}(h:Iy a st)(hb:a<60000):∀z∈st.U,∀i,i<1000->z.1≠De 2 a i:=λz c i hi e=>by obtain⟨kk,f,j,b,hj,hk⟩:=h z c;rw[b]at e;unfold De at e;omega
structure Iz(d below:Nat)(st:Pl)(s:By):Prop where
 bd:below+d=9
 pk:Iy below st
 n1:st.U.length+s.size<=8000
 n2:st.ps.length+s.size<=8000
 n3:st.hd<=1536
 n4:s.size<=10*6 ^ d
 n5:10<=s.size
 n6:∃n,s.size=10*n
theorem U6(E:Ge)(c:UInt8)(a b:Nat)(st:Pl)(s:By):(DG E c a b st s).1.size=10*((s.size+a-1)/a):=by grind [DG,RY,List.length_range]
theorem Iz.next{st:Pl}(h:Iz d a st s)(hs:10<s.size)(E:Ge):∃d',d=d'+1/\Iz d' (a+1) (DG E 2 60 a st s).2 (DG E 2 60 a st s).1/\(DG E 2 60 a st s).1.size<s.size:=by
 obtain⟨n,hn⟩:=h.n6;have h1:=h.n1;have h2:=h.n2;have h4:=h.n4;have hb:=h.bd;cases d with
 |zero=>omega
 |succ d=>
  obtain⟨b,c,f⟩:=Ge.am E (De 2 a) (Dy 2 s 60) st 0 (List.range ((s.size+60-1)/60));rw[Bl]at b c;have e:=U6 E 2 60 a st s;have g1:(DG E 2 60 a st s).2.U.length=st.U.length+(s.size+60-1)/60:=b;have g2:(DG E 2 60 a st s).2.ps.length<=st.ps.length+(s.size+60-1)/60:=c;refine⟨d,rfl,⟨Ω,h.pk.row Ω E _ _ Ω,Ω,Ω,f h.n3,?_,Ω,_,e⟩,Ω⟩;omega
open Tryz
structure Mf(w wT:World)(n0 n1:Nat)(E:Ge)(C:NB)(dv:NV)(L:List It)(st0:Pl)(O0:Nat->Prop):Prop where
 hB:Nv w n0 n1 O0
 o1:∀j,O0 j->n0<=j
 hE:GI E
 hj:∃j,j<96/\E.nd j<=0
 dc:GV C L
 s0:st0.U=[]
 s1:st0.ps=[]
 s2:st0.hd<=1536
 hT:Below n0 wT w
 hd:∀y∈L,y.k=2->∃a2 l2 c2,dv y.f=dT a2 l2 c2/\Sl wT 5 1 (dT a2 l2 c2) l2 (Dd (C y.f))/\∀g,Own (dT a2 l2 c2) g->g<n0
theorem Zoc{st0:Pl}(a:L[k]?=some y):Dq E C ⟨#[]⟩ st0 (L.take (k+1))=((Dq E C ⟨#[]⟩ st0 (L.take k)).1++(Dv E C (KU ⟨#[]⟩ (L.take k)) (Dq E C ⟨#[]⟩ st0 (L.take k)).2 y).1,(Dv E C (KU ⟨#[]⟩ (L.take k)) (Dq E C ⟨#[]⟩ st0 (L.take k)).2 y).2)/\KU ⟨#[]⟩ (L.take (k+1))=jn y.ns:=by rw[Br,a,EH,ZX,V4];exact⟨rfl,rfl⟩
section
variable{w wT:World}{n0 n1 pb db sb so tb:Nat}{E:Ge}{C:NB}{dv:NV}{L:List It}{st0:Pl}{O0:Nat->Prop}
theorem Ir.gu(h:Mf w wT n0 n1 E C dv L st0 O0){st:Pl}{b:By}(a:Ir w n0 n1 pb db sb so tb E O0 st s b v O X):Below n0 wT X:=
 h.hT.M ⟨a.e.os,a.e.tape,a.e.output,a.e.size,λk hk=>a.e.block k (by have:=h.hB.n0;omega) (λe=>by have:=h.o1 k e;omega)⟩
theorem Mf.round(h:Mf w wT n0 n1 E C dv L st0 O0)(z:L[k]?=some y){a:OA}(b:Ir w n0 n1 pb db sb so tb E O0 (Dq E C ⟨#[]⟩ st0 (L.take k)).2 (Dq E C ⟨#[]⟩ st0 (L.take k)).1 (KU ⟨#[]⟩ (L.take k)) (dT a l c) O X)(A:n1<=X.heap.size){n:Nat}{s:OA}{v u:Nat}(hv:KY dv y=.agg #[dU (jn y.ns),.int .u8 (y.k:Nat),dI (y.f:Nat),dT s v u])(r:Gb X n 141 [dU (jn y.ns),.int .u8 (y.k:Nat),dI (y.f:Nat),dT s v u])(ac:n1<=n):
  Cl 236 #[dP pb,dT a l c,dU (KU ⟨#[]⟩ (L.take k)),.agg #[dU (jn y.ns),.int .u8 (y.k:Nat),dI (y.f:Nat),dT s v u]] X λe d=>∃f j i,e=dR (dT f j i)/\d.cell? ⟨w.heap.size+1,0,none⟩=some (dT a l c)/\d.frozen? ⟨w.heap.size+1,0,none⟩=false/\
   ∃Y1,d.setCell ⟨w.heap.size+1,0,none⟩ (dT f j i)=Y1/\Y1.cell? (dQ n 0)=some (dU (jn y.ns))/\Y1.cell? ⟨w.heap.size+1+1,0,none⟩=some (dU (KU ⟨#[]⟩ (L.take k)))/\Y1.frozen? ⟨w.heap.size+1+1,0,none⟩=false/\
   Hid ((∃O',Ir w n0 n1 pb db sb so tb E O0 (Dq E C ⟨#[]⟩ st0 (L.take (k+1))).2 (Dq E C ⟨#[]⟩ st0 (L.take (k+1))).1 (KU ⟨#[]⟩ (L.take (k+1))) (dT f j i) O' (Y1.setCell ⟨w.heap.size+1+1,0,none⟩ (dU (jn y.ns))))/\
    Lh n0 n1 X (Y1.setCell ⟨w.heap.size+1+1,0,none⟩ (dU (jn y.ns)))/\(Y1.setCell ⟨w.heap.size+1+1,0,none⟩ (dU (jn y.ns))).heap[w.heap.size+1+1+1]?=X.heap[w.heap.size+1+1+1]?/\∀(k:Nat) (o:Obj),X.heap[k]?=some o->o.isCells=false->(Y1.setCell ⟨w.heap.size+1+1,0,none⟩ (dU (jn y.ns))).heap[k]?=some o):=by
 have m:=Ai z;obtain⟨t1,t2,t3,t4,t5,t6⟩:=h.dc.a5 E st0 h.s0 h.s1 h.s2 k y z;have W:=b.gu h;have hn:=h.hB.n0;have ad:=h.hB.n1;have H:=ZpD X n0 n1 pb db sb so E h.hE h.hj _ O b.st a l c _ b.rs b.ar A Ω C dv y (h.dc.a8 y m) (h.dc.c7 y m) (h.dc.num y m) (h.dc.size y m) _ t6 (λhk=>by obtain⟨K,l2,M,N,P,F⟩:=h.hd y m hk;refine⟨K,l2,M,N,P.kept (λg hg Z=>W.block g (F g Z)),F⟩) t1 t2 t3 t4 t5;rw[hv]at H;apply H.Q;rintro e d⟨f,j,i,O',rfl,V,ab,T,ae,Y,I⟩;obtain⟨x,G⟩:=b.au h.hB A ab V T Y I;have nO:∀B,w.heap.size<=B->B<n1->¬O B:=λB q1 q2 e=>by rcases b.hO B e with q|q;have:=h.hB.o0 B q;omega;omega
 have nV:∀B,B<n1->¬Own (dT a l c) B:=λB q e=>by have:=b.rs.2 B e;omega
 have D:Gb d (w.heap.size+1) 59 [dT a l c]:=(I.block _ b.b1.lt Γ).M b.b1;have aa:Gb (d.setCell ⟨w.heap.size+1,0,none⟩ (dT f j i)) n 141 [dU (jn y.ns),.int .u8 (y.k),dI (y.f),dT s v u]:=by refine(G.block _ r.lt (λe=>?_)).M r;rcases e with e|e|e;obtain⟨J,t,p,ht⟩:=b.st.bh e;unfold Gb at p r;rw[r]at p;cases p;cases ht;obtain⟨J,p⟩:=b.rs.bh e;grind [Gb];omega
 obtain⟨U,S⟩:=x.c7 h.hB (jn y.ns);obtain⟨Q,R⟩:=Zoc (E:=E) (C:=C) (st0:=st0) z;refine⟨f,j,i,rfl,(D.J 0).M rfl,D.A 0,_,rfl,(aa.J 0).M rfl,(x.b2.J 0).M rfl,x.b2.A 0,⟨O',?_⟩,?_⟩;rw[Q,R];exact U;exact b.a9 h.hB A ((G.Q Γ).then S Ω)
def TI(w:World)(n0 n1 pb db sb so tb:Nat)(E:Ge)(O0:Nat->Prop)(D:Nat)(F:By×Pl)(below:Nat)(Y:World):Prop:=
 ∃d st s last a l c O,Ir w n0 n1 pb db sb so tb E O0 st s last (dT a l c) O Y/\Y.heap[D]?=some (.deferred (some []))/\n1<=Y.heap.size/\Iz d below st s/\DU E d below st s=F
theorem Mf.h2(h:Mf w wT n0 n1 E C dv L st0 O0){a:OA}{V:By}(k:Ir w n0 n1 pb db sb so tb E O0 (Dq E C ⟨#[]⟩ st0 L).2 (Dq E C ⟨#[]⟩ st0 L).1 V (dT a l c) O X)(f:n1<=X.heap.size){D:Nat}(hD:X.heap[D]?=some (.deferred (some []))):
  ∃Z v F A n,X.drew.alloc (.cells #[.int .u8 0] 5)=Z/\(Builtin.append_ #[59,59] 59 #[dT a l c,dS X.heap.size 1 1]).run prog Z=.ok (dT v F A) n/\X.cell? (dQ w.heap.size 0)=some (dP pb)/\Z.cell? (dQ w.heap.size 0)=some (dP pb)/\n.cell? (dQ w.heap.size 0)=some (dP pb)/\X.cell? ⟨w.heap.size+1,0,none⟩=some (dT a l c)/\Z.cell? ⟨w.heap.size+1,0,none⟩=some (dT a l c)/\
   Hid (Cl 237 #[dP pb,.int .u8 3,dI 0,dT v F A] n λe g=>∃o r p,e=dR (dT o r p)/\g.cell? (dQ w.heap.size 0)=some (dP pb)/\g.cell? ⟨w.heap.size+1,0,none⟩=some (dT a l c)/\g.frozen? ⟨w.heap.size+1,0,none⟩=false/\(g.setCell ⟨w.heap.size+1,0,none⟩ (dT o r p)).cell? (dQ w.heap.size 0)=some (dP pb)/\
    Hid (TI w n0 n1 pb db sb so tb E O0 D (JK E C st0 L) 1 (g.setCell ⟨w.heap.size+1,0,none⟩ (dT o r p)))):=by
 have hn:=h.hB.n0;have ai:=h.hB.n1;obtain⟨t1,t2,t3,H,N⟩:=UO E C ⟨#[]⟩ st0 L (λz f=>⟨h.dc.c7 z f,h.dc.size z f,h.dc.a8 z f⟩);rw[h.s0]at t2 N;rw[h.s1]at t3;have H:=H h.s2;have ah:=h.dc.len;simp only[AR]at t2 t3;generalize hst:(Dq E C ⟨#[]⟩ st0 L).2=st at *
 generalize hss:(Dq E C ⟨#[]⟩ st0 L).1=s at *
 obtain⟨Z,eZ,xZ,kZ,sZ,bZ⟩:=Df X.drew [.int .u8 0] 5;have J:=((Ad X.heap.size X).drew).M bZ;have ag:=J.size;have d:=k.go h.hB (Z:=λ_=>False) (Fr.S J) Γ;obtain⟨v,F,A,n,r1,r2,G,r4⟩:=QX Z n1 Ω _ s d.rs _ 1 1 ⟨#[0]⟩ rfl (λj u hu=>by rw[AG,Av,xZ.J];exact hu) Ω;have nO:∀B,w.heap.size<=B->B<n1->¬O B:=λB q1 q2 e=>by rcases k.hO B e with q|q;have:=h.hB.o0 B q;omega;omega
 have nV:∀B,B<n1->¬Own (dT a l c) B:=λB q e=>by have:=k.rs.2 B e;omega
 have I:Gb n w.heap.size 168 _:=(G.block _ d.b0.lt Γ).M d.b0;have P:Gb n (w.heap.size+1) 59 _:=(G.block _ d.b1.lt Γ).M d.b1;have ac:∀j,O j->¬Own (dT v F A) j:=λj m hv=>by rcases r4 j hv with e|e;exact k.ar j m e;obtain⟨cs,t,hb⟩:=d.st.cells m;simp_all
 obtain⟨b,T⟩:∃b:By,b=s++⟨#[0]⟩:=Γ;have af:b.size=s.size+1:=by rw[T];exact Aj
 rw[<-T]at r2;refine⟨Z,v,F,A,n,eZ,r1,(k.b0.J 0).M rfl,(d.b0.J 0).M rfl,(I.J 0).M rfl,(k.b1.J 0).M rfl,(d.b1.J 0).M rfl,?_⟩;refine(ZqQ n n0 pb db sb so E h.hE h.hj st O (d.st.a9 G (λj m=>⟨λho=>d.ar j ho m,Γ⟩)) n1 v F A _ r2 ac Ω Ω Ω Ω H (λz f i hi e=>?_)).Q ?_;rcases N z f with q|⟨x,K,_,j,m,q⟩;grind;have:=h.dc.num x K;have:=O7 Ω Ω Ω Ω (q.r.M e);omega;rintro e g⟨o,r,p,O',rfl,p1,p2,p3,p4,M⟩;have aj:=G.size;have aa:Gb g w.heap.size 168 _:=(M.block _ I.lt Γ).M I;have Q:Gb g (w.heap.size+1) 59 _:=(M.block _ P.lt Γ).M P;obtain⟨S,R⟩:=k.au h.hB f p1 ⟨p2.1,λj m=>by have:=p2.2 j m;omega⟩ Γ p4 (((Fr.S J).then (G.Q (Y:=λj=>O j\/Own (dT a l c) j) Γ) Γ).then (M.Q (Y:=λj=>O j\/Own (dT a l c) j) Γ) Γ);have hk:=k.a9 h.hB f (R.Q Γ);have ad:Iz 8 1 (DG E 3 63 0 st b).2 (DG E 3 63 0 st b).1:=by obtain⟨W,m2,m3⟩:=Ge.am E (De 3 0) (Dy 3 b 63) st 0 (List.range ((b.size+63-1)/63));rw[Bl]at W m2;have U:=U6 E 3 63 0 st b;have g1:(DG E 3 63 0 st b).2.U.length=st.U.length+(b.size+63-1)/63:=W;have g2:(DG E 3 63 0 st b).2.ps.length<=st.ps.length+(b.size+63-1)/63:=m2;rw[af]at g1 g2 U;refine⟨rfl,λy hy=>?_,Ω,Ω,m3 H,Ω,Ω,_,U⟩;rcases Ge.af E _ _ st 0 _ y hy with q|⟨j,_,q2,q3⟩;rcases N y q with q|⟨x,K,_,j,m,q⟩;grind;exact⟨4,x.f,j,q,Ω,.inl ⟨rfl,h.dc.num x K⟩⟩;grind
 have ae:DU E 8 1 (DG E 3 63 0 st b).2 (DG E 3 63 0 st b).1=JK E C st0 L:=by grind [JK]
 have ab:TI w n0 n1 pb db sb so tb E O0 D (JK E C st0 L) 1 (g.setCell ⟨w.heap.size+1,0,none⟩ (dT o r p)):=⟨8,_,_,V,o,r,p,O',S,hk.2.2 D _ hD rfl,Ae f R.size,ad,ae⟩;exact⟨o,r,p,rfl,(aa.J 0).M rfl,(Q.J 0).M rfl,Q.A 0,(S.b0.J 0).M rfl,ab⟩
end
def MP(w:World)(n0 pb db sb so:Nat)(E:Ge)(O0:Nat->Prop)(F:By×Pl)(e:Ending)(w':World):Prop:=
 e=dR (.tuple #[])/\F.1.size=10/\∃O',UH w' pb db sb so E F.2 (GK F.1:Nat) (GQ F.1:Nat) O'/\Lc w' n0 db sb so E/\Fr O0 w w'/\∀j,O' j->O0 j\/w.heap.size<=j
section
variable{w wT:World}{n0 n1 pb db sb so tb:Nat}{E:Ge}{C:NB}{dv:NV}{L:List It}{st0:Pl}{O0:Nat->Prop}
theorem Mf.index(h:Mf w wT n0 n1 E C dv L st0 O0){a:OA}{D:Nat}{st:Pl}{u:By}(f:Ir w n0 n1 pb db sb so tb E O0 st s u (dT a l c) O Y)(y:Y.heap[D]?=some (.deferred (some [])))(o:n1<=Y.heap.size)(k:Iz d b st s)(z:DU E d b st s=F)(M:10<s.size):
  Cl 237 #[dP pb,.int .u8 2,dI (b:Nat),dT a l c] Y λe n=>∃g m i,e=dR (dT g m i)/\n.cell? ⟨w.heap.size+1,0,none⟩=some (dT a l c)/\n.frozen? ⟨w.heap.size+1,0,none⟩=false/\
   Hid (TI w n0 n1 pb db sb so tb E O0 D F (b+1) (n.setCell ⟨w.heap.size+1,0,none⟩ (dT g m i))):=by
 have aa:=h.hB.n1;have hb:=k.bd;have i1:=k.n1;have i2:=k.n2;obtain⟨r,rfl,H,_⟩:=k.next M E;have nO:∀B,w.heap.size<=B->B<n1->¬O B:=λB q1 q2 e=>by rcases f.hO B e with q|q;have:=h.hB.o0 B q;omega;omega
 apply(ZqR Y n0 pb db sb so E h.hE h.hj st O f.st n1 a l c s f.rs f.ar b Ω Ω Ω Ω Ω k.n3 (k.pk.fresh Ω)).Q;rintro e n⟨g,m,i,O',rfl,N,v,P,Q,x⟩;have p:Gb n (w.heap.size+1) 59 _:=(x.block _ f.b1.lt Γ).M f.b1;obtain⟨A,t⟩:=f.au h.hB o N ⟨v.1,λj J=>by have:=v.2 j J;omega⟩ P Q (x.Q Γ);have K:=f.a9 h.hB o (t.Q Γ);have I:DU E r (b+1) (DG E 2 60 b st s).2 (DG E 2 60 b st s).1=F:=by rw[<-z];show _=(if _ then _ else _);grind
 have G:TI w n0 n1 pb db sb so tb E O0 D F (b+1) (n.setCell ⟨w.heap.size+1,0,none⟩ (dT g m i)):=⟨r,_,_,u,g,m,i,O',A,K.2.2 D _ y rfl,Ae o t.size,H,I⟩;exact⟨g,m,i,rfl,(p.J 0).M rfl,p.A 0,G⟩
theorem Mf.top(h:Mf w wT n0 n1 E C dv L st0 O0){a:OA}{y D:Nat}{st:Pl}{aa:By}(b:Ir w n0 n1 pb db sb so tb E O0 st s aa (dT a l c) O Y)(N:Y.heap[D]?=some (.deferred (some [])))(ab:w.heap.size<=D)(hz:n1<=Y.heap.size)(H:Iz d y st s)(S:DU E d y st s=F)(hs:¬10<s.size):
  l=10/\∃f,Y.alloc (.cells #[dT a l c] 287)=f/\f.cell? (dQ w.heap.size 0)=some (dP pb)/\
    Hid (Cl 238 #[dP Y.heap.size] f.drew λe Z=>∃p x:Nat,e=dR (.agg #[dI (p:Nat),.int .u64 (x:Nat)])/\Z.cell? (dQ w.heap.size 0)=some (dP pb)/\Z.cell? (dQ pb 101)=some (dI 0)/\Z.cell? (dQ pb 102)=some (.int .u64 0)/\Z.frozen? (dQ pb 101)=false/\Z.frozen? (dQ pb 102)=false/\((Z.setCell (dQ pb 101) (dI (p:Nat))).setCell (dQ pb 102) (.int .u64 (x:Nat))).cell? (dQ w.heap.size 0)=some (dP pb)/\
     Hid (((Z.setCell (dQ pb 101) (dI (p:Nat))).setCell (dQ pb 102) (.int .u64 (x:Nat))).heap[D]?=some (.deferred (some []))/\MP w n0 pb db sb so E O0 F (dR (.tuple #[])) (((Z.setCell (dQ pb 101) (dI (p:Nat))).setCell (dQ pb 102) (.int .u64 (x:Nat))).putObj D (.deferred none)))):=by
 have hn:=h.hB.n0;have ah:=h.hB.n1;have G:=H.bd;have i5:=H.n5;have J:s.size=10:=Ω;obtain⟨g,rfl,rfl,V,ad⟩:=b.rs.some Ω;have T:F=(s,st):=by
  rw[<-S];cases d with
  |zero=>rfl
  |succ d=>show(if _ then _ else _)=_;grind
 subst T;obtain⟨f,K,x8,k8,s8,v⟩:=Df Y [dS g s.size c] 287;have r:=b.go h.hB (Z:=λ_=>False) (Fr.S v) Γ;refine⟨J,f,K,(r.b0.J 0).M rfl,?_⟩;apply(RC f.drew _ _ _ c s (x8) r.rs.cc V Γ Ω).Q;rintro e Z⟨rfl,_,_,_,_,_,_,i⟩;have A:Fr (λk=>k=Y.heap.size) f Z:=⟨i.os,i.tape,i.output,i.size,i.block⟩;have ak:∀j,O j->j<Y.heap.size:=λj o=>by obtain⟨q,t,G⟩:=b.st.cells o;grind
 have n:=r.go h.hB A (λj e=>⟨Γ,λW=>by have:=Own.lt b.rs W;omega,Ω⟩);obtain⟨R,ac,ag,va,M,vp,m,q2,q3,q4,q5⟩:=n.st;have u:O pb:=Γ;have aj:=(b.hO pb u).imp (h.hB.o0 pb) id;have ai:D≠pb:=λe=>by subst e;obtain⟨q,t,G⟩:=b.st.cells u;simp_all
 have Q:=(Au.1 N).1;have P:((Z.setCell (dQ pb 101) (dI (GK s))).setCell (dQ pb 102) (.int .u64 (GQ s))).heap[D]?=some (.deferred (some [])):=by rw[Aw _ _ _ _ Ω,Aw _ _ _ _ Ω,A.block D Ω Ω,v.block D Q];omega
 have nB:∀B,w.heap.size<=B->B<n1->B≠pb:=Ω;have mF:Gb ((Z.setCell (dQ pb 101) (dI (GK s))).setCell (dQ pb 102) (.int .u64 (GQ s))) w.heap.size 168 [dP pb]:=(Aw _ _ _ _ Γ).M ((Aw _ _ _ _ Γ).M n.b0);refine⟨GK s,GQ s,rfl,(n.b0.J 0).M rfl,(m.row.J 101).M (by grind [JR]),(m.row.J 102).M (by grind [JR]),m.row.A 101,m.row.A 102,(mF.J 0).M rfl,P,rfl,J,O,⟨va,M,vp,?_,q2,q3,q4,q5⟩,?_,?_,λj o=>(b.hO j o).imp id Ω⟩;refine(m.top (GK s:Nat) (GQ s)).ba (λj q t o=>?_);simp only[World.putObj];rw[Cc,if_neg Γ];omega;refine R.kept (λk q t z I e=>?_);have af:k≠pb:=Γ;have ae:k≠D:=Ω;simp only[World.putObj];rw[Cc,if_neg Ω];grind [Below.heap_setCell,trans];have U:Fr (λk=>k=pb) Z ((Z.setCell (dQ pb 101) (dI (GK s))).setCell (dQ pb 102) (.int .u64 (GQ s))):=Fr.set (Fr.set (X:=λk=>k=pb) (by grind [Fr.refl]) _ _ rfl) _ _ rfl;refine(n.e.then U (λk I e=>by subst e;exact(b.hO k u).elim id Ω)).then (Y:=λk=>k=D) ⟨rfl,rfl,rfl,Ξ,λk _ I=>by simp only[World.putObj];grind⟩ Ω
end
section
open Go.RowKit Go.Shelf
attribute [local go_sem] Oper.semAt_some
theorem Lh.ib{n0:Nat}(X:World)(o:Obj)(r:Nat)(b:n0<=r)(h1:r<a):Lh n0 a X (X.putObj r o):=⟨Zgd X o b,by grind [World.putObj_heap_other,trans]⟩
theorem Zo2(w wT:World)(n0 pb db sb so tb rd:Nat)(E:Ge)(hE:GI E)(R:∃j,j<96/\E.nd j<=0)(st0:Pl)(aQ:st0.U=[])(aR:st0.ps=[])(aS:st0.hd<=1536)(J:Nat->Prop)(ah:Hv n0 pb db sb so E st0 J w)(aT:wT.heap.size=n0)(hT:Below n0 wT w)(V:NV)(Ed:NS)(vi:Value)(G:Gh)(I:LF)(CI:IB)(ch:LY->List Ek)(dv:NV)(H:Mq wT tb rd V Ed vi G I CI ch dv)(C:NB)(aP:GV C (Dp ch))(hd:∀y∈Dp ch,y.k=2->∃M f D,dv y.f=dT M f D/\Sl wT 5 1 (dT M f D) f (Dd (C y.f))/\∀g,Own (dT M f D) g->g<n0):
  Cl 199 #[dP pb,dP tb] w (MP w n0 pb db sb so E J (JK E C st0 (Dp ch))):=by
 have aM:∀j,J j->j<w.heap.size:=λj R=>by obtain⟨cs,t,hb⟩:=ah.cells R;exact(Au.1 hb).1
 have U:=ah.2.2.1;have am:Mf w wT n0 (w.heap.size+6) E C dv (Dp ch) st0 J:=⟨⟨aM,Ω,U⟩,ah.2.1,hE,R,aP,aQ,aR,aS,hT,hd⟩;obtain⟨W1,e1,x1,k1,s1,b1⟩:=Df w [dP pb] 168;obtain⟨W2,e2,x2,k2,s2,b2⟩:=Df W1 [dN] 59;obtain⟨W3,e3,x3,k3,s3,b3⟩:=Df W2 [dU ⟨#[]⟩] 9;obtain⟨W4,e4,x4,k4,s4,b4⟩:=Df W3 [dP tb] 37;have an:Bw w W4:=b1.M ((b2.Q Ω).M ((b3.Q Ω).M (b4.Q Ω)));have y1:=k4 _ _ _ (k3 _ _ _ (k2 _ _ _ x1));have y2:=k4 _ _ _ (k3 _ _ _ x2);have y3:=k4 _ _ _ x3;have t2:W2.heap.size=w.heap.size+1+1:=Ω;have t3:W3.heap.size=w.heap.size+1+1+1:=Ω;have t4:W4.heap.size=w.heap.size+4:=Ω;rw[s1]at y2;rw[t2]at y3;rw[t3]at x4;have aD:=Zr3 wT W4 (w.heap.size+1+1+1) tb rd V Ed vi G I CI ch dv H (by unfold Bw;rw[aT];exact hT.M (an.Q U)) x4;have aK:Ir w n0 (w.heap.size+6) pb db sb so tb E J st0 ⟨#[]⟩ ⟨#[]⟩ dN J W4:=⟨ah.a9 (Z:=λ_=>False) (Fr.S an) (λ_ e=>e.elim),λj R => .inl R,y1,y2,y3,x4,GD.nil _ _,λj _ e=>by simp[Own,Value.ownBlock]at e,Fr.S an,Ω⟩;obtain⟨L,hL⟩:=ex (Dp ch);rw[<-hL]at am aD ⊢;have aO:∀k y,L[k]?=some y->∃v B z,KY dv y=.agg #[dU (jn y.ns),.int .u8 (y.k:Nat),dI (y.f:Nat),dT v B z]:=λk y F=>by unfold KY;by_cases hk:y.k=2;rw[if_pos hk];obtain⟨M,f,D,q1,_⟩:=am.hd y (Ai F) hk;exact⟨M,f,D,by rw[q1]⟩;rw[if_neg hk];exact⟨_,_,_,rfl⟩
 have aX:=Db aO;have aa:=Db am;have aY:=Db aD;have aW:=Db aK;have ad:=Db t4;have aF:=Db e1;have aG:=Db e2;have aH:=Db e3;have aI:=Db e4;have aJ:=Db U;clear x1 x2 x3 x4 k1 k2 k3 k4 s1 s2 s3 s4 b1 b2 b3 b4 y1 y2 y3 t2 t3 t4 e1 e2 e3 e4 an aD ah aK am H hE R aQ aR aS hT aP hd aM hL aO U;refine(Bg (n:=3)).1 ?_;refine BY func199 rfl trivial ?_ rfl;simp only[ntmps199,AS,Ay,AR,Nat.reduceAdd,Nat.reduceSub,AY,AX,Be,A5,AH,AK]
 gi_wp2_with (refine⟨trivial,?_⟩;gi_at_call 115;apply(Zt5 _ _ _).Q;rintro e w'⟨rfl,rfl⟩)
 rw[show w.alloc (.cells #[dP pb] 168)=W1 from Da aF,show W1.alloc (.cells #[dN] 59)=W2 from Da aG,show W2.alloc (.cells #[dU ⟨#[]⟩] 9)=W3 from Da aH,show W3.alloc (.cells #[dP tb] 37)=W4 from Da aI];rename_i K0 aL;clear aF aG aH aI;have t4:=Da ad;have U:=Da aJ;refine ZgC (gf:=169) (lb:=#[.pointer (some ⟨w.heap.size+1+1+1,0,none⟩)]) rfl (EX func169 Φ rfl)
  (Da aY) (Ad _ _) (λh k=>⟨h.1.M k.1,k.2.M h.2⟩) (λX o o' ho _=>⟨Lh.ib X o' _ Ω Ω,BZ Ω⟩) (ZpG _ _)
  (λk X=>∃a l c O,Ir w n0 (w.heap.size+6) pb db sb so tb E J (Dq E C ⟨#[]⟩ st0 (L.take k)).2 (Dq E C ⟨#[]⟩ st0 (L.take k)).1 (KU ⟨#[]⟩ (L.take k)) (dT a l c) O X)
  (λk A A' hA hc=>by obtain⟨a,l,c,O,hA⟩:=hA;rw[t4]at hc;exact⟨a,l,c,O,hA.bn (Da aa).hB hc⟩)
  ⟨none,0,0,J,Da aW⟩
  (λk a' X=>∃Bx y v B z,L[k]?=some y/\W4.heap.size+2<=Bx/\Gb X Bx 141 [dU (jn y.ns),.int .u8 (y.k:Nat),dI (y.f:Nat),dT v B z]/\KY dv y=.agg #[dU (jn y.ns),.int .u8 (y.k:Nat),dI (y.f:Nat),dT v B z]/\a'={ tmps:=#[dP pb,dP tb,dP w.heap.size,undef,.pointer (some ⟨w.heap.size+1,0,none⟩),.pointer (some ⟨w.heap.size+1+1,0,none⟩),dP Bx,undef,undef,dP tb,.func (.func 169) #[] #[.pointer (some ⟨w.heap.size+1+1+1,0,none⟩)],.agg #[dU (jn y.ns),.int .u8 (y.k:Nat),dI (y.f:Nat),dT v B z],undef,undef,undef,undef,undef,undef,undef,undef,undef,undef,undef,undef,undef,undef,undef,undef,undef,undef,undef,undef,undef,undef,undef,undef,undef,undef,undef,undef],defers:=[] })
  (λk a' A A' hA hs hc R=>by obtain⟨Bx,y,v,B,z,F,ak,hr,hv,ha⟩:=hA;exact⟨Bx,y,v,B,z,F,ak,(R Bx ak).M hr,hv,ha⟩)
  ?assign ?body ?done
 case assign=>
  rintro k X Kk hk r hz aN;obtain⟨y,F⟩:∃y,L[k]?=some y:=⟨_,Ab hk⟩;obtain⟨v,B,z,hv⟩:=Da aX k y F;rw[Tq F,hv];have HY:=Db F;have HV:=Db hv;have aV:=Db aN;have HZ:=Db hz;have HI:=Db r;clear t4 F hv aN hz r U
  gi_wp2
  have t4:=Da ad;obtain⟨a,l,c,O,r⟩:=Da HI;have a1:G0 (w.heap.size+4) X (X.alloc (.cells #[dU (jn y.ns),.int .u8 (y.k:Nat),dI (y.f:Nat),dT v B z] 141)):=G0.alloc _ _;have aB:Bw X (X.alloc (.cells #[dU (jn y.ns),.int .u8 (y.k:Nat),dI (y.f:Nat),dT v B z] 141)):=(Ad _ X).alloc (Aa _) _;have hz:=Da HZ;have U:=Da aJ;exact Da aV _ _ ((El _ _).from _) ⟨⟨aB.Q Ω,λj o R ho _=>(aB.block j (Au.1 ho).1).M ho⟩,aB.block _ Ω⟩ ⟨a,l,c,O,r.bn (Da aa).hB a1⟩ ⟨X.heap.size,y,v,B,z,Da HY,hz,Cn X _,Da HV,rfl⟩
 case body=>
  rintro k a' X hk hz⟨a,l,c,O,r⟩ ⟨Bx,y,v,B,z,F,ak,ac,hv,rfl⟩;have aE:=Db ((Da aa).round F r Ω hv ac Ω);have c0:=r.b0.ca 0;have c1:=r.b1.ca 0;have D:=r.b2.ca 0;have d0:=ac.ca 0;have d1:=ac.ca 1;have d2:=ac.ca 2;have d3:=ac.ca 3;clear t4 U hz r ak ac hv F hk
  gi_wp2_with (fail)
  refine⟨trivial,?_⟩;apply(CQ _ (Bg.2 (Da aE))).Q;rintro e W'⟨a',l',c',rfl,f0,f1,Y1,rfl,g0,g1,g2,HE⟩;clear c0 c1 D d0 d1 d2 d3 aE
  gi_wp2
  obtain⟨⟨O',h1⟩,h2,h3,h4⟩:=Da HE;exact⟨⟨h2.1.size,λj o _ ho hc=>h4 j o ho hc⟩,⟨by rw[Da ad,aT];exact h2,h3⟩,a',l',c',O',h1⟩
 case done=>
  rintro X hz⟨a,l,c,O,r⟩ hD;rw[BD]at r;obtain⟨Z,a5,l5,c5,w5,hZ,ao,m0,mZ,m5,aU,nZ,aj⟩:=(Da aa).h2 r Ω hD;have HZ:=Db hZ;clear hZ hD r hz t4 U;show K0 _ _;refine aL _ _ ?_;clear aL
  gi_step
  refine F8 Rc ?_;refine Ck.2 ?_;refine Az (S:=λV=>V.cell? (dQ w.heap.size 0)=some (dP pb)) Φ m0 (λaf=>?_);refine tk 0 ?_;refine Eo (rs:=[1,2]) Φ Θ ?_;refine(BK (i:=1) rfl ?_ (BK (i:=2) rfl ?_ Ee))
  focus
   intro K b;go_simp;refine b.out _ _ af (λav=>?_);clear b K;try simp only[pE]
   refine rk 2 (λK b=>?_);go_simp;rw[show(X.alloc (.cells #[.int .u8 0] 5)).drew=Z from Da HZ];refine b.out _ _ mZ (λal=>?_)
  rotate_left
  focus
   intro K b;go_simp;rw[show(X.alloc (.cells #[.int .u8 0] 5)).drew=Z from Da HZ];refine b.out _ _ mZ (λal=>?_);clear b K;try simp only[pE]
   refine rk 1 (λK b=>?_);go_simp;refine b.out _ _ al (λav=>?_)
  all_goals
   clear b K;try simp only[pE]
   refine rk 3 (λK b=>?_);refine Kl rfl _ _ 59 59 rfl _ _ rfl rfl ao ?_;refine b.out _ _ m5 (λaw=>?_);clear b K;try simp only[pE]
   refine rk 4 (λK b=>?_);go_simp;go_at_call 237;apply(Da aj).Q;rintro e w6⟨a',l',c',rfl,d0,d1,d2,d3,ab⟩;go_wp2_with fail;refine b.out _ _ d0 (λax=>?_);clear b K;try simp only[pE]
   refine rk 5 (λK b=>?_);go_simp;refine b.out _ _ d3 (λay=>?_);clear b K;try simp only[pE]
   refine AL Φ ?_ _;refine ON ?_;clear av al aw ax ay af ao m0 mZ m5 aU nZ d0 d1 d2 d3 aj HZ
   gi_wp2
   gi_loopw [7] (λi wr=>∃N:Nat,i=dI (N:Nat)/\Hid (TI w n0 (w.heap.size+6) pb db sb so tb E J W4.heap.size (JK E C st0 L) N wr)) (λi _=>10-(intOf i).toNat)
   case atStart=>exact⟨1,rfl,Da ab⟩
   case round=>
    obtain⟨N,rfl,HR⟩:=hrel;obtain⟨d,st,s,a7,M,f,D,O2,m,P,W,u,Q⟩:=Da HR;have c0:=m.b0.ca 0;have c1:=m.b1.ca 0;have ag:f=s.size:=(by obtain⟨g,_,q,_⟩:=m.rs.some (by have:=u.n5;omega);exact q);have aA:=u.bd;by_cases T:10<s.size
    .have HC:=Db ((Da aa).index m P W u Q T);have a4:(10:Int)<(f:Int):=Ω;clear m P W u Q HR ag T ab
     gi_wp2_with (fail)
     refine⟨trivial,?_⟩;apply(Bg.2 (Da HC)).Q;rintro e w7⟨a3,l3,c3,rfl,f0,f1,ar⟩;clear HC c0 c1
     gi_wp2
     go_roundw
     case rel=>exact⟨N+1,by go_num,Da ar⟩
     case measure=>simp[intOf];omega
    .obtain⟨aC,w8,ai,m8,aq⟩:=(Da aa).top m P (by have:=Da ad;omega) W u Q T;have a6:¬(10:Int)<(f:Int):=Ω;have ae:=Db ai;clear m P W u Q HR ag T ab ai aC aA
     gi_wp2
     rw[show wr.alloc (.cells #[dT M f D] 287)=w8 from Da ae];clear ae;refine F8 Rc ?_;refine Ck.2 ?_;refine Az (S:=λV=>V.cell? (dQ w.heap.size 0)=some (dP pb)) Φ m8 (λaf=>?_);refine tk 0 ?_;refine rk 1 (λK b=>?_);go_simp;go_at_call 238;apply(Da aq).Q;rintro e Y⟨p,x,rfl,p0,p1,p2,p3,p4,p5,ap⟩;go_wp2_with fail;refine b.out _ _ p0 (λaZ=>?_);clear b K;try simp only[pE]
     refine tk 2 ?_;refine tk 3 ?_;refine tk 4 ?_;refine rk 5 (λK b=>?_);go_simp;refine b.out _ _ p5 (λa0=>?_);clear b K;try simp only[pE]
     refine AL Φ ?_ _;refine ON ?_
     gi_wp2
     obtain⟨au,az⟩:=Da ap;refine⟨Θ,.inl ⟨_,_,rfl,BT au,?_⟩⟩;exact⟨_,CU rfl _ _ _,az⟩
end
def TN(w:World)(db sb so:Nat)(E:Ge)(F:By×Pl)(e:Ending)(w':World):Prop:=
 ∃pb O',e=dR (dP pb)/\w.heap.size<=pb/\F.1.size=10/\UH w' pb db sb so E F.2 (GK F.1:Nat) (GQ F.1:Nat) O'/\Bw w w'/\∀j,O' j->w.heap.size<=j
def Do(es:LI)(cl:Bool)(tp:Nat)(D:LY):Ge:=⟨Dl es,cl,es,tp,D⟩
theorem Zj2(w:World)(d b so tb rd a:Nat)(cl:Bool)(c:LI)(D:LY)(l:GI (Do c cl a D))(n:Lc w w.heap.size d b so (Do c cl a D))(hj:∃j,j<96/\Dl c j<=0)(V:NV)(N:NS)(vi:Value)(G:Gh)(I:LF)(M:IB)(ch:LY->List Ek)(A:NV)(H:Mq w tb rd V N vi G I M ch A)(C:NB)(aa:GV C (Dp ch))(Z:∀y∈Dp ch,y.k=2->∃a2 l2 c2,A y.f=dT a2 l2 c2/\Sl w 5 1 (dT a2 l2 c2) l2 (Dd (C y.f))/\∀g,Own (dT a2 l2 c2) g->g<w.heap.size):
  Cl 131 #[dP d,.pointer (some (dQ b so)),dP tb,dV cl] w (TN w d b so (Do c cl a D) (JK (Do c cl a D) C ⟨a+1,[],[]⟩ (Dp ch))):=by
 have ap:a<1536:=l.bt;obtain⟨vb,aj,ag,ao⟩:=n.cb;have F:w.cell? (dQ b (so+1))=some (dI (a:Nat)):=n.ct;have ab:b<w.heap.size:=n.h5;have Q:=Db (ZgR w.drew b so vb c aj ag ⟨l.len,l.ak,l.pl⟩);have P:Hid (∀X,Bw w X->∃Y,X.alloc (.cells (KP d b so (Dl c) cl (a+1) dN 0 0 dN).toArray 184)=Y/\Y.cell? (dQ b (so+1))=some (dI (a:Nat))/\Hid (Cl 199 #[dP X.heap.size,dP tb] Y λe w'=>e=dR (.tuple #[])/\Hid (TN w d b so (Do c cl a D) (JK (Do c cl a D) C ⟨a+1,[],[]⟩ (Dp ch)) (dR (dP X.heap.size)) w'))):=λX s=>by
  obtain⟨Y,r,xY,kY,sY,bY⟩:=Df X (KP d b so (Dl c) cl (a+1) dN 0 0 dN) 184;have W:=s.size;have f:Bw w Y:=s.M (bY.Q W);have hP:Gl Y X.heap.size d b so (Dl c) cl (a+1) dN [] 0 0 dN []:=⟨xY,⟨rfl,.inl ⟨rfl,rfl⟩⟩,Iq.nil _,λe=>by simp[Own,Value.ownBlock]at e,λe=>by simp[Own,Value.ownBlock]at e,λk e=>by simp[Own,Value.ownBlock]at e⟩;have ak:Hv w.heap.size X.heap.size d b so (Do c cl a D) ⟨a+1,[],[]⟩ (λk=>k=X.heap.size) Y:=by refine⟨n.kept (λk cs t z u e=>(f.block k u).M e),λk u=>Ω,f.size,dN,[],dN,hP,λj k x y _ hx=>by simp at hx,rfl,λx=>Θ,λk=>?_⟩;simp[Own,Value.ownBlock]
  refine⟨Y,r,(f.J (p:=(dQ b (so+1))) ab).M F,?_⟩;apply(Zo2 Y w w.heap.size X.heap.size d b so tb rd (Do c cl a D) l hj ⟨a+1,[],[]⟩ rfl rfl (by show a+1<=1536;omega) _ ak rfl f V N vi G I M ch A H C aa Z).Q;rintro e w'⟨rfl,af,O',q1,q2,q,q4⟩;refine⟨rfl,X.heap.size,O',rfl,W,af,q1,?_,λg hg=>by have:=q4 g hg;have:=f.size;omega⟩;exact⟨q.os.M f.os,q.tape.M f.tape,q.output.M f.output,Ae f.size q.size,λk u=>(q.block k (by have:=f.size;omega) Ω).M (f.block k u)⟩
 have O:=Db (ZrY d b so (Dl c) cl (a+1));obtain⟨ae,E⟩:=ex (Value.agg (Hl (Dl c)).toArray);obtain⟨T,B⟩:=ex (KP d b so (Dl c) cl (a+1) dN 0 0 dN);obtain⟨VP,U⟩:=ex (Value.agg T.toArray);rw[<-E,<-B]at O;rw[<-E]at Q;rw[<-B]at P;have R:=Db U;clear E B U;have HC:Hid (∀X,Bw w X->X.cell? (dQ b (so+1))=some (dI (a:Nat))):=λX s=>(s.J (p:=(dQ b (so+1))) ab).M F;clear H aa Z l n hj;go_enter func131,ntmps131;go_upto_region 1 with fail;refine Az (S:=λX=>X.cell? (dQ b (so+1))=some (dI (a:Nat))) Φ F (λan=>?_);refine tk 0 ?_;refine tk 1 ?_;refine tk 2 ?_;refine tk 4 ?_;refine tk 5 ?_;refine tk 6 ?_;refine tk 7 ?_;refine tk 8 ?_;refine tk 9 ?_;refine A4 (i:=10) (v:=dI ((a+1:Nat):Int)) rfl Φ Φ Φ (λ_ _ _ h=>h) (Or.inl ⟨by rfl,?_⟩) Ψ ?_
 .intro w ah;(try dsimp only at ah);go_simp;rw[AI];omega
 try simp only[pE]
 refine rk 3 (λK o=>?_);go_simp;go_at_call 198;apply(Da Q).Q;rintro e X⟨rfl,m⟩;have J:Bw w X:=⟨m.os,m.tape,m.output,m.size,m.block⟩;have ai:=Da HC X J;obtain⟨Y,r,cY,ad⟩:=Da P X J;have ac:=Db r;clear m J r;go_wp2_with fail;refine o.out _ _ ai (λam=>?_);clear o K;try simp only[pE]
 refine A4 (i:=11) (v:=VP) rfl Φ Φ Φ (λ_ _ _ h=>h) (Or.inl ⟨by rfl,λV _=>?_⟩) Ψ ?_;rw[Da R];exact VY V 184 _ rfl (vs:=#[(0,dP d),(1,.pointer (some (dQ b so))),(2,ae),(3,dV cl),(4,dI ((a+1:Nat):Int))]) (by simp[Act.eval]) (Da O);try simp only[pE]
 refine rk 12 (λK o=>?_);refine ZqC rfl 184 _ rfl T (Da R) ?_;rw[Da ac];refine o.out _ _ cY (λal=>?_);clear o K;try simp only[pE]
 refine tk 13 ?_;refine AL Φ ?_ _;go_wp2_with(go_at_call 199;apply(Da ad).Q;rintro e w'⟨rfl,HP⟩);go_ret;exact Da HP
def W0(w:World)(stb db:Nat)(vk:Value)(tp tx tn:Int)(vf vn vw ve:Value)(D:LY)(ps:LB)(es:List Int)(e:Ending)(w':World):Prop:=
 e=dR (.tuple #[])/\∃ve',Id w' stb db vk tp tx tn vf vn vw ve' D ps (es++[((ps.length:Nat):Int)])/\Dm w ve ve'/\Fr (λk=>k=db\/Own ve k) w w'
theorem ZnO(w:World)(d a pb:Nat)(p:Value)(n o m:Int)(j g vw f:Value)(D:LY)(l:LB)(b:List Int)(h:Id w d a p n o m j g vw f D l b)(E K so:Nat)(I:Nat->Int)(cl:Bool)(F:Nat)(N:Value)(eP:LI)(L M:Int)(P:Value)(c:Gl w pb E K so I cl F N eP L M P [])(G:b.length<=999999999998)(s:¬Hn d a g vw f pb):
  Cl 133 #[dP d,dP pb] w (W0 w d a p n o m j g vw f D l b):=by
 obtain⟨B,lp,C,rfl⟩:=Sl.a0 c.sp;have t:=Sl.len c.sp;simp only[AR]at t;subst t;have ab:=c.cells.2.2.2.2.2.2;have aa:=h.row.ca 0;obtain⟨q,v,r,rfl⟩:=Sl.a0 h.sw;have k:=Sl.len h.sw;have z:Hid (Cl 200 #[dP a] w λe w'=>e=dR (.tuple #[])/\w'.cell? (dQ pb 103)=some (dT B 0 C)/\Hid (W0 w d a p n o m j g (dT q v r) f D l b (dR (.tuple #[])) w')):=by apply(VZ w a j g f q v r h.a2.1 b h.se h.nd.2.2 Ω).Q;intro e w' u;obtain⟨O,x,J,y⟩:=h.ef u;have H:Gb w' pb 184 _:=c.row.e y (λe=>s (e.elim (λe => .inr (.inl e)) (λe => .inr Γ)));rw[k]at x;exact⟨u.1,(H.J 103).M (by grind [JR]),rfl,O,k ▸ x,J,y⟩
 clear h c G s k;go_enter func133,ntmps133;go_wp2
 go_loopw [11] (λi wr=>i=dI 0/\wr=w) (λi _=>0)
 case atStart=>simp_all
 case round=>
  go_wp2_with(apply(Da z).Q;rintro e w3⟨rfl,m1,A⟩);refine Am (CU rfl _ _ _) rfl ?_;exact Da A
theorem Ge.bw{E:Ge}{Q:Pl->Prop}(b:∀st r s,s.size=64->Q st->Q (E.put st r s).2)(R:Nat->Nat)(B:NB)(a:∀x,(B x).size=64):∀(st:Pl) (i:Nat) (xs:List Nat),Q st->Q (E.U R B st i xs)
 |_,_,[],h=>h
 |st,i,x::xs,h=>Ge.bw b R B a _ _ xs Γ
theorem YV{E:Ge}{Q:Pl->Prop}(a:∀st r s,s.size=64->Q st->Q (E.put st r s).2)(C:NB):∀(last:By) (st:Pl) (xs:List It),Q st->Q (Dq E C last st xs).2
 |_,_,[],h=>h
 |last,st,x::xs,h=>by refine YV a C _ _ xs ?_;unfold Dv;split;exact h;split;exact h;exact Ge.bw a _ _ (λx=>OZ _ x) _ _ _ h
theorem X6{E:Ge}{Q:Pl->Prop}(a:∀st r s,s.size=64->Q st->Q (E.put st r s).2):∀(d below:Nat) (st:Pl) (s:By),Q st->Q (DU E d below st s).2
 |0,_,_,_,h=>h
 |d+1,below,st,s,h=>by unfold DU;split;exact X6 a d _ _ _ (Ge.bw a _ _ (by grind [UW]) _ _ _ h);omega
theorem Vr{Q:Pl->Prop}(a:∀st r s,s.size=64->Q st->Q (E.put st r s).2)(C:NB)(st:Pl)(L:List It)(h:Q st):Q (JK E C st L).2:=
 X6 a _ _ _ _ (Ge.bw a _ _ (by grind [UW]) _ _ _ (YV a C _ _ _ h))
def Mu(st:Pl):Prop:=(∀y∈st.U,y.2<1536)/\∀x∈st.ps,x.1<1536/\x.2.size=64
theorem Mu.put(c:GI E)(st:Pl)(r:Nat)(s:By)(hs:s.size=64)(h:Mu st):Mu (E.put st r s).2:=by refine⟨λy b=>?_,λx a=>?_⟩;rw[Ge.a6]at b;rcases Al.1 b with q|q;exact h.1 y q;rw[Ax.1 q];exact c.co st r s;unfold Ge.put at a;split at a;exact h.2 x a;rcases Al.1 a with q|q;exact h.2 x q;grind
theorem Xj(E:Ge):∀(d below:Nat) (st:Pl) (s:By),Iz d below st s->∃below',below'<=9/\Iz (9-below') below' (DU E d below st s).2 (DU E d below st s).1/\(DU E d below st s).1.size=10
 |0,below,st,s,h=>⟨below,by have:=h.bd;omega,by have:=h.bd;rw[show 9-below=0 by omega];exact h,by have:=h.n4;have:=h.n5;show s.size=10;omega⟩
 |d+1,below,st,s,h=>by unfold DU;split;rename_i b;obtain⟨d',e,a,_⟩:=h.next b E;cases e;exact Xj E d _ _ _ a;refine⟨below,by have:=h.bd;omega,by have:=h.bd;rw[show 9-below=d+1 by omega];exact h,?_⟩;have:=h.n5;show s.size=10;omega
theorem YX(b:GV C L)(E:Ge)(st0:Pl)(l:st0.U=[])(m:st0.ps=[])(n:st0.hd<=1536):
  Iz 8 1 (DG E 3 63 0 (Dq E C ⟨#[]⟩ st0 L).2 ((Dq E C ⟨#[]⟩ st0 L).1++⟨#[0]⟩)).2 (DG E 3 63 0 (Dq E C ⟨#[]⟩ st0 L).2 ((Dq E C ⟨#[]⟩ st0 L).1++⟨#[0]⟩)).1:=by
 obtain⟨t1,h,i,d,k⟩:=UO E C ⟨#[]⟩ st0 L (λz c=>⟨b.c7 z c,b.size z c,b.a8 z c⟩);rw[l]at h k;rw[m]at i;have d:=d n;have aa:=b.len;simp only[AR]at h i;generalize (Dq E C ⟨#[]⟩ st0 L).2=st at *
 generalize (Dq E C ⟨#[]⟩ st0 L).1=s at *
 obtain⟨a,e⟩:∃a:By,a=s++⟨#[0]⟩:=Γ;have ab:a.size=s.size+1:=by rw[e];exact Aj
 rw[<-e];obtain⟨f,g,t⟩:=Ge.am E (De 3 0) (Dy 3 a 63) st 0 (List.range ((a.size+63-1)/63));rw[Bl]at f g;have r:=U6 E 3 63 0 st a;have g1:(DG E 3 63 0 st a).2.U.length=st.U.length+(a.size+63-1)/63:=f;have g2:(DG E 3 63 0 st a).2.ps.length<=st.ps.length+(a.size+63-1)/63:=g;refine⟨rfl,λy p=>?_,Ω,Ω,t d,Ω,Ω,_,r⟩;rcases Ge.af E _ _ st 0 _ y p with q|⟨j,_,q2,q3⟩;rcases k y q with q|⟨x,o,_,j,hj,q⟩;grind;exact⟨4,x.f,j,q,Ω,.inl ⟨rfl,b.num x o⟩⟩;grind
structure M7(F:By×Pl):Prop where
 pl:Mu F.2
 n1:F.2.U.length<=8000
 n2:F.2.ps.length<=8000
 n3:F.1.size=10
 pk:Iy 9 F.2
theorem UA(k:GV C L)(E:Ge)(j:GI E)(a:Nat)(g:a<=1536):M7 (JK E C ⟨a,[],[]⟩ L):=by obtain⟨b,hb,c,d⟩:=Xj E 8 1 _ _ (YX k E ⟨a,[],[]⟩ rfl rfl g);have i1:=c.n1;have i2:=c.n2;refine⟨Vr (λst r s d h=>h.put j st r s d) C _ L ⟨Γ,Γ⟩,?_,?_,d,λy l=>?_⟩;show(DU E 8 1 _ _).2.U.length<=_;omega;show(DU E 8 1 _ _).2.ps.length<=_;omega;obtain⟨kk,f,i,e,q1,q2⟩:=c.pk y l;grind
def Hr(puts:List (Nat×Nat))(es:LI):Prop:=GM es/\es.length=puts.length/\∀x,x∈es↔∃y∈puts,x=((y.1:Int),(y.2:Int))
theorem Hr.bx{a:List (Nat×Nat)}{b:LI}(h:Hr a b)(hl:a.length<=10000)(hp:∀y∈a,y.2<1536):Rq b:=
 ⟨by rw[h.2.1];omega,h.1,λx c=>by obtain⟨y,hy,rfl⟩:=(h.2.2 x).1 c;grind⟩
theorem GM.nodup{a:LI}(h:GM a):a.Nodup:=by rw[BX,A1];intro i j b d c e;have:=h i j _ _ c (Ab b) (Ab d);grind [Hf]
theorem UG{α : Type}:∀(J K:List α),J.Nodup->(∀x∈J,x∈K)->K.length<=J.length->List.Perm J K
 |[],K,_,_,hl=>by simp_all
 |a::J,K,hnd,hs,hl=>by rw[Cf]at hnd;obtain⟨s,t,rfl⟩:=Eb (hs a Θ);have ih:=UG J (s++t) hnd.2 (λx b=>by have:=hs x (by simp[b]);rcases Al.1 this with h|h;exact Ba _ h;rcases AM.1 h with rfl|h;exact absurd b hnd.1;exact Cg _ h) (by simp at hl ⊢;omega);exact(ih.cons a).M List.perm_middle.symm
theorem Hr.cu{b:List (Nat×Nat)}{a:LI}(h:Hr b a):List.Perm a (b.map (λy=>((y.1:Int),(y.2:Int)))):=
 UG _ _ h.1.nodup (λx c=>by obtain⟨y,hy,rfl⟩:=(h.2.2 x).1 c;grind) (by rw[AT,h.2.1];omega)
def LL(puts:List (Nat×Nat))(j:Nat):Int:=(if j=0 then 2 else 0)+(puts.countP (λy=>y.2/16==j):Nat)
theorem Hr.nd{b:List (Nat×Nat)}{a:LI}(h:Hr b a):Dl a=LL b:=by funext j;unfold Dl LL;rw[h.cu.countP_eq,BJ];rfl
structure KS where
 es:LI
 tp:Nat
 tx:Nat
 tn:Nat
 D:LY
def Dn(s:KS)(cl:Bool)(C:NB)(L:List It):By×Pl:=JK (Do s.es cl s.tp s.D) C ⟨s.tp+1,[],[]⟩ L
def DK(mf:Nat)(s:KS)(C:NB)(L:List It):By×Pl:=if D3 (LL (Dn s false C L).2.U) 96<mf then Dn s true C L else Dn s false C L
def Ht(mf:Nat)(C:NB)(L:List It)(s s':KS):Prop:=
 ((DK mf s C L).2.ps=[]/\s'=s)\/((DK mf s C L).2.ps≠[]/\Hr (DK mf s C L).2.U s'.es/\s'.tp=GK (DK mf s C L).1/\s'.tx=GQ (DK mf s C L).1/\s'.tn=s.tn+1/\s'.D=(Jd s.D (DK mf s C L).2.ps).set ((s.tn+1)%2) (Ha (s.tn+1) s'.tp s'.tx))
structure H3(s:KS):Prop where
 ak:GM s.es
 len:s.es.length<=10000
 tp:s.tp<1536
 dl:s.D.length=1536
 pl:∀x∈s.es,∃q:Nat,x.2=(q:Int)/\q<1536
theorem H3.bk{s:KS}(h:H3 s)(cl:Bool):GI (Do s.es cl s.tp s.D):=⟨h.ak,h.len,h.tp,h.dl,h.pl⟩
structure H0(w:World)(stb db:Nat)(vk:Value)(s:KS)(vf vn vw ve:Value)(ps:LB)(ep:List Int):Prop where
 st:Id w stb db vk (s.tp:Nat) (s.tx:Nat) (s.tn:Nat) vf vn vw ve s.D ps ep
 sk:Sl w 350 2 vk s.es.length (DH s.es)
 ok:∀k,Own vk k->¬Hn stb db vn vw ve k
theorem H0.below{s:KS}{vw:Value}(h:H0 w stb db vk s vf vn vw ve ps ep)(a:Bw w w'):H0 w' stb db vk s vf vn vw ve ps ep:=
 ⟨h.st.below a,h.sk.kept (λk b _=>a.block k b),h.ok⟩
theorem H0.lo{s:KS}{vw:Value}(h:H0 w stb db vk s vf vn vw ve ps ep):∀k,Hn stb db vn vw ve k->k<w.heap.size:=λk e=>by rcases e with rfl|rfl|e|e|e;exact h.st.row.lt;exact h.st.a2.1.lt;exact h.st.a2.2.1.1.lt e;exact Sl.lt h.st.sw e;exact h.st.se.lt e
theorem H0.bk{s:KS}{vw:Value}(h:H0 w stb db vk s vf vn vw ve ps ep)(cl:Bool):Lc w w.heap.size db stb 1 (Do s.es cl s.tp s.D):=by obtain⟨b,d,c,rfl⟩:=h.st.a2.2.1.1.a0;exact⟨⟨vk,(h.st.row.J 1).M rfl,h.sk,λk a=>h.sk.lt a⟩,(h.st.row.J 2).M rfl,⟨vf,b,d,c,vw,ve,h.st.a2,λk a=>h.st.a2.2.1.1.lt a⟩,h.st.row.lt,h.st.a2.1.lt⟩
structure MM(w:World)(tb rd:Nat)(V:NV)(Ed:NS)(vi:Value)(G:Gh)(I:LF)(CI:IB)(ch:LY->List Ek)(dv:NV)(C:NB):Prop where
 wk:Mq w tb rd V Ed vi G I CI ch dv
 ok:GV C (Dp ch)
 av:∀y∈Dp ch,y.k=2->∃a2 l2 c2,dv y.f=dT a2 l2 c2/\Sl w 5 1 (dT a2 l2 c2) l2 (Dd (C y.f))
theorem MM.below{rd:Nat}{Ed:NS}{vi:Value}{CI:IB}{dv:NV}(h:MM w tb rd V Ed vi G I CI ch dv C)(d:Bw w w'):MM w' tb rd V Ed vi G I CI ch dv C:=
 ⟨⟨h.wk.tw.below d (Aa _),h.wk.ok,h.wk.gl,h.wk.il,h.wk.ch,h.wk.num⟩,h.ok,λy f b=>by obtain⟨a,l,c,e,q⟩:=h.av y f b;exact⟨a,l,c,e,q.kept (λk b _=>d.block k b)⟩⟩
theorem Zs3(s:By):GQ s<18446744073709551616:=by have:=Uw (Dg (s.extract 2 s.size) 8).data.toList;rw[AF,show(Dg (s.extract 2 s.size) 8).data.size=8 from Jr _ _]at this;exact this
section
variable{mf:Nat}{w:World}{stb db:Nat}{vk:Value}{s:KS}{vf vn vw ve:Value}{ps:LB}{ep:List Int}{tb rd:Nat}{V:NV}{Ed:NS}{vi:Value}{G:Gh}{I:LF}{CI:IB}{ch:LY->List Ek}{dv:NV}{C:NB}
theorem H0.cg(h:H0 w stb db vk s vf vn vw ve ps ep)(k:H3 s)(f:∃j,j<96/\Dl s.es j<=0)(b:MM w tb rd V Ed vi G I CI ch dv C)(cl:Bool):
  Cl 131 #[dP db,.pointer (some (dQ stb 1)),dP tb,dV cl] w (TN w db stb 1 (Do s.es cl s.tp s.D) (Dn s cl C (Dp ch))):=
 Zj2 w db stb 1 tb rd s.tp cl s.es s.D (k.bk cl) (h.bk cl) f V Ed vi G I CI ch dv b.wk C b.ok (λy m i=>by obtain⟨a,l,c,e,q⟩:=b.av y m i;exact⟨a,l,c,e,q,λg d=>q.lt d⟩)
def Ps(mf:Nat)(C:NB)(L:List It)(s s':KS)(ps ps':LB)(ep ep':List Int):Prop:=
 ((DK mf s C L).2.ps=[]/\ps'=ps/\ep'=ep++[((ps.length:Nat):Int)])\/((DK mf s C L).2.ps≠[]/\ps'=ps++(DK mf s C L).2.ps++[((s.tn+1)%2,Ha (s.tn+1) s'.tp s'.tx)]/\ep'=ep++[((ps.length+(DK mf s C L).2.ps.length:Nat):Int)]++[((ps.length+(DK mf s C L).2.ps.length+1:Nat):Int)])
def Vg(mf:Nat)(w:World)(stb db:Nat)(vk:Value)(s:KS)(vf vn vw ve:Value)(ps:LB)(ep:List Int)(C:NB)(L:List It)(e:Ending)(w':World):Prop:=
 e=dR (.tuple #[])/\∃s' vk' vw' ve' ps' ep',H0 w' stb db vk' s' vf vn vw' ve' ps' ep'/\Ht mf C L s s'/\ps'.length<=ps.length+(DK mf s C L).2.ps.length+1/\ep'.length<=ep.length+2/\Dm w vw vw'/\Dm w ve ve'/\Dm w vk vk'/\Fr (Hn stb db vn vw ve) w w'/\Ps mf C L s s' ps ps' ep ep'
theorem H0.eg(h:H0 w stb db vk s vf vn vw ve ps ep)(L:H3 s)(hT:GV C (Dp ch))(al:ps.length<=999999990000)(aj:ep.length<=999999999990)(M:s.tn+1<18446744073709551616){cl:Bool}(W:DK mf s C (Dp ch)=Dn s cl C (Dp ch))(A:Bw w X)(H:UH X pb db stb 1 (Do s.es cl s.tp s.D) (Dn s cl C (Dp ch)).2 (GK (Dn s cl C (Dp ch)).1:Nat) (GQ (Dn s cl C (Dp ch)).1:Nat) O')(hO:∀j,O' j->w.heap.size<=j):
  Cl 133 #[dP stb,dP pb] X (Vg mf w stb db vk s vf vn vw ve ps ep C (Dp ch)):=by
 have m:=UA hT (Do s.es cl s.tp s.D) (L.bk cl) (s.tp+1) (by have:=L.tp;omega);change M7 (Dn s cl C (Dp ch)) at m;rw[<-W]at H m;obtain⟨o,r,E,n,q2,Q,R,q5⟩:=H;have u:=h.below A;have ak:=h.lo;have hw:=A.size;have aa:∀k,k=pb\/Own E k\/Own o k->¬Hn stb db vn vw ve k:=Γ;have P:∀{Z:Nat->Prop} {w':World},Fr Z X w'->(∀k,Z k->Hn stb db vn vw ve k)->Fr (Hn stb db vn vw ve) w w':=λhf d=>(Fr.S A).then (hf.Q (Y:=Hn stb db vn vw ve) Γ) Γ;have D:∀{a b:Value},Dm X a b->Dm w a b:=λhn g c=>(hn g c).imp id Ω;by_cases d:(DK mf s C (Dp ch)).2.ps=[];rw[d]at n;apply(ZnO X stb db pb vk _ _ _ vf vn vw ve s.D ps ep u.st db stb 1 _ cl _ o r _ _ E n Ω Γ).Q;rintro e w'⟨rfl,i,v,y,z⟩;have N:∀k,(k=db\/Own ve k)->Hn stb db vn vw ve k:=λk e=>by rcases e with e|e;exact .inr (.inl e);exact .inr (.inr (.inr (.inr e)))
 have ab:=P z N;have ai:Sl w' 350 2 vk s.es.length (DH s.es):=u.sk.e z (λg c e=>h.ok g c (N g e));have ah:∀k,Own vk k->¬Hn stb db vn vw i k:=λk f e=>by rcases e with e|e|e|e|e;exact h.ok k f (.inl e);exact h.ok k f (.inr (.inl e));exact h.ok k f (.inr (.inr (.inl e)));exact h.ok k f (.inr (.inr (.inr (.inl e))));rcases y k e with e|e;exact h.ok k f (.inr (.inr (.inr (.inr e))));have:=u.sk.lt f;omega
 have af:(ep++[((ps.length:Nat):Int)]).length<=ep.length+2:=Ξ;have B:H0 w' stb db vk s vf vn vw i ps (ep++[((ps.length:Nat):Int)]):=⟨v,ai,ah⟩;exact⟨rfl,s,vk,vw,i,ps,_,B,.inl ⟨d,rfl⟩,Ω,af,λg c => .inl c,D y,λg c => .inl c,ab,.inl ⟨d,rfl,rfl⟩⟩;have ag:=m.n2;have J:0<(DK mf s C (Dp ch)).2.ps.length:=FY.2 d;obtain⟨F,l⟩:=ex (DK mf s C (Dp ch));rw[<-l]at n Q R m J ag d;obtain⟨p,K⟩:=ex (GK F.1);obtain⟨x,O⟩:=ex (GQ F.1);rw[<-K,<-O]at n;obtain⟨T,t⟩:∃T,s.tn+1=T:=⟨_,rfl⟩;rw[t]at M;apply(ZnP X stb db pb vk _ _ s.tn vf vn vw ve s.D ps ep u.st db stb 1 _ cl _ o r p x E F.2.ps n m.pl.2 J Ω Ω T t M (by grind [Te]) (by grind [Zs3]) aa).Q;rintro e w'⟨rfl,S,i,v,y,z,r4,r5,r6⟩;obtain⟨q,U⟩:=ex ((Jd s.D F.2.ps).set (T%2) (Ha T p x));rw[<-U]at v;have B:H0 w' stb db o ⟨r,p,x,T,q⟩ vf vn S i _ _:=⟨v,r5,r6⟩;have ac:Ht mf C (Dp ch) s ⟨r,p,x,T,q⟩:=by unfold Ht;rw[<-l];refine .inr ⟨d,⟨q2,Q,R⟩,K,O,t.r,?_⟩;simp_all
 have ad:(ps++F.2.ps++[(T%2,Ha T p x)]).length<=ps.length+(DK mf s C (Dp ch)).2.ps.length+1:=Γ;have ae:(ep++[((ps.length+F.2.ps.length:Nat):Int)]++[((ps.length+F.2.ps.length+1:Nat):Int)]).length<=ep.length+2:=Ξ;exact⟨rfl,_,o,S,i,_,_,B,ac,ad,ae,D y,D z,λg c => .inr (hO g ((q5 g).2 (.inr (.inl c)))),P r4 (λ_ e=>e),.inr ⟨by rw[<-l];exact d,by rw[<-l,t],by rw[<-l]⟩⟩
theorem Zf9(h:H0 w stb db vk s vf vn vw ve ps ep)(c:H3 s)(l:∃j,j<96/\Dl s.es j<=0)(f:MM w tb rd V Ed vi G I CI ch dv C)(x:ps.length<=999999990000)(v:ep.length<=999999999990)(y:s.tn+1<18446744073709551616):
  Cl 74 #[dP stb,dP tb] w (Vg 512 w stb db vk s vf vn vw ve ps ep C (Dp ch)):=by
 have J:w.cell? (dQ stb 0)=some (dP db):=(h.st.row.J 0).M rfl;obtain⟨N,i⟩:=ex (D3 (LL (Dn s false C (Dp ch)).2.U) 96);have aj:N<=1536:=by rw[i];exact Qt _ _
 have B:Hid (Cl 131 #[dP db,.pointer (some (dQ stb 1)),dP tb,dV false] w.drew λe X=>∃pb,e=dR (dP pb)/\X.cell? (dQ stb 0)=some (dP db)/\Hid (Cl 132 #[.pointer (some (dQ pb 100))] X λe Y=>e=dR (dI (N:Nat))/\Y.cell? (dQ stb 0)=some (dP db)/\
   Hid (¬N<512->Cl 133 #[dP stb,dP pb] Y (Vg 512 w stb db vk s vf vn vw ve ps ep C (Dp ch)))/\
   Hid (N<512->Cl 131 #[dP db,.pointer (some (dQ stb 1)),dP tb,dV true] Y.drew λe Z=>∃n,e=dR (dP n)/\Z.cell? (dQ stb 0)=some (dP db)/\Hid (Cl 133 #[dP stb,dP n] Z (Vg 512 w stb db vk s vf vn vw ve ps ep C (Dp ch)))))):=by
  have P:Bw w w.drew:=(Ad _ _).drew;apply((h.below P).cg c l (f.below P) false).Q;rintro e X⟨pb,O',rfl,am,ah,F,k,hO⟩;have z:Bw w X:=⟨k.os,k.tape,k.output,k.size,k.block⟩;have a:=UA f.ok (Do s.es false s.tp s.D) (c.bk false) (s.tp+1) (by have:=c.tp;omega);change M7 (Dn s false C (Dp ch)) at a;refine⟨pb,rfl,((h.below z).st.row.J 0).M rfl,?_⟩;have ak:=F;obtain⟨U,u,vp,A,Q,R,T,q5⟩:=F;have M:Hr (Dn s false C (Dp ch)).2.U u:=⟨Q,R,T⟩;apply(Ss X pb 100 U u A.cells.2.2.2.2.2.1 A.sa (M.bx (by have:=a.n1;omega) a.pl.1)).Q;rintro e Y⟨rfl,H⟩;have d:Bw w Y:=z.M (H.Q z.size);refine⟨by rw[i,M.nd],((h.below d).st.row.J 0).M rfl,λg=>?_,λg=>?_⟩;refine h.eg c f.ok x v y (cl:=false) (by unfold DK;rw[<-i,if_neg g]) d (pb:=pb) (O':=O') ?_ hO;exact⟨U,u,vp,A.below H,Q,R,T,q5⟩;have m:Bw w Y.drew:=⟨d.os,d.tape,d.output,d.size,d.block⟩;apply((h.below m).cg c l (f.below m) true).Q;rintro e Z⟨n,O2,rfl,al,ai,ac,ad,ab⟩;have O:Bw w Z:=m.M (ad.Q m.size);refine⟨n,rfl,((h.below O).st.row.J 0).M rfl,?_⟩;exact h.eg c f.ok x v y (cl:=true) (by unfold DK;rw[<-i,if_pos g]) O ac (λj l=>Ae m.size (ab j l))
 clear h c l f x v y i;go_enter func74,ntmps74;go_upto_region 0 with fail;refine Az (S:=λX=>X.cell? (dQ stb 0)=some (dP db)) Φ J (λE=>?_);refine tk 0 ?_;refine tk 1 ?_;refine tk 2 ?_;refine tk 3 ?_;refine tk 4 ?_;refine tk 5 ?_;refine tk 6 ?_;refine tk 7 ?_;refine rk 8 (λK a=>?_);go_simp;go_at_call 131;apply(Da B).Q;rintro e X⟨pb,rfl,ae,q⟩;go_wp2_with fail;refine a.out _ _ ae (λD=>?_);clear a K;try simp only[pE]
 refine tk 9 ?_;refine AL Φ ?_ _;clear E D B J;by_cases g:N<512
 .have ag:(N:Int)<512:=Ω;go_upto_region 2 with(go_at_call 132;apply(Da q).Q;rintro e Y⟨rfl,L,o,p⟩);have r:=Db (Da p g);clear o p q;refine Az (S:=λX=>X.cell? (dQ stb 0)=some (dP db)) Φ L (λE=>?_);refine tk 0 ?_;refine tk 1 ?_;refine tk 2 ?_;refine tk 3 ?_;refine tk 4 ?_;refine tk 5 ?_;refine tk 6 ?_;refine tk 7 ?_;refine rk 8 (λK a=>?_);go_simp;go_at_call 131;apply(Da r).Q;rintro e Z⟨n,rfl,af,aa⟩;go_wp2_with fail;refine a.out _ _ af (λD=>?_);clear a K;try simp only[pE]
  refine tk 9 ?_;refine AL Φ ?_ _;go_wp2_with(go_at_call 133;apply(Da aa).Q;intro e W b;obtain rfl:=b.1;have t:=Db b;clear b)
  go_end0
  exact Da t
 .have ag:¬(N:Int)<512:=Ω;go_wp2_with(first|(go_at_call 132;apply(Da q).Q;rintro e Y⟨rfl,L,o,p⟩;have r:=Db (Da o g);clear o p q)|(go_at_call 133;apply(Da r).Q;intro e W b;obtain rfl:=b.1;have t:=Db b;clear b))
  go_end0
  exact Da t
end
