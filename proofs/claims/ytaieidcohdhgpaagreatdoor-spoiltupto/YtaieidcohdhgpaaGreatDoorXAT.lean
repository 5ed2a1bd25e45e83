/- Spoilt. -/
import Derived.Test.YtaieidcohdhgpaaGreatDoorXAS
import Derived.Test.YtaieidcohdhgpaaGreatDoorXAR
namespace Go.Proofs.YtaieidcohdhgpaaGreatDoor
set_option maxHeartbeats 40000000
set_option maxRecDepth 100000
section
open Go.RowKit Go.Shelf
attribute [local go_sem] Oper.semAt_some
def Ld(B0 tb qb l:Nat)(ns:LY)(X:World):Prop:=
 F0 X B0 37 [.pointer (some ⟨tb,0,none⟩)]/\F0 X (B0+1) 9 [.string (jn ns)]/\F0 X (B0+1+1) 247 [.pointer (some ⟨qb,0,none⟩)]/\F0 X (B0+1+1+1) 144 [.func (.yield l) #[] #[]]/\F0 X (B0+1+1+1+1) 4 [.bool false]
theorem Ld.wk{e d b tb c l:Nat}{ns:LY}{X Y:World}(h:Ld b tb c l ns X)(a:G7 e d c X Y)(h1:d<=b)(hq:c<b):Ld b tb c l ns Y:=
 ⟨a.row h.1 (.inr ⟨by omega,by omega,rfl⟩),a.row h.2.1 (.inr ⟨by omega,by omega,rfl⟩),a.row h.2.2.1 (.inr ⟨by omega,by omega,rfl⟩),a.row h.2.2.2.1 (.inr ⟨by omega,by omega,rfl⟩),a.row h.2.2.2.2 (.inr ⟨by omega,by omega,rfl⟩)⟩
theorem Ld.chg{b tb c l B:Nat}{ns:LY}{X Y:World}(h:Ld b tb c l ns X)(a:GP B X Y)(hB:b+5<=B):Ld b tb c l ns Y:=
 ⟨a.row h.1 (.inl (by omega)),a.row h.2.1 (.inl (by omega)),a.row h.2.2.1 (.inl (by omega)),a.row h.2.2.2.1 (.inl (by omega)),a.row h.2.2.2.2 (.inl (by omega))⟩
theorem Lz.entry{s:World}{tb e:Nat}{V:NV}{E:NS}{q:Value}{G:Gh}{I:LF}{C:IB}{ch:LY->List Ek}{g:NV}(H:Lz s tb e V E q G I C ch g){ns:LY}{b:Nat}(m:F4 G e ns b){x:By×VS}(o:x∈E b):
  (∃c,x=(x.1,⟨some ⟨c,0,none⟩,0⟩)/\F4 G e (ns++[x.1]) c)\/(∃(n:Nat) (r:VF),x=(x.1,⟨none,n⟩)/\n<60/\((n:Int),r)∈I/\g n = .slice r.a r.l r.c):=by
 have d:(ns++[x.1],x.2)∈G:=(H.tw.d.en ns b m x.1 x.2).1 o;rcases H.tw.d.shp _ d with h|⟨c,h⟩
 ·obtain⟨n,r,i,j,k,l⟩:=H.num _ d h;refine .inr ⟨n,r,?_,j,k,l⟩;obtain⟨a,p,f⟩:=x;simp at h i;subst h;subst i;rfl
 ·refine .inl ⟨c,?_,?_⟩
  ·obtain⟨a,u⟩:=x;simp at h;subst h;rfl
  ·right;simp at h;rw[<-h];exact d
theorem F4.le6{G:Gh}(a:Gt G){d:Nat}{ns:LY}{b:Nat}(h:F4 G d ns b):ns.length<=6/\IX ns:=by
 rcases h with⟨rfl,_⟩|h
 ·exact⟨by simp,fun n c=>by cases c⟩
 ·exact⟨a.le _ h,a.nms _ h⟩
theorem RL{b m d:Nat}{P:Program}{l:Nat}{f:FuncId}{tmps:Array Value}{assign body:Code}{w:World}{R:Ending->World->Prop}(h:RoundIn Fence.wide m P l f tmps assign body w R):RoundIn (Fence.wide.inRound b) d P l f tmps assign body w R:=⟨AQ,fun c a _=>h.2 c a (room_wide _)⟩
theorem Xd{a r:Nat}(X:World)(o:Obj)(h:a<=r):Below a X (X.putObj r o):=⟨rfl,rfl,rfl,by simp,fun k hk=>Cf (by omega)⟩
theorem ZkY(f:World)(tb rd:Nat)(V:NV)(E:NS)(vi:Value)(G:Gh)(I:LF)(C:IB)(ch:LY->List Ek)(dv:NV)(H:Lz f tb rd V E vi G I C ch dv)
  (L:List It) (l s a:Nat) (J:Nat->World->Prop) (bN:f.heap.size<=s) (bb:s<=a) (hJ:∀k A A',J k A->GP s A A'->J k A')
  (hY:∀k W1,k<L.length->J k W1->YieldAt Fence.wide 1 Tryz.prog l (IR dv L k) W1 fun e W'=>e = .returned (.bool true)/\J (k+1) W'/\ID f.heap.size s W1 W') (d:Nat)
  (bc:∀ns b K S W,F4 G rd ns b->7<=ns.length+d->(∀j y,(DY ch d ns S).1[j]?=some y->L[K+j]?=some y)->Iv f a J K S W->
   Cl 170 #[.pointer (some ⟨tb,0,none⟩),.pointer (some ⟨b,0,none⟩),.string (jn ns),.pointer (some ⟨a,0,none⟩),.func (.yield l) #[] #[]] W (P5 f s a J (K+(DY ch d ns S).1.length) (DY ch d ns S).2 W))
  (ns:LY) (b K:Nat) (S:Ga) (w:World) (hd:F4 G rd ns b) (bM:7<=ns.length+(d+1))
  (hL:∀j y,(GF (DY ch d) ns (ch ns) S).1[j]?=some y->L[K+j]?=some y) (hw:Iv f a J K S w):
  Cl 170 #[.pointer (some ⟨tb,0,none⟩),.pointer (some ⟨b,0,none⟩),.string (jn ns),.pointer (some ⟨a,0,none⟩),.func (.yield l) #[] #[]] w (P5 f s a J (K+(GF (DY ch d) ns (ch ns) S).1.length) (GF (DY ch d) ns (ch ns) S).2 w):=by
 obtain⟨W1,e1,x1,k1,s1,b1⟩:=De w [.pointer (some ⟨tb,0,none⟩)] 37;obtain⟨W2,e2,x2,k2,s2,b2⟩:=De W1 [.string (jn ns)] 9;obtain⟨W3,e3,x3,k3,s3,b3⟩:=De W2 [.pointer (some ⟨a,0,none⟩)] 247;obtain⟨W4,e4,x4,k4,s4,b4⟩:=De W3 [.func (.yield l) #[] #[]] 144;obtain⟨W5,e5,x5,k5,s5,b5⟩:=De W4 [.bool false] 4;obtain⟨m,e6,x6,k6,s6,b6⟩:=De W5 [.pointer (some ⟨b,0,none⟩)] 307;have an:Bw w m:=b1.trans ((b2.mono (by omega)).trans ((b3.mono (by omega)).trans ((b4.mono (by omega)).trans ((b5.mono (by omega)).trans (b6.mono (by omega))))));have t1:W1.heap.size=w.heap.size+1:=by omega
 have t2:W2.heap.size=w.heap.size+1+1:=by omega
 have t3:W3.heap.size=w.heap.size+1+1+1:=by omega
 have t4:W4.heap.size=w.heap.size+1+1+1+1:=by omega
 have t5:W5.heap.size=w.heap.size+1+1+1+1+1:=by omega
 have U:m.heap.size=w.heap.size+6:=by omega
 rw[t1]at x2;rw[t2]at x3;rw[t3]at x4;rw[t4]at x5;rw[t5]at x6;have aU:Ld w.heap.size tb a l ns m:=⟨k6 _ _ _ (k5 _ _ _ (k4 _ _ _ (k3 _ _ _ (k2 _ _ _ x1)))),k6 _ _ _ (k5 _ _ _ (k4 _ _ _ (k3 _ _ _ x2))),k6 _ _ _ (k5 _ _ _ (k4 _ _ _ x3)),k6 _ _ _ (k5 _ _ _ x4),k6 _ _ _ x5⟩;have bC:a<w.heap.size:=hw.s.lt;have aF:f.heap.size<=w.heap.size:=hw.t.size;have u:F0 w b 229 [V b]:=(hw.t.block _ (H.tw.d.row ns b hd).lt).trans (H.tw.d.row ns b hd);have bE:=u.lt;have a0:m.cell? ⟨w.heap.size+1+1+1+1+1,0,none⟩=some (.pointer (some ⟨b,0,none⟩)):=(x6.cell 0).trans rfl;have a3:m.cell? ⟨b,0,none⟩=some (V b):=(an.cell (p:=⟨b,0,none⟩) bE).trans ((u.cell 0).trans rfl);have aX:Sl m 310 3 (V b) (E b).length (Dq (E b)):=(H.tw.d.sl ns b hd).fr (X:=fun _=>False) (Fr.of_below (hw.t.trans (an.mono aF))) (fun _ _ e=>e);have bs:(E b).length<=10000:=Ag (H.tw.d.le H.ok hd) H.gl;have a4:∀g,(V b).ownBlock=some g->g<f.heap.size:=fun g hg=>by
  obtain⟨R,T⟩:=(H.tw.d.sl ns b hd).type hg;exact T.lt
 have be:Iv f a J K S m:=hw.chg hJ (GP.below (B:=w.heap.size) an) (by omega) bC aF;have aW:G7 f.heap.size s a w m:=G7.below an aF;have a1:=H.ch ns b hd;have aD:=Db U;have bf:=Db aU;have bH:=Db an;have bg:=Db a0;have bh:=Db a3;have bo:=Db aX;have bq:=Db be;have bl:=Db aW;have aN:=Db a1;have bn:=Db bc;have HY:=Db hY;have HL:=Db hL;have HJ:=Db hJ;have HH:=Db H;have bi:=Db a4;have aO:=Db e1;have aP:=Db e2;have aQ:=Db e3;have aR:=Db e4;have aS:=Db e5;have aT:=Db e6;have hc:=u.cell 0;clear x1 x2 x3 x4 x5 x6 k1 k2 k3 k4 k5 k6 s1 s2 s3 s4 s5 s6 b1 b2 b3 b4 b5 b6 t1 t2 t3 t4 t5 U e1 e2 e3 e4 e5 e6 an a0 a3 u aU aX be aW a1 bc hY hL hJ a4;refine(Bj (n:=3)).1 ?_;refine BJ Tryz.func170 rfl AQ ?_ rfl;simp only[Tryz.ntmps170,AR,Aq,AS,Nat.reduceAdd,Nat.reduceSub,AV,AU,A3,AY,AA,AI]
 gi_wp2_with (refine⟨AQ,?_⟩;gi_at_call 179;refine(Pt _ _ AQ rfl _ _).mono ?_;rintro e w' ⟨rfl,rfl⟩)
 rw[show w.alloc (.cells #[.pointer (some ⟨tb,0,none⟩)] 37)=W1 from Da aO,show W1.alloc (.cells #[.string (jn ns)] 9)=W2 from Da aP,show W2.alloc (.cells #[.pointer (some ⟨a,0,none⟩)] 247)=W3 from Da aQ,show W3.alloc (.cells #[.func (.yield l) #[] #[]] 144)=W4 from Da aR,show W4.alloc (.cells #[.bool false] 4)=W5 from Da aS,show W5.alloc (.cells #[.pointer (some ⟨b,0,none⟩)] 307)=m from Da aT];rename_i K0 bu;clear aO aP aQ aR aS aT;have U:=Da aD;refine WG (gf:=222) (lb := #[.pointer (some ⟨w.heap.size+1+1+1+1+1,0,none⟩)]) rfl (ER Tryz.func222 (by kernel_rfl) rfl)
  (Z4 (w.heap.size+1+1+1+1+1) b 0 (V b) (E b) bs m (by omega) (by omega) (fun _ A B=>Below f.heap.size A B) (fun g hg _ A B br=>br.block g (Da bi g hg)) (Da bg) (Da bh) (Da bo))
  (Al _ _) Below.trans (fun X o o' ho _=>Xd X o' (by omega)) (Zmu _)
  (fun k X=>Iv f a J (K+(GF (DY ch d) ns ((ch ns).take k) S).1.length) (GF (DY ch d) ns ((ch ns).take k) S).2 X/\Ld w.heap.size tb a l ns X/\G7 f.heap.size s a w X)
  (fun k A A' hA hc=>⟨hA.1.chg (Da HJ) hc (by omega) (by omega) (by omega),hA.2.1.chg hc (by omega),hA.2.2.chg hc (by omega) (by omega)⟩)
  ⟨by simpa [GF] using Da bq,Da bf,Da bl⟩
  (fun k a' X=>∃Bx x,(E b)[k]?=some x/\m.heap.size+2<=Bx/\F0 X Bx 260 [.pointer x.2.p,.int .i64 x.2.f]/\a'={ tmps := #[.pointer (some ⟨tb,0,none⟩),.pointer (some ⟨b,0,none⟩),.string (jn ns),.pointer (some ⟨a,0,none⟩),.func (.yield l) #[] #[],.pointer (some ⟨w.heap.size,0,none⟩),undef,.pointer (some ⟨w.heap.size+1,0,none⟩),.pointer (some ⟨w.heap.size+1+1,0,none⟩),.pointer (some ⟨w.heap.size+1+1+1,0,none⟩),.pointer (some ⟨w.heap.size+1+1+1+1,0,none⟩),.string x.1,.pointer (some ⟨Bx,0,none⟩),undef,.pointer (some ⟨b,0,none⟩),.pointer (some ⟨b,0,none⟩),.pointer (some ⟨b,0,none⟩),.func (.func 222) #[] #[.pointer (some ⟨w.heap.size+1+1+1+1+1,0,none⟩)],.string x.1,.agg #[.pointer x.2.p,.int .i64 x.2.f],undef,undef,undef,undef,undef,undef,undef,undef,undef,undef,undef,undef,undef,undef,undef,undef,undef,undef,undef,undef,undef,undef,undef,undef,undef,undef],defers:=[] })
  (fun k a' A A' hA hs hc hj=>by
   obtain⟨Bx,x,O,am,hr,ha⟩:=hA;exact⟨Bx,x,O,am,(hj Bx am).trans hr,ha⟩)
  ?assign ?body ?done
 case assign=>
  rintro k X Kk hk ⟨i,t,z⟩ D a5;obtain⟨x,O⟩:∃x,(E b)[k]?=some x:=⟨_,Ac hk⟩;rw[Pz O];have HX:=Db O;have bj:=Db a5;have HZ:=Db D;have Q:=Db i;have HB:=Db t;have HK:=Db z;clear U i t z O a5 D
  gi_wp2
  have U:=Da aD;have aI:GP (m.heap.size) X (X.alloc (.cells #[.pointer x.2.p,.int .i64 x.2.f] 260)):=GP.alloc _ _;exact Da bj _ _ ((EO _ _).from _) ((Al _ X).alloc (by have:=(Da HZ);omega) _) ⟨(Da Q).chg (Da HJ) aI (by omega) (by omega) (by omega),(Da HB).chg aI (by omega),(Da HK).chg aI (by omega) (by omega)⟩ ⟨X.heap.size,x,Da HX,Da HZ,Cp X _,rfl⟩
 case body=>
  rintro k a' X hk D ⟨i,t,z⟩ ⟨Bx,x,O,am,u,rfl⟩;have ax:x∈E b:=An O;have aK:(ch ns)[k]?=some (Jl x):=by rw[Da aN,Bv,O];rfl
  have aC:=TQ (DY ch d) ns (ch ns) k _ aK S;have aJ:=itL_at (DY ch d) ns (ch ns) k _ aK S;obtain⟨P,hP⟩:=ex (GF (DY ch d) ns ((ch ns).take k) S);rw[<-hP]at i aC aJ;have aG:∀j y,(Hc (DY ch d) ns P.2 (Jl x)).1[j]?=some y->L[K+P.1.length+j]?=some y:=fun j y hj=>by
   rw[EM];exact Da HL _ _ (aJ j y hj)
  obtain⟨bO,bB⟩:=F4.le6 H.ok hd;have bL:=OW ns bB;have bP:x.1.size<=12:=by
   have h1:=H.ok.nms _ ((H.tw.d.en ns b hd x.1 x.2).1 ax) x.1 (by simp);unfold DX at h1;simp only[Bu,AJ]at h1;exact h1.1.2
  have bQ:(jn ns).size+1<=9223372036854775807:=by omega
  have bR:(jn ns).size+1+x.1.size<=9223372036854775807:=by omega
  have aZ:w.heap.size<=X.heap.size:=z.1.size;have al:Hid (∀(a2:Act) Y,Iv f a J (K+P.1.length+(Hc (DY ch d) ns P.2 (Jl x)).1.length) (Hc (DY ch d) ns P.2 (Jl x)).2 Y->G7 f.heap.size s a X Y->T5 m.heap.size (fun A B=>Below f.heap.size A B) (fun X=>Iv f a J (K+(GF (DY ch d) ns ((ch ns).take (k+1)) S).1.length) (GF (DY ch d) ns ((ch ns).take (k+1)) S).2 X/\Ld w.heap.size tb a l ns X/\G7 f.heap.size s a w X) X .normal a2 Y):=fun a2 Y h1 h2=>by
   refine⟨h2.keeps (by omega) (by omega),h2.1,?_,t.wk h2 (by omega) (by omega),z.trans h2⟩;rw[aC];show Iv f a J (K+(P.1++_).length) _ Y;rw[Ad,<-EM];exact h1
  have ac:Hid (∀Y,G7 f.heap.size s a X Y->Ld w.heap.size tb a l ns Y/\F0 Y Bx 260 [.pointer x.2.p,.int .i64 x.2.f]):=fun Y h=>⟨t.wk h (by omega) (by omega),h.row u (.inr ⟨by omega,by omega,rfl⟩)⟩
  have F:Hid (∀c S' (y:It) (q:F6),Kj dv y = .agg q.toArray->(Hc (DY ch d) ns P.2 (Jl x)).1[0]?=some y->Iv f a J (K+P.1.length) S' c->G7 f.heap.size s a X c->YieldAt Fence.wide 1 Tryz.prog l #[.agg q.toArray] (c.alloc (.cells q.toArray 141)) fun e Y=>e = .returned (.bool true)/\Hid (Iv f a J (K+P.1.length+1) S' Y/\G7 f.heap.size s a X Y/\Ld w.heap.size tb a l ns Y/\F0 Y Bx 260 [.pointer x.2.p,.int .i64 x.2.f]/\F0 Y c.heap.size 141 q)):=fun c S' y q hq bG h1 h2=>by
   have aH:=aG 0 y bG;have bA:=(Ae.1 aH).1;have bS:w.heap.size<=c.heap.size:=Ag aZ h2.1.size;have h3:=h1.chg (Da HJ) (GP.alloc (B:=c.heap.size) c (.cells q.toArray 141)) (by omega) (by omega) (by omega);have hy:=Da HY _ (c.alloc (.cells q.toArray 141)) bA h3.j;rw[El]at hy aH;rw[PA aH,hq]at hy;refine hy.mono ?_;rintro e Y ⟨rfl,hj,aB⟩;have bF:G7 f.heap.size s a c (c.alloc (.cells q.toArray 141)):=G7.below ((Al _ c).alloc (Aa _) _) (by omega);have aL:G7 f.heap.size s a X Y:=h2.trans (bF.trans (aB.wk a));refine⟨rfl,⟨hj,h3.t.trans aB.1,aB.row h3.s (.inr ⟨bb,rfl⟩)⟩,aL,t.wk aL (by omega) (by omega),aL.row u (.inr ⟨by omega,by omega,rfl⟩),?_⟩;exact aB.row (Cp c _) (.inr ⟨by omega,rfl⟩)
  have c0:=(t.1.cell 0).trans (show _=some (Value.pointer (some ⟨tb,0,none⟩)) from rfl);have c1:=(t.2.1.cell 0).trans (show _=some (Value.string (jn ns)) from rfl);have c2:=(t.2.2.1.cell 0).trans (show _=some (Value.pointer (some ⟨a,0,none⟩)) from rfl);have a9:=XU ns x.1;have az:=Db a9;have bI:=Db aC;have ar:=Db aG;have HP:=Db hP;have aE:=Db aZ;clear aJ aC hP aK aG a9;rcases H.entry hd ax with⟨b',ak,bd⟩|⟨n,r,ak,a8,bt,bw⟩
  ·have ao:Jl x=(x.1,none):=by rw[ak];rfl
   have ai:x.2=⟨some ⟨b',0,none⟩,0⟩:=by rw[ak]
   rw[ai]at u;have d0:=(u.cell 0).trans (show _=some (Value.pointer (some ⟨b',0,none⟩)) from rfl);have d1:=(u.cell 1).trans (show _=some (Value.int .i64 0) from rfl);have v:=Z0 X (some ⟨tb,0,none⟩) (some ⟨a,0,none⟩) (jn ns++⟨#[47]⟩++x.1) ⟨b',0,none⟩ 0;rw[XR]at v;have ad:=Db v;have HR:=Db (Da bn (ns++[x.1]) b' (K+P.1.length+1) P.2);rw[ao]at F al ar;rw[ai]at F ac ⊢;have Q:=Db i;have bp:=Db bd;have HK:=Db z;clear v ak ao u i t z bd ai ax O
   gi_wp2_with (fail)
   refine⟨AQ,?_⟩;refine(Ec _ (Bj.2 (Da ad))).mono ?_;rintro e c ⟨rfl,aa⟩;have au:=Da aE;have av:=aa.size;have M:G7 f.heap.size s a X c:=G7.below aa (by omega);have ag:Iv f a J (K+P.1.length) P.2 c:=(Da Q).chg (Da HJ) (GP.below (B:=X.heap.size) aa) (by omega) (by omega) (by omega);obtain⟨fn,tmps,assign,body,hy,T⟩:=Da F c P.2 ⟨ns++[x.1],1,0⟩ [.string (jn ns++⟨#[47]⟩++x.1),.int .u8 1,.int .i64 0,.slice none 0 0] (by rw[Z1,Da az]) rfl ag M;have R:=Db T;have N:=(Da ac c M).1;have e3:=(((Al c.heap.size c).alloc (Aa _) (.cells #[.string (jn ns++⟨#[47]⟩++x.1),.int .u8 1,.int .i64 0,.slice none 0 0] 141)).cell (p:=⟨w.heap.size+1+1+1,0,none⟩) N.2.2.2.1.lt).trans ((N.2.2.2.1.cell 0).trans (show _=some (Value.func (.yield l) #[] #[]) from rfl));clear T F ac ad ag M N au av aa c0 c1 c2 d0 d1 U D am
   gi_wp2
   refine(RL (Da R)).mono ?_;rintro e Y ⟨rfl,ae⟩;obtain⟨ab,ah,af,aj,ap⟩:=Da ae;have f0:=(af.1.cell 0).trans (show _=some (Value.pointer (some ⟨tb,0,none⟩)) from rfl);have f2:=(af.2.2.1.cell 0).trans (show _=some (Value.pointer (some ⟨a,0,none⟩)) from rfl);have f3:=(af.2.2.2.1.cell 0).trans (show _=some (Value.func (.yield l) #[] #[]) from rfl);have fx:=(aj.cell 0).trans (show _=some (Value.pointer (some ⟨b',0,none⟩)) from rfl);have fm:=(ap.cell 0).trans (show _=some (Value.string (jn ns++⟨#[47]⟩++x.1)) from rfl);have ay:=Db ab;have aq:=Db ah;have v:=Da HR Y (Da bp) (by simp;omega) (fun j y hj=>by
    have:=Da ar (j+1) y hj;rw[show K+P.1.length+1+j=K+P.1.length+(j+1) by omega];exact this) ab
   rw[Da az]at v;have aM:=Db v;clear R ae ab ah af aj ap e3 hy v
   gi_wp2_with (fail)
   refine⟨AQ,?_⟩;refine(Ec _ (Bj.2 (Da aM))).mono ?_;rintro e Z ⟨rfl,a6,a7⟩;have bk:=Db a6;have bm:=Db ((Da aq).trans a7);clear a6 a7 aM f0 f2 f3 fx fm
   gi_wp2
   refine Da al _ _ ?_ (Da bm);have D:=Da bk;rw[show K+P.1.length+1+(DY ch d (ns++[x.1]) P.2).1.length=K+P.1.length+((DY ch d (ns++[x.1]) P.2).1.length+1) by omega]at D;exact D
  ·have ao:Jl x=(x.1,some n):=by rw[ak];rfl
   have ai:x.2=⟨none,n⟩:=by rw[ak]
   rw[ai]at u;have d0:=(u.cell 0).trans (show _=some (Value.pointer none) from rfl);have d1:=(u.cell 1).trans (show _=some (Value.int .i64 (n:Nat)) from rfl);rw[ao]at F al ar;rw[ai]at F ac ⊢;have Q:=Db i;have HK:=Db z
   cases hS:P.2 n with
   | true=>
    have v:=ZlU X (some ⟨tb,0,none⟩) (jn ns++⟨#[47]⟩++x.1) n a8 a P.2 i.s hS;rw[XT]at v;have ad:=Db v;have aw:Hc (DY ch d) ns P.2 (x.1,some n)=([⟨ns++[x.1],3,n⟩],P.2):=by unfold Hc;simp[hS]
    rw[aw]at F al;clear v ak ao u i t z ai ax O hS aw ar
    gi_wp2_with (fail)
    refine⟨AQ,?_⟩;refine(Ec _ (Bj.2 (Da ad))).mono ?_;rintro e c ⟨rfl,aa⟩;have au:=Da aE;have av:=aa.size;have M:G7 f.heap.size s a X c:=G7.below aa (by omega);have ag:Iv f a J (K+P.1.length) P.2 c:=(Da Q).chg (Da HJ) (GP.below (B:=X.heap.size) aa) (by omega) (by omega) (by omega);obtain⟨fn,tmps,assign,body,hy,T⟩:=Da F c P.2 ⟨ns++[x.1],3,n⟩ [.string (jn ns++⟨#[47]⟩++x.1),.int .u8 3,.int .i64 (n:Nat),.slice none 0 0] (by rw[Vr,Da az]) rfl ag M;have R:=Db T;have N:=(Da ac c M).1;have e3:=(((Al c.heap.size c).alloc (Aa _) (.cells #[.string (jn ns++⟨#[47]⟩++x.1),.int .u8 3,.int .i64 (n:Nat),.slice none 0 0] 141)).cell (p:=⟨w.heap.size+1+1+1,0,none⟩) N.2.2.2.1.lt).trans ((N.2.2.2.1.cell 0).trans (show _=some (Value.func (.yield l) #[] #[]) from rfl));clear T F ac ad ag M N au av aa c0 c1 c2 d0 d1 U D am
    gi_wp2
    refine(RL (Da R)).mono ?_;rintro e Y ⟨rfl,ae⟩;obtain⟨ab,ah,af,aj,ap⟩:=Da ae;have fx:=(aj.cell 0).trans (show _=some (Value.pointer none) from rfl);have ay:=Db ab;have aq:=Db ah;clear R ae ab ah af aj ap e3 hy
    gi_wp2
    refine⟨AQ,?_⟩
    gi_wp2
    exact Da al _ _ (Da ay) (Da aq)
   | false=>
    have aY:∀w',Fr (fun k=>k=a) X w'->TW w' tb rd V E vi G I C:=fun w' hf=>H.tw.below (B:=f.heap.size) (i.t.trans ⟨hf.os,hf.tape,hf.output,hf.size,fun j hj=>hf.block j (by have:=i.t.size;omega) (by omega)⟩) (Aa _)
    have v:=ZlV X tb rd V E vi G I C (H.tw.below i.t (Aa _)) H.il (jn ns++⟨#[47]⟩++x.1) n a8 r bt a P.2 i.s hS (by have:=H.tw.t.lt;omega) aY;have ad:=Db v;have aw:Hc (DY ch d) ns P.2 (x.1,some n)=([⟨ns++[x.1],2,n⟩],P.2.add n):=by unfold Hc;simp[hS]
    rw[aw]at F al;clear v ak ao u i t z ai ax O hS aw ar aY
    gi_wp2_with (fail)
    refine⟨AQ,?_⟩;refine(Ec _ (Bj.2 (Da ad))).mono ?_;rintro e c ⟨rfl,ba,aA⟩;rw[XS];have au:=Da aE;have av:=aA.size;have M:G7 f.heap.size s a X c:=G7.fr aA (by omega) (by omega);have ag:Iv f a J (K+P.1.length) (P.2.add n) c:=⟨Da HJ _ _ _ (Da Q).j (GP.fr aA bb (Da Q).s rfl),(Da Q).t.trans M.1,ba⟩;obtain⟨fn,tmps,assign,body,hy,T⟩:=Da F c (P.2.add n) ⟨ns++[x.1],2,n⟩ [.string (jn ns++⟨#[47]⟩++x.1),.int .u8 2,.int .i64 (n:Nat),.slice r.a r.l r.c] (by rw[Vq,Da az,bw]) rfl ag M;have R:=Db T;have N:=(Da ac c M).1;have e3:=(((Al c.heap.size c).alloc (Aa _) (.cells #[.string (jn ns++⟨#[47]⟩++x.1),.int .u8 2,.int .i64 (n:Nat),.slice r.a r.l r.c] 141)).cell (p:=⟨w.heap.size+1+1+1,0,none⟩) N.2.2.2.1.lt).trans ((N.2.2.2.1.cell 0).trans (show _=some (Value.func (.yield l) #[] #[]) from rfl));clear T F ac ad ag M N au av aA ba c0 c1 c2 d0 d1 U D am
    gi_wp2
    refine(RL (Da R)).mono ?_;rintro e Y ⟨rfl,ae⟩;obtain⟨ab,ah,af,aj,ap⟩:=Da ae;have fx:=(aj.cell 0).trans (show _=some (Value.pointer none) from rfl);have ay:=Db ab;have aq:=Db ah;clear R ae ab ah af aj ap e3 hy
    gi_wp2
    refine⟨AQ,?_⟩
    gi_wp2
    exact Da al _ _ (Da ay) (Da aq)
 case done=>
  rintro X D ⟨i,t,z⟩ hD;have bJ:=(t.2.2.2.2.cell 0).trans (show _=some (Value.bool false) from rfl);have bK:=t.2.2.2.2.frozen 0;have HD:=Db hD;have Q:=Db i;have HB:=Db t;have HK:=Db z;have HZ:=Db D;clear U hD i t z D;show K0 _ _;refine bu _ _ ?_
  gi_wp2
  have U:=Da aD;have D:=Da HZ;have aV:(X.setCell ⟨w.heap.size+1+1+1+1,0,none⟩ (.bool true)).heap[m.heap.size]?=some (.deferred (some [])):=(AB _ _ _ _ (show m.heap.size≠w.heap.size+1+1+1+1 by omega)).trans (Da HD);refine⟨by simp,.inl ⟨_,_,rfl,Cb aV,?_⟩⟩;have bD:F0 (X.setCell ⟨w.heap.size+1+1+1+1,0,none⟩ (.bool true)) (w.heap.size+1+1+1+1) 4 [.bool true]:=(Da HB).2.2.2.2.set 0 (.bool true);have bz:F0 ((X.setCell ⟨w.heap.size+1+1+1+1,0,none⟩ (.bool true)).putObj m.heap.size (.deferred none)) (w.heap.size+1+1+1+1) 4 [.bool true]:=(Cf (show w.heap.size+1+1+1+1≠m.heap.size by omega)).trans bD;have bv:=(bz.cell 0).trans (show _=some (Value.bool true) from rfl);have g1:GP w.heap.size X (X.setCell ⟨w.heap.size+1+1+1+1,0,none⟩ (.bool true)):=⟨_,grownBy_setCell' X _ _,fun r e=>by cases e;exact⟨by omega,_,(Da HB).2.2.2.2,.inr ⟨_,_,_,rfl,rfl⟩⟩⟩;have g2:GP w.heap.size (X.setCell ⟨w.heap.size+1+1+1+1,0,none⟩ (.bool true)) ((X.setCell ⟨w.heap.size+1+1+1+1,0,none⟩ (.bool true)).putObj m.heap.size (.deferred none)):=GP.put _ (by omega) aV (.inl rfl);have bx:GF (DY ch d) ns ((ch ns).take (E b).length) S=GF (DY ch d) ns (ch ns) S:=by rw[Ah (by rw[Da aN,AK];omega)]
  have i:=Da Q;rw[bx]at i;refine⟨_,by simp[results,Tryz.results170,go_sem,bv]<;>rfl,rfl,(i.chg (Da HJ) g1 (by omega) (by omega) (by omega)).chg (Da HJ) g2 (by omega) (by omega) (by omega),((Da HK).chg g1 (by omega) (by omega)).chg g2 (by omega) (by omega)⟩
end
section
open Go.RowKit Go.Shelf
attribute [local go_sem] Oper.semAt_some
theorem VJ(c:World)(tb h:Nat)(V:NV)(E:NS)(i:Value)(G:Gh)(I:LF)(C:IB)(ch:LY->List Ek)(g:NV)(H:Lz c tb h V E i G I C ch g)
  (L:List It) (l a f:Nat) (J:Nat->World->Prop) (p:c.heap.size<=a) (q:a<=f) (n:∀k A A',J k A->GP a A A'->J k A')
  (o:∀k W1,k<L.length->J k W1->YieldAt Fence.wide 1 Tryz.prog l (IR g L k) W1 fun e m=>e = .returned (.bool true)/\J (k+1) m/\ID c.heap.size a W1 m):
  ∀(d:Nat) (ns:LY) (b K:Nat) (S:Ga) (w:World),F4 G h ns b->7<=ns.length+d->(∀j y,(DY ch d ns S).1[j]?=some y->L[K+j]?=some y)->Iv c f J K S w->
   Cl 170 #[.pointer (some ⟨tb,0,none⟩),.pointer (some ⟨b,0,none⟩),.string (jn ns),.pointer (some ⟨f,0,none⟩),.func (.yield l) #[] #[]] w (P5 c a f J (K+(DY ch d ns S).1.length) (DY ch d ns S).2 w)
 | 0,ns,b,K,S,w,hd,hlen,_,_=>by have:=(F4.le6 H.ok hd).1;omega
 | d+1,ns,b,K,S,w,hd,hlen,hL,hw=>ZkY c tb h V E i G I C ch g H L l a f J p q n o d (VJ c tb h V E i G I C ch g H L l a f J p q n o d) ns b K S w hd hlen hL hw
theorem Zki:J6 (fun _=>false)=List.replicate 60 (.bool false):=by
 unfold J6;exact List.map_const' .. |>.trans (by rw[A2])
def DD(ch:LY->List Ek):List It:=(DY ch 7 [] (fun _=>false)).1
theorem Z5(b z:World)(a tb f:Nat)(V:NV)(E:NS)(x:Value)(G:Gh)(I:LF)(C:IB)(ch:LY->List Ek)(q:NV)(H:Lz b tb f V E x G I C ch q)(t:Bw b z)(r:F0 z a 37 [.pointer (some ⟨tb,0,none⟩)]):
  Mu 169 #[.pointer (some ⟨a,0,none⟩)] (IR q (DD ch)) (DD ch).length (fun n1 A B=>ID b.heap.size n1 A B/\B.heap[a]?=A.heap[a]?) z:=fun l J W u s N h0=>by
 have n:F0 W a 37 [.pointer (some ⟨tb,0,none⟩)]:=(u.block _ r.lt).trans r;have m:Bw b W:=t.trans (u.mono t.size);have D:=(n.cell 0).trans (show _=some (Value.pointer (some ⟨tb,0,none⟩)) from rfl);have L:=n.lt;have R:F0 W tb 214 [.pointer (some ⟨f,0,none⟩),x]:=(m.block _ H.tw.t.lt).trans H.tw.t;obtain⟨c,F,T,w,s1,d⟩:=De W (List.replicate 60 (.bool false)) 245;have d1:c.cell? ⟨a,0,none⟩=some (.pointer (some ⟨tb,0,none⟩)):=(d.cell (p:=⟨a,0,none⟩) (Aj _ _ D)).trans D;have d2:c.cell? ⟨tb,0,none⟩=some (.pointer (some ⟨f,0,none⟩)):=((w _ _ _ R).cell 0).trans rfl;have i:Bw b c:=m.trans (d.mono m.size);have P:Iv b W.heap.size (fun k X=>J k X/\F0 X a 37 [.pointer (some ⟨tb,0,none⟩)]) 0 (fun _=>false) c.drew:=⟨⟨s _ _ _ h0 (GP.below ⟨d.os,d.tape,d.output,d.size,d.block⟩),w _ _ _ n⟩,⟨i.os,i.tape,i.output,i.size,i.block⟩,by rw[Zki];exact T⟩;have HW:Hid (Cl 170 #[.pointer (some ⟨tb,0,none⟩),.pointer (some ⟨f,0,none⟩),.string ⟨#[]⟩,.pointer (some ⟨W.heap.size,0,none⟩),.func (.yield l) #[] #[]] c.drew fun e w'=>e = .returned (.bool true)/\w'.cell? ⟨a,0,none⟩=some (.pointer (some ⟨tb,0,none⟩))/\w'.cell? ⟨tb,0,none⟩=some (.pointer (some ⟨f,0,none⟩))/\Hid (J (DD ch).length w')):=(VJ b tb f V E x G I C ch q H (DD ch) l W.heap.size W.heap.size (fun k X=>J k X/\F0 X a 37 [.pointer (some ⟨tb,0,none⟩)]) m.size (Aa _) (fun k A U h O=>⟨s k A U h.1 O,O.row h.2 (.inl L)⟩) (fun k c o h=>(N k c o h.1).mono fun e W' ⟨v,g,o⟩=>⟨v,⟨g,o.2.trans h.2⟩,o.1⟩) 7 [] f 0 (fun _=>false) c.drew (.inl ⟨rfl,rfl⟩) (by simp) (fun j y g=>by rw[Av];exact g) P).mono fun e w' ⟨v,Q,ac⟩=>by
  have g:=Q.j;rw[Av]at g;refine⟨v,(g.2.cell 0).trans rfl,(Q.t.cell (p:=⟨tb,0,none⟩) H.tw.t.lt).trans ((H.tw.t.cell 0).trans rfl),g.1⟩
 have Y:=Db F;clear N s u r n m t R T w s1 d F P i H L;go_enter Tryz.func169,Tryz.ntmps169;go_upto_region 0 with fail;refine A1 ?_;refine Ju rfl 245 rfl YZ ?_;refine EL ?_;rw[show W.alloc (.cells (List.replicate 60 (Value.bool false)).toArray 245)=c from Da Y]
 (try simp only[pE])
 go_upto_region 1 with fail;refine AD (S:=fun X=>X.cell? ⟨a,0,none⟩=some (.pointer (some ⟨tb,0,none⟩))/\X.cell? ⟨tb,0,none⟩=some (.pointer (some ⟨f,0,none⟩))) (by kernel_rfl) ⟨d1,d2⟩ (fun ab=>?_);refine tk 0 ?_;try simp only[pE];refine tk 1 ?_;try simp only[pE];refine tk 2 ?_;try simp only[pE];refine tk 3 ?_;try simp only[pE];refine tk 4 ?_;try simp only[pE];refine tk 5 ?_;try simp only[pE];refine rk 6 (fun K M=>?_);go_simp;go_at_call 170;refine(Da HW).mono ?_;rintro e w' ⟨rfl,q1,q2,Z⟩;go_wp2_with fail;refine M.out _ _ ⟨q1,q2⟩ (fun aa=>?_);clear M K
 (try simp only[pE])
 refine AW (by kernel_rfl) ?_ _;go_wp2
 go_end0
 exact⟨⟨_,rfl⟩,Da Z⟩
end
open Go.RowKit
def Gg(d:By):Nat:=(d.size+64-1)/64
def Dt(E:F3)(C:NB)(last:By)(st:Pl)(x:It):By×Pl:=
 if x.k=1 then (Dx last (jn x.ns) 1++Dp last (jn x.ns),st)
 else if x.k=3 then (Dx last (jn x.ns) 3++Dp last (jn x.ns)++⟨#[UInt8.ofNat x.f]⟩,st)
 else (Dx last (jn x.ns) 2++Dp last (jn x.ns)++⟨#[UInt8.ofNat x.f]⟩++Je (C x.f).size 2++JM E x.f (C x.f) st 0 (List.range (Gg (C x.f))),
  E.puts (Dd 4 x.f) (Gl (C x.f)) st 0 (List.range (Gg (C x.f))))
def Dr(E:F3)(C:NB):By->Pl->List It->By×Pl
 | _,st,[]=>(⟨#[]⟩,st)
 | last,st,x::xs=>((Dt E C last st x).1++(Dr E C (jn x.ns) (Dt E C last st x).2 xs).1,(Dr E C (jn x.ns) (Dt E C last st x).2 xs).2)
def JW:By->List It->By
 | last,[]=>last
 | _,x::xs=>JW (jn x.ns) xs
theorem Ro:∀(last:By) (xs:List It) (x:It),JW last (xs++[x])=jn x.ns
 | _,[],_=>rfl
 | _,y::xs,x=>Ro (jn y.ns) xs x
theorem VD(E:F3)(C:NB):∀(last:By) (st:Pl) (xs:List It) (x:It),Dr E C last st (xs++[x])=((Dr E C last st xs).1++(Dt E C (JW last xs) (Dr E C last st xs).2 x).1,(Dt E C (JW last xs) (Dr E C last st xs).2 x).2)
 | last,st,[],x=>by
  show((Dt E C last st x).1++⟨#[]⟩,(Dt E C last st x).2)=(⟨#[]⟩++(Dt E C last st x).1,(Dt E C last st x).2);rw[KC,Uh]
 | last,st,y::xs,x=>by
  show((Dt E C last st y).1++(Dr E C (jn y.ns) (Dt E C last st y).2 (xs++[x])).1,(Dr E C (jn y.ns) (Dt E C last st y).2 (xs++[x])).2)=_;rw[VD E C (jn y.ns) (Dt E C last st y).2 xs x];show(_++(_++_),_)=((_++_)++_,_);rw[JF]
  rfl
structure GQ(C:NB)(L:List It):Prop where
 len:L.length<=100
 kind:∀x∈L,x.k=1\/x.k=2\/x.k=3
 path:∀x∈L,(jn x.ns).size<=100
 num:∀x∈L,x.f<60
 size:∀x∈L,x.k=2->(C x.f).size<=1280
 fresh:∀(i j:Nat) x y,i<j->L[i]?=some x->L[j]?=some y->x.k=2->y.k=2->x.f≠y.f
theorem Qd{d:By}(h:d.size<=1280):Gg d<=20:=by unfold Gg;omega
theorem Zms(a p:By):(Dp a p).size<=p.size:=by unfold Dp;rw[Af];omega
theorem Yx(E:F3)(C:NB)(a:By)(st:Pl)(x:It)(hp:(jn x.ns).size<=100)(l:x.k=2->(C x.f).size<=1280)(i:x.k=1\/x.k=2\/x.k=3):
  (Dt E C a st x).1.size<=306/\(Dt E C a st x).2.puts.length<=st.puts.length+20/\(Dt E C a st x).2.ps.length<=st.ps.length+20/\(st.hd<=1536->(Dt E C a st x).2.hd<=1536)/\
  ∀y∈(Dt E C a st x).2.puts,y∈st.puts\/(x.k=2/\∃j,j<20/\y.1=Dd 4 x.f j):=by
 have ht:=Zms a (jn x.ns);have c:∀k,(Dx a (jn x.ns) k).size=3:=fun k=>rfl
 have d:∀u:UInt8,(⟨#[u]⟩:By).size=1:=fun u=>rfl
 unfold Dt;rcases i with e|e|e
 ·rw[if_pos e];exact⟨by rw[Ai,c];omega,Fq _ _,Fq _ _,id,fun y b => .inl b⟩
 ·rw[if_neg (by omega),if_neg (by omega)];have hn:=Qd (l e);obtain⟨m,n,o⟩:=F3.puts_len E (Dd 4 x.f) (Gl (C x.f)) st 0 (List.range (Gg (C x.f)));rw[A2]at m n;have f:(E.puts (Dd 4 x.f) (Gl (C x.f)) st 0 (List.range (Gg (C x.f)))).puts.length<=st.puts.length+20:=by omega
  have g:(E.puts (Dd 4 x.f) (Gl (C x.f)) st 0 (List.range (Gg (C x.f)))).ps.length<=st.ps.length+20:=by omega
  refine⟨?_,f,g,o,fun y b=>?_⟩
  ·simp only[Ai,c,d,K4,Rr,A2];omega
  ·rcases F3.puts_mem E _ _ st 0 _ y b with h|⟨j,_,p,q⟩
   ·exact .inl h
   ·rw[A2]at p;exact .inr ⟨e,j,by omega,q⟩
 ·rw[if_neg (by omega),if_pos e];exact⟨by simp only[Ai,c,d];omega,Fq _ _,Fq _ _,id,fun y b => .inl b⟩
theorem KP(E:F3)(C:NB):∀(last:By) (st:Pl) (xs:List It),(∀x∈xs,(jn x.ns).size<=100/\(x.k=2->(C x.f).size<=1280)/\(x.k=1\/x.k=2\/x.k=3))->
  (Dr E C last st xs).1.size<=306*xs.length/\(Dr E C last st xs).2.puts.length<=st.puts.length+20*xs.length/\(Dr E C last st xs).2.ps.length<=st.ps.length+20*xs.length/\(st.hd<=1536->(Dr E C last st xs).2.hd<=1536)/\
  ∀y∈(Dr E C last st xs).2.puts,y∈st.puts\/∃x∈xs,x.k=2/\∃j,j<20/\y.1=Dd 4 x.f j
 | last,st,[],_=>⟨Aa _,Aa _,Aa _,id,fun y a => .inl a⟩
 | last,st,x::xs,h=>by
  obtain⟨i,k,l⟩:=h x (by simp);obtain⟨a1,a2,a3,b,c⟩:=Yx E C last st x i k l;obtain⟨b1,b2,b3,d,f⟩:=KP E C (jn x.ns) (Dt E C last st x).2 xs (fun y a=>h y (AF _ a));refine⟨?_,?_,?_,fun h=>d (b h),fun y a=>?_⟩
  ·show((Dt E C last st x).1++_).size<=_;rw[Ai,Aq];omega
  ·show(Dr E C _ _ xs).2.puts.length<=_;rw[Aq];omega
  ·show(Dr E C _ _ xs).2.ps.length<=_;rw[Aq];omega
  ·rcases f y a with h|⟨z,g,r⟩
   ·rcases c y h with h|⟨e,r⟩
    ·exact .inl h
    ·exact .inr ⟨x,by simp,e,r⟩
   ·exact .inr ⟨z,AF _ g,r⟩
theorem N9{kk f a i j:Nat}(hi:i<65536)(hj:j<65536)(_hf:f<65536)(_hf':a<65536)(h:Dd kk f i=Dd kk a j):f=a:=by unfold Dd at h;omega
theorem QY{kk kk' f a i j:Nat}(hi:i<65536)(hj:j<65536)(hf:f<65536)(aa:a<65536)(h:Dd kk f i=Dd kk' a j):kk=kk':=by unfold Dd at h;omega
theorem GQ.turn{C:NB}{L:List It}(h:GQ C L)(E:F3)(st0:Pl)(p:st0.puts=[])(q:st0.ps=[])(r:st0.hd<=1536)(k:Nat)(x:It)(d:L[k]?=some x):
  (Dr E C ⟨#[]⟩ st0 (L.take k)).1.size<=30600/\(Dr E C ⟨#[]⟩ st0 (L.take k)).2.puts.length<=2000/\(Dr E C ⟨#[]⟩ st0 (L.take k)).2.ps.length<=2000/\(Dr E C ⟨#[]⟩ st0 (L.take k)).2.hd<=1536/\
  (x.k=2->∀y∈(Dr E C ⟨#[]⟩ st0 (L.take k)).2.puts,∀i,i<1000->y.1≠Dd 4 x.f i)/\(JW ⟨#[]⟩ (L.take k)).size<=100:=by
 have ac:=(Ae.1 d).1;have ab:=h.len;have ae:(L.take k).length=k:=by rw[Am];omega
 obtain⟨b1,f,g,n,l⟩:=KP E C ⟨#[]⟩ st0 (L.take k) (fun z a=>⟨h.path z (BE a),h.size z (BE a),h.kind z (BE a)⟩);rw[p]at f l;rw[q]at g;simp only[AS]at f g;refine⟨by omega,by omega,by omega,n r,fun s y c i hi e=>?_,?_⟩
 ·rcases l y c with u|⟨z,a,v,j,hj,o⟩
  ·cases u
  ·obtain⟨m,b⟩:=Cd.1 a;have ad:=b;rw[Ao]at b
   split at b
   ·rename_i t;have hf:=h.num z (BE a);have aa:=h.num x (An d);exact h.fresh m k z x t b d v s (N9 (by omega) (by omega) (by omega) (by omega) (o.symm.trans e))
   ·cases b
 ·cases k with
  | zero=>exact Aw _
  | succ k=>
   obtain⟨y,c⟩:∃y,L[k]?=some y:=⟨_,Ac (by omega)⟩;rw[BZ,c,FQ,Ro];exact h.path y (An c)
def JC(E:F3)(R:Nat->Nat)(B:NB):Pl->Nat->List Nat->By
 | _,_,[]=>⟨#[]⟩
 | st,i,x::xs=>DI (E.put st (R i) (B x)).1 (Dl (B x))++JC E R B (E.put st (R i) (B x)).2 (i+1) xs
theorem Ux(E:F3)(R:Nat->Nat)(B:NB):∀(st:Pl) (i:Nat) (xs:List Nat) (x:Nat),JC E R B st i (xs++[x])=JC E R B st i xs++DI (E.put (E.puts R B st i xs) (R (i+xs.length)) (B x)).1 (Dl (B x))
 | st,i,[],x=>by
  show DI _ _++⟨#[]⟩=⟨#[]⟩++DI _ _;rw[KC,Uh];rfl
 | st,i,y::xs,x=>by
  show DI _ _++JC E R B _ (i+1) (xs++[x])=DI _ _++JC E R B _ (i+1) xs++_;rw[Ux E R B _ (i+1) xs x,JF,Aq,show i+1+xs.length=i+(xs.length+1) by omega]
  rfl
theorem NX(E:F3)(R:Nat->Nat)(B:NB):∀(st:Pl) (i:Nat) (xs:List Nat),(JC E R B st i xs).size=10*xs.length
 | st,i,[]=>rfl
 | st,i,x::xs=>by
  show(DI _ _++JC E R B _ (i+1) xs).size=_;rw[Ai,K5,NX E R B _ (i+1) xs,Aq];omega
def Dz(E:F3)(kk:UInt8)(sz below:Nat)(st:Pl)(s:By):By×Pl:=
 (JC E (Dd kk.toNat below) (Dw kk s sz) st 0 (List.range ((s.size+sz-1)/sz)),E.puts (Dd kk.toNat below) (Dw kk s sz) st 0 (List.range ((s.size+sz-1)/sz)))
def DE(E:F3):Nat->Nat->Pl->By->By×Pl
 | 0,_,st,s=>(s,st)
 | d+1,below,st,s=>if 10<s.size then DE E d (below+1) (Dz E 2 60 below st s).2 (Dz E 2 60 below st s).1 else (s,st)
def Js(E:F3)(C:NB)(st:Pl)(L:List It):By×Pl:=
 DE E 8 1 (Dz E 3 63 0 (Dr E C ⟨#[]⟩ st L).2 ((Dr E C ⟨#[]⟩ st L).1++⟨#[0]⟩)).2 (Dz E 3 63 0 (Dr E C ⟨#[]⟩ st L).2 ((Dr E C ⟨#[]⟩ st L).1++⟨#[0]⟩)).1
theorem G9.typed{n0 pb db sb so:Nat}{E:F3}{st:Pl}{O:Nat->Prop}{W:World}(h:G9 n0 pb db sb so E st O W){j:Nat}(c:O j):∃L t,F0 W j t L/\TT t=false:=by
 obtain⟨_,_,_,va,es,vp,b,_,_,_,d⟩:=h;rcases (d j).1 c with rfl|e|e
 ·exact⟨_,_,b.row,rfl⟩
 ·obtain⟨R,a⟩:=b.sa.type e;exact⟨R,350,a,rfl⟩
 ·obtain⟨R,a⟩:=Sl.type b.sp e;exact⟨R,207,a,rfl⟩
theorem Gp.typed{b:Nat}{w:World}{v:Value}{s:By}(h:Gp b w v s){g:Nat}(a:F2 v g):∃L,F0 w g 5 L:=h.1.type a
theorem NM{W:World}{j:Nat}{t:TypeId}{L:F6}(h:F0 W j t L)(b:TT t=false){o:Obj}(ho:W.heap[j]?=some o):¬KU o:=fun a=>by
 rw[show W.heap[j]? = _ from h]at ho
 cases ho
 have:=TU a;rw[b]at this;cases this
theorem Ow{W:World}{j:Nat}{t:TypeId}{L:F6}(h:F0 W j t L){o:Obj}(ho:W.heap[j]?=some o):o.isCells=true:=by
 rw[show W.heap[j]? = _ from h]at ho
 cases ho
 rfl
structure Ht(w:World)(n0 n1 pb db sb so tb:Nat)(E:F3)(O0:Nat->Prop)(st:Pl)(s last:By)(v:Value)(O:Nat->Prop)(W:World):Prop where
 st:G9 n0 pb db sb so E st O W
 hO:∀j,O j->O0 j\/n1<=j
 b0:F0 W w.heap.size 168 [.pointer (some ⟨pb,0,none⟩)]
 b1:F0 W (w.heap.size+1) 59 [v]
 b2:F0 W (w.heap.size+1+1) 9 [.string last]
 b3:F0 W (w.heap.size+1+1+1) 37 [.pointer (some ⟨tb,0,none⟩)]
 rs:Gp n1 W v s
 dis:∀j,O j->¬F2 v j
 fr:Fr O0 w W
 sz:w.heap.size+4<=W.heap.size
structure MI(w:World)(n0 n1:Nat)(O0:Nat->Prop):Prop where
 o0:∀j,O0 j->j<w.heap.size
 n1:w.heap.size+4<=n1
 n0:n0<=w.heap.size
section
variable{w:World}{n0 n1 pb db sb so tb:Nat}{E:F3}{O0:Nat->Prop}{st:Pl}{s last:By}{v:Value}{O:Nat->Prop}{W W':World}
theorem Ht.fr'(f:MI w n0 n1 O0)(h:Ht w n0 n1 pb db sb so tb E O0 st s last v O W){Z:Nat->Prop}(b:Fr Z W W')(a:∀j,Z j->¬O j/\¬F2 v j/\w.heap.size+4<=j):Ht w n0 n1 pb db sb so tb E O0 st s last v O W':=by
 have h1:=f.n1;have h2:=f.n0;have d:∀{j t L},F0 W j t L->j<w.heap.size+4->F0 W' j t L:=fun {j t L} i c=>(b.block _ i.lt (fun e=>by have:=(a _ e).2.2;omega)).trans i
 refine⟨h.st.keeps b (fun j c=>⟨(a j c).1,by have:=(a j c).2.2;omega⟩),h.hO,d h.b0 (by omega),d h.b1 (by omega),d h.b2 (by omega),d h.b3 (by omega),⟨h.rs.1.fr b (fun g k e=>(a g e).2.1 k),h.rs.2⟩,h.dis,h.fr.then b (fun j c e=>by have:=(a j e).2.2;omega),Ag h.sz b.size⟩
theorem Ht.chg(f:MI w n0 n1 O0)(h:Ht w n0 n1 pb db sb so tb E O0 st s last v O W)(i:GP (w.heap.size+4) W W'):Ht w n0 n1 pb db sb so tb E O0 st s last v O W':=by
 obtain⟨row,a,n⟩:=i;refine h.fr' f (Z:=fun j=>row=some j) ⟨a.os,a.tape,a.output,a.size,fun k m g=>a.block k m (fun e=>g e.symm)⟩ (fun j l=>?_);obtain⟨d,o,ho,c⟩:=n j l;refine⟨fun e=>?_,fun e=>?_,d⟩
 ·obtain⟨L,t,b,p⟩:=h.st.typed e;exact NM b p ho c
 ·obtain⟨L,b⟩:=h.rs.typed e;exact NM b rfl ho c
theorem Ht.say(c:MI w n0 n1 O0)(hz:n1<=W.heap.size)(h:Ht w n0 n1 pb db sb so tb E O0 st s last v O W){u:Pl}{r:By}{a:Value}{O':Nat->Prop}(z:G9 n0 pb db sb so E u O' W')(i:Gp n1 W' a r)(x:∀j,O' j->O j\/W.heap.size<=j)(y:∀j,O' j->¬F2 a j)(d:Fr (fun j=>O j\/F2 v j) W W'):
  Ht w n0 n1 pb db sb so tb E O0 u r last a O' (W'.setCell ⟨w.heap.size+1,0,none⟩ a)/\Fr (fun j=>O j\/F2 v j\/j=w.heap.size+1) W (W'.setCell ⟨w.heap.size+1,0,none⟩ a):=by
 have h1:=c.n1;have h2:=c.n0;have h3:=h.sz;have h4:=d.size;have A:∀B,w.heap.size<=B->B<n1->¬O B:=fun B p m e=>by
  rcases h.hO B e with q|q
  ·have:=c.o0 B q;omega
  ·omega
 have o:∀B,B<n1->¬F2 v B:=fun B q e=>by have:=h.rs.2 B e;omega
 have D:∀B,B<n1->¬F2 a B:=fun B q e=>by have:=i.2 B e;omega
 have n:∀j,O' j->O0 j\/n1<=j:=fun j b=>(x j b).elim (h.hO j) (fun e => .inr (by omega))
 have C:¬O' (w.heap.size+1):=fun e=>by
  rcases n _ e with q|q
  ·have:=c.o0 _ q;omega
  ·omega
 have g:∀{j t L},F0 W j t L->w.heap.size<=j->j<n1->F0 W' j t L:=fun {j t L} f p m=>(d.block _ f.lt (fun e=>e.elim (A j p m) (o j m))).trans f
 have k:Fr (fun j=>j=w.heap.size+1) W' (W'.setCell ⟨w.heap.size+1,0,none⟩ a):=(Fr.refl _ _).set _ _ rfl;have l:∀{j t L},F0 W' j t L->j≠w.heap.size+1->F0 (W'.setCell ⟨w.heap.size+1,0,none⟩ a) j t L:=fun f b=>(AB _ _ _ _ b).trans f
 refine⟨⟨z.keeps k (fun j b=>⟨fun ho=>C (by rw[<-b];exact ho),by omega⟩),n,l (g h.b0 (by omega) (by omega)) (by omega),(g h.b1 (by omega) (by omega)).set 0 a,l (g h.b2 (by omega) (by omega)) (by omega),l (g h.b3 (by omega) (by omega)) (by omega),⟨i.1.setCell _ _ (D (w.heap.size+1) (by omega)),i.2⟩,y,?_,by simp[World.setCell];omega⟩,?_⟩
 ·refine(h.fr.then d (fun j b e=>?_)).then k (fun j b e=>by omega);rcases e with e|e
  ·exact(h.hO j e).elim id (fun q=>by omega)
  ·exact absurd e (o j (by omega))
 ·exact(d.mono (fun j _ e=>e.elim .inl (fun e => .inr (.inl e)))).then k (fun j b e => .inr (.inr e))
theorem Ht.path(b:MI w n0 n1 O0)(h:Ht w n0 n1 pb db sb so tb E O0 st s last v O W)(p:By):
  Ht w n0 n1 pb db sb so tb E O0 st s p v O (W.setCell ⟨w.heap.size+1+1,0,none⟩ (.string p))/\Fr (fun j=>j=w.heap.size+1+1) W (W.setCell ⟨w.heap.size+1+1,0,none⟩ (.string p)):=by
 have h1:=b.n1;have h2:=b.n0;have f:=h.sz;have i:¬O (w.heap.size+1+1):=fun e=>by
  rcases h.hO _ e with q|q
  ·have:=b.o0 _ q;omega
  ·omega
 have k:¬F2 v (w.heap.size+1+1):=fun e=>by have:=h.rs.2 _ e;omega
 have c:Fr (fun j=>j=w.heap.size+1+1) W (W.setCell ⟨w.heap.size+1+1,0,none⟩ (.string p)):=(Fr.refl _ _).set _ _ rfl;have d:∀{j t L},F0 W j t L->j≠w.heap.size+1+1->F0 (W.setCell ⟨w.heap.size+1+1,0,none⟩ (.string p)) j t L:=fun g a=>(AB _ _ _ _ a).trans g
 exact⟨⟨h.st.keeps c (fun j a=>⟨fun ho=>i (by rw[<-a];exact ho),by omega⟩),h.hO,d h.b0 (by omega),d h.b1 (by omega),h.b2.set 0 (.string p),d h.b3 (by omega),⟨h.rs.1.setCell _ _ k,h.rs.2⟩,h.dis,h.fr.then c (fun j a e=>by omega),by simp[World.setCell];exact f⟩,c⟩
theorem Ht.keeps(d:MI w n0 n1 O0)(_hz:n1<=W.heap.size)(h:Ht w n0 n1 pb db sb so tb E O0 st s last v O W)(b:Fr (fun j=>O j\/F2 v j\/j=w.heap.size+1\/j=w.heap.size+1+1) W W'):
  ID n0 n1 W W'/\W'.heap[w.heap.size+1+1+1]?=W.heap[w.heap.size+1+1+1]?/\∀(k:Nat) (o:Obj),W.heap[k]?=some o->o.isCells=false->W'.heap[k]?=some o:=by
 have h1:=d.n1;have h2:=d.n0;have h3:=h.sz;have l:∀j,O j->n0<=j:=h.st.2.1;refine⟨⟨⟨b.os,b.tape,b.output,b.size,fun k i=>b.block k (by omega) (fun e=>?_)⟩,fun k o i ho f=>(b.block k (Ak.1 ho).1 (fun e=>?_)).trans ho⟩,b.block _ h.b3.lt (fun e=>?_),fun k o ho a=>(b.block k (Ak.1 ho).1 (fun e=>?_)).trans ho⟩
 ·rcases e with e|e|e|e
  ·have:=l k e;omega
  ·have:=h.rs.2 k e;omega
  ·omega
  ·omega
 ·rcases e with e|e|e|e
  ·obtain⟨L,t,c,g⟩:=h.st.typed e;exact NM c g ho f
  ·obtain⟨L,c⟩:=h.rs.typed e;exact NM c rfl ho f
  ·omega
  ·omega
 ·rcases e with e|e|e|e
  ·rcases h.hO _ e with q|q
   ·have:=d.o0 _ q;omega
   ·omega
  ·have:=h.rs.2 _ e;omega
  ·omega
  ·omega
 ·rcases e with e|e|e|e
  ·obtain⟨L,t,c,g⟩:=h.st.typed e;rw[Ow c ho]at a;cases a
  ·obtain⟨L,c⟩:=h.rs.typed e;rw[Ow c ho]at a;cases a
  ·subst e;rw[Ow h.b1 ho]at a;cases a
  ·subst e;rw[Ow h.b2 ho]at a;cases a
end
theorem itmV_1(a:NV)(ns:LY)(f:Nat):Kj a ⟨ns,1,f⟩ = .agg #[.string (jn ns),.int .u8 1,.int .i64 (f:Nat),.slice none 0 0]:=rfl
theorem entP_1(E:F3)(C:NB)(a:By)(st:Pl)(ns:LY)(f:Nat):Dt E C a st ⟨ns,1,f⟩=(Dx a (jn ns) 1++Dp a (jn ns),st):=if_pos rfl
theorem entP_3(E:F3)(C:NB)(a:By)(st:Pl)(ns:LY)(f:Nat):Dt E C a st ⟨ns,3,f⟩=(Dx a (jn ns) 3++Dp a (jn ns)++⟨#[UInt8.ofNat f]⟩,st):=(if_neg (by simp)).trans (if_pos rfl)
theorem entP_2(E:F3)(C:NB)(a:By)(st:Pl)(ns:LY)(f:Nat):Dt E C a st ⟨ns,2,f⟩=(Dx a (jn ns) 2++Dp a (jn ns)++⟨#[UInt8.ofNat f]⟩++Je (C f).size 2++JM E f (C f) st 0 (List.range (Gg (C f))),E.puts (Dd 4 f) (Gl (C f)) st 0 (List.range (Gg (C f)))):=(if_neg (by simp)).trans (if_neg (by simp))
theorem Zmq(X:World)(d n pb p q so:Nat)(E:F3)(Q:Gv E)(T:∃j,j<96/\E.nd j<=0)(st:Pl)(O:Nat->Prop)(u:G9 d pb p q so E st O X)(a:OA)(l c:Nat)(s:By)(t:Gp n X (.slice a l c) s)(x:∀j,O j->¬F2 (.slice a l c) j)(B:n<=X.heap.size)(V:d<=n)
  (C:NB) (F:NV) (y:It) (H:y.k=1\/y.k=2\/y.k=3) (W:(jn y.ns).size<=100) (S:y.f<60) (J:y.k=2->(C y.f).size<=1280) (m:By) (ac:m.size<=100)
  (G:y.k=2->∃v o w,F y.f = .slice v o w/\Sl X 5 1 (.slice v o w) o (Dc (C y.f))/\∀g,F2 (.slice v o w) g->g<d)
  (q1:s.size<=30600) (q2:st.puts.length<=2000) (q3:st.ps.length<=2000) (q4:st.hd<=1536) (K:y.k=2->∀z∈st.puts,∀i,i<1000->z.1≠Dd 4 y.f i):
  Cl 236 #[.pointer (some ⟨pb,0,none⟩),.slice a l c,.string m,Kj F y] X (QA X n d pb p q so E O (.slice a l c) (Dt E C m st y).2 (s++(Dt E C m st y).1)):=by
 have r:∀j,F2 (.slice a l c) j->d<=j:=fun j e=>Ag V (t.2 j e)
 obtain⟨ns,k,f⟩:=y;simp only at H W S J G K;rcases H with rfl|rfl|rfl
 ·have h:=Zmp X n d pb p q so E st O u a l c s t (by omega) x r B m (jn ns) (by omega) (by omega) f (by omega) (.slice none 0 0) ⟨_,_,_,rfl⟩;rw[JF]at h;rw[itmV_1,entP_1];exact h
 ·obtain⟨v,o,w,N,D,U⟩:=G rfl;have A:o=(C f).size:=by
   have:=D.1;rw[Dh]at this;omega
  have hz:=J rfl;have hn:=Qd hz;rw[Vq,N,entP_2];rcases D.2 with⟨e,h0⟩|⟨g,M,L,e,R,P,_⟩
  ·have h:=Zi9 X n d pb p q so E st O u a l c s t (by omega) x r B m (jn ns) (by omega) (by omega) f (by omega);have aa:(C f).size=0:=by omega
   have I:Gg (C f)=0:=by unfold Gg;omega
   have Y:E.puts (Dd 4 f) (Gl (C f)) st 0 (List.range (Gg (C f)))=st:=by rw[I];rfl
   have Z:JM E f (C f) st 0 (List.range (Gg (C f)))=⟨#[]⟩:=by rw[I];rfl
   rw[JF,JF,JF]at h;rw[e,Y,Z,KC,JF,JF,aa];exact h
  ·have ab:=U g (by rw[e];rfl);have h:=ZkC X n d pb p q so E st O u a l c s t (by omega) x r B m (jn ns) (by omega) (by omega) f (by omega) g 0 o M (C f) (Gp.rdB (b:=0) ⟨by rw[<-A,<-e];exact D,fun _ _=>Aw _⟩) P (by omega) (fun e=>by have:=u.2.1 g e;omega) (fun e=>by have:=r g e;omega) R.lt Q T 1000 (by omega) (by omega) (by omega) q4 (K rfl) (Gg (C f)) (by rw[A];rfl) (by omega);rw[JF,JF,JF,JF,A]at h;rw[e,A,JF,JF,JF];exact h
 ·have h:=ZkB X n d pb p q so E st O u a l c s t (by omega) x r B m (jn ns) (by omega) (by omega) f (by omega) (.slice none 0 0) ⟨_,_,_,rfl⟩;rw[JF,JF]at h;rw[Vr,entP_3,JF];exact h
def Nn(X:World)(n0 pb db sb so:Nat)(E:F3)(O:Nat->Prop)(st':Pl)(s':By)(e:Ending)(w6:World):Prop:=
 ∃a' l' c' O',e = .returned (.slice a' l' c')/\G9 n0 pb db sb so E st' O' w6/\Gp X.heap.size w6 (.slice a' l' c') s'/\(∀j,O' j->O j\/X.heap.size<=j)/\(∀j,O' j->¬F2 (.slice a' l' c') j)/\Fr O X w6
theorem Gp.some{b:Nat}{w:World}{a:OA}{l c:Nat}{s:By}(h:Gp b w (.slice a l c) s)(hs:1<=s.size):∃g,a=some ⟨g,0,none⟩/\l=s.size/\s.size<=c/\g<w.heap.size:=by
 rcases h.1.2 with⟨_,h0⟩|⟨g,aa,L,e,d,q,_⟩
 ·omega
 ·cases e;exact⟨g,rfl,rfl,q,d.lt⟩
theorem Zw(X:World)(f pb k o so:Nat)(E:F3)(y:Gv E)(d:∃j,j<96/\E.nd j<=0)(st:Pl)(O:Nat->Prop)(m:G9 f pb k o so E st O X)(b:Nat)(a:OA)(l c:Nat)(s:By)(p:Gp b X (.slice a l c) s)(C:∀j,O j->¬F2 (.slice a l c) j)
  (v:1<=s.size) (w:s.size<60000) (H:st.puts.length+1000<=10000) (I:st.ps.length+1000<=1000000) (J:st.hd<=1536) (K:∀z∈st.puts,∀i,i<1000->z.1≠Dd 3 0 i):
  Cl 237 #[.pointer (some ⟨pb,0,none⟩),.int .u8 3,.int .i64 ((0:Nat):Int),.slice a l c] X (Nn X f pb k o so E O (Dz E 3 63 0 st s).2 (Dz E 3 63 0 st s).1):=by
 obtain⟨g,rfl,rfl,F,D⟩:=p.some v;have A:∀j,O j->j<X.heap.size:=fun j d=>by obtain⟨cs,t,B⟩:=m.cells d;exact(Ak.1 B).1
 refine(Zlm X 1000 (by omega) f pb 0 (by omega) g 0 s.size c s p.rdB F w _ _ _ O O (fun n=>JC E (Dd 3 0) (Dw 3 s 63) st 0 n) m.2.2.1
  (SY 1000 f pb k o so E y d st H I J 3 0 K s 63) rfl (fun n x=>by have:=Ux E (Dd 3 0) (Dw 3 s 63) st 0 n x;rw[Av]at this;exact this) (NX E _ _ st 0) m (fun _ h=>h) A (fun e=>C g e rfl) D ((s.size+63-1)/63) rfl (by omega)).mono ?_
 rintro e w6 ⟨r,G,u,O',rfl,q,L,M,N,P⟩;exact⟨r,G,u,O',rfl,L,⟨q.1,fun j d=>by have:=q.2 j d;omega⟩,fun j d=>(M j d).imp id (fun e=>by omega),N,P⟩
theorem Zv(X:World)(k pb m p so:Nat)(E:F3)(A:Gv E)(f:∃j,j<96/\E.nd j<=0)(st:Pl)(O:Nat->Prop)(n:G9 k pb m p so E st O X)(b:Nat)(a:OA)(l c:Nat)(s:By)(q:Gp b X (.slice a l c) s)(F:∀j,O j->¬F2 (.slice a l c) j)(d:Nat)(D:d<65536)
  (w:1<=s.size) (y:s.size<60000) (J:st.puts.length+1000<=10000) (K:st.ps.length+1000<=1000000) (L:st.hd<=1536) (M:∀z∈st.puts,∀i,i<1000->z.1≠Dd 2 d i):
  Cl 237 #[.pointer (some ⟨pb,0,none⟩),.int .u8 2,.int .i64 (d:Nat),.slice a l c] X (Nn X k pb m p so E O (Dz E 2 60 d st s).2 (Dz E 2 60 d st s).1):=by
 obtain⟨g,rfl,rfl,H,G⟩:=q.some w;have B:∀j,O j->j<X.heap.size:=fun j f=>by obtain⟨cs,t,C⟩:=n.cells f;exact(Ak.1 C).1
 refine(Zln X 1000 (by omega) k pb d D g 0 s.size c s q.rdB H y _ _ _ O O (fun o=>JC E (Dd 2 d) (Dw 2 s 60) st 0 o) n.2.2.1
  (SY 1000 k pb m p so E A f st J K L 2 d M s 60) rfl (fun o x=>by have:=Ux E (Dd 2 d) (Dw 2 s 60) st 0 o x;rw[Av]at this;exact this) (NX E _ _ st 0) n (fun _ h=>h) B (fun e=>F g e rfl) G ((s.size+60-1)/60) rfl (by omega)).mono ?_
 rintro e w6 ⟨u,I,v,O',rfl,r,N,P,Q,R⟩;exact⟨u,I,v,O',rfl,N,⟨r.1,fun j f=>by have:=r.2 j f;omega⟩,fun j f=>(P j f).imp id (fun e=>by omega),Q,R⟩
def Ia(below:Nat)(st:Pl):Prop:=∀y∈st.puts,∃kk f i,y.1=Dd kk f i/\i<1000/\(kk=4/\f<60\/kk=3/\f=0\/kk=2/\f<below)
theorem Ia.row{a:Nat}{st:Pl}(h:Ia a st)(_hb:a<60000)(E:F3)(B:NB)(n:Nat)(hn:n<=1000):Ia (a+1) (E.puts (Dd 2 a) B st 0 (List.range n)):=fun y d=>by
 rcases F3.puts_mem E _ _ st 0 _ y d with q|⟨j,_,g,k⟩
 ·obtain⟨kk,f,i,e,b,c⟩:=h y q;exact⟨kk,f,i,e,b,c.imp id (fun e=>e.imp id (fun e=>⟨e.1,by omega⟩))⟩
 ·rw[A2]at g;exact⟨2,a,j,k,by omega,.inr (.inr ⟨rfl,by omega⟩)⟩
theorem Ia.fresh{a:Nat}{st:Pl}(h:Ia a st)(hb:a<60000):∀z∈st.puts,∀i,i<1000->z.1≠Dd 2 a i:=fun z g i hi e=>by
 obtain⟨kk,f,j,c,hj,d⟩:=h z g;rw[c]at e;unfold Dd at e;rcases d with⟨rfl,b⟩|⟨rfl,b⟩|⟨rfl,b⟩<;>omega
structure Ic(d below:Nat)(st:Pl)(s:By):Prop where
 bd:below+d=9
 pk:Ia below st
 n1:st.puts.length+s.size<=8000
 n2:st.ps.length+s.size<=8000
 n3:st.hd<=1536
 n4:s.size<=10*6 ^ d
 n5:10<=s.size
 n6:∃n,s.size=10*n
theorem Ql(E:F3)(kk:UInt8)(a b:Nat)(st:Pl)(s:By):(Dz E kk a b st s).1.size=10*((s.size+a-1)/a):=by
 unfold Dz;rw[NX,A2]
theorem Ic.next{d a:Nat}{st:Pl}{s:By}(h:Ic d a st s)(hs:10<s.size)(E:F3):∃d',d=d'+1/\Ic d' (a+1) (Dz E 2 60 a st s).2 (Dz E 2 60 a st s).1/\(Dz E 2 60 a st s).1.size<s.size:=by
 obtain⟨n,hn⟩:=h.n6;have h1:=h.n1;have h2:=h.n2;have b:=h.n4;have hb:=h.bd
 cases d with
 | zero=>simp at b;omega
 | succ d=>
  obtain⟨e,f,i⟩:=F3.puts_len E (Dd 2 a) (Dw 2 s 60) st 0 (List.range ((s.size+60-1)/60));rw[A2]at e f;have c:=Ql E 2 60 a st s;have g1:(Dz E 2 60 a st s).2.puts.length=st.puts.length+(s.size+60-1)/60:=e;have g2:(Dz E 2 60 a st s).2.ps.length<=st.ps.length+(s.size+60-1)/60:=f;have g:s.size<=60*6 ^ d:=by rw[C1]at b;omega
  generalize 6 ^ d=m at g ⊢
  refine⟨d,rfl,⟨by omega,h.pk.row (by omega) E _ _ (by omega),by omega,by omega,i h.n3,?_,by omega,_,c⟩,by omega⟩;rw[c];omega
end Go.Proofs.YtaieidcohdhgpaaGreatDoor
