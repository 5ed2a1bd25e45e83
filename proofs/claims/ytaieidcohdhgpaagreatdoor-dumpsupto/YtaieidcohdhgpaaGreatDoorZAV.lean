/- Dumps. -/
import Derived.Test.YtaieidcohdhgpaaGreatDoorZAU
import Derived.Test.YtaieidcohdhgpaaGreatDoorZAT
namespace Go.Proofs.YtaieidcohdhgpaaGreatDoor
set_option maxHeartbeats 40000000
set_option maxRecDepth 100000
section
open Go.RowKit Go.Shelf
attribute [local go_sem] Oper.semAt_some
def ID(B0 tb qb l:Nat)(ns:LY)(X:World):Prop:=
 FH X B0 37 [.pointer (some ⟨tb,0,none⟩)]/\FH X (B0+1) 9 [.string (jn ns)]/\FH X (B0+1+1) 247 [.pointer (some ⟨qb,0,none⟩)]/\FH X (B0+1+1+1) 144 [.func (.yield l) #[] #[]]/\FH X (B0+1+1+1+1) 4 [.bool false]
theorem ID.wk{d n1 b tb c l:Nat}{ns:LY}{X Y:World}(h:ID b tb c l ns X)(a:Gt d n1 c X Y)(h1:n1<=b)(hq:c<b):ID b tb c l ns Y:=
 ⟨a.row h.1 (.inr ⟨by omega,by omega,rfl⟩),a.row h.2.1 (.inr ⟨by omega,by omega,rfl⟩),a.row h.2.2.1 (.inr ⟨by omega,by omega,rfl⟩),a.row h.2.2.2.1 (.inr ⟨by omega,by omega,rfl⟩),a.row h.2.2.2.2 (.inr ⟨by omega,by omega,rfl⟩)⟩
theorem ID.chg{b tb c l B:Nat}{ns:LY}{X Y:World}(h:ID b tb c l ns X)(a:Gc B X Y)(hB:b+5<=B):ID b tb c l ns Y:=
 ⟨a.row h.1 (.inl (by omega)),a.row h.2.1 (.inl (by omega)),a.row h.2.2.1 (.inl (by omega)),a.row h.2.2.2.1 (.inl (by omega)),a.row h.2.2.2.2 (.inl (by omega))⟩
theorem I4.entry{s:World}{tb e:Nat}{V:NV}{E:NS}{q:Value}{G:Gh}{I:LF}{C:IB}{ch:LY->List Ek}{g:NV}(H:I4 s tb e V E q G I C ch g){ns:LY}{b:Nat}(m:FI G e ns b){x:By×VS}(o:x∈E b):
  (∃c,x=(x.1,⟨some ⟨c,0,none⟩,0⟩)/\FI G e (ns++[x.1]) c)\/(∃(n:Nat) (r:VF),x=(x.1,⟨none,n⟩)/\n<60/\((n:Int),r)∈I/\g n = .slice r.a r.l r.c):=by
 have d:(ns++[x.1],x.2)∈G:=(H.tw.d.en ns b m x.1 x.2).1 o;rcases H.tw.d.shp _ d with h|⟨c,h⟩
 ·obtain⟨n,r,i,j,k,l⟩:=H.num _ d h;refine .inr ⟨n,r,?_,j,k,l⟩;obtain⟨a,p,f⟩:=x;simp at h i;subst h;subst i;rfl
 ·refine .inl ⟨c,?_,?_⟩
  ·obtain⟨a,u⟩:=x;simp at h;subst h;rfl
  ·right;simp at h;rw[<-h];exact d
theorem FI.le6{G:Gh}(a:F0 G){d:Nat}{ns:LY}{b:Nat}(h:FI G d ns b):ns.length<=6/\Ga ns:=by
 rcases h with⟨rfl,_⟩|h
 ·exact⟨by simp,fun n c=>by cases c⟩
 ·exact⟨a.le _ h,a.nms _ h⟩
theorem PM{b m d:Nat}{P:Program}{l:Nat}{f:FuncId}{tmps:Array Value}{assign body:Code}{w:World}{R:Ending->World->Prop}(h:RoundIn Fence.wide m P l f tmps assign body w R):RoundIn (Fence.wide.inRound b) d P l f tmps assign body w R:=⟨trivial,fun c a _=>h.2 c a (room_wide _)⟩
theorem VW{a r:Nat}(X:World)(o:Obj)(h:a<=r):Below a X (X.putObj r o):=⟨rfl,rfl,rfl,by simp,fun k hk=>Bl (by omega)⟩
theorem Zk3(f:World)(tb rd:Nat)(V:NV)(E:NS)(vi:Value)(G:Gh)(I:LF)(C:IB)(ch:LY->List Ek)(dv:NV)(H:I4 f tb rd V E vi G I C ch dv)
  (L:List It) (l n1 a:Nat) (J:Nat->World->Prop) (bO:f.heap.size<=n1) (bc:n1<=a) (hJ:∀k A A',J k A->Gc n1 A A'->J k A')
  (hY:∀k W1,k<L.length->J k W1->YieldAt Fence.wide 1 Tryz.prog l (Im dv L k) W1 fun e W'=>e = .returned (.bool true)/\J (k+1) W'/\G9 f.heap.size n1 W1 W') (d:Nat)
  (bd:∀ns b K S W,FI G rd ns b->7<=ns.length+d->(∀j y,(Dk ch d ns S).1[j]?=some y->L[K+j]?=some y)->Hp f a J K S W->
   Cl 170 #[.pointer (some ⟨tb,0,none⟩),.pointer (some ⟨b,0,none⟩),.string (jn ns),.pointer (some ⟨a,0,none⟩),.func (.yield l) #[] #[]] W (Pd f n1 a J (K+(Dk ch d ns S).1.length) (Dk ch d ns S).2 W))
  (ns:LY) (b K:Nat) (S:FJ) (w:World) (hd:FI G rd ns b) (bN:7<=ns.length+(d+1))
  (hL:∀j y,(FU (Dk ch d) ns (ch ns) S).1[j]?=some y->L[K+j]?=some y) (hw:Hp f a J K S w):
  Cl 170 #[.pointer (some ⟨tb,0,none⟩),.pointer (some ⟨b,0,none⟩),.string (jn ns),.pointer (some ⟨a,0,none⟩),.func (.yield l) #[] #[]] w (Pd f n1 a J (K+(FU (Dk ch d) ns (ch ns) S).1.length) (FU (Dk ch d) ns (ch ns) S).2 w):=by
 obtain⟨W1,e1,x1,k1,s1,b1⟩:=De w [.pointer (some ⟨tb,0,none⟩)] 37;obtain⟨W2,e2,x2,k2,s2,b2⟩:=De W1 [.string (jn ns)] 9;obtain⟨W3,e3,x3,k3,s3,b3⟩:=De W2 [.pointer (some ⟨a,0,none⟩)] 247;obtain⟨W4,e4,x4,k4,s4,b4⟩:=De W3 [.func (.yield l) #[] #[]] 144;obtain⟨W5,e5,x5,k5,s5,b5⟩:=De W4 [.bool false] 4;obtain⟨m,e6,x6,k6,s6,b6⟩:=De W5 [.pointer (some ⟨b,0,none⟩)] 307;have an:Bw w m:=b1.trans ((b2.mono (by omega)).trans ((b3.mono (by omega)).trans ((b4.mono (by omega)).trans ((b5.mono (by omega)).trans (b6.mono (by omega))))));have t1:W1.heap.size=w.heap.size+1:=by omega
 have t2:W2.heap.size=w.heap.size+1+1:=by omega
 have t3:W3.heap.size=w.heap.size+1+1+1:=by omega
 have t4:W4.heap.size=w.heap.size+1+1+1+1:=by omega
 have t5:W5.heap.size=w.heap.size+1+1+1+1+1:=by omega
 have T:m.heap.size=w.heap.size+6:=by omega
 rw[t1]at x2;rw[t2]at x3;rw[t3]at x4;rw[t4]at x5;rw[t5]at x6;have aU:ID w.heap.size tb a l ns m:=⟨k6 _ _ _ (k5 _ _ _ (k4 _ _ _ (k3 _ _ _ (k2 _ _ _ x1)))),k6 _ _ _ (k5 _ _ _ (k4 _ _ _ (k3 _ _ _ x2))),k6 _ _ _ (k5 _ _ _ (k4 _ _ _ x3)),k6 _ _ _ (k5 _ _ _ x4),k6 _ _ _ x5⟩;have bD:a<w.heap.size:=hw.s.lt;have aF:f.heap.size<=w.heap.size:=hw.t.size;have t:FH w b 229 [V b]:=(hw.t.block _ (H.tw.d.row ns b hd).lt).trans (H.tw.d.row ns b hd);have bF:=t.lt;have a0:m.cell? ⟨w.heap.size+1+1+1+1+1,0,none⟩=some (.pointer (some ⟨b,0,none⟩)):=(x6.cell 0).trans rfl;have a3:m.cell? ⟨b,0,none⟩=some (V b):=(an.cell (p:=⟨b,0,none⟩) bF).trans ((t.cell 0).trans rfl);have aX:Sl m 310 3 (V b) (E b).length (Di (E b)):=(H.tw.d.sl ns b hd).fr (X:=fun _=>False) (Fr.of_below (hw.t.trans (an.mono aF))) (fun _ _ e=>e);have bt:(E b).length<=10000:=Ae (H.tw.d.le H.ok hd) H.gl;have a4:∀g,(V b).ownBlock=some g->g<f.heap.size:=fun g hg=>by
  obtain⟨R,Q⟩:=(H.tw.d.sl ns b hd).type hg;exact Q.lt
 have bf:Hp f a J K S m:=hw.chg hJ (Gc.below (B:=w.heap.size) an) (by omega) bD aF;have aW:Gt f.heap.size n1 a w m:=Gt.below an aF;have a1:=H.ch ns b hd;have aD:=Db T;have bg:=Db aU;have bI:=Db an;have bh:=Db a0;have bi:=Db a3;have bp:=Db aX;have br:=Db bf;have bm:=Db aW;have aN:=Db a1;have bo:=Db bd;have HY:=Db hY;have HL:=Db hL;have HJ:=Db hJ;have HH:=Db H;have bj:=Db a4;have aO:=Db e1;have aP:=Db e2;have aQ:=Db e3;have aR:=Db e4;have aS:=Db e5;have aT:=Db e6;have hc:=t.cell 0;clear x1 x2 x3 x4 x5 x6 k1 k2 k3 k4 k5 k6 s1 s2 s3 s4 s5 s6 b1 b2 b3 b4 b5 b6 t1 t2 t3 t4 t5 T e1 e2 e3 e4 e5 e6 an a0 a3 t aU aX bf aW a1 bd hY hL hJ a4;refine(A0 (n:=3)).1 ?_;refine Bq Tryz.func170 rfl trivial ?_ rfl;simp only[Tryz.ntmps170,AQ,Af,Ay,Nat.reduceAdd,Nat.reduceSub,AP,AO,AV,AR,AJ,AL]
 gi_wp2_with (refine⟨trivial,?_⟩;gi_at_call 179;refine(Ou _ _ trivial rfl _ _).mono ?_;rintro e w' ⟨rfl,rfl⟩)
 rw[show w.alloc (.cells #[.pointer (some ⟨tb,0,none⟩)] 37)=W1 from Da aO,show W1.alloc (.cells #[.string (jn ns)] 9)=W2 from Da aP,show W2.alloc (.cells #[.pointer (some ⟨a,0,none⟩)] 247)=W3 from Da aQ,show W3.alloc (.cells #[.func (.yield l) #[] #[]] 144)=W4 from Da aR,show W4.alloc (.cells #[.bool false] 4)=W5 from Da aS,show W5.alloc (.cells #[.pointer (some ⟨b,0,none⟩)] 307)=m from Da aT];rename_i K0 bv;clear aO aP aQ aR aS aT;have T:=Da aD;refine PO (gf:=222) (lb := #[.pointer (some ⟨w.heap.size+1+1+1+1+1,0,none⟩)]) rfl (Ez Tryz.func222 (by kernel_rfl) rfl)
  (Yh (w.heap.size+1+1+1+1+1) b 0 (V b) (E b) bt m (by omega) (by omega) (fun _ A B=>Below f.heap.size A B) (fun g hg _ A B bs=>bs.block g (Da bj g hg)) (Da bh) (Da bi) (Da bp))
  (Ag _ _) Below.trans (fun X o o' ho _=>VW X o' (by omega)) (Zy _)
  (fun k X=>Hp f a J (K+(FU (Dk ch d) ns ((ch ns).take k) S).1.length) (FU (Dk ch d) ns ((ch ns).take k) S).2 X/\ID w.heap.size tb a l ns X/\Gt f.heap.size n1 a w X)
  (fun k A A' hA hc=>⟨hA.1.chg (Da HJ) hc (by omega) (by omega) (by omega),hA.2.1.chg hc (by omega),hA.2.2.chg hc (by omega) (by omega)⟩)
  ⟨by simpa [FU] using Da br,Da bg,Da bm⟩
  (fun k a' X=>∃U x,(E b)[k]?=some x/\m.heap.size+2<=U/\FH X U 260 [.pointer x.2.p,.int .i64 x.2.f]/\a'={ tmps := #[.pointer (some ⟨tb,0,none⟩),.pointer (some ⟨b,0,none⟩),.string (jn ns),.pointer (some ⟨a,0,none⟩),.func (.yield l) #[] #[],.pointer (some ⟨w.heap.size,0,none⟩),undef,.pointer (some ⟨w.heap.size+1,0,none⟩),.pointer (some ⟨w.heap.size+1+1,0,none⟩),.pointer (some ⟨w.heap.size+1+1+1,0,none⟩),.pointer (some ⟨w.heap.size+1+1+1+1,0,none⟩),.string x.1,.pointer (some ⟨U,0,none⟩),undef,.pointer (some ⟨b,0,none⟩),.pointer (some ⟨b,0,none⟩),.pointer (some ⟨b,0,none⟩),.func (.func 222) #[] #[.pointer (some ⟨w.heap.size+1+1+1+1+1,0,none⟩)],.string x.1,.agg #[.pointer x.2.p,.int .i64 x.2.f],undef,undef,undef,undef,undef,undef,undef,undef,undef,undef,undef,undef,undef,undef,undef,undef,undef,undef,undef,undef,undef,undef,undef,undef,undef,undef],defers:=[] })
  (fun k a' A A' hA hs hc hj=>by
   obtain⟨U,x,N,am,hr,ha⟩:=hA;exact⟨U,x,N,am,(hj U am).trans hr,ha⟩)
  ?assign ?body ?done
 case assign=>
  rintro k X Kk hk ⟨i,s,v⟩ z a5;obtain⟨x,N⟩:∃x,(E b)[k]?=some x:=⟨_,Ac hk⟩;rw[OE N];have HX:=Db N;have bk:=Db a5;have HZ:=Db z;have O:=Db i;have HB:=Db s;have HK:=Db v;clear T i s v N a5 z
  gi_wp2
  have T:=Da aD;have aI:Gc (m.heap.size) X (X.alloc (.cells #[.pointer x.2.p,.int .i64 x.2.f] 260)):=Gc.alloc _ _;exact Da bk _ _ ((Eb _ _).from _) ((Ag _ X).alloc (by have:=(Da HZ);omega) _) ⟨(Da O).chg (Da HJ) aI (by omega) (by omega) (by omega),(Da HB).chg aI (by omega),(Da HK).chg aI (by omega) (by omega)⟩ ⟨X.heap.size,x,Da HX,Da HZ,B2 X _,rfl⟩
 case body=>
  rintro k a' X hk z ⟨i,s,v⟩ ⟨U,x,N,am,t,rfl⟩;have ax:x∈E b:=An N;have aK:(ch ns)[k]?=some (JC x):=by rw[Da aN,Be,N];rfl
  have aC:=O6 (Dk ch d) ns (ch ns) k _ aK S;have aJ:=itL_at (Dk ch d) ns (ch ns) k _ aK S;obtain⟨P,hP⟩:=ex (FU (Dk ch d) ns ((ch ns).take k) S);rw[<-hP]at i aC aJ;have aG:∀j y,(Gd (Dk ch d) ns P.2 (JC x)).1[j]?=some y->L[K+P.1.length+j]?=some y:=fun j y hj=>by
   rw[Eh];exact Da HL _ _ (aJ j y hj)
  obtain⟨bP,bC⟩:=FI.le6 H.ok hd;have bM:=QD ns bC;have bQ:x.1.size<=12:=by
   have h1:=H.ok.nms _ ((H.tw.d.en ns b hd x.1 x.2).1 ax) x.1 (by simp);unfold DC at h1;simp only[A8,AM]at h1;exact h1.1.2
  have bR:(jn ns).size+1<=9223372036854775807:=by omega
  have bS:(jn ns).size+1+x.1.size<=9223372036854775807:=by omega
  have aZ:w.heap.size<=X.heap.size:=v.1.size;have al:Hid (∀(a2:Act) Y,Hp f a J (K+P.1.length+(Gd (Dk ch d) ns P.2 (JC x)).1.length) (Gd (Dk ch d) ns P.2 (JC x)).2 Y->Gt f.heap.size n1 a X Y->Tc m.heap.size (fun A B=>Below f.heap.size A B) (fun X=>Hp f a J (K+(FU (Dk ch d) ns ((ch ns).take (k+1)) S).1.length) (FU (Dk ch d) ns ((ch ns).take (k+1)) S).2 X/\ID w.heap.size tb a l ns X/\Gt f.heap.size n1 a w X) X .normal a2 Y):=fun a2 Y h1 h2=>by
   refine⟨h2.keeps (by omega) (by omega),h2.1,?_,s.wk h2 (by omega) (by omega),v.trans h2⟩;rw[aC];show Hp f a J (K+(P.1++_).length) _ Y;rw[Ab,<-Eh];exact h1
  have ac:Hid (∀Y,Gt f.heap.size n1 a X Y->ID w.heap.size tb a l ns Y/\FH Y U 260 [.pointer x.2.p,.int .i64 x.2.f]):=fun Y h=>⟨s.wk h (by omega) (by omega),h.row t (.inr ⟨by omega,by omega,rfl⟩)⟩
  have D:Hid (∀c S' (y:It) (q:LV),J9 dv y = .agg q.toArray->(Gd (Dk ch d) ns P.2 (JC x)).1[0]?=some y->Hp f a J (K+P.1.length) S' c->Gt f.heap.size n1 a X c->YieldAt Fence.wide 1 Tryz.prog l #[.agg q.toArray] (c.alloc (.cells q.toArray 141)) fun e Y=>e = .returned (.bool true)/\Hid (Hp f a J (K+P.1.length+1) S' Y/\Gt f.heap.size n1 a X Y/\ID w.heap.size tb a l ns Y/\FH Y U 260 [.pointer x.2.p,.int .i64 x.2.f]/\FH Y c.heap.size 141 q)):=fun c S' y q hq bH h1 h2=>by
   have aH:=aG 0 y bH;have bB:=(Ad.1 aH).1;have bT:w.heap.size<=c.heap.size:=Ae aZ h2.1.size;have h3:=h1.chg (Da HJ) (Gc.alloc (B:=c.heap.size) c (.cells q.toArray 141)) (by omega) (by omega) (by omega);have hy:=Da HY _ (c.alloc (.cells q.toArray 141)) bB h3.j;rw[Ct]at hy aH;rw[U8 aH,hq]at hy;refine hy.mono ?_;rintro e Y ⟨rfl,hj,aB⟩;have bG:Gt f.heap.size n1 a c (c.alloc (.cells q.toArray 141)):=Gt.below ((Ag _ c).alloc (Aa _) _) (by omega);have aL:Gt f.heap.size n1 a X Y:=h2.trans (bG.trans (aB.wk a));refine⟨rfl,⟨hj,h3.t.trans aB.1,aB.row h3.s (.inr ⟨bc,rfl⟩)⟩,aL,s.wk aL (by omega) (by omega),aL.row t (.inr ⟨by omega,by omega,rfl⟩),?_⟩;exact aB.row (B2 c _) (.inr ⟨by omega,rfl⟩)
  have c0:=(s.1.cell 0).trans (show _=some (Value.pointer (some ⟨tb,0,none⟩)) from rfl);have c1:=(s.2.1.cell 0).trans (show _=some (Value.string (jn ns)) from rfl);have c2:=(s.2.2.1.cell 0).trans (show _=some (Value.pointer (some ⟨a,0,none⟩)) from rfl);have a9:=OL ns x.1;have az:=Db a9;have bJ:=Db aC;have ar:=Db aG;have HP:=Db hP;have aE:=Db aZ;clear aJ aC hP aK aG a9;rcases H.entry hd ax with⟨b',ak,be⟩|⟨n,r,ak,a8,bu,bx⟩
  ·have ao:JC x=(x.1,none):=by rw[ak];rfl
   have ai:x.2=⟨some ⟨b',0,none⟩,0⟩:=by rw[ak]
   rw[ai]at t;have d0:=(t.cell 0).trans (show _=some (Value.pointer (some ⟨b',0,none⟩)) from rfl);have d1:=(t.cell 1).trans (show _=some (Value.int .i64 0) from rfl);have u:=Yc X (some ⟨tb,0,none⟩) (some ⟨a,0,none⟩) (jn ns++⟨#[47]⟩++x.1) ⟨b',0,none⟩ 0;rw[Xj]at u;have ad:=Db u;have HR:=Db (Da bo (ns++[x.1]) b' (K+P.1.length+1) P.2);rw[ao]at D al ar;rw[ai]at D ac ⊢;have O:=Db i;have bq:=Db be;have HK:=Db v;clear u ak ao t i s v be ai ax N
   gi_wp2_with (fail)
   refine⟨trivial,?_⟩;refine(Cp _ (A0.2 (Da ad))).mono ?_;rintro e c ⟨rfl,aa⟩;have au:=Da aE;have av:=aa.size;have F:Gt f.heap.size n1 a X c:=Gt.below aa (by omega);have ag:Hp f a J (K+P.1.length) P.2 c:=(Da O).chg (Da HJ) (Gc.below (B:=X.heap.size) aa) (by omega) (by omega) (by omega);obtain⟨fn,tmps,assign,body,hy,Q⟩:=Da D c P.2 ⟨ns++[x.1],1,0⟩ [.string (jn ns++⟨#[47]⟩++x.1),.int .u8 1,.int .i64 0,.slice none 0 0] (by rw[Yd,Da az]) rfl ag F;have R:=Db Q;have M:=(Da ac c F).1;have e3:=(((Ag c.heap.size c).alloc (Aa _) (.cells #[.string (jn ns++⟨#[47]⟩++x.1),.int .u8 1,.int .i64 0,.slice none 0 0] 141)).cell (p:=⟨w.heap.size+1+1+1,0,none⟩) M.2.2.2.1.lt).trans ((M.2.2.2.1.cell 0).trans (show _=some (Value.func (.yield l) #[] #[]) from rfl));clear Q D ac ad ag F M au av aa c0 c1 c2 d0 d1 T z am
   gi_wp2
   refine(PM (Da R)).mono ?_;rintro e Y ⟨rfl,ae⟩;obtain⟨ab,ah,af,aj,ap⟩:=Da ae;have f0:=(af.1.cell 0).trans (show _=some (Value.pointer (some ⟨tb,0,none⟩)) from rfl);have f2:=(af.2.2.1.cell 0).trans (show _=some (Value.pointer (some ⟨a,0,none⟩)) from rfl);have f3:=(af.2.2.2.1.cell 0).trans (show _=some (Value.func (.yield l) #[] #[]) from rfl);have fx:=(aj.cell 0).trans (show _=some (Value.pointer (some ⟨b',0,none⟩)) from rfl);have fm:=(ap.cell 0).trans (show _=some (Value.string (jn ns++⟨#[47]⟩++x.1)) from rfl);have ay:=Db ab;have aq:=Db ah;have u:=Da HR Y (Da bq) (by simp;omega) (fun j y hj=>by
    have:=Da ar (j+1) y hj;rw[show K+P.1.length+1+j=K+P.1.length+(j+1) by omega];exact this) ab
   rw[Da az]at u;have aM:=Db u;clear R ae ab ah af aj ap e3 hy u
   gi_wp2_with (fail)
   refine⟨trivial,?_⟩;refine(Cp _ (A0.2 (Da aM))).mono ?_;rintro e Z ⟨rfl,a6,a7⟩;have bl:=Db a6;have bn:=Db ((Da aq).trans a7);clear a6 a7 aM f0 f2 f3 fx fm
   gi_wp2
   refine Da al _ _ ?_ (Da bn);have z:=Da bl;rw[show K+P.1.length+1+(Dk ch d (ns++[x.1]) P.2).1.length=K+P.1.length+((Dk ch d (ns++[x.1]) P.2).1.length+1) by omega]at z;exact z
  ·have ao:JC x=(x.1,some n):=by rw[ak];rfl
   have ai:x.2=⟨none,n⟩:=by rw[ak]
   rw[ai]at t;have d0:=(t.cell 0).trans (show _=some (Value.pointer none) from rfl);have d1:=(t.cell 1).trans (show _=some (Value.int .i64 (n:Nat)) from rfl);rw[ao]at D al ar;rw[ai]at D ac ⊢;have O:=Db i;have HK:=Db v
   cases hS:P.2 n with
   | true=>
    have u:=Z5 X (some ⟨tb,0,none⟩) (jn ns++⟨#[47]⟩++x.1) n a8 a P.2 i.s hS;rw[Xl]at u;have ad:=Db u;have aw:Gd (Dk ch d) ns P.2 (x.1,some n)=([⟨ns++[x.1],3,n⟩],P.2):=by unfold Gd;simp[hS]
    rw[aw]at D al;clear u ak ao t i s v ai ax N hS aw ar
    gi_wp2_with (fail)
    refine⟨trivial,?_⟩;refine(Cp _ (A0.2 (Da ad))).mono ?_;rintro e c ⟨rfl,aa⟩;have au:=Da aE;have av:=aa.size;have F:Gt f.heap.size n1 a X c:=Gt.below aa (by omega);have ag:Hp f a J (K+P.1.length) P.2 c:=(Da O).chg (Da HJ) (Gc.below (B:=X.heap.size) aa) (by omega) (by omega) (by omega);obtain⟨fn,tmps,assign,body,hy,Q⟩:=Da D c P.2 ⟨ns++[x.1],3,n⟩ [.string (jn ns++⟨#[47]⟩++x.1),.int .u8 3,.int .i64 (n:Nat),.slice none 0 0] (by rw[TN,Da az]) rfl ag F;have R:=Db Q;have M:=(Da ac c F).1;have e3:=(((Ag c.heap.size c).alloc (Aa _) (.cells #[.string (jn ns++⟨#[47]⟩++x.1),.int .u8 3,.int .i64 (n:Nat),.slice none 0 0] 141)).cell (p:=⟨w.heap.size+1+1+1,0,none⟩) M.2.2.2.1.lt).trans ((M.2.2.2.1.cell 0).trans (show _=some (Value.func (.yield l) #[] #[]) from rfl));clear Q D ac ad ag F M au av aa c0 c1 c2 d0 d1 T z am
    gi_wp2
    refine(PM (Da R)).mono ?_;rintro e Y ⟨rfl,ae⟩;obtain⟨ab,ah,af,aj,ap⟩:=Da ae;have fx:=(aj.cell 0).trans (show _=some (Value.pointer none) from rfl);have ay:=Db ab;have aq:=Db ah;clear R ae ab ah af aj ap e3 hy
    gi_wp2
    refine⟨trivial,?_⟩
    gi_wp2
    exact Da al _ _ (Da ay) (Da aq)
   | false=>
    have aY:∀w',Fr (fun k=>k=a) X w'->TW w' tb rd V E vi G I C:=fun w' hf=>H.tw.below (B:=f.heap.size) (i.t.trans ⟨hf.os,hf.tape,hf.output,hf.size,fun j hj=>hf.block j (by have:=i.t.size;omega) (by omega)⟩) (Aa _)
    have u:=Z4 X tb rd V E vi G I C (H.tw.below i.t (Aa _)) H.il (jn ns++⟨#[47]⟩++x.1) n a8 r bu a P.2 i.s hS (by have:=H.tw.t.lt;omega) aY;have ad:=Db u;have aw:Gd (Dk ch d) ns P.2 (x.1,some n)=([⟨ns++[x.1],2,n⟩],P.2.add n):=by unfold Gd;simp[hS]
    rw[aw]at D al;clear u ak ao t i s v ai ax N hS aw ar aY
    gi_wp2_with (fail)
    refine⟨trivial,?_⟩;refine(Cp _ (A0.2 (Da ad))).mono ?_;rintro e c ⟨rfl,bb,aA⟩;rw[Xk];have au:=Da aE;have av:=aA.size;have F:Gt f.heap.size n1 a X c:=Gt.fr aA (by omega) (by omega);have ag:Hp f a J (K+P.1.length) (P.2.add n) c:=⟨Da HJ _ _ _ (Da O).j (Gc.fr aA bc (Da O).s rfl),(Da O).t.trans F.1,bb⟩;obtain⟨fn,tmps,assign,body,hy,Q⟩:=Da D c (P.2.add n) ⟨ns++[x.1],2,n⟩ [.string (jn ns++⟨#[47]⟩++x.1),.int .u8 2,.int .i64 (n:Nat),.slice r.a r.l r.c] (by rw[TM,Da az,bx]) rfl ag F;have R:=Db Q;have M:=(Da ac c F).1;have e3:=(((Ag c.heap.size c).alloc (Aa _) (.cells #[.string (jn ns++⟨#[47]⟩++x.1),.int .u8 2,.int .i64 (n:Nat),.slice r.a r.l r.c] 141)).cell (p:=⟨w.heap.size+1+1+1,0,none⟩) M.2.2.2.1.lt).trans ((M.2.2.2.1.cell 0).trans (show _=some (Value.func (.yield l) #[] #[]) from rfl));clear Q D ac ad ag F M au av aA bb c0 c1 c2 d0 d1 T z am
    gi_wp2
    refine(PM (Da R)).mono ?_;rintro e Y ⟨rfl,ae⟩;obtain⟨ab,ah,af,aj,ap⟩:=Da ae;have fx:=(aj.cell 0).trans (show _=some (Value.pointer none) from rfl);have ay:=Db ab;have aq:=Db ah;clear R ae ab ah af aj ap e3 hy
    gi_wp2
    refine⟨trivial,?_⟩
    gi_wp2
    exact Da al _ _ (Da ay) (Da aq)
 case done=>
  rintro X z ⟨i,s,v⟩ hD;have bK:=(s.2.2.2.2.cell 0).trans (show _=some (Value.bool false) from rfl);have bL:=s.2.2.2.2.frozen 0;have HD:=Db hD;have O:=Db i;have HB:=Db s;have HK:=Db v;have HZ:=Db z;clear T hD i s v z;show K0 _ _;refine bv _ _ ?_
  gi_wp2
  have T:=Da aD;have z:=Da HZ;have aV:(X.setCell ⟨w.heap.size+1+1+1+1,0,none⟩ (.bool true)).heap[m.heap.size]?=some (.deferred (some [])):=(AB _ _ _ _ (show m.heap.size≠w.heap.size+1+1+1+1 by omega)).trans (Da HD);refine⟨by simp,.inl ⟨_,_,rfl,BS aV,?_⟩⟩;have bE:FH (X.setCell ⟨w.heap.size+1+1+1+1,0,none⟩ (.bool true)) (w.heap.size+1+1+1+1) 4 [.bool true]:=(Da HB).2.2.2.2.set 0 (.bool true);have bA:FH ((X.setCell ⟨w.heap.size+1+1+1+1,0,none⟩ (.bool true)).putObj m.heap.size (.deferred none)) (w.heap.size+1+1+1+1) 4 [.bool true]:=(Bl (show w.heap.size+1+1+1+1≠m.heap.size by omega)).trans bE;have bw:=(bA.cell 0).trans (show _=some (Value.bool true) from rfl);have g1:Gc w.heap.size X (X.setCell ⟨w.heap.size+1+1+1+1,0,none⟩ (.bool true)):=⟨_,grownBy_setCell' X _ _,fun r e=>by cases e;exact⟨by omega,_,(Da HB).2.2.2.2,.inr ⟨_,_,_,rfl,rfl⟩⟩⟩;have g2:Gc w.heap.size (X.setCell ⟨w.heap.size+1+1+1+1,0,none⟩ (.bool true)) ((X.setCell ⟨w.heap.size+1+1+1+1,0,none⟩ (.bool true)).putObj m.heap.size (.deferred none)):=Gc.put _ (by omega) aV (.inl rfl);have bz:FU (Dk ch d) ns ((ch ns).take (E b).length) S=FU (Dk ch d) ns (ch ns) S:=by rw[AI (by rw[Da aN,A7];omega)]
  have i:=Da O;rw[bz]at i;refine⟨_,by simp[results,Tryz.results170,go_sem,bw]<;>rfl,rfl,(i.chg (Da HJ) g1 (by omega) (by omega) (by omega)).chg (Da HJ) g2 (by omega) (by omega) (by omega),((Da HK).chg g1 (by omega) (by omega)).chg g2 (by omega) (by omega)⟩
end
section
open Go.RowKit Go.Shelf
attribute [local go_sem] Oper.semAt_some
theorem TF(a:World)(tb g:Nat)(V:NV)(E:NS)(h:Value)(G:Gh)(I:LF)(C:IB)(ch:LY->List Ek)(f:NV)(H:I4 a tb g V E h G I C ch f)
  (L:List It) (l n1 c:Nat) (J:Nat->World->Prop) (o:a.heap.size<=n1) (p:n1<=c) (m:∀k A A',J k A->Gc n1 A A'->J k A')
  (n:∀k W1,k<L.length->J k W1->YieldAt Fence.wide 1 Tryz.prog l (Im f L k) W1 fun e i=>e = .returned (.bool true)/\J (k+1) i/\G9 a.heap.size n1 W1 i):
  ∀(d:Nat) (ns:LY) (b K:Nat) (S:FJ) (w:World),FI G g ns b->7<=ns.length+d->(∀j y,(Dk ch d ns S).1[j]?=some y->L[K+j]?=some y)->Hp a c J K S w->
   Cl 170 #[.pointer (some ⟨tb,0,none⟩),.pointer (some ⟨b,0,none⟩),.string (jn ns),.pointer (some ⟨c,0,none⟩),.func (.yield l) #[] #[]] w (Pd a n1 c J (K+(Dk ch d ns S).1.length) (Dk ch d ns S).2 w)
 | 0,ns,b,K,S,w,hd,hlen,_,_=>by have:=(FI.le6 H.ok hd).1;omega
 | d+1,ns,b,K,S,w,hd,hlen,hL,hw=>Zk3 a tb g V E h G I C ch f H L l n1 c J o p m n d (TF a tb g V E h G I C ch f H L l n1 c J o p m n d) ns b K S w hd hlen hL hw
theorem Zki:Kd (fun _=>false)=List.replicate 60 (.bool false):=by
 unfold Kd;exact List.map_const' .. |>.trans (by rw[A9])
def Dg(ch:LY->List Ek):List It:=(Dk ch 7 [] (fun _=>false)).1
theorem SJ(b z:World)(a tb f:Nat)(V:NV)(E:NS)(x:Value)(G:Gh)(I:LF)(C:IB)(ch:LY->List Ek)(q:NV)(H:I4 b tb f V E x G I C ch q)(t:Bw b z)(r:FH z a 37 [.pointer (some ⟨tb,0,none⟩)]):
  LG 169 #[.pointer (some ⟨a,0,none⟩)] (Im q (Dg ch)) (Dg ch).length (fun n1 A B=>G9 b.heap.size n1 A B/\B.heap[a]?=A.heap[a]?) z:=fun l J W u s N h0=>by
 have n:FH W a 37 [.pointer (some ⟨tb,0,none⟩)]:=(u.block _ r.lt).trans r;have m:Bw b W:=t.trans (u.mono t.size);have D:=(n.cell 0).trans (show _=some (Value.pointer (some ⟨tb,0,none⟩)) from rfl);have L:=n.lt;have R:FH W tb 214 [.pointer (some ⟨f,0,none⟩),x]:=(m.block _ H.tw.t.lt).trans H.tw.t;obtain⟨c,F,T,w,s1,d⟩:=De W (List.replicate 60 (.bool false)) 245;have d1:c.cell? ⟨a,0,none⟩=some (.pointer (some ⟨tb,0,none⟩)):=(d.cell (p:=⟨a,0,none⟩) (Al _ _ D)).trans D;have d2:c.cell? ⟨tb,0,none⟩=some (.pointer (some ⟨f,0,none⟩)):=((w _ _ _ R).cell 0).trans rfl;have i:Bw b c:=m.trans (d.mono m.size);have P:Hp b W.heap.size (fun k X=>J k X/\FH X a 37 [.pointer (some ⟨tb,0,none⟩)]) 0 (fun _=>false) c.drew:=⟨⟨s _ _ _ h0 (Gc.below ⟨d.os,d.tape,d.output,d.size,d.block⟩),w _ _ _ n⟩,⟨i.os,i.tape,i.output,i.size,i.block⟩,by rw[Zki];exact T⟩;have HW:Hid (Cl 170 #[.pointer (some ⟨tb,0,none⟩),.pointer (some ⟨f,0,none⟩),.string ⟨#[]⟩,.pointer (some ⟨W.heap.size,0,none⟩),.func (.yield l) #[] #[]] c.drew fun e w'=>e = .returned (.bool true)/\w'.cell? ⟨a,0,none⟩=some (.pointer (some ⟨tb,0,none⟩))/\w'.cell? ⟨tb,0,none⟩=some (.pointer (some ⟨f,0,none⟩))/\Hid (J (Dg ch).length w')):=(TF b tb f V E x G I C ch q H (Dg ch) l W.heap.size W.heap.size (fun k X=>J k X/\FH X a 37 [.pointer (some ⟨tb,0,none⟩)]) m.size (Aa _) (fun k A U h O=>⟨s k A U h.1 O,O.row h.2 (.inl L)⟩) (fun k c o h=>(N k c o h.1).mono fun e W' ⟨v,g,o⟩=>⟨v,⟨g,o.2.trans h.2⟩,o.1⟩) 7 [] f 0 (fun _=>false) c.drew (.inl ⟨rfl,rfl⟩) (by simp) (fun j y g=>by rw[Au];exact g) P).mono fun e w' ⟨v,Q,ac⟩=>by
  have g:=Q.j;rw[Au]at g;refine⟨v,(g.2.cell 0).trans rfl,(Q.t.cell (p:=⟨tb,0,none⟩) H.tw.t.lt).trans ((H.tw.t.cell 0).trans rfl),g.1⟩
 have Y:=Db F;clear N s u r n m t R T w s1 d F P i H L;go_enter Tryz.func169,Tryz.ntmps169;go_upto_region 0 with fail;refine AT ?_;refine KE rfl 245 rfl Ym ?_;refine Et ?_;rw[show W.alloc (.cells (List.replicate 60 (Value.bool false)).toArray 245)=c from Da Y]
 (try simp only[pE])
 go_upto_region 1 with fail;refine AN (S:=fun X=>X.cell? ⟨a,0,none⟩=some (.pointer (some ⟨tb,0,none⟩))/\X.cell? ⟨tb,0,none⟩=some (.pointer (some ⟨f,0,none⟩))) (by kernel_rfl) ⟨d1,d2⟩ (fun ab=>?_);refine tk 0 ?_;try simp only[pE];refine tk 1 ?_;try simp only[pE];refine tk 2 ?_;try simp only[pE];refine tk 3 ?_;try simp only[pE];refine tk 4 ?_;try simp only[pE];refine tk 5 ?_;try simp only[pE];refine rk 6 (fun K M=>?_);go_simp;go_at_call 170;refine(Da HW).mono ?_;rintro e w' ⟨rfl,q1,q2,Z⟩;go_wp2_with fail;refine M.out _ _ ⟨q1,q2⟩ (fun aa=>?_);clear M K
 (try simp only[pE])
 refine AS (by kernel_rfl) ?_ _;go_wp2
 go_end0
 exact⟨⟨_,rfl⟩,Da Z⟩
end
open Go.RowKit
def Ih(d:By):Nat:=(d.size+64-1)/64
def DZ(E:FL)(C:NB)(last:By)(st:Pl)(x:It):By×Pl:=
 if x.k=1 then (Do last (jn x.ns) 1++Dl last (jn x.ns),st)
 else if x.k=3 then (Do last (jn x.ns) 3++Dl last (jn x.ns)++⟨#[UInt8.ofNat x.f]⟩,st)
 else (Do last (jn x.ns) 2++Dl last (jn x.ns)++⟨#[UInt8.ofNat x.f]⟩++Jv (C x.f).size 2++Kc E x.f (C x.f) st 0 (List.range (Ih (C x.f))),
  E.puts (Dp 4 x.f) (Gq (C x.f)) st 0 (List.range (Ih (C x.f))))
def DA(E:FL)(C:NB):By->Pl->List It->By×Pl
 | _,st,[]=>(⟨#[]⟩,st)
 | last,st,x::xs=>((DZ E C last st x).1++(DA E C (jn x.ns) (DZ E C last st x).2 xs).1,(DA E C (jn x.ns) (DZ E C last st x).2 xs).2)
def J4:By->List It->By
 | last,[]=>last
 | _,x::xs=>J4 (jn x.ns) xs
theorem PA:∀(last:By) (xs:List It) (x:It),J4 last (xs++[x])=jn x.ns
 | _,[],_=>rfl
 | _,y::xs,x=>PA (jn y.ns) xs x
theorem Ty(E:FL)(C:NB):∀(last:By) (st:Pl) (xs:List It) (x:It),DA E C last st (xs++[x])=((DA E C last st xs).1++(DZ E C (J4 last xs) (DA E C last st xs).2 x).1,(DZ E C (J4 last xs) (DA E C last st xs).2 x).2)
 | last,st,[],x=>by
  show((DZ E C last st x).1++⟨#[]⟩,(DZ E C last st x).2)=(⟨#[]⟩++(DZ E C last st x).1,(DZ E C last st x).2);rw[K2,Ow]
 | last,st,y::xs,x=>by
  show((DZ E C last st y).1++(DA E C (jn y.ns) (DZ E C last st y).2 (xs++[x])).1,(DA E C (jn y.ns) (DZ E C last st y).2 (xs++[x])).2)=_;rw[Ty E C (jn y.ns) (DZ E C last st y).2 xs x];show(_++(_++_),_)=((_++_)++_,_);rw[Jm]
  rfl
structure G0(C:NB)(L:List It):Prop where
 len:L.length<=100
 kind:∀x∈L,x.k=1\/x.k=2\/x.k=3
 path:∀x∈L,(jn x.ns).size<=100
 num:∀x∈L,x.f<60
 size:∀x∈L,x.k=2->(C x.f).size<=1280
 fresh:∀(i j:Nat) x y,i<j->L[i]?=some x->L[j]?=some y->x.k=2->y.k=2->x.f≠y.f
theorem Rb{d:By}(h:d.size<=1280):Ih d<=20:=by unfold Ih;omega
theorem Zz(a p:By):(Dl a p).size<=p.size:=by unfold Dl;rw[Am];omega
theorem XF(E:FL)(C:NB)(b:By)(a:Pl)(x:It)(hp:(jn x.ns).size<=100)(m:x.k=2->(C x.f).size<=1280)(l:x.k=1\/x.k=2\/x.k=3):
  (DZ E C b a x).1.size<=306/\(DZ E C b a x).2.puts.length<=a.puts.length+20/\(DZ E C b a x).2.ps.length<=a.ps.length+20/\(a.hd<=1536->(DZ E C b a x).2.hd<=1536)/\
  ∀y∈(DZ E C b a x).2.puts,y∈a.puts\/(x.k=2/\∃j,j<20/\y.1=Dp 4 x.f j):=by
 have ht:=Zz b (jn x.ns);have d:∀k,(Do b (jn x.ns) k).size=3:=fun k=>rfl
 have f:∀u:UInt8,(⟨#[u]⟩:By).size=1:=fun u=>rfl
 unfold DZ;rcases l with e|e|e
 ·rw[if_pos e];exact⟨by rw[Ai,d];omega,EN _ _,EN _ _,id,fun y c => .inl c⟩
 ·rw[if_neg (by omega),if_neg (by omega)];have hn:=Rb (m e);obtain⟨n,o,p⟩:=FL.puts_len E (Dp 4 x.f) (Gq (C x.f)) a 0 (List.range (Ih (C x.f)));rw[A9]at n o;have g:(E.puts (Dp 4 x.f) (Gq (C x.f)) a 0 (List.range (Ih (C x.f)))).puts.length<=a.puts.length+20:=by omega
  have i:(E.puts (Dp 4 x.f) (Gq (C x.f)) a 0 (List.range (Ih (C x.f)))).ps.length<=a.ps.length+20:=by omega
  refine⟨?_,g,i,p,fun y c=>?_⟩
  ·simp only[Ai,d,f,Ql,PB,A9];omega
  ·rcases FL.puts_mem E _ _ a 0 _ y c with h|⟨j,_,q,r⟩
   ·exact .inl h
   ·rw[A9]at q;exact .inr ⟨e,j,by omega,r⟩
 ·rw[if_neg (by omega),if_pos e];exact⟨by simp only[Ai,d,f];omega,EN _ _,EN _ _,id,fun y c => .inl c⟩
theorem U6(E:FL)(C:NB):∀(last:By) (st:Pl) (xs:List It),(∀x∈xs,(jn x.ns).size<=100/\(x.k=2->(C x.f).size<=1280)/\(x.k=1\/x.k=2\/x.k=3))->
  (DA E C last st xs).1.size<=306*xs.length/\(DA E C last st xs).2.puts.length<=st.puts.length+20*xs.length/\(DA E C last st xs).2.ps.length<=st.ps.length+20*xs.length/\(st.hd<=1536->(DA E C last st xs).2.hd<=1536)/\
  ∀y∈(DA E C last st xs).2.puts,y∈st.puts\/∃x∈xs,x.k=2/\∃j,j<20/\y.1=Dp 4 x.f j
 | last,st,[],_=>⟨Aa _,Aa _,Aa _,id,fun y a => .inl a⟩
 | last,st,x::xs,h=>by
  obtain⟨i,k,l⟩:=h x (by simp);obtain⟨a1,a2,a3,b,c⟩:=XF E C last st x i k l;obtain⟨b1,b2,b3,d,f⟩:=U6 E C (jn x.ns) (DZ E C last st x).2 xs (fun y a=>h y (AA _ a));refine⟨?_,?_,?_,fun h=>d (b h),fun y a=>?_⟩
  ·show((DZ E C last st x).1++_).size<=_;rw[Ai,Af];omega
  ·show(DA E C _ _ xs).2.puts.length<=_;rw[Af];omega
  ·show(DA E C _ _ xs).2.ps.length<=_;rw[Af];omega
  ·rcases f y a with h|⟨z,g,r⟩
   ·rcases c y h with h|⟨e,r⟩
    ·exact .inl h
    ·exact .inr ⟨x,by simp,e,r⟩
   ·exact .inr ⟨z,AA _ g,r⟩
theorem ZG{b f a i j:Nat}(hi:i<65536)(hj:j<65536)(_hf:f<65536)(_hf':a<65536)(h:Dp b f i=Dp b a j):f=a:=by unfold Dp at h;omega
theorem Zkj{b c f a i j:Nat}(hi:i<65536)(hj:j<65536)(hf:f<65536)(aa:a<65536)(h:Dp b f i=Dp c a j):b=c:=by unfold Dp at h;omega
theorem G0.turn{C:NB}{L:List It}(h:G0 C L)(E:FL)(st0:Pl)(p:st0.puts=[])(q:st0.ps=[])(r:st0.hd<=1536)(k:Nat)(x:It)(d:L[k]?=some x):
  (DA E C ⟨#[]⟩ st0 (L.take k)).1.size<=30600/\(DA E C ⟨#[]⟩ st0 (L.take k)).2.puts.length<=2000/\(DA E C ⟨#[]⟩ st0 (L.take k)).2.ps.length<=2000/\(DA E C ⟨#[]⟩ st0 (L.take k)).2.hd<=1536/\
  (x.k=2->∀y∈(DA E C ⟨#[]⟩ st0 (L.take k)).2.puts,∀i,i<1000->y.1≠Dp 4 x.f i)/\(J4 ⟨#[]⟩ (L.take k)).size<=100:=by
 have ac:=(Ad.1 d).1;have ab:=h.len;have ae:(L.take k).length=k:=by rw[Ar];omega
 obtain⟨b1,f,g,n,l⟩:=U6 E C ⟨#[]⟩ st0 (L.take k) (fun z a=>⟨h.path z (Bm a),h.size z (Bm a),h.kind z (Bm a)⟩);rw[p]at f l;rw[q]at g;simp only[Ay]at f g;refine⟨by omega,by omega,by omega,n r,fun s y c i hi e=>?_,?_⟩
 ·rcases l y c with u|⟨z,a,v,j,hj,o⟩
  ·cases u
  ·obtain⟨m,b⟩:=CC.1 a;have ad:=b;rw[Ap]at b
   split at b
   ·rename_i t;have hf:=h.num z (Bm a);have aa:=h.num x (An d);exact h.fresh m k z x t b d v s (ZG (by omega) (by omega) (by omega) (by omega) (o.symm.trans e))
   ·cases b
 ·cases k with
  | zero=>exact Aw _
  | succ k=>
   obtain⟨y,c⟩:∃y,L[k]?=some y:=⟨_,Ac (by omega)⟩;rw[Bg,c,Cj,PA];exact h.path y (An c)
def KM(E:FL)(R:Nat->Nat)(B:NB):Pl->Nat->List Nat->By
 | _,_,[]=>⟨#[]⟩
 | st,i,x::xs=>D3 (E.put st (R i) (B x)).1 (D5 (B x))++KM E R B (E.put st (R i) (B x)).2 (i+1) xs
theorem PC(E:FL)(R:Nat->Nat)(B:NB):∀(st:Pl) (i:Nat) (xs:List Nat) (x:Nat),KM E R B st i (xs++[x])=KM E R B st i xs++D3 (E.put (E.puts R B st i xs) (R (i+xs.length)) (B x)).1 (D5 (B x))
 | st,i,[],x=>by
  show D3 _ _++⟨#[]⟩=⟨#[]⟩++D3 _ _;rw[K2,Ow];rfl
 | st,i,y::xs,x=>by
  show D3 _ _++KM E R B _ (i+1) (xs++[x])=D3 _ _++KM E R B _ (i+1) xs++_;rw[PC E R B _ (i+1) xs x,Jm,Af,show i+1+xs.length=i+(xs.length+1) by omega]
  rfl
theorem Nn(E:FL)(R:Nat->Nat)(B:NB):∀(st:Pl) (i:Nat) (xs:List Nat),(KM E R B st i xs).size=10*xs.length
 | st,i,[]=>rfl
 | st,i,x::xs=>by
  show(D3 _ _++KM E R B _ (i+1) xs).size=_;rw[Ai,Ne,Nn E R B _ (i+1) xs,Af];omega
def DV(E:FL)(kk:UInt8)(sz below:Nat)(st:Pl)(s:By):By×Pl:=
 (KM E (Dp kk.toNat below) (D9 kk s sz) st 0 (List.range ((s.size+sz-1)/sz)),E.puts (Dp kk.toNat below) (D9 kk s sz) st 0 (List.range ((s.size+sz-1)/sz)))
def JE(E:FL):Nat->Nat->Pl->By->By×Pl
 | 0,_,st,s=>(s,st)
 | d+1,below,st,s=>if 10<s.size then JE E d (below+1) (DV E 2 60 below st s).2 (DV E 2 60 below st s).1 else (s,st)
def Ku(E:FL)(C:NB)(st:Pl)(L:List It):By×Pl:=
 JE E 8 1 (DV E 3 63 0 (DA E C ⟨#[]⟩ st L).2 ((DA E C ⟨#[]⟩ st L).1++⟨#[0]⟩)).2 (DV E 3 63 0 (DA E C ⟨#[]⟩ st L).2 ((DA E C ⟨#[]⟩ st L).1++⟨#[0]⟩)).1
theorem Gy.typed{n0 pb db sb so:Nat}{E:FL}{st:Pl}{O:Nat->Prop}{W:World}(h:Gy n0 pb db sb so E st O W){j:Nat}(c:O j):∃L t,FH W j t L/\TT t=false:=by
 obtain⟨_,_,_,va,es,vp,b,_,_,_,d⟩:=h;rcases (d j).1 c with rfl|e|e
 ·exact⟨_,_,b.row,rfl⟩
 ·obtain⟨R,a⟩:=b.sa.type e;exact⟨R,350,a,rfl⟩
 ·obtain⟨R,a⟩:=Sl.type b.sp e;exact⟨R,207,a,rfl⟩
theorem cP.typed{b:Nat}{w:World}{v:Value}{s:By}(h:cP b w v s){g:Nat}(a:Own v g):∃L,FH w g 5 L:=h.1.type a
theorem MX{W:World}{j:Nat}{t:TypeId}{L:LV}(h:FH W j t L)(b:TT t=false){o:Obj}(ho:W.heap[j]?=some o):¬K8 o:=fun a=>by
 rw[show W.heap[j]? = _ from h]at ho
 cases ho
 have:=MW a;rw[b]at this;cases this
theorem NA{W:World}{j:Nat}{t:TypeId}{L:LV}(h:FH W j t L){o:Obj}(ho:W.heap[j]?=some o):o.isCells=true:=by
 rw[show W.heap[j]? = _ from h]at ho
 cases ho
 rfl
structure GO(w:World)(n0 n1 pb db sb so tb:Nat)(E:FL)(O0:Nat->Prop)(st:Pl)(s last:By)(v:Value)(O:Nat->Prop)(W:World):Prop where
 st:Gy n0 pb db sb so E st O W
 hO:∀j,O j->O0 j\/n1<=j
 b0:FH W w.heap.size 168 [.pointer (some ⟨pb,0,none⟩)]
 b1:FH W (w.heap.size+1) 59 [v]
 b2:FH W (w.heap.size+1+1) 9 [.string last]
 b3:FH W (w.heap.size+1+1+1) 37 [.pointer (some ⟨tb,0,none⟩)]
 rs:cP n1 W v s
 dis:∀j,O j->¬Own v j
 fr:Fr O0 w W
 sz:w.heap.size+4<=W.heap.size
structure LX(w:World)(n0 n1:Nat)(O0:Nat->Prop):Prop where
 o0:∀j,O0 j->j<w.heap.size
 n1:w.heap.size+4<=n1
 n0:n0<=w.heap.size
section
variable{w:World}{n0 n1 pb db sb so tb:Nat}{E:FL}{O0:Nat->Prop}{st:Pl}{s last:By}{v:Value}{O:Nat->Prop}{W W':World}
theorem GO.fr'(f:LX w n0 n1 O0)(h:GO w n0 n1 pb db sb so tb E O0 st s last v O W){Z:Nat->Prop}(b:Fr Z W W')(a:∀j,Z j->¬O j/\¬Own v j/\w.heap.size+4<=j):GO w n0 n1 pb db sb so tb E O0 st s last v O W':=by
 have h1:=f.n1;have h2:=f.n0;have d:∀{j t L},FH W j t L->j<w.heap.size+4->FH W' j t L:=fun {j t L} i c=>(b.block _ i.lt (fun e=>by have:=(a _ e).2.2;omega)).trans i
 refine⟨h.st.keeps b (fun j c=>⟨(a j c).1,by have:=(a j c).2.2;omega⟩),h.hO,d h.b0 (by omega),d h.b1 (by omega),d h.b2 (by omega),d h.b3 (by omega),⟨h.rs.1.fr b (fun g k e=>(a g e).2.1 k),h.rs.2⟩,h.dis,h.fr.then b (fun j c e=>by have:=(a j e).2.2;omega),Ae h.sz b.size⟩
theorem GO.chg(f:LX w n0 n1 O0)(h:GO w n0 n1 pb db sb so tb E O0 st s last v O W)(i:Gc (w.heap.size+4) W W'):GO w n0 n1 pb db sb so tb E O0 st s last v O W':=by
 obtain⟨row,a,n⟩:=i;refine h.fr' f (Z:=fun j=>row=some j) ⟨a.os,a.tape,a.output,a.size,fun k m g=>a.block k m (fun e=>g e.symm)⟩ (fun j l=>?_);obtain⟨d,o,ho,c⟩:=n j l;refine⟨fun e=>?_,fun e=>?_,d⟩
 ·obtain⟨L,t,b,p⟩:=h.st.typed e;exact MX b p ho c
 ·obtain⟨L,b⟩:=h.rs.typed e;exact MX b rfl ho c
theorem GO.say(c:LX w n0 n1 O0)(hz:n1<=W.heap.size)(h:GO w n0 n1 pb db sb so tb E O0 st s last v O W){u:Pl}{r:By}{a:Value}{O':Nat->Prop}(z:Gy n0 pb db sb so E u O' W')(i:cP n1 W' a r)(x:∀j,O' j->O j\/W.heap.size<=j)(y:∀j,O' j->¬Own a j)(d:Fr (fun j=>O j\/Own v j) W W'):
  GO w n0 n1 pb db sb so tb E O0 u r last a O' (W'.setCell ⟨w.heap.size+1,0,none⟩ a)/\Fr (fun j=>O j\/Own v j\/j=w.heap.size+1) W (W'.setCell ⟨w.heap.size+1,0,none⟩ a):=by
 have h1:=c.n1;have h2:=c.n0;have h3:=h.sz;have h4:=d.size;have A:∀B,w.heap.size<=B->B<n1->¬O B:=fun B p m e=>by
  rcases h.hO B e with q|q
  ·have:=c.o0 B q;omega
  ·omega
 have o:∀B,B<n1->¬Own v B:=fun B q e=>by have:=h.rs.2 B e;omega
 have D:∀B,B<n1->¬Own a B:=fun B q e=>by have:=i.2 B e;omega
 have n:∀j,O' j->O0 j\/n1<=j:=fun j b=>(x j b).elim (h.hO j) (fun e => .inr (by omega))
 have C:¬O' (w.heap.size+1):=fun e=>by
  rcases n _ e with q|q
  ·have:=c.o0 _ q;omega
  ·omega
 have g:∀{j t L},FH W j t L->w.heap.size<=j->j<n1->FH W' j t L:=fun {j t L} f p m=>(d.block _ f.lt (fun e=>e.elim (A j p m) (o j m))).trans f
 have k:Fr (fun j=>j=w.heap.size+1) W' (W'.setCell ⟨w.heap.size+1,0,none⟩ a):=(Fr.refl _ _).set _ _ rfl;have l:∀{j t L},FH W' j t L->j≠w.heap.size+1->FH (W'.setCell ⟨w.heap.size+1,0,none⟩ a) j t L:=fun f b=>(AB _ _ _ _ b).trans f
 refine⟨⟨z.keeps k (fun j b=>⟨fun ho=>C (by rw[<-b];exact ho),by omega⟩),n,l (g h.b0 (by omega) (by omega)) (by omega),(g h.b1 (by omega) (by omega)).set 0 a,l (g h.b2 (by omega) (by omega)) (by omega),l (g h.b3 (by omega) (by omega)) (by omega),⟨i.1.setCell _ _ (D (w.heap.size+1) (by omega)),i.2⟩,y,?_,by simp[World.setCell];omega⟩,?_⟩
 ·refine(h.fr.then d (fun j b e=>?_)).then k (fun j b e=>by omega);rcases e with e|e
  ·exact(h.hO j e).elim id (fun q=>by omega)
  ·exact absurd e (o j (by omega))
 ·exact(d.mono (fun j _ e=>e.elim .inl (fun e => .inr (.inl e)))).then k (fun j b e => .inr (.inr e))
theorem GO.path(b:LX w n0 n1 O0)(h:GO w n0 n1 pb db sb so tb E O0 st s last v O W)(p:By):
  GO w n0 n1 pb db sb so tb E O0 st s p v O (W.setCell ⟨w.heap.size+1+1,0,none⟩ (.string p))/\Fr (fun j=>j=w.heap.size+1+1) W (W.setCell ⟨w.heap.size+1+1,0,none⟩ (.string p)):=by
 have h1:=b.n1;have h2:=b.n0;have f:=h.sz;have i:¬O (w.heap.size+1+1):=fun e=>by
  rcases h.hO _ e with q|q
  ·have:=b.o0 _ q;omega
  ·omega
 have k:¬Own v (w.heap.size+1+1):=fun e=>by have:=h.rs.2 _ e;omega
 have c:Fr (fun j=>j=w.heap.size+1+1) W (W.setCell ⟨w.heap.size+1+1,0,none⟩ (.string p)):=(Fr.refl _ _).set _ _ rfl;have d:∀{j t L},FH W j t L->j≠w.heap.size+1+1->FH (W.setCell ⟨w.heap.size+1+1,0,none⟩ (.string p)) j t L:=fun g a=>(AB _ _ _ _ a).trans g
 exact⟨⟨h.st.keeps c (fun j a=>⟨fun ho=>i (by rw[<-a];exact ho),by omega⟩),h.hO,d h.b0 (by omega),d h.b1 (by omega),h.b2.set 0 (.string p),d h.b3 (by omega),⟨h.rs.1.setCell _ _ k,h.rs.2⟩,h.dis,h.fr.then c (fun j a e=>by omega),by simp[World.setCell];exact f⟩,c⟩
theorem GO.keeps(d:LX w n0 n1 O0)(_hz:n1<=W.heap.size)(h:GO w n0 n1 pb db sb so tb E O0 st s last v O W)(b:Fr (fun j=>O j\/Own v j\/j=w.heap.size+1\/j=w.heap.size+1+1) W W'):
  G9 n0 n1 W W'/\W'.heap[w.heap.size+1+1+1]?=W.heap[w.heap.size+1+1+1]?/\∀(k:Nat) (o:Obj),W.heap[k]?=some o->o.isCells=false->W'.heap[k]?=some o:=by
 have h1:=d.n1;have h2:=d.n0;have h3:=h.sz;have l:∀j,O j->n0<=j:=h.st.2.1;refine⟨⟨⟨b.os,b.tape,b.output,b.size,fun k i=>b.block k (by omega) (fun e=>?_)⟩,fun k o i ho f=>(b.block k (Ah.1 ho).1 (fun e=>?_)).trans ho⟩,b.block _ h.b3.lt (fun e=>?_),fun k o ho a=>(b.block k (Ah.1 ho).1 (fun e=>?_)).trans ho⟩
 ·rcases e with e|e|e|e
  ·have:=l k e;omega
  ·have:=h.rs.2 k e;omega
  ·omega
  ·omega
 ·rcases e with e|e|e|e
  ·obtain⟨L,t,c,g⟩:=h.st.typed e;exact MX c g ho f
  ·obtain⟨L,c⟩:=h.rs.typed e;exact MX c rfl ho f
  ·omega
  ·omega
 ·rcases e with e|e|e|e
  ·rcases h.hO _ e with q|q
   ·have:=d.o0 _ q;omega
   ·omega
  ·have:=h.rs.2 _ e;omega
  ·omega
  ·omega
 ·rcases e with e|e|e|e
  ·obtain⟨L,t,c,g⟩:=h.st.typed e;rw[NA c ho]at a;cases a
  ·obtain⟨L,c⟩:=h.rs.typed e;rw[NA c ho]at a;cases a
  ·subst e;rw[NA h.b1 ho]at a;cases a
  ·subst e;rw[NA h.b2 ho]at a;cases a
end
theorem itmV_1(a:NV)(ns:LY)(f:Nat):J9 a ⟨ns,1,f⟩ = .agg #[.string (jn ns),.int .u8 1,.int .i64 (f:Nat),.slice none 0 0]:=rfl
theorem entP_1(E:FL)(C:NB)(a:By)(b:Pl)(ns:LY)(f:Nat):DZ E C a b ⟨ns,1,f⟩=(Do a (jn ns) 1++Dl a (jn ns),b):=if_pos rfl
theorem entP_3(E:FL)(C:NB)(a:By)(b:Pl)(ns:LY)(f:Nat):DZ E C a b ⟨ns,3,f⟩=(Do a (jn ns) 3++Dl a (jn ns)++⟨#[UInt8.ofNat f]⟩,b):=(if_neg (by simp)).trans (if_pos rfl)
theorem entP_2(E:FL)(C:NB)(a:By)(b:Pl)(ns:LY)(f:Nat):DZ E C a b ⟨ns,2,f⟩=(Do a (jn ns) 2++Dl a (jn ns)++⟨#[UInt8.ofNat f]⟩++Jv (C f).size 2++Kc E f (C f) b 0 (List.range (Ih (C f))),E.puts (Dp 4 f) (Gq (C f)) b 0 (List.range (Ih (C f)))):=(if_neg (by simp)).trans (if_neg (by simp))
theorem ZA(X:World)(m n1 pb p q so:Nat)(E:FL)(Q:F4 E)(T:∃j,j<96/\E.nd j<=0)(d:Pl)(O:Nat->Prop)(u:Gy m pb p q so E d O X)(a:OA)(l c:Nat)(s:By)(t:cP n1 X (.slice a l c) s)(x:∀j,O j->¬Own (.slice a l c) j)(B:n1<=X.heap.size)(V:m<=n1)
  (C:NB) (F:NV) (y:It) (H:y.k=1\/y.k=2\/y.k=3) (W:(jn y.ns).size<=100) (S:y.f<60) (J:y.k=2->(C y.f).size<=1280) (n:By) (ac:n.size<=100)
  (G:y.k=2->∃v o w,F y.f = .slice v o w/\Sl X 5 1 (.slice v o w) o (Dd (C y.f))/\∀g,Own (.slice v o w) g->g<m)
  (q1:s.size<=30600) (q2:d.puts.length<=2000) (q3:d.ps.length<=2000) (q4:d.hd<=1536) (K:y.k=2->∀z∈d.puts,∀i,i<1000->z.1≠Dp 4 y.f i):
  Cl 236 #[.pointer (some ⟨pb,0,none⟩),.slice a l c,.string n,J9 F y] X (QK X n1 m pb p q so E O (.slice a l c) (DZ E C n d y).2 (s++(DZ E C n d y).1)):=by
 have r:∀j,Own (.slice a l c) j->m<=j:=fun j e=>Ae V (t.2 j e)
 obtain⟨ns,k,f⟩:=y;simp only at H W S J G K;rcases H with rfl|rfl|rfl
 ·have h:=ZB X n1 m pb p q so E d O u a l c s t (by omega) x r B n (jn ns) (by omega) (by omega) f (by omega) (.slice none 0 0) ⟨_,_,_,rfl⟩;rw[Jm]at h;rw[itmV_1,entP_1];exact h
 ·obtain⟨v,o,w,N,D,U⟩:=G rfl;have A:o=(C f).size:=by
   have:=D.1;rw[Dj]at this;omega
  have hz:=J rfl;have hn:=Rb hz;rw[TM,N,entP_2];rcases D.2 with⟨e,h0⟩|⟨g,M,L,e,R,P,_⟩
  ·have h:=ZiT X n1 m pb p q so E d O u a l c s t (by omega) x r B n (jn ns) (by omega) (by omega) f (by omega);have aa:(C f).size=0:=by omega
   have I:Ih (C f)=0:=by unfold Ih;omega
   have Y:E.puts (Dp 4 f) (Gq (C f)) d 0 (List.range (Ih (C f)))=d:=by rw[I];rfl
   have Z:Kc E f (C f) d 0 (List.range (Ih (C f)))=⟨#[]⟩:=by rw[I];rfl
   rw[Jm,Jm,Jm]at h;rw[e,Y,Z,K2,Jm,Jm,aa];exact h
  ·have ab:=U g (by rw[e];rfl);have h:=ZkF X n1 m pb p q so E d O u a l c s t (by omega) x r B n (jn ns) (by omega) (by omega) f (by omega) g 0 o M (C f) (cP.rdB (b:=0) ⟨by rw[<-A,<-e];exact D,fun _ _=>Aw _⟩) P (by omega) (fun e=>by have:=u.2.1 g e;omega) (fun e=>by have:=r g e;omega) R.lt Q T 1000 (by omega) (by omega) (by omega) q4 (K rfl) (Ih (C f)) (by rw[A];rfl) (by omega);rw[Jm,Jm,Jm,Jm,A]at h;rw[e,A,Jm,Jm,Jm];exact h
 ·have h:=ZkE X n1 m pb p q so E d O u a l c s t (by omega) x r B n (jn ns) (by omega) (by omega) f (by omega) (.slice none 0 0) ⟨_,_,_,rfl⟩;rw[Jm,Jm]at h;rw[TN,entP_3,Jm];exact h
def MJ(X:World)(n0 pb db sb so:Nat)(E:FL)(O:Nat->Prop)(st':Pl)(s':By)(e:Ending)(w6:World):Prop:=
 ∃a' l' c' O',e = .returned (.slice a' l' c')/\Gy n0 pb db sb so E st' O' w6/\cP X.heap.size w6 (.slice a' l' c') s'/\(∀j,O' j->O j\/X.heap.size<=j)/\(∀j,O' j->¬Own (.slice a' l' c') j)/\Fr O X w6
theorem cP.some{b:Nat}{w:World}{a:OA}{l c:Nat}{s:By}(h:cP b w (.slice a l c) s)(hs:1<=s.size):∃g,a=some ⟨g,0,none⟩/\l=s.size/\s.size<=c/\g<w.heap.size:=by
 rcases h.1.2 with⟨_,h0⟩|⟨g,aa,L,e,d,q,_⟩
 ·omega
 ·cases e;exact⟨g,rfl,rfl,q,d.lt⟩
theorem YM(X:World)(k pb m p so:Nat)(E:FL)(A:F4 E)(f:∃j,j<96/\E.nd j<=0)(d:Pl)(O:Nat->Prop)(n:Gy k pb m p so E d O X)(b:Nat)(a:OA)(l c:Nat)(s:By)(q:cP b X (.slice a l c) s)(D:∀j,O j->¬Own (.slice a l c) j)
  (w:1<=s.size) (y:s.size<60000) (I:d.puts.length+1000<=10000) (J:d.ps.length+1000<=1000000) (K:d.hd<=1536) (L:∀z∈d.puts,∀i,i<1000->z.1≠Dp 3 0 i):
  Cl 237 #[.pointer (some ⟨pb,0,none⟩),.int .u8 3,.int .i64 ((0:Nat):Int),.slice a l c] X (MJ X k pb m p so E O (DV E 3 63 0 d s).2 (DV E 3 63 0 d s).1):=by
 obtain⟨g,rfl,rfl,G,F⟩:=q.some w;have B:∀j,O j->j<X.heap.size:=fun j f=>by obtain⟨cs,t,C⟩:=n.cells f;exact(Ah.1 C).1
 refine(ZI X 1000 (by omega) k pb 0 (by omega) g 0 s.size c s q.rdB G y _ _ _ O O (fun o=>KM E (Dp 3 0) (D9 3 s 63) d 0 o) n.2.2.1
  (RS 1000 k pb m p so E A f d I J K 3 0 L s 63) rfl (fun o x=>by have:=PC E (Dp 3 0) (D9 3 s 63) d 0 o x;rw[Au]at this;exact this) (Nn E _ _ d 0) n (fun _ h=>h) B (fun e=>D g e rfl) F ((s.size+63-1)/63) rfl (by omega)).mono ?_
 rintro e w6 ⟨u,H,v,O',rfl,r,M,N,P,Q⟩;exact⟨u,H,v,O',rfl,M,⟨r.1,fun j f=>by have:=r.2 j f;omega⟩,fun j f=>(N j f).imp id (fun e=>by omega),P,Q⟩
theorem YL(X:World)(m pb n q so:Nat)(E:FL)(B:F4 E)(k:∃j,j<96/\E.nd j<=0)(d:Pl)(O:Nat->Prop)(o:Gy m pb n q so E d O X)(b:Nat)(a:OA)(l c:Nat)(s:By)(r:cP b X (.slice a l c) s)(G:∀j,O j->¬Own (.slice a l c) j)(f:Nat)(F:f<65536)
  (y:1<=s.size) (A:s.size<60000) (K:d.puts.length+1000<=10000) (L:d.ps.length+1000<=1000000) (M:d.hd<=1536) (N:∀z∈d.puts,∀i,i<1000->z.1≠Dp 2 f i):
  Cl 237 #[.pointer (some ⟨pb,0,none⟩),.int .u8 2,.int .i64 (f:Nat),.slice a l c] X (MJ X m pb n q so E O (DV E 2 60 f d s).2 (DV E 2 60 f d s).1):=by
 obtain⟨g,rfl,rfl,I,H⟩:=r.some y;have C:∀j,O j->j<X.heap.size:=fun j k=>by obtain⟨cs,t,D⟩:=o.cells k;exact(Ah.1 D).1
 refine(ZH X 1000 (by omega) m pb f F g 0 s.size c s r.rdB I A _ _ _ O O (fun p=>KM E (Dp 2 f) (D9 2 s 60) d 0 p) o.2.2.1
  (RS 1000 m pb n q so E B k d K L M 2 f N s 60) rfl (fun p x=>by have:=PC E (Dp 2 f) (D9 2 s 60) d 0 p x;rw[Au]at this;exact this) (Nn E _ _ d 0) o (fun _ h=>h) C (fun e=>G g e rfl) H ((s.size+60-1)/60) rfl (by omega)).mono ?_
 rintro e w6 ⟨v,J,w,O',rfl,u,P,Q,R,S⟩;exact⟨v,J,w,O',rfl,P,⟨u.1,fun j k=>by have:=u.2 j k;omega⟩,fun j k=>(Q j k).imp id (fun e=>by omega),R,S⟩
def GZ(below:Nat)(st:Pl):Prop:=∀y∈st.puts,∃kk f i,y.1=Dp kk f i/\i<1000/\(kk=4/\f<60\/kk=3/\f=0\/kk=2/\f<below)
theorem GZ.row{a:Nat}{b:Pl}(h:GZ a b)(_hb:a<60000)(E:FL)(B:NB)(n:Nat)(hn:n<=1000):GZ (a+1) (E.puts (Dp 2 a) B b 0 (List.range n)):=fun y g=>by
 rcases FL.puts_mem E _ _ b 0 _ y g with q|⟨j,_,l,m⟩
 ·obtain⟨k,f,i,e,c,d⟩:=h y q;exact⟨k,f,i,e,c,d.imp id (fun e=>e.imp id (fun e=>⟨e.1,by omega⟩))⟩
 ·rw[A9]at l;exact⟨2,a,j,m,by omega,.inr (.inr ⟨rfl,by omega⟩)⟩
theorem GZ.fresh{a:Nat}{c:Pl}(h:GZ a c)(hb:a<60000):∀z∈c.puts,∀i,i<1000->z.1≠Dp 2 a i:=fun z k i hi e=>by
 obtain⟨kk,f,j,d,hj,g⟩:=h z k;rw[d]at e;unfold Dp at e;rcases g with⟨rfl,b⟩|⟨rfl,b⟩|⟨rfl,b⟩<;>omega
structure Hf(d below:Nat)(st:Pl)(s:By):Prop where
 bd:below+d=9
 pk:GZ below st
 n1:st.puts.length+s.size<=8000
 n2:st.ps.length+s.size<=8000
 n3:st.hd<=1536
 n4:s.size<=10*6 ^ d
 n5:10<=s.size
 n6:∃n,s.size=10*n
theorem Ng(E:FL)(c:UInt8)(a b:Nat)(d:Pl)(s:By):(DV E c a b d s).1.size=10*((s.size+a-1)/a):=by
 unfold DV;rw[Nn,A9]
theorem Hf.next{d b:Nat}{a:Pl}{s:By}(h:Hf d b a s)(hs:10<s.size)(E:FL):∃d',d=d'+1/\Hf d' (b+1) (DV E 2 60 b a s).2 (DV E 2 60 b a s).1/\(DV E 2 60 b a s).1.size<s.size:=by
 obtain⟨n,hn⟩:=h.n6;have h1:=h.n1;have h2:=h.n2;have c:=h.n4;have hb:=h.bd
 cases d with
 | zero=>simp at c;omega
 | succ d=>
  obtain⟨f,g,j⟩:=FL.puts_len E (Dp 2 b) (D9 2 s 60) a 0 (List.range ((s.size+60-1)/60));rw[A9]at f g;have e:=Ng E 2 60 b a s;have g1:(DV E 2 60 b a s).2.puts.length=a.puts.length+(s.size+60-1)/60:=f;have g2:(DV E 2 60 b a s).2.ps.length<=a.ps.length+(s.size+60-1)/60:=g;have i:s.size<=60*6 ^ d:=by rw[Fy]at c;omega
  generalize 6 ^ d=m at i ⊢
  refine⟨d,rfl,⟨by omega,h.pk.row (by omega) E _ _ (by omega),by omega,by omega,j h.n3,?_,by omega,_,e⟩,by omega⟩;rw[e];omega
end Go.Proofs.YtaieidcohdhgpaaGreatDoor
