/- Told. -/
import Derived.Test.YtaieidcohdhgpaaGreatDoorYAJ
namespace Go.Proofs.YtaieidcohdhgpaaGreatDoor
set_option maxHeartbeats 40000000
set_option maxRecDepth 100000
open Tryz
open Go.RowKit
theorem Yv(w:World)(pb z t so:Nat)(o:Nat->Int)(cl:Bool)(hd:Nat)(E:Value)(es:LI)(tp tx:Int)(vp:Value)(ps:LB)(h:F4 w pb z t so o cl hd E es tp tx vp ps)(vb:Value)(eb:LI)(aN:w.cell? ⟨t,so,none⟩=some vb)(aY:Sl w 350 2 vb eb.length (Dr eb))(a8:eb.length<=10000)(aU:Gy eb)(r:Nat)(vf:Value)(an:OA)(ln cn:Nat)(vw ve:Value)(D:LY)(hD:DU w z vf (.slice an ln cn) vw ve D)(s:By)(W:s.size=64)(bt:Nat)(a5:bt<1536)(a4:w.cell? ⟨t,so+1,none⟩=some (.int .i64 (bt:Nat)))(hh:hd<=1536)(hz:∃k,k<96/\o ((hd/16+k)%96)<=0)(hl:ps.length<=1000000)(aT:Gy es)(aO:es.length<=10000)(aS:∀x∈es,x.1≠r)(Q:Ending->World->Prop)(bA:((∀x∈eb,x.1≠r)/\∀e w',Uc w pb z t so o cl E es tp tx vp ps r s (DP o 96 hd%1536) e w'->Q e w')\/∃(q:Nat) (s0:By),((r:Int),(q:Int))∈eb/\q<1536/\D[q]?=some s0/\
   ((s0≠s/\∀e w',Uc w pb z t so o cl E es tp tx vp ps r s (DP o 96 hd%1536) e w'->Q e w')\/s0=s/\(cl=true->(q/16≠bt/16/\o (q/16)<=8)->∀e w',Uc w pb z t so o cl E es tp tx vp ps r s (DP o 96 hd%1536) e w'->Q e w')/\((cl=true->¬(q/16≠bt/16/\o (q/16)<=8))->∀e w',P4 w pb z t so o cl hd E es tp tx vp ps r s q e w'->Q e w'))):
  Cl 272 #[.pointer (some ⟨pb,0,none⟩),.int .u64 r,DA s] w Q:=by
 obtain⟨a,aZ,be,br,bc,a1⟩:=De w (Dc s) 188;obtain⟨f,a0,aH,a7,bd,a2⟩:=De a [.int .i64 0,.int .u64 0] 175;have J:Bw w f:=a1.trans (a2.mono (by omega));have bU:=h.row.lt;have aV:t<w.heap.size:=Am _ _ aN;obtain⟨p,hp⟩:=ex (DP o 96 hd%1536);rw[<-hp]at bA;have bT:p<1536:=by omega
 have ak:FX f w.heap.size 188 (Dc s):=a7 _ _ _ be;obtain⟨R,aa,T,rfl⟩:=Sl.shape h.sp;have aP:=OV f t so vb eb r ((J.cell (p:=⟨t,so,none⟩) aV).trans aN) (aY.kept (λk m _=>J.block k m)) a8 aU;have HN:Hid (∀X,Bw w X->FX X w.heap.size 188 (Dc s)->FX X a.heap.size 175 [.int .i64 0,.int .u64 0]->Cl 302 #[.pointer (some ⟨pb,0,none⟩)] X λe Y=>e=.returned (.int .i64 p)/\Y.rangeAt w.heap.size 0 (Dc s)/\Y.cell? ⟨pb,103,none⟩=some (.slice R aa T)/\Hid (F4 Y pb z t so o cl (p+1) E es tp tx (.slice R aa T) ps/\Fr (λk=>k=pb) w Y/\FX Y w.heap.size 188 (Dc s)/\FX Y a.heap.size 175 [.int .i64 0,.int .u64 0])):=λX d q1 q2=>by
  have U:=h.below d;obtain⟨c0,c1,c2,c3,c4,c5,c6⟩:=U.cells;refine(ZlM X pb _ U.row o hd hh c2 c4 (U.row.frozen 99) hz).mono ?_;rintro e Y⟨p',bI,r0,rfl,r1,r2,r3⟩;have e':p'=p:=by rw[bI,hp]
  subst e';have q3:FX Y w.heap.size 188 (Dc s):=q1.fr r2 (by omega);have bo:=U.next p' r0 r2;refine⟨rfl,λj v A=>by rw[q3.cell,Av];exact A,bo.cells.2.2.2.2.2.2,bo,(Fr.of_below d).then r2 (λ_ _ h=>h),q3,q2.fr r2 (by omega)⟩
 have HA:Hid (∀Y,Hid (F4 Y pb z t so o cl (p+1) E es tp tx (.slice R aa T) ps/\Fr (λk=>k=pb) w Y/\FX Y w.heap.size 188 (Dc s)/\FX Y a.heap.size 175 [.int .i64 0,.int .u64 0])->∃Z,Y.drew.alloc (.cells (F8 p s).toArray 207)=Z/\Z.rangeAt w.heap.size 0 (Dc s)/\Z.cell? ⟨pb,103,none⟩=some (.slice R aa T)/\∃H L I u,(Builtin.append_ #[182,182] 182 #[.slice R aa T,.slice (some ⟨Y.heap.size,0,none⟩) 1 1]).run prog Z=.ok (.slice H L I) u/\u.rangeAt w.heap.size 0 (Dc s)/\u.cell? ⟨pb,103,none⟩=some (.slice R aa T)/\u.frozen? ⟨pb,103,none⟩=false/\(u.setCell ⟨pb,103,none⟩ (.slice H L I)).rangeAt w.heap.size 0 (Dc s)/\
   Hid (Cl 243 #[.pointer (some ⟨pb,100,none⟩),.int .u64 r,.int .i64 p] (u.setCell ⟨pb,103,none⟩ (.slice H L I)) λe n=>e=.returned (.tuple #[])/\FX n w.heap.size 188 (Dc s)/\FX n a.heap.size 175 [.int .i64 0,.int .u64 0]/\Hid (∀w7,Fr (λk=>k=a.heap.size) n w7->Uc w pb z t so o cl E es tp tx (.slice R aa T) ps r s p (.returned (.agg #[.int .i64 (p:Nat),.int .u64 (Dp s:Nat)])) w7))):=λY hY=>by
  obtain⟨U,hF,q1,q2⟩:=Da hY;obtain⟨Z,hZ,bN,bS,bV,bH⟩:=De Y.drew (F8 p s) 207;have aF:Bw Y Z:=((Ak Y.heap.size Y).drew).trans bH;have aD:=U.below aF;have bR:=hF.size;have z1:FX Z w.heap.size 188 (Dc s):=(aF.block _ q1.lt).trans q1;have z2:FX Z a.heap.size 175 [.int .i64 0,.int .u64 0]:=(aF.block _ q2.lt).trans q2;obtain⟨v',u,r1,H,L,I,rfl,r2,r3,r4⟩:=O1 Z _ ps aD.sp Y.heap.size p s W bN hl;have a9:∀k,Own (.slice R aa T) k->k<w.heap.size:=λk m=>Sl.lt h.sp m
  have y1:FX u w.heap.size 188 (Dc s):=z1.fr r3 (λe=>by have:=a9 _ e;omega);have y2:FX u a.heap.size 175 [.int .i64 0,.int .u64 0]:=z2.fr r3 (λe=>by have:=a9 _ e;omega);have y3:FX u pb 184 _:=aD.row.fr r3 aD.op;have ab:=aD.piece r2 r3 r4;have aQ:w.heap.size≠pb:=by omega
  have aR:a.heap.size≠pb:=by omega
  have bW:Z.heap.size<=u.heap.size:=r3.size;have x1:FX (u.setCell ⟨pb,103,none⟩ (.slice H L I)) w.heap.size 188 (Dc s):=(Aw _ _ _ _ aQ).trans y1;have x2:FX (u.setCell ⟨pb,103,none⟩ (.slice H L I)) a.heap.size 175 [.int .i64 0,.int .u64 0]:=(Aw _ _ _ _ aR).trans y2;refine⟨Z,hZ,λj v A=>by rw[z1.cell,Av];exact A,aD.cells.2.2.2.2.2.2,H,L,I,u,r1,λj v A=>by rw[y1.cell,Av];exact A,(y3.cell 103).trans (JD _ _ _ _ _ _ _ _ _ _ 5),y3.frozen 103,λj v A=>by rw[x1.cell,Av];exact A,?_⟩;have bX:(u.setCell ⟨pb,103,none⟩ (.slice H L I)).heap.size=u.heap.size:=by simp[World.setCell]
  have ai:Fr (λk=>k=pb\/Own E k\/Own (.slice R aa T) k) w (u.setCell ⟨pb,103,none⟩ (.slice H L I)):=by
   refine Fr.set ?_ ⟨pb,103,none⟩ _ (.inl rfl);refine Fr.then (Fr.then (w1:=Y) ⟨hF.os,hF.tape,hF.output,hF.size,λk m d=>hF.block k m (λe=>d (.inl e))⟩ (Fr.of_below aF (X:=λ_=>False)) (λ_ _ h=>h.elim)) r3 (λk _ e => .inr (.inr e))
  refine(PN _ pb 100 E es r p ab.cells.2.2.2.2.2.1 (ab.row.frozen 100) ab.oa ab.sa aO aT aS).mono ?_;rintro e n⟨rfl,aI,aB,m1,m2,m3,m4,m5,m6,G⟩;have al:∀k,Own E k->k<w.heap.size:=λk m=>h.sa.lt m
  have am:∀k,k≠pb->¬Own E k->k<(u.setCell ⟨pb,103,none⟩ (.slice H L I)).heap.size->n.heap[k]?=(u.setCell ⟨pb,103,none⟩ (.slice H L I)).heap[k]? := λk h1 h2 h3=>G.block k h3 h1 h2
  refine⟨rfl,(am _ aQ (λe=>by have:=al _ e;omega) x1.lt).trans x1,(am _ aR (λe=>by have:=al _ e;omega) x2.lt).trans x2,λw7 h7=>?_⟩;have O:=ab.put m2 m6 G;have aX:F4 w7 pb z t so o cl (p+1) aI aB tp tx (.slice H L I) (ps++[(p,s)]):=by
   have bL:=G.size;have bs:∀v,(∀g,Own v g->g≠a.heap.size)->∀g,Own v g->¬(λk=>k=a.heap.size) g:=λv A g F=>A g F
   refine⟨O.row.fr h7 (show ¬pb=a.heap.size by omega),O.sa.fr h7 (bs _ (λg F e=>?_)),Sl.fr O.sp h7 (bs _ (λg F e=>?_)),O.oa,O.op,O.ap⟩
   ·rcases m6 g F with h8|h8
    ·have:=al g h8;omega
    ·have:=x2.lt;omega
   ·rcases r4 g F with h8|h8
    ·have:=a9 g h8;omega
    ·have:=z2.lt;omega
  refine⟨rfl,aI,aB,.slice H L I,aX,m3,m4,m5,?_,λg F=>(m6 g F).imp id (λh8=>by have:=ai.size;omega),λg F=>(r4 g F).imp id (λh8=>by have:=aF.size;omega)⟩;refine Fr.then (w1:=n) ⟨G.os.trans ai.os,G.tape.trans ai.tape,G.output.trans ai.output,Af ai.size G.size,λk m d=>?_⟩ h7 (λk m e=>by omega);have aE:k≠pb/\¬Own E k:=⟨λe=>d (.inl e),λe=>d (.inr (.inl e))⟩;rw[am k aE.1 aE.2 (AY m ai.size)];exact ai.block k m d
 have a3:(Dc s).length=64:=by rw[Dg,W]
 have bf:=Db a3;have bB:=Db (P6 p s W);have ar:=Db aH;have ap:=Db ak;have ao:=Db J;have bQ:f.cell? ⟨pb,1,none⟩=some (.pointer (some ⟨t,so,none⟩)):=(h.below J).cells.2.1;have bk:=Db aZ;have bl:=Db a0;have bO:=Db (show a.heap.size=w.heap.size+1 from bc);have bP:=Db (show f.heap.size=a.heap.size+1 from bd);rcases bA with⟨bu,af⟩|⟨q,s0,hq,bK,bb,bz⟩
 have HG:Hid (Cl 300 #[.pointer (some ⟨t,so,none⟩),.int .u64 r] f λe X=>e=.returned (.tuple #[.int .i64 0,.bool false])/\Bw f X):=aP.mono λe X ⟨v,b,he,hF,N⟩=>by
  rcases hF with⟨_,hm⟩|⟨rfl,rfl,_⟩
  ·exact absurd rfl (bu _ hm)
  ·exact⟨he,N⟩
 have HQ:=Db af;clear h aN aY a8 aU aT aO aS hh hz be br bc a1 aH a7 bd a2 J ak a3 aZ a0 hp aV hD aP a4 a5 bu af;go_enter func272,ntmps272;go_upto_region 0 with fail;refine AX ?_;refine R7 rfl 188 _ rfl (Dc s) rfl ?_;rw[show w.alloc (.cells (Dc s).toArray 188)=a from Da bk]
 try simp only[pE]
 go_upto_region 1 with fail;rw[show a.alloc (.cells #[Value.int .i64 0,.int .u64 0] 175)=f from Da bl];go_upto_region 2 with(go_at_call 300;refine(Da HG).mono ?_;rintro e X⟨rfl,aC⟩;have ax:=Db aC;clear aC)
 go_quiet (fail)
 have ag:Bw w (X.drewN nq):=by
  have h1:=(Da ao).trans ((Da ax).mono (Da ao).size);exact⟨h1.os,h1.tape,h1.output,h1.size,h1.block⟩
 have aW:=Db (Da HN _ ag (((Da ax).block _ (Da ap).lt).trans (Da ap)) (((Da ax).block _ (Da ar).lt).trans (Da ar)));clear ag HN HG
 rotate_left
 have HG:Hid (Cl 300 #[.pointer (some ⟨t,so,none⟩),.int .u64 r] f λe X=>e=.returned (.tuple #[.int .i64 (q:Nat),.bool true])/\Bw f X):=aP.mono λe X ⟨v,b,he,hF,N⟩=>by
  rcases hF with⟨rfl,hm⟩|⟨_,_,hm⟩
  ·rw[aU.same hm hq]at he;exact⟨he,N⟩
  ·exact absurd rfl (hm _ hq)
 obtain⟨V0,aL⟩:∃V,V=DA s0:=⟨_,rfl⟩;obtain⟨VB,aM⟩:∃V,V=DA s:=⟨_,rfl⟩;have bw:s0.size=64:=hD.2.1.2 s0 (Ar bb);have aq:Hid (∀V x y,(eqGuard .neq 188 x y V0 VB).run prog V=.ok () V):=λV x y=>by
  subst aL aM;exact run_eqGuard_agg (P:=prog) V .neq 188 x y _ _ Z7
 have ad:Hid (∀V,(binOp .neq 188 V0 VB).run prog V=.ok (.bool (!decide (s0=s))) V):=λV=>by
  subst aL aM;exact Mm V s0 s bw W
 have ay:Hid (∀X,Bw f X->(X.cell? ⟨pb,0,none⟩=some (.pointer (some ⟨z,0,none⟩))/\X.rangeAt w.heap.size 0 (Dc s)/\X.cell? ⟨pb,98,none⟩=some (.bool cl))/\Hid (Cl 239 #[.pointer (some ⟨z,0,none⟩),.int .i64 q] X.drew λe X2=>e=.returned V0/\(X2.cell? ⟨pb,0,none⟩=some (.pointer (some ⟨z,0,none⟩))/\X2.rangeAt w.heap.size 0 (Dc s)/\X2.cell? ⟨pb,98,none⟩=some (.bool cl))/\Hid (Bw f X2))):=λX d=>by
  have hS:∀X,Bw f X->(X.cell? ⟨pb,0,none⟩=some (.pointer (some ⟨z,0,none⟩))/\X.rangeAt w.heap.size 0 (Dc s)/\X.cell? ⟨pb,98,none⟩=some (.bool cl)):=λX d=>by
   have l:Bw w X:=J.trans (d.mono J.size);have U:=h.below l;have hr:FX X w.heap.size 188 (Dc s):=(d.block _ ak.lt).trans ak;exact⟨U.cells.1,λj v A=>by rw[hr.cell,Av];exact A,U.cells.2.2.2.1⟩
  refine⟨hS X d,?_⟩;have l:Bw w X:=J.trans (d.mono J.size);have bD:DU X.drew z vf (.slice an ln cn) vw ve D:=⟨(l.block _ hD.1.lt).trans hD.1,⟨hD.2.1.1.kept (λk m _=>l.block k m),hD.2.1.2⟩,hD.2.2⟩;refine(PC X.drew z vf vw ve an ln cn D bD q s0 bb).mono ?_;rintro e X2⟨rfl,N⟩;have bq:Bw f X2:=d.trans ⟨N.os,N.tape,N.output,N.size,λk m=>N.block k (by have:=d.size;show k<X.heap.size;omega)⟩;exact⟨by rw[aL],hS X2 bq,bq⟩
 obtain⟨B,N⟩:=ex (decide (q/16≠bt/16/\o (q/16)<=8));have aJ:=Db N;have az:Hid (∀X,Bw f X->Cl 301 #[.pointer (some ⟨pb,0,none⟩),.int .i64 q] X λe w'=>e=.returned (.bool B)/\w'=X):=λX d=>by
  rw[N];have l:Bw w X:=J.trans (d.mono J.size);have U:=h.below l;exact ZgY X pb t so o bt q bK a5 U.cells.2.2.1 U.cells.2.1 ((l.cell (p:=⟨t,so+1,none⟩) aV).trans a4)
 have ac:Hid (∀X,Bw f X->Cl 243 #[.pointer (some ⟨pb,100,none⟩),.int .u64 r,.int .i64 q] X λe n=>e=.returned (.tuple #[])/\FX n w.heap.size 188 (Dc s)/\FX n a.heap.size 175 [.int .i64 0,.int .u64 0]/\Hid (∀w7,Fr (λk=>k=a.heap.size) n w7->P4 w pb z t so o cl hd E es tp tx (.slice R aa T) ps r s q (.returned (.agg #[.int .i64 (q:Nat),.int .u64 (Dp s:Nat)])) w7)):=λX d=>by
  have l:Bw w X:=J.trans (d.mono J.size);have ab:=h.below l;have x1:FX X w.heap.size 188 (Dc s):=(d.block _ ak.lt).trans ak;have x2:FX X a.heap.size 175 [.int .i64 0,.int .u64 0]:=(d.block _ aH.lt).trans aH;have al:∀k,Own E k->k<w.heap.size:=λk m=>h.sa.lt m
  have bJ:∀k,Own (.slice R aa T) k->k<w.heap.size:=λk m=>Sl.lt h.sp m
  have aQ:w.heap.size≠pb:=by omega
  have aR:a.heap.size≠pb:=by omega
  refine(PN X pb 100 E es r q ab.cells.2.2.2.2.2.1 (ab.row.frozen 100) ab.oa ab.sa aO aT aS).mono ?_;rintro e n⟨rfl,aI,aB,m1,m2,m3,m4,m5,m6,G⟩;have am:∀k,k≠pb->¬Own E k->k<X.heap.size->n.heap[k]?=X.heap[k]? := λk h1 h2 h3=>G.block k h3 h1 h2
  refine⟨rfl,(am _ aQ (λe=>by have:=al _ e;omega) x1.lt).trans x1,(am _ aR (λe=>by have:=al _ e;omega) x2.lt).trans x2,λw7 h7=>?_⟩;have O:=ab.put m2 m6 G;have aX:F4 w7 pb z t so o cl hd aI aB tp tx (.slice R aa T) ps:=by
   have bL:=G.size;refine⟨O.row.fr h7 (show ¬pb=a.heap.size by omega),O.sa.fr h7 (λg F e=>?_),Sl.fr O.sp h7 (λg F e=>?_),O.oa,O.op,O.ap⟩
   ·rcases m6 g F with h8|h8
    ·have:=al g h8;omega
    ·have:=x2.lt;omega
   ·have:=bJ g F;omega
  refine⟨rfl,aI,aB,aX,m3,m4,m5,?_,λg F=>(m6 g F).imp id (λh8=>by have:=l.size;omega)⟩;refine Fr.then (w1:=n) ⟨G.os.trans l.os,G.tape.trans l.tape,G.output.trans l.output,Af l.size G.size,λk m aE=>?_⟩ h7 (λk m e=>by omega);rw[am k (λe=>aE (.inl e)) (λe=>aE (.inr e)) (AY m l.size)];exact l.block k m
 have bC:=Db aM;have bm:=Db bz;clear h aN aY a8 aU aT aO aS hh hz be br bc a1 aH a7 bd a2 J ak a3 aZ a0 hp aV hD aP a4 a5 hq bb aL aM bw bz N;go_enter func272,ntmps272;go_upto_region 0 with fail;refine AX ?_;refine R7 rfl 188 _ rfl (Dc s) rfl ?_;rw[show w.alloc (.cells (Dc s).toArray 188)=a from Da bk]
 try simp only[pE]
 go_upto_region 1 with fail;rw[show a.alloc (.cells #[Value.int .i64 0,.int .u64 0] 175)=f from Da bl];go_upto_region 2 with(go_at_call 300;refine(Da HG).mono ?_;rintro e X⟨rfl,aC⟩;have ax:=Db aC;clear aC);obtain⟨aG,aw⟩:=Da ay X (Da ax);refine AE (S:=λX=>(X.cell? ⟨pb,0,none⟩=some (.pointer (some ⟨z,0,none⟩))/\X.rangeAt w.heap.size 0 (Dc s)/\X.cell? ⟨pb,98,none⟩=some (.bool cl))) (by kernel_rfl) aG (λau=>?_);refine tk 0 ?_;refine tk 1 ?_;refine tk 2 ?_;refine tk 3 ?_;refine tk 4 ?_;refine tk 5 ?_;refine tk 6 ?_;refine tk 7 ?_;refine A5 (i:=9) (v:=VB) rfl (by kernel_rfl) (by kernel_rfl) (by kernel_rfl) (λ_ _ _ h=>h) (by rw[Da bC];exact CZ (by rfl) 188 _ rfl w.heap.size 0 rfl (Dc s) _ (λX d=>d.2.1) Kf rfl (by rw[Jf,Da bf])) (by assumption) ?_
 try simp only[pE]
 refine rk 8 (λK c=>?_);go_simp;go_at_call 239;refine(Da aw).mono ?_;rintro e X2⟨rfl,av,M⟩;go_wp2_with fail;refine c.out _ _ av (λaj=>?_);clear c K
 try simp only[pE]
 have bM:=Da bm;clear bm;rcases bM with⟨a6,af⟩|⟨a6,af,bp⟩
 simp only[a6,decide_false,Bool.not_false]at ad;have HQ:=Db af;refine A5 (i:=10) (v:=.bool true) rfl (by kernel_rfl) (by kernel_rfl) (by kernel_rfl) (λ_ _ _ h=>h) (Or.inl ⟨by rfl,λV _=>RD V .neq 188 _ _ _ rfl V0 VB rfl rfl (Da aq V _ _) (Da ad V)⟩) (by assumption) ?_
 try simp only[pE]
 refine tk 11 ?_;refine tk 12 ?_;refine tu 13 ?_
 try simp only[pE]
 refine tu 14 ?_
 try simp only[pE]
 refine tu 15 ?_
 try simp only[pE]
 refine tu 16 ?_
 try simp only[pE]
 refine tu 17 ?_
 try simp only[pE]
 refine tu 18 ?_
 try simp only[pE]
 refine tu 19 ?_
 try simp only[pE]
 refine tu 20 ?_
 try simp only[pE]
 refine tu 21 ?_
 try simp only[pE]
 refine tk 22 ?_;refine AO (by kernel_rfl) ?_ _;have ag:Bw w X2:=(Da ao).trans ((Da M).mono (Da ao).size);have aW:=Db (Da HN _ ag (((Da M).block _ (Da ap).lt).trans (Da ap)) (((Da M).block _ (Da ar).lt).trans (Da ar)));clear ag HN HG aw ay ad aq aG av au aj M az ac af
 rotate_left
 simp only[a6,decide_true,Bool.not_true]at ad;have aK:=Db af;have aA:=Db bp;clear af bp;refine A5 (i:=10) (v:=.bool false) rfl (by kernel_rfl) (by kernel_rfl) (by kernel_rfl) (λ_ _ _ h=>h) (Or.inl ⟨by rfl,λV _=>RD V .neq 188 _ _ _ rfl V0 VB rfl rfl (Da aq V _ _) (Da ad V)⟩) (by assumption) ?_
 try simp only[pE]
 refine tk 11 ?_;refine tk 12 ?_;refine tk 13 ?_;refine tk 14 ?_
 cases cl
 refine tk 15 ?_;refine tk 16 ?_;refine tk 17 ?_;refine tu 18 ?_
 try simp only[pE]
 refine tu 19 ?_
 try simp only[pE]
 refine tu 20 ?_
 try simp only[pE]
 refine tk 21 ?_;refine tk 22 ?_;refine AO (by kernel_rfl) ?_ _;have bg:=Db (Da ac _ (Da M));have HQ:=Db (Da aA (λe=>by cases e));clear ac HG aw ay ad aq aG av au aj M az HN HA aK aA
 rotate_left
 refine tk 15 ?_;refine tk 16 ?_;refine tk 17 ?_;refine tk 18 ?_;refine tk 19 ?_;refine rk 20 (λK c=>?_);go_simp;go_at_call 301;refine(Da az X2 (Da M)).mono ?_;rintro e w'⟨rfl,bx⟩;rw[bx];clear bx;go_wp2_with fail;refine c.out _ _ av (λbn=>?_);clear c K
 try simp only[pE]
 refine tk 21 ?_;refine tk 22 ?_;refine AO (by kernel_rfl) ?_ _
 cases B
 have bg:=Db (Da ac _ (Da M));have HQ:=Db (Da aA (λ_=>of_decide_eq_false (Da aJ).symm));clear ac HG aw ay ad aq aG av au aj M az HN HA bn aK aA aJ
 rotate_left
 have ag:Bw w X2:=(Da ao).trans ((Da M).mono (Da ao).size);have aW:=Db (Da HN _ ag (((Da M).block _ (Da ap).lt).trans (Da ap)) (((Da M).block _ (Da ar).lt).trans (Da ar)));have HQ:=Db (Da aK (by first|rfl|trivial) (BO (Da aJ).symm));clear ag HN HG aw ay ad aq aG av au aj M az ac bn aK aA aJ
 rotate_left
 all_goals try
  go_wp2_with(first|(go_at_call 243;refine(Da bg).mono ?_;rintro e n⟨rfl,ah,C,HF⟩;have ae:=Db (Vj n (some ⟨w.heap.size,0,none⟩) 64 64 s ⟨W.symm,λe=>(by cases e),λj v A=>⟨_,rfl,by rw[AI,Av,ah.cell];exact A⟩⟩ (by rw[W];decide));rw[Vd]at ae;have n0:=C.cell 0;have n1:=C.cell 1;have g0:=C.frozen 0;have g1:=C.frozen 1;clear ah C)|(go_at_call 215;refine(Da ae).mono ?_;rintro e w'⟨rfl,l⟩;rw[l];clear l));exact Ap (v:=.agg #[.int .i64 (q:Nat),.int .u64 (Dp s:Nat)]) (by simp[results,results272,go_sem,n0,n1]) rfl (Da HQ _ _ (Da HF _ (((Fr.refl (λk=>k=a.heap.size) n).set ⟨a.heap.size,0,none⟩ _ rfl).set ⟨a.heap.size,1,none⟩ _ rfl)))
 all_goals
  go_upto_region 4 with(go_at_call 302;refine(Da aW).mono ?_;rintro e Y⟨rfl,e2,m3,HY⟩);obtain⟨Z,hZ,sZ,mZ,H,L,I,u,bv,s5,m5,f5,s6,ac⟩:=Da HA Y HY;have HZ:=Db hZ;have bj:=Db sZ;have bh:=Db s5;have bi:=Db s6;clear hZ sZ s5 s6 HA HY;refine AE (S:=λX=>X.rangeAt w.heap.size 0 (Dc s)) (by kernel_rfl) e2 (λau=>?_);refine tk 0 ?_;refine tk 1 ?_;refine tk 2 ?_;refine tk 3 ?_;refine tk 5 ?_;refine A5 (i:=6) (v:=DA s) rfl (by kernel_rfl) (by kernel_rfl) (by kernel_rfl) (λ_ _ _ h=>h) (CZ (by rfl) 188 _ rfl w.heap.size 0 rfl (Dc s) _ (λX d=>d) Kf rfl (by rw[Jf,Da bf])) (by assumption) ?_
  try simp only[pE]
  refine A5 (i:=7) (v:=Ic p s) rfl (by kernel_rfl) (by kernel_rfl) (by kernel_rfl) (λ_ _ _ h=>h) (Or.inl ⟨by rfl,λX _=>?_⟩) (by assumption) ?_
  ·exact W8 X 207 0 1 _ _ rfl (.int .i64 (p:Nat)) (DA s) rfl rfl (Da bB)
  try simp only[pE]
  refine Bo (rs:=[4,8]) (by kernel_rfl) (by simp) ?_;refine AR (i:=4) rfl ?_ (AR (i:=8) rfl ?_ Bg)
  ·intro K c;go_simp;refine c.out _ _ au (λbF=>?_);clear c K
   try simp only[pE]
   refine rk 8 (λK c=>?_);refine OH rfl _ rfl p s W rfl ?_;rw[show Y.drew.alloc (.cells (F8 p s).toArray 207)=Z from Da HZ];refine c.out _ _ (Da bj) (λaj=>?_);clear c K
   try simp only[pE]
   refine rk 9 (λK c=>?_);refine JV rfl _ _ 182 182 rfl _ _ rfl rfl bv ?_;refine c.out _ _ (Da bh) (λbG=>?_);clear c K
   try simp only[pE]
   refine tk 10 ?_;refine tk 11 ?_;refine rk 12 (λK c=>?_);go_simp;refine c.out _ _ (Da bi) (λbE=>?_);clear c K
   try simp only[pE]
   refine AO (by kernel_rfl) ?_ _;go_wp2_with(first|(go_at_call 243;refine(Da ac).mono ?_;rintro e n⟨rfl,ah,C,HF⟩;have ae:=Db (Vj n (some ⟨w.heap.size,0,none⟩) 64 64 s ⟨W.symm,λe=>(by cases e),λj v A=>⟨_,rfl,by rw[AI,Av,ah.cell];exact A⟩⟩ (by rw[W];decide));rw[Vd]at ae;have n0:=C.cell 0;have n1:=C.cell 1;have g0:=C.frozen 0;have g1:=C.frozen 1;clear ah C)|(go_at_call 215;refine(Da ae).mono ?_;rintro e w'⟨rfl,l⟩;rw[l];clear l));exact Ap (v:=.agg #[.int .i64 (p:Nat),.int .u64 (Dp s:Nat)]) (by simp[results,results272,go_sem,n0,n1]) rfl (Da HQ _ _ (Da HF _ (((Fr.refl (λk=>k=a.heap.size) n).set ⟨a.heap.size,0,none⟩ _ rfl).set ⟨a.heap.size,1,none⟩ _ rfl)))
  ·intro K c;refine OH rfl _ rfl p s W rfl ?_;rw[show Y.drew.alloc (.cells (F8 p s).toArray 207)=Z from Da HZ];refine c.out _ _ (Da bj) (λaj=>?_);clear c K
   try simp only[pE]
   refine rk 4 (λK c=>?_);go_simp;refine c.out _ _ aj (λbF=>?_);clear c K
   try simp only[pE]
   refine rk 9 (λK c=>?_);refine JV rfl _ _ 182 182 rfl _ _ rfl rfl bv ?_;refine c.out _ _ (Da bh) (λbG=>?_);clear c K
   try simp only[pE]
   refine tk 10 ?_;refine tk 11 ?_;refine rk 12 (λK c=>?_);go_simp;refine c.out _ _ (Da bi) (λbE=>?_);clear c K
   try simp only[pE]
   refine AO (by kernel_rfl) ?_ _;go_wp2_with(first|(go_at_call 243;refine(Da ac).mono ?_;rintro e n⟨rfl,ah,C,HF⟩;have ae:=Db (Vj n (some ⟨w.heap.size,0,none⟩) 64 64 s ⟨W.symm,λe=>(by cases e),λj v A=>⟨_,rfl,by rw[AI,Av,ah.cell];exact A⟩⟩ (by rw[W];decide));rw[Vd]at ae;have n0:=C.cell 0;have n1:=C.cell 1;have g0:=C.frozen 0;have g1:=C.frozen 1;clear ah C)|(go_at_call 215;refine(Da ae).mono ?_;rintro e w'⟨rfl,l⟩;rw[l];clear l));exact Ap (v:=.agg #[.int .i64 (p:Nat),.int .u64 (Dp s:Nat)]) (by simp[results,results272,go_sem,n0,n1]) rfl (Da HQ _ _ (Da HF _ (((Fr.refl (λk=>k=a.heap.size) n).set ⟨a.heap.size,0,none⟩ _ rfl).set ⟨a.heap.size,1,none⟩ _ rfl)))
structure FZ where
 nd:Nat->Int
 cl:Bool
 eb:LI
 bt:Nat
 D:LY
structure Pl where
 hd:Nat
 puts:List (Nat×Nat)
 ps:LB
def FZ.at(E:FZ)(r:Nat):Option Nat:=(E.eb.find? (λx=>x.1==(r:Int))).map (λx=>x.2.toNat)
def FZ.stay(E:FZ)(r:Nat)(s:By):Option Nat:=
 match E.at r with
 |some q=>if E.D[q]?=some s/\¬(E.cl=true/\q/16≠E.bt/16/\E.nd (q/16)<=8) then some q else none
 |none=>none
def FZ.put(E:FZ)(st:Pl)(r:Nat)(s:By):Nat×Pl:=
 match E.stay r s with
 |some q=>(q,⟨st.hd,st.puts++[(r,q)],st.ps⟩)
 |none=>(DP E.nd 96 st.hd%1536,⟨DP E.nd 96 st.hd%1536+1,st.puts++[(r,DP E.nd 96 st.hd%1536)],st.ps++[(DP E.nd 96 st.hd%1536,s)]⟩)
structure Gt(E:FZ):Prop where
 srt:Gy E.eb
 len:E.eb.length<=10000
 bt:E.bt<1536
 dl:E.D.length=1536
 pl:∀x∈E.eb,∃q:Nat,x.2=(q:Int)/\q<1536
theorem Gt.at_some{E:FZ}(h:Gt E){r q:Nat}(e:E.at r=some q):((r:Int),(q:Int))∈E.eb/\q<1536:=by
 unfold FZ.at at e;obtain⟨x,g,rfl⟩:=Fi.1 e;have c:=FH g;have d:=Ej g;obtain⟨q,f,i⟩:=h.pl x d;obtain⟨a,b⟩:=x;simp only[EF]at c;simp only at f;subst c f;exact⟨by simpa using d,by simpa using i⟩
theorem FZ.at_none{E:FZ}{r:Nat}(e:E.at r=none):∀x∈E.eb,x.1≠r:=λx a h=>by
 unfold FZ.at at e;rw[EI,Eg]at e;exact e x a (by simp[h])
structure II(w:World)(n0 db sb so:Nat)(E:FZ):Prop where
 cb:∃vb,w.cell? ⟨sb,so,none⟩=some vb/\Sl w 350 2 vb E.eb.length (Dr E.eb)/\∀k,Own vb k->k<n0
 ct:w.cell? ⟨sb,so+1,none⟩=some (.int .i64 (E.bt:Nat))
 dk:∃vf an ln cn vw ve,DU w db vf (.slice an ln cn) vw ve E.D/\∀k,Own (.slice an ln cn) k->k<n0
 sbl:sb<n0
 dbl:db<n0
theorem II.kept{w w':World}{b g d so:Nat}{E:FZ}(h:II w b g d so E)(j:∀k f t z,k<b->w.heap[k]?=some (.cells f t z)->w'.heap[k]?=some (.cells f t z)):II w' b g d so E:=by
 have s:∀(a:Addr) v,a.block<b->w.cell? a=some v->w'.cell? a=some v:=λa v l e=>by
  obtain⟨f,t,z,r⟩:=ZkQ e;exact(Ay ((j _ _ _ _ l r).trans r.symm)).trans e
 have q:∀(e:TypeId) (m:Nat) (v:Value) (n:Nat) (xs:F0),Sl w e m v n xs->(∀k,Own v k->k<b)->Sl w' e m v n xs:=λe m v n xs x l=>x.kept (λk _ u=>by
  obtain⟨R,i⟩:=x.type u;unfold FX at i;rw[i];exact j k _ _ _ (l k u) i)
 obtain⟨F,A,B,o⟩:=h.cb;obtain⟨H,y,D,C,vw,G,c,p⟩:=h.dk;refine⟨⟨F,s ⟨d,so,none⟩ _ h.sbl A,q _ _ _ _ _ B o,o⟩,s ⟨d,so+1,none⟩ _ h.sbl h.ct,⟨H,y,D,C,vw,G,⟨j g _ _ _ h.dbl c.1,⟨q _ _ _ _ _ c.2.1.1 p,c.2.1.2⟩,c.2.2⟩,p⟩,h.sbl,h.dbl⟩
def Qx(w:World)(pb db sb so:Nat)(E:FZ)(st:Pl)(tp tx:Int)(O:Nat->Prop):Prop:=
 ∃va es vp,F4 w pb db sb so E.nd E.cl st.hd va es tp tx vp st.ps/\Gy es/\es.length=st.puts.length/\(∀x,x∈es↔∃y∈st.puts,x=((y.1:Int),(y.2:Int)))/\∀k,O k↔(k=pb\/Own va k\/Own vp k)
def Lx(w:World)(pb db sb so:Nat)(E:FZ)(st:Pl)(tp tx:Int)(O:Nat->Prop)(r:Nat)(s:By)(e:Ending)(w':World):Prop:=
 e=.returned (.agg #[.int .i64 ((E.put st r s).1:Nat),.int .u64 (Dp s:Nat)])/\∃O',Qx w' pb db sb so E (E.put st r s).2 tp tx O'/\Fr O w w'/\∀k,O' k->O k\/w.heap.size<=k
theorem ZI(w:World)(n0 pb b d so:Nat)(E:FZ)(i:Gt E)(st:Pl)(f g:Int)(O:Nat->Prop)(h:Qx w pb b d so E st f g O)(z:II w n0 b d so E)(r:Nat)(s:By)(hs:s.size=64)(aa:∀y∈st.puts,y.1≠r)(ad:st.puts.length<=10000)(ab:st.ps.length<=1000000)(X:st.hd<=1536)(hz:∃k,k<96/\E.nd ((st.hd/16+k)%96)<=0):
  Cl 272 #[.pointer (some ⟨pb,0,none⟩),.int .u64 r,DA s] w (Lx w pb b d so E st f g O r s):=by
 obtain⟨I,es,m,V,U,J,K,c⟩:=h;obtain⟨vb,Q,R,c3⟩:=z.cb;obtain⟨vf,P,ln,S,vw,ve,T,d2⟩:=z.dk;have hn:∀x∈es,x.1≠r:=λx hx e=>by
  obtain⟨y,j,rfl⟩:=(K x).1 hx;exact aa y j (by have e':(y.1:Int)=(r:Int):=e;omega)
 have L:∀(a:LI) (q:Nat),(∀x,x∈a↔x=((r:Int),(q:Int))\/x∈es)->∀x,x∈a↔∃y∈st.puts++[(r,q)],x=((y.1:Int),(y.2:Int)):=λa q Y x=>by
  rw[Y x,K x];simp only[Aq,Ad];constructor
  ·rintro(rfl|⟨y,j,rfl⟩)
   ·exact⟨_,.inr rfl,rfl⟩
   ·exact⟨y,.inl j,rfl⟩
  ·rintro⟨y,j|rfl,rfl⟩
   ·exact .inr ⟨y,j,rfl⟩
   ·exact .inl rfl
 have ac:∀q,E.stay r s=some q->∀e w',P4 w pb b d so E.nd E.cl st.hd I es f g m st.ps r s q e w'->Lx w pb b d so E st f g O r s e w':=λq t e w' ⟨p,l,a,B,C,D,F,G,H⟩=>by
  unfold Lx FZ.put;rw[t];refine⟨p,λk=>k=pb\/Own l k\/Own m k,⟨l,a,m,B,C,by rw[D,J,Ab];rfl,L a q F,λk=>Iff.rfl⟩,G.mono (λk _ e=>(c k).2 (by rcases e with e|e;exact .inl e;exact .inr (.inl e))),λk e=>?_⟩;rcases e with e|e|e
  ·exact .inl ((c k).2 (.inl e))
  ·exact(H k e).imp (λe=>(c k).2 (.inr (.inl e))) id
  ·exact .inl ((c k).2 (.inr (.inr e)))
 have A:E.stay r s=none->∀e w',Uc w pb b d so E.nd E.cl I es f g m st.ps r s (DP E.nd 96 st.hd%1536) e w'->Lx w pb b d so E st f g O r s e w':=λt e w' ⟨p,l,a,N,B,C,D,F,G,H,p7⟩=>by
  unfold Lx FZ.put;rw[t];refine⟨p,λk=>k=pb\/Own l k\/Own N k,⟨l,a,N,B,C,by rw[D,J,Ab];rfl,L a _ F,λk=>Iff.rfl⟩,G.mono (λk _ e=>(c k).2 e),λk e=>?_⟩;rcases e with e|e|e
  ·exact .inl ((c k).2 (.inl e))
  ·exact(H k e).imp (λe=>(c k).2 (.inr (.inl e))) id
  ·exact(p7 k e).imp (λe=>(c k).2 (.inr (.inr e))) id
 refine Yv w pb b d so E.nd E.cl st.hd I es f g m st.ps V vb E.eb Q R i.len i.srt r vf P ln S vw ve E.D T s hs E.bt i.bt z.ct X hz ab U (by omega) hn _ ?_
 cases ha:E.at r with
 |none=>exact .inl ⟨FZ.at_none ha,A (by unfold FZ.stay;rw[ha])⟩
 |some q=>
  obtain⟨Z,M⟩:=i.at_some ha;obtain⟨o,u⟩:∃o,E.D[q]?=some o:=⟨_,Ac (by rw[i.dl];exact M)⟩;refine .inr ⟨q,o,Z,M,u,?_⟩;by_cases n:o=s
  ·refine .inr ⟨n,λW v=>A (by unfold FZ.stay;rw[ha];simp[W,v]),λv=>ac q (by unfold FZ.stay;rw[ha];simp only[u,n,true_and];rw[if_pos (λe=>v e.1 e.2)])⟩
  ·exact .inl ⟨n,A (by unfold FZ.stay;rw[ha];simp[u,n])⟩
section
open Go.RowKit Go.Shelf
attribute [local go_sem] Oper.semAt_some
theorem Zlu(w:World)(M:Nat)(hM:M<=1000)(n0 pb:Nat)(z:Nat)(aN:z<65536)(g off p y:Nat)(s:By)(au:Gp w (some ⟨g,off,none⟩) p y s)(aQ:p<=y)(hl:p<60000)(P X:List Nat->Nat->Nat)(Q:List Nat->(Nat->Prop)->World->Prop)(G O0:Nat->Prop)(H:List Nat->By)(aR:n0<=w.heap.size)(L:Me M n0 pb 2 z s 60 P X Q)(aJ:H []=⟨#[]⟩)(aI:∀q x,H (q++[x])=H q++DI (P q x) (X q x))(aK:∀q,(H q).size=10*q.length)(av:Q [] O0 w)(aH:∀j,O0 j->G j)(ak:∀j,G j->j<w.heap.size)(aP:¬G g)(aO:g<w.heap.size)(N:Nat)(hN:N=(p+60-1)/60)(aU:N<=M):
  Cl 237 #[.pointer (some ⟨pb,0,none⟩),.int .u8 2,.int .i64 (z:Nat),.slice (some ⟨g,off,none⟩) p y] w (SQ w (w.heap.size+7) Q G H N):=by
 obtain⟨W1,e1,x1,k1,s1,b1⟩:=De w [.pointer (some ⟨pb,0,none⟩)] 168;obtain⟨W2,e2,x2,k2,s2,b2⟩:=De W1 [.int .u8 2] 300;obtain⟨W3,e3,x3,k3,s3,b3⟩:=De W2 [.int .i64 (z:Nat)] 3;obtain⟨W4,e4,x4,k4,s4,b4⟩:=De W3 [.slice none 0 0] 59;obtain⟨W5,e5,x5,k5,s5,b5⟩:=De W4 [.int .i64 0] 3;obtain⟨W6,e6,x6,k6,s6,b6⟩:=De W5 [.slice (some ⟨g,off,none⟩) p y] 59;obtain⟨R,e7,x7,Z,s7,b7⟩:=De W6 [.int .i64 60] 3;have J:Bw w R:=b1.trans ((b2.mono (by omega)).trans ((b3.mono (by omega)).trans ((b4.mono (by omega)).trans ((b5.mono (by omega)).trans ((b6.mono (by omega)).trans (b7.mono (by omega)))))));have y1:=Z _ _ _ (k6 _ _ _ (k5 _ _ _ (k4 _ _ _ (k3 _ _ _ (k2 _ _ _ x1)))));have y2:=Z _ _ _ (k6 _ _ _ (k5 _ _ _ (k4 _ _ _ (k3 _ _ _ x2))));have y3:=Z _ _ _ (k6 _ _ _ (k5 _ _ _ (k4 _ _ _ x3)));have y4:=Z _ _ _ (k6 _ _ _ (k5 _ _ _ x4));have y5:=Z _ _ _ (k6 _ _ _ x5);have y6:=Z _ _ _ x6;have t2:W2.heap.size=w.heap.size+1+1:=by omega
 have t3:W3.heap.size=w.heap.size+1+1+1:=by omega
 have t4:W4.heap.size=w.heap.size+1+1+1+1:=by omega
 have t5:W5.heap.size=w.heap.size+1+1+1+1+1:=by omega
 have t6:W6.heap.size=w.heap.size+1+1+1+1+1+1:=by omega
 have I:R.heap.size=w.heap.size+7:=by omega
 rw[s1]at y2;rw[t2]at y3;rw[t3]at y4;rw[t4]at y5;rw[t5]at y6;rw[t6]at x7;have hB:IJ w (w.heap.size+7) w.heap.size (w.heap.size+1) (w.heap.size+1+1) (w.heap.size+1+1+1) (w.heap.size+1+1+1+1) g p G:=⟨rfl,rfl,rfl,rfl,rfl,by omega,ak,aP,aO⟩;have aq:Lw w (w.heap.size+7) w.heap.size (w.heap.size+1) (w.heap.size+1+1) (w.heap.size+1+1+1) (w.heap.size+1+1+1+1) pb 2 z g off p y s Q G H [] R:=⟨.slice none 0 0,O0,L.abides _ _ _ _ none av ⟨J.os,J.tape,J.output,J.size,λk hk _=>J.block k hk⟩ (λr e=>by cases e),λj hj => .inl (aH j hj),y1,y2,y3,y4,y5,by rw[aJ];exact F9.nil _ _,λj _ e=>by simp[Own,Value.ownBlock]at e,au.below J,Fr.of_below J,by omega⟩;have aF:=Db aq;have al:=Db I;have ad:=Db hB;have ay:=Db e1;have az:=Db e2;have aA:=Db e3;have aB:=Db e4;have aC:=Db e5;have aD:=Db e6;have aE:=Db e7;have am:R.cell? ⟨(w.heap.size+1+1+1+1+1),0,none⟩=some (.slice (some ⟨g,off,none⟩) p y):=(y6.cell 0).trans rfl;have an:R.cell? ⟨(w.heap.size+1+1+1+1+1+1),0,none⟩=some (.int .i64 60):=(x7.cell 0).trans rfl;have aw:=Db am;have ax:=Db an;clear x1 x2 x3 x4 x5 x6 x7 k1 k2 k3 k4 k5 k6 Z s1 s2 s3 s4 s5 s6 s7 b1 b2 b3 b4 b5 b6 b7 y1 y2 y3 y4 y5 y6 t2 t3 t4 t5 t6 I e1 e2 e3 e4 e5 e6 e7 J aq am an av au hB;refine(A2 (n:=3)).1 ?_;refine Br func237 rfl trivial ?_ rfl;simp only[ntmps237,AM,Al,AK,Nat.reduceAdd,Nat.reduceSub,AQ,AP,AZ,AT,AD,AN]
 gi_wp2_with (refine⟨trivial,?_⟩;gi_at_call 172;refine(Uk _ 60 (by omega) (by omega) _ _ ⟨_,_,_,rfl⟩).mono ?_;rintro e w'⟨rfl,rfl⟩)
 rw[show w.alloc (.cells #[.pointer (some ⟨pb,0,none⟩)] 168)=W1 from Da ay,show W1.alloc (.cells #[.int .u8 2] 300)=W2 from Da az,show W2.alloc (.cells #[.int .i64 (z:Nat)] 3)=W3 from Da aA,show W3.alloc (.cells #[.slice none 0 0] 59)=W4 from Da aB,show W4.alloc (.cells #[.int .i64 0] 3)=W5 from Da aC,show W5.alloc (.cells #[.slice (some ⟨g,off,none⟩) p y] 59)=W6 from Da aD,show W6.alloc (.cells #[.int .i64 60] 3)=R from Da aE];rename_i K0 aG;have I:=Da al;have aV:N<=1000:=by rw[hN];omega
 refine CO (α:=Nat) rfl (by omega) (gf:=220) (lb:=#[.pointer (some ⟨(w.heap.size+1+1+1+1+1),0,none⟩),.pointer (some ⟨(w.heap.size+1+1+1+1+1+1),0,none⟩)]) rfl trivial (EB func220 (by kernel_rfl) rfl)
  (Ol 2 (by omega) (w.heap.size+1+1+1+1+1) (w.heap.size+1+1+1+1+1+1) g off 60 p y (by omega) (by omega) aQ (by omega) N hN R (by omega) (by omega) (Da aw) (Da ax) (Q1 (w.heap.size+7) (w.heap.size+1+1+1) (w.heap.size+1+1+1+1) G)
   (λA B ap h1 h2=>⟨(Ay (w:=A) (a:=⟨(w.heap.size+1+1+1+1+1),0,none⟩) (ap.2 (w.heap.size+1+1+1+1+1) (by omega) (λe=>by have:=ak _ e;omega) (by omega) (by omega))).trans h1,(Ay (w:=A) (a:=⟨(w.heap.size+1+1+1+1+1+1),0,none⟩) (ap.2 (w.heap.size+1+1+1+1+1+1) (by omega) (λe=>by have:=ak _ e;omega) (by omega) (by omega))).trans h2⟩))
  (λh1 h2=>⟨Af h1.1 h2.1,λk a b c d=>(h2.2 k a b c d).trans (h1.2 k a b c d)⟩)
  (λX l o o' hl ho _ _=>⟨by simp[World.putObj],λk hk _ _ _=>by
   have:=I;simp only[World.putObj];rw[A7];rw[if_neg (by omega)]⟩)
  (Ak _ _) (λ_=>rfl)
  (λq X=>Lw w (w.heap.size+7) w.heap.size (w.heap.size+1) (w.heap.size+1+1) (w.heap.size+1+1+1) (w.heap.size+1+1+1+1) pb 2 z g off p y s Q G H q X)
  (λ_ _ _=>False)
  (λq A B row hs hg hr=>by
   obtain⟨v,O,h⟩:=hs;exact⟨v,O,h.own L (Da ad) hg (λr e=>by rw[<-I];exact hr r e)⟩)
  (λ_ _ _ _ _ hs _ _=>hs)
  (Da aF)
  (λx=>{ tmps:=#[.pointer (some ⟨pb,0,none⟩),.int .u8 2,.int .i64 (z:Nat),.slice (some ⟨g,off,none⟩) p y,.pointer (some ⟨w.heap.size,0,none⟩),.pointer (some ⟨(w.heap.size+1),0,none⟩),.pointer (some ⟨(w.heap.size+1+1),0,none⟩),undef,.slice none 0 0,.int .i64 60,.pointer (some ⟨(w.heap.size+1+1+1),0,none⟩),.pointer (some ⟨(w.heap.size+1+1+1+1),0,none⟩),Io g off 60 p x,.int .u8 2,.bool true,.int .i64 63,.int .i64 60,.slice (some ⟨g,off,none⟩) p y,.int .i64 60,.func (.func 220) #[] #[.pointer (some ⟨(w.heap.size+1+1+1+1+1),0,none⟩),.pointer (some ⟨(w.heap.size+1+1+1+1+1+1),0,none⟩)],Io g off 60 p x,undef,undef,undef,undef,undef,undef,undef,undef,undef,undef,undef,undef,undef,undef],defers:=[] })
  ?assign ?body ?done ?stop
 case assign=>
  intro l x X K f;clear I
  gi_wp2
  exact f
 case body=>
  rintro l q x W⟨v,O,t⟩ aW;obtain⟨ra,rl,rc,rfl⟩:=t.rs.1.shape;obtain⟨h4,h7,h8,ao⟩:=VV w M hM n0 (w.heap.size+7) w.heap.size (w.heap.size+1) (w.heap.size+1+1) (w.heap.size+1+1+1) (w.heap.size+1+1+1+1) pb 2 z aN g off p y s 60 (by omega) P X Q G H (Da ad) aR L aI aK q x (by omega) W ra rl rc O t;have H4:=Db h4;have H7:=Db h7;have H8:=Db h8;have ac:=Db ao;have m:Hid (Qj w (w.heap.size+7) w.heap.size (w.heap.size+1) (w.heap.size+1+1) (w.heap.size+1+1+1) (w.heap.size+1+1+1+1) pb 2 z g off p y s Q G H q q (.slice ra rl rc) O O W W.drew):=⟨t.below L (Ak _ _).drew,⟨rfl,rfl,rfl,Aa _,λ_ _ _=>rfl⟩⟩;have aL:Jt w.heap.size (w.heap.size+1) (w.heap.size+1+1) (w.heap.size+1+1+1+1) pb 2 z q.length W.drew:=⟨t.b4.cell,t.b5.cell,t.b6.cell,t.b11.cell⟩;have Y:W.drew.cell? ⟨(w.heap.size+1+1+1),0,none⟩=some (.slice ra rl rc):=t.b10.cell;clear h4 h7 h8 ao t I
  gi_step
  gi_step
  gi_step
  refine Qw (Jt w.heap.size (w.heap.size+1) (w.heap.size+1+1) (w.heap.size+1+1+1+1) pb 2 z q.length) (by kernel_rfl) (λhh=>by obtain⟨_,_,hh⟩:=hh;exact hh) (by kernel_rfl) aL (λaT=>?_);refine tv 0 (?_) rfl (Or.inl ⟨by rfl,?_⟩) ?_
  rotate_left
  ·intro w F;(try unfold Jt at F);go_simp<;>with_reducible rfl
  try simp only[pE]
  refine tv 1 (?_) rfl (Or.inl ⟨by rfl,?_⟩) ?_
  rotate_left
  ·intro w F;(try unfold Jt at F);go_simp<;>with_reducible rfl
  try simp only[pE]
  refine tv 2 (?_) rfl (Or.inl ⟨by rfl,?_⟩) ?_
  rotate_left
  ·intro w F;(try unfold Jt at F);go_simp<;>with_reducible rfl
  try simp only[pE]
  refine tv 3 (?_) rfl (Or.inl ⟨by rfl,?_⟩) ?_
  rotate_left
  ·intro w F;(try unfold Jt at F);go_simp<;>with_reducible rfl
  try simp only[pE]
  refine tv 5 (?_) rfl (Or.inl ⟨by rfl,?_⟩) ?_
  rotate_left
  ·intro w F;(try unfold Jt at F);go_simp<;>with_reducible rfl
  try simp only[pE]
  refine tv 6 (?_) rfl (Or.inl ⟨by rfl,?_⟩) ?_
  rotate_left
  ·intro w F;(try unfold Jt at F);go_simp<;>with_reducible rfl
  try simp only[pE]
  refine Bo (rs:=[4,9]) (by kernel_rfl) (by simp) ?_;refine(AR (i:=4) rfl ?_ (AR (i:=9) rfl ?_ Bg))
  ·intro K f;go_simp;go_at_call 244;refine(Da H4 _).mono ?_;rintro e w'⟨rfl,hw⟩;rw[hw];clear hw;go_wp2_with fail;refine f.out _ _ (by assumption) (λaM=>?_);clear f K
   try simp only[pE]
   refine Bo (rs:=[7,9]) (by kernel_rfl) (by simp) ?_;refine(AR (i:=7) rfl ?_ (AR (i:=9) rfl ?_ Bg))
   ·intro K f;go_simp;go_at_call 213;refine(Da H7 _ (Da m)).mono ?_;clear m;rintro e V⟨rfl,ab,Y,m⟩;go_wp2_with fail;refine f.out _ _ ab (λar=>?_);clear f K
    try simp only[pE]
    refine Bo (rs:=[8,9]) (by kernel_rfl) (by simp) ?_;refine(AR (i:=8) rfl ?_ (AR (i:=9) rfl ?_ Bg))
    ·intro K f;go_simp;go_at_call 272;refine(Da H8 _ (Da m)).mono ?_;clear m;rintro e V8⟨rfl,U,Y,m⟩;go_wp2_with fail;refine f.out _ _ U (λaf=>?_);clear f K
     try simp only[pE]
     refine Bo (rs:=[9]) (by kernel_rfl) (by simp) ?_;refine(AR (i:=9) rfl ?_ Bg)
     ·intro K f;go_simp;refine f.out _ _ (by assumption) (λag=>?_);clear f K
      try simp only[pE]
      refine rk 10 (λK f=>?_);go_simp;go_at_call 214;refine(Da ac _ (Da m)).mono ?_;clear m;rintro e ae⟨a',l',c',rfl,C,E,ah,ai,aj,u⟩;go_wp2_with fail;refine f.out _ _ C (λS=>?_);clear f K
      try simp only[pE]
      refine rk 11 (λK f=>?_);go_simp;refine f.out _ _ E (λT=>?_);clear f K
      try simp only[pE]
      refine AO (by kernel_rfl) ?_ _;have cT:=E.2.2.2;clear C S T
      gi_wp2
      exact⟨(Da u).1,(Da u).2.1,(Da u).2.2⟩
    ·intro K f;go_simp;refine f.out _ _ (by assumption) (λag=>?_);clear f K
     try simp only[pE]
     refine Bo (rs:=[8]) (by kernel_rfl) (by simp) ?_;refine(AR (i:=8) rfl ?_ Bg)
     ·intro K f;go_simp;go_at_call 272;refine(Da H8 _ (Da m)).mono ?_;clear m;rintro e V8⟨rfl,U,Y,m⟩;go_wp2_with fail;refine f.out _ _ U (λaf=>?_);clear f K
      try simp only[pE]
      refine rk 10 (λK f=>?_);go_simp;go_at_call 214;refine(Da ac _ (Da m)).mono ?_;clear m;rintro e ae⟨a',l',c',rfl,C,E,ah,ai,aj,u⟩;go_wp2_with fail;refine f.out _ _ C (λS=>?_);clear f K
      try simp only[pE]
      refine rk 11 (λK f=>?_);go_simp;refine f.out _ _ E (λT=>?_);clear f K
      try simp only[pE]
      refine AO (by kernel_rfl) ?_ _;have cT:=E.2.2.2;clear C S T
      gi_wp2
      exact⟨(Da u).1,(Da u).2.1,(Da u).2.2⟩
   ·intro K f;go_simp;refine f.out _ _ (by assumption) (λag=>?_);clear f K
    try simp only[pE]
    refine Bo (rs:=[7]) (by kernel_rfl) (by simp) ?_;refine(AR (i:=7) rfl ?_ Bg)
    ·intro K f;go_simp;go_at_call 213;refine(Da H7 _ (Da m)).mono ?_;clear m;rintro e V⟨rfl,ab,Y,m⟩;go_wp2_with fail;refine f.out _ _ ab (λar=>?_);clear f K
     try simp only[pE]
     refine Bo (rs:=[8]) (by kernel_rfl) (by simp) ?_;refine(AR (i:=8) rfl ?_ Bg)
     ·intro K f;go_simp;go_at_call 272;refine(Da H8 _ (Da m)).mono ?_;clear m;rintro e V8⟨rfl,U,Y,m⟩;go_wp2_with fail;refine f.out _ _ U (λaf=>?_);clear f K
      try simp only[pE]
      refine rk 10 (λK f=>?_);go_simp;go_at_call 214;refine(Da ac _ (Da m)).mono ?_;clear m;rintro e ae⟨a',l',c',rfl,C,E,ah,ai,aj,u⟩;go_wp2_with fail;refine f.out _ _ C (λS=>?_);clear f K
      try simp only[pE]
      refine rk 11 (λK f=>?_);go_simp;refine f.out _ _ E (λT=>?_);clear f K
      try simp only[pE]
      refine AO (by kernel_rfl) ?_ _;have cT:=E.2.2.2;clear C S T
      gi_wp2
      exact⟨(Da u).1,(Da u).2.1,(Da u).2.2⟩
  ·intro K f;go_simp;refine f.out _ _ (by assumption) (λag=>?_);clear f K
   try simp only[pE]
   refine Bo (rs:=[4]) (by kernel_rfl) (by simp) ?_;refine(AR (i:=4) rfl ?_ Bg)
   ·intro K f;go_simp;go_at_call 244;refine(Da H4 _).mono ?_;rintro e w'⟨rfl,hw⟩;rw[hw];clear hw;go_wp2_with fail;refine f.out _ _ (by assumption) (λaM=>?_);clear f K
    try simp only[pE]
    refine Bo (rs:=[7]) (by kernel_rfl) (by simp) ?_;refine(AR (i:=7) rfl ?_ Bg)
    ·intro K f;go_simp;go_at_call 213;refine(Da H7 _ (Da m)).mono ?_;clear m;rintro e V⟨rfl,ab,Y,m⟩;go_wp2_with fail;refine f.out _ _ ab (λar=>?_);clear f K
     try simp only[pE]
     refine Bo (rs:=[8]) (by kernel_rfl) (by simp) ?_;refine(AR (i:=8) rfl ?_ Bg)
     ·intro K f;go_simp;go_at_call 272;refine(Da H8 _ (Da m)).mono ?_;clear m;rintro e V8⟨rfl,U,Y,m⟩;go_wp2_with fail;refine f.out _ _ U (λaf=>?_);clear f K
      try simp only[pE]
      refine rk 10 (λK f=>?_);go_simp;go_at_call 214;refine(Da ac _ (Da m)).mono ?_;clear m;rintro e ae⟨a',l',c',rfl,C,E,ah,ai,aj,u⟩;go_wp2_with fail;refine f.out _ _ C (λS=>?_);clear f K
      try simp only[pE]
      refine rk 11 (λK f=>?_);go_simp;refine f.out _ _ E (λT=>?_);clear f K
      try simp only[pE]
      refine AO (by kernel_rfl) ?_ _;have cT:=E.2.2.2;clear C S T
      gi_wp2
      exact⟨(Da u).1,(Da u).2.1,(Da u).2.2⟩
 case done=>
  rintro D ys X hD rfl⟨v,O,t⟩ f;have aS:=t.b10.cell;obtain⟨ra,rl,rc,rfl⟩:=t.rs.1.shape;have HR:=Db t;clear t I;show K0 _ _;refine aG _ _ ?_
  gi_wp2
  have t:=Da HR;have I:=Da al;refine⟨by simp,.inl ⟨_,_,rfl,BP f,?_⟩⟩;have hg:X.grownBy (X.putObj D (.deferred none)) (some D):=⟨rfl,rfl,rfl,by simp[World.putObj],λk _ hk=>by
   simp only[World.putObj];rw[A7,if_neg (λe=>hk (by rw[e]))]⟩
  have aa:=t.own L (Da ad) hg (λr e=>by cases e;exact⟨by omega,_,f,rfl⟩);exact⟨_,Eu rfl _ _ _,ra,rl,rc,O,rfl,aa.rs,aa.st,aa.hO,aa.dis,aa.fr⟩
 case stop=>
  rintro D c q X _ _ h _;exact h.elim
end
theorem Gt.place_lt{E:FZ}(h:Gt E)(st:Pl)(r:Nat)(s:By):(E.put st r s).1<1536:=by
 unfold FZ.put
 split
 ·rename_i q a;unfold FZ.stay at a
  split at a
  ·rename_i q' b
   split at a
   ·cases a;exact(h.at_some b).2
   ·cases a
  ·cases a
 ·show DP _ _ _%1536<1536;omega
theorem FZ.put_puts(E:FZ)(st:Pl)(r:Nat)(s:By):(E.put st r s).2.puts=st.puts++[(r,(E.put st r s).1)]:=by
 unfold FZ.put;split<;>rfl
theorem FZ.put_ps(E:FZ)(st:Pl)(r:Nat)(s:By):(E.put st r s).2.ps.length<=st.ps.length+1:=by
 unfold FZ.put;split
 ·show st.ps.length<=_;omega
 ·show(st.ps++_).length<=_;rw[Ab];exact Aa _
theorem FZ.put_hd(E:FZ)(st:Pl)(r:Nat)(s:By)(h:st.hd<=1536):(E.put st r s).2.hd<=1536:=by
 unfold FZ.put;split
 ·exact h
 ·show DP _ _ _%1536+1<=1536;omega
def FZ.puts(E:FZ)(R:Nat->Nat)(B:NB):Pl->Nat->List Nat->Pl
 |st,_,[]=>st
 |st,i,x::xs=>E.puts R B (E.put st (R i) (B x)).2 (i+1) xs
theorem FZ.puts_snoc(E:FZ)(R:Nat->Nat)(B:NB):∀(st:Pl) (i:Nat) (xs:List Nat) (x:Nat),E.puts R B st i (xs++[x])=(E.put (E.puts R B st i xs) (R (i+xs.length)) (B x)).2
 |st,i,[],x=>rfl
 |st,i,y::xs,x=>by
  show E.puts R B _ (i+1) (xs++[x])=_;rw[FZ.puts_snoc E R B _ (i+1) xs x,Al,show i+1+xs.length=i+(xs.length+1) by omega]
  rfl
theorem FZ.puts_mem(E:FZ)(R:Nat->Nat)(B:NB):∀(st:Pl) (i:Nat) (xs:List Nat),∀y∈(E.puts R B st i xs).puts,y∈st.puts\/∃j,i<=j/\j<i+xs.length/\y.1=R j
 |st,i,[],y,hy => .inl hy
 |st,i,x::xs,y,hy=>by
  rcases FZ.puts_mem E R B _ (i+1) xs y hy with h|⟨j,h1,h2,a⟩
  ·rw[FZ.put_puts]at h;rcases Aq.1 h with h|h
   ·exact .inl h
   ·rw[Ad.1 h];exact .inr ⟨i,Aa _,by rw[Al];omega,rfl⟩
  ·exact .inr ⟨j,by omega,by rw[Al];omega,a⟩
theorem FZ.puts_len(E:FZ)(R:Nat->Nat)(B:NB):∀(st:Pl) (i:Nat) (xs:List Nat),(E.puts R B st i xs).puts.length=st.puts.length+xs.length/\(E.puts R B st i xs).ps.length<=st.ps.length+xs.length/\(st.hd<=1536->(E.puts R B st i xs).hd<=1536)
 |st,i,[]=>⟨rfl,Aa _,id⟩
 |st,i,x::xs=>by
  obtain⟨a,h2,b⟩:=FZ.puts_len E R B (E.put st (R i) (B x)).2 (i+1) xs;have h4:=FZ.put_ps E st (R i) (B x);rw[FZ.put_puts,Ab]at a;refine⟨?_,?_,λh=>b (FZ.put_hd E st _ _ h)⟩
  ·show(E.puts R B _ (i+1) xs).puts.length=_;rw[a];simp only[Al,AK];omega
  ·show(E.puts R B _ (i+1) xs).ps.length<=_;rw[Al];omega
def GV(n0 pb db sb so:Nat)(E:FZ)(st:Pl)(O:Nat->Prop)(W:World):Prop:=
 II W n0 db sb so E/\(∀k,O k->n0<=k)/\n0<=W.heap.size/\Qx W pb db sb so E st 0 0 O
theorem GV.abides{m pb g n so:Nat}{E:FZ}{st:Pl}{O:Nat->Prop}{W c:World}{row:Option Nat}(h:GV m pb g n so E st O W)(i:W.grownBy c row)(q:∀r,row=some r->∃o:Obj,W.heap[r]?=some o/\o.isCells=false):GV m pb g n so E st O c:=by
 have l:∀(j:Nat) (a:Array Value) (t:TypeId) (z:Nat×Nat),W.heap[j]?=some (Obj.cells a t z)->c.heap[j]?=some (Obj.cells a t z):=λj a t z f=>(i.block j (Aj.1 f).1 (λe=>by obtain⟨o,b,d⟩:=q j e.symm;rw[f]at b;cases b;cases d)).trans f
 obtain⟨b,d,p,y,es,A,s,u,v,w,x⟩:=h;exact⟨b.kept (λk a t z _ e=>l k a t z e),d,Af p i.size,y,es,A,s.cellsKept (λj a t=>l j a t _),u,v,w,x⟩
theorem GV.keeps{b pb d l so:Nat}{E:FZ}{st:Pl}{O Z:Nat->Prop}{W c:World}(h:GV b pb d l so E st O W)(a:Fr Z W c)(f:∀j,Z j->¬O j/\b<=j):GV b pb d l so E st O c:=by
 obtain⟨m,n,o,v,es,w,q,r,s,u,i⟩:=h;refine⟨m.kept (λk cs t z g e=>(a.block k (Aj.1 e).1 (λp=>?_)).trans e),n,Af o a.size,v,es,w,q.fr a (λk g e=>(f _ e).1 ((i k).2 g)),r,s,u,i⟩;have:=(f k p).2;omega
theorem GV.cells{c pb a f so:Nat}{E:FZ}{st:Pl}{O:Nat->Prop}{W:World}(h:GV c pb a f so E st O W){j:Nat}(b:O j):∃cs t,W.heap[j]?=some (.cells cs t (0,0)):=by
 obtain⟨_,_,_,va,es,vp,d,_,_,_,e⟩:=h;exact d.isCells j ((e j).1 b)
theorem GV.put{c pb b f so:Nat}{E:FZ}(p:Gt E)(u:∃j,j<96/\E.nd j<=0){st:Pl}{O:Nat->Prop}{W:World}(h:GV c pb b f so E st O W)(r:Nat)(s:By)(B:s.size=64)(x:∀y∈st.puts,y.1≠r)(w:st.puts.length<=10000)(A:st.ps.length<=1000000)(q:st.hd<=1536):
  Cl 272 #[.pointer (some ⟨pb,0,none⟩),.int .u64 r,DA s] W λe a=>e=.returned (.agg #[.int .i64 ((E.put st r s).1:Nat),.int .u64 (Dp s:Nat)])/\∃O',GV c pb b f so E (E.put st r s).2 O' a/\Fr O W a/\∀j,O' j->O j\/W.heap.size<=j:=by
 obtain⟨g,i,l,o⟩:=h;obtain⟨j,aa,v⟩:=u;refine(ZI W c pb b f so E p st 0 0 O o g r s B x w A q ⟨(j+96-st.hd/16%96)%96,by omega,?_⟩).mono ?_
 ·rw[show(st.hd/16+(j+96-st.hd/16%96)%96)%96=j by omega];exact v
 ·rintro e a⟨rfl,O',C,d,n⟩;refine⟨rfl,O',⟨g.kept (λk cs t z m e=>(d.block k (Aj.1 e).1 (λho=>?_)).trans e),λk m=>(n k m).elim (i k) (λe=>Af l e),Af l d.size,C⟩,d,n⟩;have:=i k ho;omega
theorem QP{kk a i j:Nat}(h:Dd kk a i=Dd kk a j):i=j:=by unfold Dd at h;omega
theorem To(M f pb g m so:Nat)(E:FZ)(l:Gt E)(d:∃j,j<96/\E.nd j<=0)(st0:Pl)(h1:st0.puts.length+M<=10000)(h2:st0.ps.length+M<=1000000)(o:st0.hd<=1536)(kk:UInt8)(b:Nat)(u:∀y∈st0.puts,∀i,i<M->y.1≠Dd kk.toNat b i)(s:By)(c:Nat):
  Me M f pb kk b s c (λa x=>(E.put (E.puts (Dd kk.toNat b) (Dx kk s c) st0 0 a) (Dd kk.toNat b a.length) (Dx kk s c x)).1) (λ_ x=>Dp (Dx kk s c x)) (λa O W=>GV f pb g m so E (E.puts (Dd kk.toNat b) (Dx kk s c) st0 0 a) O W) where
 abides:=λ_ _ _ _ _ h v A=>h.abides v A
 keeps:=λ_ _ _ _ _ h r p=>h.keeps r p
 lt:=λ_ _ _ h _ d=>by obtain⟨cs,t,q⟩:=h.cells d;exact(Aj.1 q).1
 cells:=λ_ _ _ h _ d=>h.cells d
 plt:=λa x=>Nat.lt_trans (l.place_lt _ _ _) (by omega)
 xlt:=λ_ x=>KJ _
 put:=λa x O W z h=>by
  obtain⟨l1,l2,C⟩:=FZ.puts_len E (Dd kk.toNat b) (Dx kk s c) st0 0 a;refine(h.put l d (Dd kk.toNat b a.length) (Dx kk s c x) (Qc _ _ _ _) (λy B e=>?_) (by omega) (by omega) (C o)).mono ?_
  ·rcases FZ.puts_mem E _ _ st0 0 a y B with w|⟨j,_,q2,H⟩
   ·exact u y w _ z e
   ·have:=QP (H.symm.trans e);omega
  ·rintro e n⟨rfl,O',D,F,G⟩;refine⟨rfl,O',?_,F,G⟩;have k:=FZ.puts_snoc E (Dd kk.toNat b) (Dx kk s c) st0 0 a x;rw[Av]at k;show GV f pb g m so E (E.puts _ _ st0 0 (a++[x])) O' n;rw[k];exact D
def JR:List UInt8->List UInt8->Nat
 |x::xs,y::ys=>if x=y then JR xs ys+1 else 0
 |_,_=>0
theorem Rd:∀a b,JR a b<=a.length/\JR a b<=b.length
 |[],b=>by simp[JR]
 |x::xs,[]=>by simp[JR]
 |x::xs,y::ys=>by
  have:=Rd xs ys;unfold JR
  split
  ·simp only[Al];omega
  ·simp
theorem TS:∀(a b:List UInt8) (n:Nat),n<=JR a b->(JR a b=n↔¬ ∃x,a[n]?=some x/\b[n]?=some x)
 |[],b,n,h=>by simp[JR]at h ⊢;exact h.symm
 |x::xs,[],n,h=>by simp[JR]at h ⊢;exact h.symm
 |x::xs,y::ys,n,h=>by
  unfold JR at h ⊢;by_cases c:x=y
  ·rw[if_pos c]at h ⊢
   cases n with
   |zero=>simp[c]
   |succ n=>
    have:=TS xs ys n (by omega);simp only[CX];rw[<-this];omega
  ·rw[if_neg c]at h ⊢;obtain rfl:n=0:=by omega
   simp;exact λe=>c e.symm
def Kl(a b:By):Nat:=JR a.data.toList b.data.toList
theorem OL(a b:By)(w:World)(ha:a.size<=2000000)(_hb:b.size<=2000000):Cl 271 #[.string a,.string b] w λe w'=>e=.returned (.int .i64 (Kl a b:Nat))/\w'.heap=w.heap/\Bw w w':=by
 obtain⟨N,g⟩:=ex (Kl a b);have o:=Rd a.data.toList b.data.toList;have aa:N<=a.size:=by rw[g];exact o.1
 have ab:N<=b.size:=by rw[g];exact o.2
 have t:∀n,n<=N->(N=n↔¬ ∃x,a.data.toList[n]?=some x/\b.data.toList[n]?=some x):=λn l=>by rw[g]at l ⊢;exact TS _ _ n l
 rw[<-g];have p:=Db t;clear g o t;go_enter func271,ntmps271;go_wp2
 go_loopw [5] (λv wr=>∃n:Nat,v=.int .i64 n/\n<=N/\Hid (wr.heap=w.heap/\Bw w wr)) (λv _=>N-(intOf v).toNat)
 case atStart=>exact⟨0,rfl,Au _,rfl,Ak _ _⟩
 case round=>
  obtain⟨n,rfl,l,d⟩:=hrel;obtain⟨M,hM⟩:=ex (min a.size b.size);by_cases ac:n<M
  ·have u:n<a.size:=by omega
   have y:n<b.size:=by omega
   have j:a.data.toList[n]?=some a[n]:=by rw[Ac (by simpa using u)];rfl
   have k:b.data.toList[n]?=some b[n]:=by rw[Ac (by simpa using y)];rfl
   have i1:(n:Int)<(a.size:Int):=by omega
   have i2:(n:Int)<(b.size:Int):=by omega
   by_cases f:a[n]=b[n]
   ·have ad:n<N:=by
     rcases Bh n N with h|h
     ·exact h
     ·obtain rfl:n=N:=by omega
      exact absurd ⟨_,j,by rw[f];exact k⟩ ((Da p n (Aa _)).1 rfl)
    have z:((a[n].toNat:Int)==(b[n].toNat:Int))=true:=by rw[f];simp
    clear j k f;go_upto_region 2 with fail;refine AE (S:=λ_=>True) (by kernel_rfl) trivial (λs=>?_);refine tk 0 ?_;refine tk 1 ?_;refine tk 2 ?_;refine tk 3 ?_;refine tk 4 ?_;refine A5 (i:=5) (v:=.int .i64 (M:Nat)) rfl (by kernel_rfl) (by kernel_rfl) (by kernel_rfl) (λ_ _ _ h=>h) (Or.inl ⟨by rfl,?_⟩) (by assumption) ?_
    ·intro w c;go_simp;omega
    try simp only[pE]
    refine A5 (i:=6) (v:=.bool true) rfl (by kernel_rfl) (by kernel_rfl) (by kernel_rfl) (λ_ _ _ h=>h) (Or.inl ⟨by rfl,?_⟩) (by assumption) ?_
    ·intro w c;go_simp;omega
    try simp only[pE]
    refine tk 7 ?_;refine tk 8 ?_;refine tk 9 ?_;refine A5 (i:=10) (v:=.int .u8 (a[n].toNat:Int)) rfl (by kernel_rfl) (by kernel_rfl) (by kernel_rfl) (λ_ _ _ h=>h) (Or.inl ⟨by rfl,?_⟩) (by assumption) ?_
    ·intro w c;go_simp
    try simp only[pE]
    refine tk 11 ?_;refine tk 12 ?_;refine A5 (i:=13) (v:=.int .u8 (b[n].toNat:Int)) rfl (by kernel_rfl) (by kernel_rfl) (by kernel_rfl) (λ_ _ _ h=>h) (Or.inl ⟨by rfl,?_⟩) (by assumption) ?_
    ·intro w c;go_simp
    try simp only[pE]
    refine A5 (i:=14) (v:=.bool true) rfl (by kernel_rfl) (by kernel_rfl) (by kernel_rfl) (λ_ _ _ h=>h) (Or.inl ⟨by rfl,?_⟩) (by assumption) ?_
    ·intro w c;go_simp
    try simp only[pE]
    refine tk 15 ?_;refine AO (by kernel_rfl) ?_ _;go_wp2
    go_roundw
    case rel=>exact⟨n+1,by go_num,by omega,(Da d).1,(Da d).2.trans ((Ak _ _).drew.mono (Da d).2.size)⟩
    case measure=>simp[intOf];omega
   ·have m:N=n:=(Da p n l).2 (λ⟨x,q,r⟩=>f (by rw[j]at q;rw[k]at r;exact BR (q.trans r.symm)));have z:((a[n].toNat:Int)==(b[n].toNat:Int))=false:=by
     rw[Bm];intro h;exact f (UInt8.toNat_inj.1 (by omega))
    clear j k f;go_upto_region 2 with fail;refine AE (S:=λ_=>True) (by kernel_rfl) trivial (λs=>?_);refine tk 0 ?_;refine tk 1 ?_;refine tk 2 ?_;refine tk 3 ?_;refine tk 4 ?_;refine A5 (i:=5) (v:=.int .i64 (M:Nat)) rfl (by kernel_rfl) (by kernel_rfl) (by kernel_rfl) (λ_ _ _ h=>h) (Or.inl ⟨by rfl,?_⟩) (by assumption) ?_
    ·intro w c;go_simp;omega
    try simp only[pE]
    refine A5 (i:=6) (v:=.bool true) rfl (by kernel_rfl) (by kernel_rfl) (by kernel_rfl) (λ_ _ _ h=>h) (Or.inl ⟨by rfl,?_⟩) (by assumption) ?_
    ·intro w c;go_simp;omega
    try simp only[pE]
    refine tk 7 ?_;refine tk 8 ?_;refine tk 9 ?_;refine A5 (i:=10) (v:=.int .u8 (a[n].toNat:Int)) rfl (by kernel_rfl) (by kernel_rfl) (by kernel_rfl) (λ_ _ _ h=>h) (Or.inl ⟨by rfl,?_⟩) (by assumption) ?_
    ·intro w c;go_simp
    try simp only[pE]
    refine tk 11 ?_;refine tk 12 ?_;refine A5 (i:=13) (v:=.int .u8 (b[n].toNat:Int)) rfl (by kernel_rfl) (by kernel_rfl) (by kernel_rfl) (λ_ _ _ h=>h) (Or.inl ⟨by rfl,?_⟩) (by assumption) ?_
    ·intro w c;go_simp
    try simp only[pE]
    refine A5 (i:=14) (v:=.bool false) rfl (by kernel_rfl) (by kernel_rfl) (by kernel_rfl) (λ_ _ _ h=>h) (Or.inl ⟨by rfl,?_⟩) (by assumption) ?_
    ·intro w c;go_simp
    try simp only[pE]
    refine tk 15 ?_;refine AO (by kernel_rfl) ?_ _;go_wp2;go_ret;exact⟨by rw[m];rfl,(Da d).1,(Da d).2.trans ((Ak _ _).drew.mono (Da d).2.size)⟩
  ·have m:N=n:=by omega
   go_upto_region 2 with fail;refine AE (S:=λ_=>True) (by kernel_rfl) trivial (λs=>?_);refine tk 0 ?_;refine tk 1 ?_;refine tk 2 ?_;refine tk 3 ?_;refine tk 4 ?_;refine A5 (i:=5) (v:=.int .i64 (M:Nat)) rfl (by kernel_rfl) (by kernel_rfl) (by kernel_rfl) (λ_ _ _ h=>h) (Or.inl ⟨by rfl,?_⟩) (by assumption) ?_
   ·intro w c;go_simp;omega
   try simp only[pE]
   refine A5 (i:=6) (v:=.bool false) rfl (by kernel_rfl) (by kernel_rfl) (by kernel_rfl) (λ_ _ _ h=>h) (Or.inl ⟨by rfl,?_⟩) (by assumption) ?_
   ·intro w c;go_simp;omega
   try simp only[pE]
   refine tk 7 ?_;refine tu 8 ?_
   try simp only[pE]
   refine tu 9 ?_
   try simp only[pE]
   refine tu 10 ?_
   try simp only[pE]
   refine tu 11 ?_
   try simp only[pE]
   refine tu 12 ?_
   try simp only[pE]
   refine tu 13 ?_
   try simp only[pE]
   refine tu 14 ?_
   try simp only[pE]
   refine tk 15 ?_;refine AO (by kernel_rfl) ?_ _;go_wp2;go_ret;exact⟨by rw[m];rfl,(Da d).1,(Da d).2.trans ((Ak _ _).drew.mono (Da d).2.size)⟩
theorem UT(w:World)(b:Nat)(R:b<=w.heap.size)(v:Value)(s:By)(h:F9 b w v s)(t:By)(hl:s.size+t.size<=4000000):
  ∃i n l w',(Builtin.append_ #[59,9] 59 #[v,.string t]).run prog w=.ok (.slice i n l) w'/\F9 b w' (.slice i n l) (s++t)/\Fr (Own v) w w'/\Dk w v (.slice i n l):=by
 obtain⟨q,x,H,A,I⟩:=BT KG;have z:Lib.strCells t=Dc t:=rfl;have X:∃d w',(Builtin.append_ #[59,9] 59 #[v,.string t]).run prog w=.ok d w'/\Sl w' 5 1 d (s.size+t.size) (Dc s++Dc t)/\w.grownBy w' v.ownBlock/\Dk w v d:=by
  rcases h.1.2 with⟨rfl,M⟩|⟨g,a,L,rfl,G,h3,N,C,D⟩
  ·obtain⟨d,w',Y,B,Z,_⟩:=Lib.run_append_own_string (P:=prog) w w.heap.size 59 9 59 5 q underlying59 underlying9 x H A I (.slice none 0 0) s.size (Dc s) ⟨h.1.1,.inl ⟨rfl,M⟩⟩ t (by unfold maxLen;omega) (by omega) (Aa _);rw[z]at B;exact⟨d,w',Y,Sl.of_owns B,Z,λg r => .inr (B.lt g r).1⟩
  ·rw[BS]at C D;by_cases y:s.size+t.size<=a
   ·have m:=Lib.run_append_room_string (P:=prog) w 59 9 59 5 q underlying59 underlying9 x A g s.size a L.toArray G t y (by simpa [C] using y);rw[z]at m;refine⟨_,_,m,⟨by rw[Ab,Dg,Dg,BS],.inr ⟨g,a,L.take s.size++Dc t++L.drop (s.size+t.size),rfl,BW w g L.toArray _ 5 _ G,y,N,?_,?_⟩⟩,?_,λk c => .inl c⟩
    ·simp only[Ab,An,Az,Dg];omega
    ·rw[D,BS];have:s.size+t.size=(Dc s++Dc t).length:=by rw[Ab,Dg,Dg]
     rw[this];exact ES
    ·exact⟨rfl,rfl,rfl,by simp,λk _ c=>BD w g k _ (λe=>c (by simp[Value.ownBlock,e]))⟩
   ·have V:∀j u,(Dc s)[j]?=some u->w.cell? ((⟨g,0,none⟩:Addr).add j)=some u:=h.1.owns.cells (g:=g) rfl;have T:Builtin.nextslicecap (s.size+t.size) a*q.bytes<=281474976710656:=Fm (by omega) (by rw[I];omega);have m:=Lib.run_append_grow_string (P:=prog) w 59 9 59 5 q _ underlying59 underlying9 x H ⟨g,0,none⟩ s.size a (Dc s) (by rw[Dg,A,BS]) V t (by omega) (by omega) T;rw[z]at m;have U:=grownCap_ge w (s.size+t.size) a 5;have S:grownCap w (s.size+t.size) a 5<=maxLen:=EJ w (s.size+t.size) a 5 (by unfold maxLen;omega);have F:(Dc s++Dc t).length=(s.size+t.size)*1:=by rw[Ab,Dg,Dg,BS]
    refine⟨_,_,m,⟨F,.inr ⟨w.heap.size,_,((Dc s).toArray++(Dc t).toArray++Builtin.zeroCells (Value.int .u8 0).cells (grownCap w (s.size+t.size) a 5-(s.size+t.size))).toList,rfl,by unfold FX;rw[Array.toArray_toList];exact CQ w.drew _,U,S,?_,?_⟩⟩,⟨rfl,rfl,rfl,by simp,λk c _=>BH w.drew _ k c⟩,λk c=>?_⟩
    ·simp only[AG,EQ,AM,Eh,Dg];show _+_*1=_;omega
    ·simp only[EA,Ax];rw[<-Ax,<-F];exact ES
    ·simp[Value.ownBlock]at c;omega
 obtain⟨d,w2,r1,J,o,K⟩:=X;obtain⟨i,n,l,rfl⟩:=J.shape;refine⟨i,n,l,w2,r1,⟨?_,λg r=>(K g r).elim (h.2 g) (λe=>Af R e)⟩,⟨o.os,o.tape,o.output,o.size,λk c Q=>o.block k c (λe=>Q e.symm)⟩,K⟩;rw[Jz,Ai];exact J
structure Gb(w:World)(b n0 B4 B5 B7 pb db sb so:Nat)(E:FZ)(p:By)(k:Nat)(f:Int)(vd:Value)(O0:Nat->Prop)(v0:Value)(st:Pl)(O:Nat->Prop)(v:Value)(t:By)(W:World):Prop where
 st:GV n0 pb db sb so E st O W
 hO:∀j,O j->O0 j\/w.heap.size+3<=j
 b4:Boxed W B4 168 (.pointer (some ⟨pb,0,none⟩))
 b5:Boxed W B5 59 v
 b7:FX W B7 141 [.string p,.int .u8 k,.int .i64 f,vd]
 rs:F9 b W v t
 hv:∀j,Own v j->Own v0 j\/w.heap.size+3<=j
 dis:∀j,O j->¬Own v j
 fr:Fr (λj=>O0 j\/Own v0 j) w W
 sz:w.heap.size+3<=W.heap.size
structure LA(w:World)(b n0 B4 B5 B7:Nat)(O0:Nat->Prop)(v0:Value):Prop where
 e4:B4=w.heap.size
 e5:B5=w.heap.size+1
 e7:B7=w.heap.size+2
 o0:∀j,O0 j->j<w.heap.size
 ov:∀j,Own v0 j->j<w.heap.size
 nv:∀j,Own v0 j->n0<=j
 nb:b<=w.heap.size
 n0w:n0<=w.heap.size
section
variable{w:World}{b n0 B4 B5 B7 pb db sb so:Nat}{E:FZ}{p:By}{k:Nat}{f:Int}{vd:Value}{O0:Nat->Prop}{v0:Value}{st:Pl}{O:Nat->Prop}{v:Value}{t:By}{W W':World}
theorem Gb.below(h:Gb w b n0 B4 B5 B7 pb db sb so E p k f vd O0 v0 st O v t W)(a:Bw W W'):Gb w b n0 B4 B5 B7 pb db sb so E p k f vd O0 v0 st O v t W':=
 ⟨h.st.abides (row:=none) ⟨a.os,a.tape,a.output,a.size,λk c _=>a.block k c⟩ (λr e=>by cases e),h.hO,(a.block _ h.b4.lt).trans h.b4,(a.block _ h.b5.lt).trans h.b5,(a.block _ h.b7.lt).trans h.b7,h.rs.below a,h.hv,h.dis,h.fr.then (Fr.of_below a (X:=λ_=>False)) (λ_ _ e=>e.elim),Af h.sz a.size⟩
theorem Gb.say(d:LA w b n0 B4 B5 B7 O0 v0)(h:Gb w b n0 B4 B5 B7 pb db sb so E p k f vd O0 v0 st O v t W){g:Value}{s:By}(n:F9 b W' g s)(i:Fr (Own v) W W')(q:Dk W v g):Gb w b n0 B4 B5 B7 pb db sb so E p k f vd O0 v0 st O g s (W'.setCell ⟨B5,0,none⟩ g):=by
 have e4:=d.e4;have e5:=d.e5;have e7:=d.e7;have ac:=h.sz;have aa:=i.size;have ab:=d.n0w;have m:∀B,w.heap.size<=B->B<w.heap.size+3->¬Own v B:=λB l u e=>by
  rcases h.hv B e with c|c
  ·have:=d.ov B c;omega
  ·omega
 have r:∀j,Own g j->Own v0 j\/w.heap.size+3<=j:=λj a=>(q j a).elim (h.hv j) (λe => .inr (by omega))
 have D:∀B,w.heap.size<=B->B<w.heap.size+3->¬Own g B:=λB l u e=>by
  rcases r B e with c|c
  ·have:=d.ov B c;omega
  ·omega
 have C:¬O B5:=λe=>by
  rcases h.hO _ e with c|c
  ·have:=d.o0 _ c;omega
  ·omega
 have l:GV n0 pb db sb so E st O W':=h.st.keeps i (λj a=>⟨λho=>h.dis j ho a,(h.hv j a).elim (d.nv j) (λe=>by omega)⟩);have o:Fr (λj=>j=B5) W' (W'.setCell ⟨B5,0,none⟩ g):=(Fr.refl _ _).set _ _ rfl;have y:Boxed W' B4 168 _:=(i.block _ h.b4.lt (m _ (by omega) (by omega))).trans h.b4;have z:Boxed W' B5 59 _:=(i.block _ h.b5.lt (m _ (by omega) (by omega))).trans h.b5;have A:FX W' B7 141 _:=(i.block _ h.b7.lt (m _ (by omega) (by omega))).trans h.b7;refine⟨l.keeps o (λj a=>⟨λho=>C (by rw[<-a];exact ho),by omega⟩),h.hO,y.other (by omega) _,z.set _,(Aw _ _ _ _ (show B7≠B5 by omega)).trans A,⟨n.1.setCell _ _ (D B5 (by omega) (by omega)),n.2⟩,r,λj ho a=>(q j a).elim (h.dis j ho) (λe=>?_),?_,by simp[World.setCell];omega⟩
 ·obtain⟨cs,t,x⟩:=h.st.cells ho;have:=(Aj.1 x).1;omega
 ·refine(h.fr.then i (λj a e=>(h.hv j e).elim .inr (λe=>by omega))).then o (λj a e=>by omega)
end
end Go.Proofs.YtaieidcohdhgpaaGreatDoor
