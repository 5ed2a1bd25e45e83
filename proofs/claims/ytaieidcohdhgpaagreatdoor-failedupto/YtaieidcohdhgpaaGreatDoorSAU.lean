/- Failed. -/
import Derived.Test.YtaieidcohdhgpaaGreatDoorSAT
namespace Go.Proofs.YtaieidcohdhgpaaGreatDoor
set_option maxHeartbeats 40000000
set_option maxRecDepth 100000
open Go.RowKit
theorem Zoa(w:World)(pb z t so:Nat)(o:Nat->Int)(cl:Bool)(hd:Nat)(E:Value)(es:LI)(tp tx:Int)(vp:Value)(ps:LB)(h:PlanW w pb z t so o cl hd E es tp tx vp ps)
  (vb:Value) (eb:LI) (aN:w.cell? ⟨t,so,none⟩=some vb) (aY:Sl w 350 2 vb eb.length (Du eb)) (a8:eb.length<=10000) (aU:SrtR eb) (r:Nat) (vf:Value) (an:OA) (ln cn:Nat) (vw ve:Value) (D:LY) (hD:DS w z vf (.slice an ln cn) vw ve D) (s:By) (W:s.size=64)
  (bt:Nat) (a5:bt<1536) (a4:w.cell? ⟨t,so+1,none⟩=some (.int .i64 (bt:Nat))) (hh:hd<=1536) (hz:∃k,k<96/\o ((hd/16+k)%96)<=0) (hl:ps.length<=1000000) (aT:SrtR es) (aO:es.length<=10000) (aS:∀x∈es,x.1≠r) (Q:Ending->World->Prop)
  (bz:((∀x∈eb,x.1≠r)/\∀e w',Q1 w pb z t so o cl E es tp tx vp ps r s (DK o 96 hd%1536) e w'->Q e w')\/∃(q:Nat) (s0:By),((r:Int),(q:Int))∈eb/\q<1536/\D[q]?=some s0/\
   ((s0≠s/\∀e w',Q1 w pb z t so o cl E es tp tx vp ps r s (DK o 96 hd%1536) e w'->Q e w')\/s0=s/\(cl=true->(q/16≠bt/16/\o (q/16)<=8)->∀e w',Q1 w pb z t so o cl E es tp tx vp ps r s (DK o 96 hd%1536) e w'->Q e w')/\((cl=true->¬(q/16≠bt/16/\o (q/16)<=8))->∀e w',Zhk w pb z t so o cl hd E es tp tx vp ps r s q e w'->Q e w'))):
  Calls Tryz.prog 272 #[.pointer (some ⟨pb,0,none⟩),.int .u64 r,DA s] w Q:=by
 obtain⟨a,aZ,bd,bq,bb,a1⟩:=De w (Dc s) 188;obtain⟨f,a0,aH,a7,bc,a2⟩:=De a [.int .i64 0,.int .u64 0] 175;have J:Below w.heap.size w f:=a1.trans (a2.mono (by omega));have bT:=h.row.lt;have aV:t<w.heap.size:=World.block_lt_of_cell? _ _ aN;obtain⟨p,hp⟩:∃p,p=DK o 96 hd%1536:=⟨_,rfl⟩;rw[<-hp]at bz;have bS:p<1536:=by omega
 have ak:RowIs f w.heap.size 188 (Dc s):=a7 _ _ _ bd;obtain⟨R,aa,T,rfl⟩:=Sl.shape h.sp;have aP:=getR f t so vb eb r ((J.cell (p:=⟨t,so,none⟩) aV).trans aN) (aY.kept (fun k m _=>J.block k m)) a8 aU;have HN:Hid (∀X,Below w.heap.size w X->RowIs X w.heap.size 188 (Dc s)->RowIs X a.heap.size 175 [.int .i64 0,.int .u64 0]->Calls Tryz.prog 302 #[.pointer (some ⟨pb,0,none⟩)] X fun e Y=>e = .returned (.int .i64 p)/\Y.rangeAt w.heap.size 0 (Dc s)/\Y.cell? ⟨pb,103,none⟩=some (.slice R aa T)/\Hid (PlanW Y pb z t so o cl (p+1) E es tp tx (.slice R aa T) ps/\Fr (fun k=>k=pb) w Y/\RowIs Y w.heap.size 188 (Dc s)/\RowIs Y a.heap.size 175 [.int .i64 0,.int .u64 0])):=fun X d q1 q2=>by
  have U:=h.below d;obtain⟨c0,c1,c2,c3,c4,c5,c6⟩:=U.cells;refine(Zlg X pb _ U.row o hd hh c2 c4 (U.row.frozen 99) hz).mono ?_;rintro e Y ⟨p',bH,r0,rfl,r1,r2,r3⟩;have e':p'=p:=by rw[bH,hp]
  subst e';have q3:RowIs Y w.heap.size 188 (Dc s):=q1.fr r2 (by omega);have bn:=U.next p' r0 r2;refine⟨rfl,fun j v A=>by rw[q3.cell,Nat.zero_add];exact A,bn.cells.2.2.2.2.2.2,bn,(Fr.of_below d).then r2 (fun _ _ h=>h),q3,q2.fr r2 (by omega)⟩
 have HA:Hid (∀Y,Hid (PlanW Y pb z t so o cl (p+1) E es tp tx (.slice R aa T) ps/\Fr (fun k=>k=pb) w Y/\RowIs Y w.heap.size 188 (Dc s)/\RowIs Y a.heap.size 175 [.int .i64 0,.int .u64 0])->∃Z,Y.drew.alloc (.cells (pcL p s).toArray 207)=Z/\Z.rangeAt w.heap.size 0 (Dc s)/\Z.cell? ⟨pb,103,none⟩=some (.slice R aa T)/\∃H L I u,(Builtin.append_ #[182,182] 182 #[.slice R aa T,.slice (some ⟨Y.heap.size,0,none⟩) 1 1]).run Tryz.prog Z = .ok (.slice H L I) u/\u.rangeAt w.heap.size 0 (Dc s)/\u.cell? ⟨pb,103,none⟩=some (.slice R aa T)/\u.frozen? ⟨pb,103,none⟩=false/\(u.setCell ⟨pb,103,none⟩ (.slice H L I)).rangeAt w.heap.size 0 (Dc s)/\
   Hid (Calls Tryz.prog 243 #[.pointer (some ⟨pb,100,none⟩),.int .u64 r,.int .i64 p] (u.setCell ⟨pb,103,none⟩ (.slice H L I)) fun e n=>e = .returned (.tuple #[])/\RowIs n w.heap.size 188 (Dc s)/\RowIs n a.heap.size 175 [.int .i64 0,.int .u64 0]/\Hid (∀w7,Fr (fun k=>k=a.heap.size) n w7->Q1 w pb z t so o cl E es tp tx (.slice R aa T) ps r s p (.returned (.agg #[.int .i64 (p:Nat),.int .u64 (Dp s:Nat)])) w7))):=fun Y hY=>by
  obtain⟨U,hF,q1,q2⟩:=Da hY;obtain⟨Z,hZ,bM,bR,bU,bG⟩:=De Y.drew (pcL p s) 207;have aF:Below Y.heap.size Y Z:=((Below.refl Y.heap.size Y).drew).trans bG;have aD:=U.below aF;have bQ:=hF.size;have z1:RowIs Z w.heap.size 188 (Dc s):=(aF.block _ q1.lt).trans q1;have z2:RowIs Z a.heap.size 175 [.int .i64 0,.int .u64 0]:=(aF.block _ q2.lt).trans q2;obtain⟨v',u,r1,H,L,I,rfl,r2,r3,r4⟩:=appP Z _ ps aD.sp Y.heap.size p s W bM hl;have a9:∀k,Own (.slice R aa T) k->k<w.heap.size:=fun k m=>Sl.lt h.sp m
  have y1:RowIs u w.heap.size 188 (Dc s):=z1.fr r3 (fun e=>by have:=a9 _ e;omega);have y2:RowIs u a.heap.size 175 [.int .i64 0,.int .u64 0]:=z2.fr r3 (fun e=>by have:=a9 _ e;omega);have y3:RowIs u pb 184 _:=aD.row.fr r3 aD.op;have ab:=aD.piece r2 r3 r4;have aQ:w.heap.size≠pb:=by omega
  have aR:a.heap.size≠pb:=by omega
  have bV:Z.heap.size<=u.heap.size:=r3.size;have x1:RowIs (u.setCell ⟨pb,103,none⟩ (.slice H L I)) w.heap.size 188 (Dc s):=(Below.heap_setCell _ _ _ _ aQ).trans y1;have x2:RowIs (u.setCell ⟨pb,103,none⟩ (.slice H L I)) a.heap.size 175 [.int .i64 0,.int .u64 0]:=(Below.heap_setCell _ _ _ _ aR).trans y2;refine⟨Z,hZ,fun j v A=>by rw[z1.cell,Nat.zero_add];exact A,aD.cells.2.2.2.2.2.2,H,L,I,u,r1,fun j v A=>by rw[y1.cell,Nat.zero_add];exact A,(y3.cell 103).trans (Jz _ _ _ _ _ _ _ _ _ _ 5),y3.frozen 103,fun j v A=>by rw[x1.cell,Nat.zero_add];exact A,?_⟩;have bW:(u.setCell ⟨pb,103,none⟩ (.slice H L I)).heap.size=u.heap.size:=by simp[World.setCell]
  have ai:Fr (fun k=>k=pb\/Own E k\/Own (.slice R aa T) k) w (u.setCell ⟨pb,103,none⟩ (.slice H L I)):=by
   refine Fr.set ?_ ⟨pb,103,none⟩ _ (.inl rfl);refine Fr.then (Fr.then (w1:=Y) ⟨hF.os,hF.tape,hF.output,hF.size,fun k m d=>hF.block k m (fun e=>d (.inl e))⟩ (Fr.of_below aF (X:=fun _=>False)) (fun _ _ h=>h.elim)) r3 (fun k _ e => .inr (.inr e))
  refine(ZiG _ pb 100 E es r p ab.cells.2.2.2.2.2.1 (ab.row.frozen 100) ab.oa ab.sa aO aT aS).mono ?_;rintro e n ⟨rfl,aI,aB,m1,m2,m3,m4,m5,m6,G⟩;have al:∀k,Own E k->k<w.heap.size:=fun k m=>h.sa.lt m
  have am:∀k,k≠pb->¬Own E k->k<(u.setCell ⟨pb,103,none⟩ (.slice H L I)).heap.size->n.heap[k]?=(u.setCell ⟨pb,103,none⟩ (.slice H L I)).heap[k]? := fun k h1 h2 h3=>G.block k h3 h1 h2
  refine⟨rfl,(am _ aQ (fun e=>by have:=al _ e;omega) x1.lt).trans x1,(am _ aR (fun e=>by have:=al _ e;omega) x2.lt).trans x2,fun w7 h7=>?_⟩;have O:=ab.put m2 m6 G;have aX:PlanW w7 pb z t so o cl (p+1) aI aB tp tx (.slice H L I) (ps++[(p,s)]):=by
   have bK:=G.size;have br:∀v,(∀g,Own v g->g≠a.heap.size)->∀g,Own v g->¬(fun k=>k=a.heap.size) g:=fun v A g F=>A g F
   refine⟨O.row.fr h7 (show ¬pb=a.heap.size by omega),O.sa.fr h7 (br _ (fun g F e=>?_)),Sl.fr O.sp h7 (br _ (fun g F e=>?_)),O.oa,O.op,O.ap⟩
   ·rcases m6 g F with h8|h8
    ·have:=al g h8;omega
    ·have:=x2.lt;omega
   ·rcases r4 g F with h8|h8
    ·have:=a9 g h8;omega
    ·have:=z2.lt;omega
  refine⟨rfl,aI,aB,.slice H L I,aX,m3,m4,m5,?_,fun g F=>(m6 g F).imp id (fun h8=>by have:=ai.size;omega),fun g F=>(r4 g F).imp id (fun h8=>by have:=aF.size;omega)⟩;refine Fr.then (w1:=n) ⟨G.os.trans ai.os,G.tape.trans ai.tape,G.output.trans ai.output,Nat.le_trans ai.size G.size,fun k m d=>?_⟩ h7 (fun k m e=>by omega);have aE:k≠pb/\¬Own E k:=⟨fun e=>d (.inl e),fun e=>d (.inr (.inl e))⟩;rw[am k aE.1 aE.2 (Nat.lt_of_lt_of_le m ai.size)];exact ai.block k m d
 have a3:(Dc s).length=64:=by rw[Dg,W]
 have be:=Db a3;have bA:=Db (Zhb p s W);have ar:=Db aH;have ap:=Db ak;have ao:=Db J;have bP:f.cell? ⟨pb,1,none⟩=some (.pointer (some ⟨t,so,none⟩)):=(h.below J).cells.2.1;have bj:=Db aZ;have bk:=Db a0;have bN:=Db (show a.heap.size=w.heap.size+1 from bb);have bO:=Db (show f.heap.size=a.heap.size+1 from bc);rcases bz with⟨bs,af⟩|⟨q,s0,hq,bJ,ba,bx⟩
 have HG:Hid (Calls Tryz.prog 300 #[.pointer (some ⟨t,so,none⟩),.int .u64 r] f fun e X=>e = .returned (.tuple #[.int .i64 0,.bool false])/\Below f.heap.size f X):=aP.mono fun e X ⟨v,b,he,hF,N⟩=>by
  rcases hF with⟨_,hm⟩|⟨rfl,rfl,_⟩
  ·exact absurd rfl (bs _ hm)
  ·exact⟨he,N⟩
 have HQ:=Db af;clear h aN aY a8 aU aT aO aS hh hz bd bq bb a1 aH a7 bc a2 J ak a3 aZ a0 hp aV hD aP a4 a5 bs af;go_enter Tryz.func272,Tryz.ntmps272;go_upto_region 0 with fail;refine wp_region_lit ?_;refine ZbY rfl 188 _ rfl (Dc s) rfl ?_;rw[show w.alloc (.cells (Dc s).toArray 188)=a from Da bj]
 (try simp only[pE])
 go_upto_region 1 with fail;rw[show a.alloc (.cells #[Value.int .i64 0,.int .u64 0] 175)=f from Da bk];go_upto_region 2 with(go_at_call 300;refine(Da HG).mono ?_;rintro e X ⟨rfl,aC⟩;have ax:=Db aC;clear aC)
 go_quiet (fail)
 have ag:Below w.heap.size w (X.drewN nq):=by
  have h1:=(Da ao).trans ((Da ax).mono (Da ao).size);exact⟨h1.os,h1.tape,h1.output,h1.size,h1.block⟩
 have aW:=Db (Da HN _ ag (((Da ax).block _ (Da ap).lt).trans (Da ap)) (((Da ax).block _ (Da ar).lt).trans (Da ar)));clear ag HN HG
 rotate_left
 have HG:Hid (Calls Tryz.prog 300 #[.pointer (some ⟨t,so,none⟩),.int .u64 r] f fun e X=>e = .returned (.tuple #[.int .i64 (q:Nat),.bool true])/\Below f.heap.size f X):=aP.mono fun e X ⟨v,b,he,hF,N⟩=>by
  rcases hF with⟨rfl,hm⟩|⟨_,_,hm⟩
  ·rw[aU.same hm hq]at he;exact⟨he,N⟩
  ·exact absurd rfl (hm _ hq)
 obtain⟨V0,aL⟩:∃V,V=DA s0:=⟨_,rfl⟩;obtain⟨VB,aM⟩:∃V,V=DA s:=⟨_,rfl⟩;have bv:s0.size=64:=hD.2.1.2 s0 (List.mem_of_getElem? ba);have aq:Hid (∀V x y,(eqGuard .neq 188 x y V0 VB).run Tryz.prog V = .ok () V):=fun V x y=>by
  subst aL aM;exact run_eqGuard_agg (P:=Tryz.prog) V .neq 188 x y _ _ Zm0
 have ad:Hid (∀V,(binOp .neq 188 V0 VB).run Tryz.prog V = .ok (.bool (!decide (s0=s))) V):=fun V=>by
  subst aL aM;exact neq188 V s0 s bv W
 have ay:Hid (∀X,Below f.heap.size f X->(X.cell? ⟨pb,0,none⟩=some (.pointer (some ⟨z,0,none⟩))/\X.rangeAt w.heap.size 0 (Dc s)/\X.cell? ⟨pb,98,none⟩=some (.bool cl))/\Hid (Calls Tryz.prog 239 #[.pointer (some ⟨z,0,none⟩),.int .i64 q] X.drew fun e X2=>e = .returned V0/\(X2.cell? ⟨pb,0,none⟩=some (.pointer (some ⟨z,0,none⟩))/\X2.rangeAt w.heap.size 0 (Dc s)/\X2.cell? ⟨pb,98,none⟩=some (.bool cl))/\Hid (Below f.heap.size f X2))):=fun X d=>by
  have hS:∀X,Below f.heap.size f X->(X.cell? ⟨pb,0,none⟩=some (.pointer (some ⟨z,0,none⟩))/\X.rangeAt w.heap.size 0 (Dc s)/\X.cell? ⟨pb,98,none⟩=some (.bool cl)):=fun X d=>by
   have l:Below w.heap.size w X:=J.trans (d.mono J.size);have U:=h.below l;have hr:RowIs X w.heap.size 188 (Dc s):=(d.block _ ak.lt).trans ak;exact⟨U.cells.1,fun j v A=>by rw[hr.cell,Nat.zero_add];exact A,U.cells.2.2.2.1⟩
  refine⟨hS X d,?_⟩;have l:Below w.heap.size w X:=J.trans (d.mono J.size);have bC:DS X.drew z vf (.slice an ln cn) vw ve D:=⟨(l.block _ hD.1.lt).trans hD.1,⟨hD.2.1.1.kept (fun k m _=>l.block k m),hD.2.1.2⟩,hD.2.2⟩;refine(Zi9 X.drew z vf vw ve an ln cn D bC q s0 ba).mono ?_;rintro e X2 ⟨rfl,N⟩;have bp:Below f.heap.size f X2:=d.trans ⟨N.os,N.tape,N.output,N.size,fun k m=>N.block k (by have:=d.size;show k<X.heap.size;omega)⟩;exact⟨by rw[aL],hS X2 bp,bp⟩
 obtain⟨B,N⟩:∃B,B=decide (q/16≠bt/16/\o (q/16)<=8):=⟨_,rfl⟩;have aJ:=Db N;have az:Hid (∀X,Below f.heap.size f X->Calls Tryz.prog 301 #[.pointer (some ⟨pb,0,none⟩),.int .i64 q] X fun e w'=>e = .returned (.bool B)/\w'=X):=fun X d=>by
  rw[N];have l:Below w.heap.size w X:=J.trans (d.mono J.size);have U:=h.below l;exact ZgX X pb t so o bt q bJ a5 U.cells.2.2.1 U.cells.2.1 ((l.cell (p:=⟨t,so+1,none⟩) aV).trans a4)
 have ac:Hid (∀X,Below f.heap.size f X->Calls Tryz.prog 243 #[.pointer (some ⟨pb,100,none⟩),.int .u64 r,.int .i64 q] X fun e n=>e = .returned (.tuple #[])/\RowIs n w.heap.size 188 (Dc s)/\RowIs n a.heap.size 175 [.int .i64 0,.int .u64 0]/\Hid (∀w7,Fr (fun k=>k=a.heap.size) n w7->Zhk w pb z t so o cl hd E es tp tx (.slice R aa T) ps r s q (.returned (.agg #[.int .i64 (q:Nat),.int .u64 (Dp s:Nat)])) w7)):=fun X d=>by
  have l:Below w.heap.size w X:=J.trans (d.mono J.size);have ab:=h.below l;have x1:RowIs X w.heap.size 188 (Dc s):=(d.block _ ak.lt).trans ak;have x2:RowIs X a.heap.size 175 [.int .i64 0,.int .u64 0]:=(d.block _ aH.lt).trans aH;have al:∀k,Own E k->k<w.heap.size:=fun k m=>h.sa.lt m
  have bI:∀k,Own (.slice R aa T) k->k<w.heap.size:=fun k m=>Sl.lt h.sp m
  have aQ:w.heap.size≠pb:=by omega
  have aR:a.heap.size≠pb:=by omega
  refine(ZiG X pb 100 E es r q ab.cells.2.2.2.2.2.1 (ab.row.frozen 100) ab.oa ab.sa aO aT aS).mono ?_;rintro e n ⟨rfl,aI,aB,m1,m2,m3,m4,m5,m6,G⟩;have am:∀k,k≠pb->¬Own E k->k<X.heap.size->n.heap[k]?=X.heap[k]? := fun k h1 h2 h3=>G.block k h3 h1 h2
  refine⟨rfl,(am _ aQ (fun e=>by have:=al _ e;omega) x1.lt).trans x1,(am _ aR (fun e=>by have:=al _ e;omega) x2.lt).trans x2,fun w7 h7=>?_⟩;have O:=ab.put m2 m6 G;have aX:PlanW w7 pb z t so o cl hd aI aB tp tx (.slice R aa T) ps:=by
   have bK:=G.size;refine⟨O.row.fr h7 (show ¬pb=a.heap.size by omega),O.sa.fr h7 (fun g F e=>?_),Sl.fr O.sp h7 (fun g F e=>?_),O.oa,O.op,O.ap⟩
   ·rcases m6 g F with h8|h8
    ·have:=al g h8;omega
    ·have:=x2.lt;omega
   ·have:=bI g F;omega
  refine⟨rfl,aI,aB,aX,m3,m4,m5,?_,fun g F=>(m6 g F).imp id (fun h8=>by have:=l.size;omega)⟩;refine Fr.then (w1:=n) ⟨G.os.trans l.os,G.tape.trans l.tape,G.output.trans l.output,Nat.le_trans l.size G.size,fun k m aE=>?_⟩ h7 (fun k m e=>by omega);rw[am k (fun e=>aE (.inl e)) (fun e=>aE (.inr e)) (Nat.lt_of_lt_of_le m l.size)];exact l.block k m
 have bB:=Db aM;have bl:=Db bx;clear h aN aY a8 aU aT aO aS hh hz bd bq bb a1 aH a7 bc a2 J ak a3 aZ a0 hp aV hD aP a4 a5 hq ba aL aM bv bx N;go_enter Tryz.func272,Tryz.ntmps272;go_upto_region 0 with fail;refine wp_region_lit ?_;refine ZbY rfl 188 _ rfl (Dc s) rfl ?_;rw[show w.alloc (.cells (Dc s).toArray 188)=a from Da bj]
 (try simp only[pE])
 go_upto_region 1 with fail;rw[show a.alloc (.cells #[Value.int .i64 0,.int .u64 0] 175)=f from Da bk];go_upto_region 2 with(go_at_call 300;refine(Da HG).mono ?_;rintro e X ⟨rfl,aC⟩;have ax:=Db aC;clear aC);obtain⟨aG,aw⟩:=Da ay X (Da ax);refine wp_region_held_drew (S:=fun X=>(X.cell? ⟨pb,0,none⟩=some (.pointer (some ⟨z,0,none⟩))/\X.rangeAt w.heap.size 0 (Dc s)/\X.cell? ⟨pb,98,none⟩=some (.bool cl))) (by kernel_rfl) aG (fun au=>?_);refine tk 0 ?_;try simp only[pE];refine tk 1 ?_;try simp only[pE];refine tk 2 ?_;try simp only[pE];refine tk 3 ?_;try simp only[pE];refine tk 4 ?_;try simp only[pE];refine tk 5 ?_;try simp only[pE];refine tk 6 ?_;try simp only[pE];refine tk 7 ?_;try simp only[pE];refine wpAnyH_take (i:=9) (v:=VB) rfl (by kernel_rfl) (by kernel_rfl) (by kernel_rfl) (fun _ _ _ h=>h) (by rw[Da bB];exact yieldsIf_load_mid (by rfl) 188 _ rfl w.heap.size 0 rfl (Dc s) _ (fun X d=>d.2.1) JQ rfl (by rw[D2,Da be])) (by assumption) ?_
 (try simp only[pE])
 refine rk 8 (fun K c=>?_);go_simp;go_at_call 239;refine(Da aw).mono ?_;rintro e X2 ⟨rfl,av,M⟩;go_wp2_with fail;refine c.out _ _ av (fun aj=>?_);clear c K
 (try simp only[pE])
 have bL:=Da bl;clear bl;rcases bL with⟨a6,af⟩|⟨a6,af,bo⟩
 simp only[a6,decide_false,Bool.not_false]at ad;have HQ:=Db af;refine wpAnyH_take (i:=10) (v := .bool true) rfl (by kernel_rfl) (by kernel_rfl) (by kernel_rfl) (fun _ _ _ h=>h) (Or.inl ⟨by rfl,fun V _=>Zep V .neq 188 _ _ _ rfl V0 VB rfl rfl (Da aq V _ _) (Da ad V)⟩) (by assumption) ?_
 (try simp only[pE])
 refine tk 11 ?_;try simp only[pE];refine tk 12 ?_;try simp only[pE];refine tu 13 ?_
 (try simp only[pE])
 refine tu 14 ?_
 (try simp only[pE])
 refine tu 15 ?_
 (try simp only[pE])
 refine tu 16 ?_
 (try simp only[pE])
 refine tu 17 ?_
 (try simp only[pE])
 refine tu 18 ?_
 (try simp only[pE])
 refine tu 19 ?_
 (try simp only[pE])
 refine tu 20 ?_
 (try simp only[pE])
 refine tu 21 ?_
 (try simp only[pE])
 refine tk 22 ?_;try simp only[pE];refine wpAnyH_done (by kernel_rfl) ?_ _;have ag:Below w.heap.size w X2:=(Da ao).trans ((Da M).mono (Da ao).size);have aW:=Db (Da HN _ ag (((Da M).block _ (Da ap).lt).trans (Da ap)) (((Da M).block _ (Da ar).lt).trans (Da ar)));clear ag HN HG aw ay ad aq aG av au aj M az ac af
 rotate_left
 simp only[a6,decide_true,Bool.not_true]at ad;have aK:=Db af;have aA:=Db bo;clear af bo;refine wpAnyH_take (i:=10) (v := .bool false) rfl (by kernel_rfl) (by kernel_rfl) (by kernel_rfl) (fun _ _ _ h=>h) (Or.inl ⟨by rfl,fun V _=>Zep V .neq 188 _ _ _ rfl V0 VB rfl rfl (Da aq V _ _) (Da ad V)⟩) (by assumption) ?_
 (try simp only[pE])
 refine tk 11 ?_;try simp only[pE];refine tk 12 ?_;try simp only[pE];refine tk 13 ?_;try simp only[pE];refine tk 14 ?_;try simp only[pE]
 cases cl
 refine tk 15 ?_;try simp only[pE];refine tk 16 ?_;try simp only[pE];refine tk 17 ?_;try simp only[pE];refine tu 18 ?_
 (try simp only[pE])
 refine tu 19 ?_
 (try simp only[pE])
 refine tu 20 ?_
 (try simp only[pE])
 refine tk 21 ?_;try simp only[pE];refine tk 22 ?_;try simp only[pE];refine wpAnyH_done (by kernel_rfl) ?_ _;have bf:=Db (Da ac _ (Da M));have HQ:=Db (Da aA (fun e=>by cases e));clear ac HG aw ay ad aq aG av au aj M az HN HA aK aA
 rotate_left
 refine tk 15 ?_;try simp only[pE];refine tk 16 ?_;try simp only[pE];refine tk 17 ?_;try simp only[pE];refine tk 18 ?_;try simp only[pE];refine tk 19 ?_;try simp only[pE];refine rk 20 (fun K c=>?_);go_simp;go_at_call 301;refine(Da az X2 (Da M)).mono ?_;rintro e w' ⟨rfl,bw⟩;rw[bw];clear bw;go_wp2_with fail;refine c.out _ _ av (fun bm=>?_);clear c K
 (try simp only[pE])
 refine tk 21 ?_;try simp only[pE];refine tk 22 ?_;try simp only[pE];refine wpAnyH_done (by kernel_rfl) ?_ _
 cases B
 have bf:=Db (Da ac _ (Da M));have HQ:=Db (Da aA (fun _=>of_decide_eq_false (Da aJ).symm));clear ac HG aw ay ad aq aG av au aj M az HN HA bm aK aA aJ
 rotate_left
 have ag:Below w.heap.size w X2:=(Da ao).trans ((Da M).mono (Da ao).size);have aW:=Db (Da HN _ ag (((Da M).block _ (Da ap).lt).trans (Da ap)) (((Da M).block _ (Da ar).lt).trans (Da ar)));have HQ:=Db (Da aK (by first|rfl|trivial) (of_decide_eq_true (Da aJ).symm));clear ag HN HG aw ay ad aq aG av au aj M az ac bm aK aA aJ
 rotate_left
 all_goals try
  go_wp2_with (first|(go_at_call 243;refine(Da bf).mono ?_;rintro e n ⟨rfl,ah,C,HF⟩;have ae:=Db (U8 n (some ⟨w.heap.size,0,none⟩) 64 64 s ⟨W.symm,fun e=>(by cases e),fun j v A=>⟨_,rfl,by rw[Addr.add_lit,Nat.zero_add,ah.cell];exact A⟩⟩ (by rw[W];decide));rw[UW]at ae;have n0:=C.cell 0;have n1:=C.cell 1;have g0:=C.frozen 0;have g1:=C.frozen 1;clear ah C)|(go_at_call 215;refine(Da ae).mono ?_;rintro e w' ⟨rfl,l⟩;rw[l];clear l));exact bodyPost_ret (v := .agg #[.int .i64 (q:Nat),.int .u64 (Dp s:Nat)]) (by simp[results,Tryz.results272,go_sem,n0,n1]) rfl (Da HQ _ _ (Da HF _ (((Fr.refl (fun k=>k=a.heap.size) n).set ⟨a.heap.size,0,none⟩ _ rfl).set ⟨a.heap.size,1,none⟩ _ rfl)))
 all_goals
  go_upto_region 4 with(go_at_call 302;refine(Da aW).mono ?_;rintro e Y ⟨rfl,e2,m3,HY⟩);obtain⟨Z,hZ,sZ,mZ,H,L,I,u,bu,s5,m5,f5,s6,ac⟩:=Da HA Y HY;have HZ:=Db hZ;have bi:=Db sZ;have bg:=Db s5;have bh:=Db s6;clear hZ sZ s5 s6 HA HY;refine wp_region_held_drew (S:=fun X=>X.rangeAt w.heap.size 0 (Dc s)) (by kernel_rfl) e2 (fun au=>?_);refine tk 0 ?_;try simp only[pE];refine tk 1 ?_;try simp only[pE];refine tk 2 ?_;try simp only[pE];refine tk 3 ?_;try simp only[pE];refine tk 5 ?_;try simp only[pE];refine wpAnyH_take (i:=6) (v:=DA s) rfl (by kernel_rfl) (by kernel_rfl) (by kernel_rfl) (fun _ _ _ h=>h) (yieldsIf_load_mid (by rfl) 188 _ rfl w.heap.size 0 rfl (Dc s) _ (fun X d=>d) JQ rfl (by rw[D2,Da be])) (by assumption) ?_
  (try simp only[pE])
  refine wpAnyH_take (i:=7) (v:=pcV p s) rfl (by kernel_rfl) (by kernel_rfl) (by kernel_rfl) (fun _ _ _ h=>h) (Or.inl ⟨by rfl,fun X _=>?_⟩) (by assumption) ?_
  ·exact ZfF X 207 0 1 _ _ rfl (.int .i64 (p:Nat)) (DA s) rfl rfl (Da bA)
  (try simp only[pE])
  refine wpAnyH_ready (rs:=[4,8]) (by kernel_rfl) (by simp) ?_;refine AllReadyH.cons (i:=4) rfl ?_ (AllReadyH.cons (i:=8) rfl ?_ AllReadyH.nil)
  ·intro K c;go_simp;refine c.out _ _ au (fun bE=>?_);clear c K
   (try simp only[pE])
   refine rk 8 (fun K c=>?_);refine ZbL rfl _ rfl p s W rfl ?_;rw[show Y.drew.alloc (.cells (pcL p s).toArray 207)=Z from Da HZ];refine c.out _ _ (Da bi) (fun aj=>?_);clear c K
   (try simp only[pE])
   refine rk 9 (fun K c=>?_);refine JM rfl _ _ 182 182 rfl _ _ rfl rfl bu ?_;refine c.out _ _ (Da bg) (fun bF=>?_);clear c K
   (try simp only[pE])
   refine tk 10 ?_;try simp only[pE];refine tk 11 ?_;try simp only[pE];refine rk 12 (fun K c=>?_);go_simp;refine c.out _ _ (Da bh) (fun bD=>?_);clear c K
   (try simp only[pE])
   refine wpAnyH_done (by kernel_rfl) ?_ _;go_wp2_with (first|(go_at_call 243;refine(Da ac).mono ?_;rintro e n ⟨rfl,ah,C,HF⟩;have ae:=Db (U8 n (some ⟨w.heap.size,0,none⟩) 64 64 s ⟨W.symm,fun e=>(by cases e),fun j v A=>⟨_,rfl,by rw[Addr.add_lit,Nat.zero_add,ah.cell];exact A⟩⟩ (by rw[W];decide));rw[UW]at ae;have n0:=C.cell 0;have n1:=C.cell 1;have g0:=C.frozen 0;have g1:=C.frozen 1;clear ah C)|(go_at_call 215;refine(Da ae).mono ?_;rintro e w' ⟨rfl,l⟩;rw[l];clear l));exact bodyPost_ret (v := .agg #[.int .i64 (p:Nat),.int .u64 (Dp s:Nat)]) (by simp[results,Tryz.results272,go_sem,n0,n1]) rfl (Da HQ _ _ (Da HF _ (((Fr.refl (fun k=>k=a.heap.size) n).set ⟨a.heap.size,0,none⟩ _ rfl).set ⟨a.heap.size,1,none⟩ _ rfl)))
  ·intro K c;refine ZbL rfl _ rfl p s W rfl ?_;rw[show Y.drew.alloc (.cells (pcL p s).toArray 207)=Z from Da HZ];refine c.out _ _ (Da bi) (fun aj=>?_);clear c K
   (try simp only[pE])
   refine rk 4 (fun K c=>?_);go_simp;refine c.out _ _ aj (fun bE=>?_);clear c K
   (try simp only[pE])
   refine rk 9 (fun K c=>?_);refine JM rfl _ _ 182 182 rfl _ _ rfl rfl bu ?_;refine c.out _ _ (Da bg) (fun bF=>?_);clear c K
   (try simp only[pE])
   refine tk 10 ?_;try simp only[pE];refine tk 11 ?_;try simp only[pE];refine rk 12 (fun K c=>?_);go_simp;refine c.out _ _ (Da bh) (fun bD=>?_);clear c K
   (try simp only[pE])
   refine wpAnyH_done (by kernel_rfl) ?_ _;go_wp2_with (first|(go_at_call 243;refine(Da ac).mono ?_;rintro e n ⟨rfl,ah,C,HF⟩;have ae:=Db (U8 n (some ⟨w.heap.size,0,none⟩) 64 64 s ⟨W.symm,fun e=>(by cases e),fun j v A=>⟨_,rfl,by rw[Addr.add_lit,Nat.zero_add,ah.cell];exact A⟩⟩ (by rw[W];decide));rw[UW]at ae;have n0:=C.cell 0;have n1:=C.cell 1;have g0:=C.frozen 0;have g1:=C.frozen 1;clear ah C)|(go_at_call 215;refine(Da ae).mono ?_;rintro e w' ⟨rfl,l⟩;rw[l];clear l));exact bodyPost_ret (v := .agg #[.int .i64 (p:Nat),.int .u64 (Dp s:Nat)]) (by simp[results,Tryz.results272,go_sem,n0,n1]) rfl (Da HQ _ _ (Da HF _ (((Fr.refl (fun k=>k=a.heap.size) n).set ⟨a.heap.size,0,none⟩ _ rfl).set ⟨a.heap.size,1,none⟩ _ rfl)))
structure Env where
 nd:Nat->Int
 cl:Bool
 eb:LI
 bt:Nat
 D:LY
structure Pl where
 hd:Nat
 puts:List (Nat×Nat)
 ps:LB
def Env.at(E:Env)(r:Nat):Option Nat:=(E.eb.find? (fun x=>x.1==(r:Int))).map (fun x=>x.2.toNat)
def Env.stay(E:Env)(r:Nat)(s:By):Option Nat:=
 match E.at r with
 | some q=>if E.D[q]?=some s/\¬(E.cl=true/\q/16≠E.bt/16/\E.nd (q/16)<=8) then some q else none
 | none=>none
def Env.put(E:Env)(st:Pl)(r:Nat)(s:By):Nat×Pl:=
 match E.stay r s with
 | some q=>(q,⟨st.hd,st.puts++[(r,q)],st.ps⟩)
 | none=>(DK E.nd 96 st.hd%1536,⟨DK E.nd 96 st.hd%1536+1,st.puts++[(r,DK E.nd 96 st.hd%1536)],st.ps++[(DK E.nd 96 st.hd%1536,s)]⟩)
structure EnvOk(E:Env):Prop where
 srt:SrtR E.eb
 len:E.eb.length<=10000
 bt:E.bt<1536
 dl:E.D.length=1536
 pl:∀x∈E.eb,∃q:Nat,x.2=(q:Int)/\q<1536
theorem EnvOk.at_some{E:Env}(h:EnvOk E){r q:Nat}(e:E.at r=some q):((r:Int),(q:Int))∈E.eb/\q<1536:=by
 unfold Env.at at e;obtain⟨x,g,rfl⟩:=Option.map_eq_some_iff.1 e;have c:=List.find?_some g;have d:=List.mem_of_find?_eq_some g;obtain⟨q,f,i⟩:=h.pl x d;obtain⟨a,b⟩:=x;simp only[beq_iff_eq]at c;simp only at f;subst c f;exact⟨by simpa using d,by simpa using i⟩
theorem Env.at_none{E:Env}{r:Nat}(e:E.at r=none):∀x∈E.eb,x.1≠r:=fun x a h=>by
 unfold Env.at at e;rw[Option.map_eq_none_iff,List.find?_eq_none]at e;exact e x a (by simp[h])
structure EnvW(w:World)(n0 db sb so:Nat)(E:Env):Prop where
 cb:∃vb,w.cell? ⟨sb,so,none⟩=some vb/\Sl w 350 2 vb E.eb.length (Du E.eb)/\∀k,Own vb k->k<n0
 ct:w.cell? ⟨sb,so+1,none⟩=some (.int .i64 (E.bt:Nat))
 dk:∃vf an ln cn vw ve,DS w db vf (.slice an ln cn) vw ve E.D/\∀k,Own (.slice an ln cn) k->k<n0
 sbl:sb<n0
 dbl:db<n0
theorem EnvW.kept{w w':World}{b g d so:Nat}{E:Env}(h:EnvW w b g d so E)(j:∀k f t z,k<b->w.heap[k]?=some (.cells f t z)->w'.heap[k]?=some (.cells f t z)):EnvW w' b g d so E:=by
 have s:∀(a:Addr) v,a.block<b->w.cell? a=some v->w'.cell? a=some v:=fun a v l e=>by
  obtain⟨f,t,z,r⟩:=Zkv e;exact(World.cell?_of_block ((j _ _ _ _ l r).trans r.symm)).trans e
 have q:∀(e:TypeId) (m:Nat) (v:Value) (n:Nat) (xs:LVa),Sl w e m v n xs->(∀k,Own v k->k<b)->Sl w' e m v n xs:=fun e m v n xs x l=>x.kept (fun k _ u=>by
  obtain⟨R,i⟩:=x.type u;unfold RowIs at i;rw[i];exact j k _ _ _ (l k u) i)
 obtain⟨F,A,B,o⟩:=h.cb;obtain⟨H,y,D,C,vw,G,c,p⟩:=h.dk;refine⟨⟨F,s ⟨d,so,none⟩ _ h.sbl A,q _ _ _ _ _ B o,o⟩,s ⟨d,so+1,none⟩ _ h.sbl h.ct,⟨H,y,D,C,vw,G,⟨j g _ _ _ h.dbl c.1,⟨q _ _ _ _ _ c.2.1.1 p,c.2.1.2⟩,c.2.2⟩,p⟩,h.sbl,h.dbl⟩
def Ql(w:World)(pb db sb so:Nat)(E:Env)(st:Pl)(tp tx:Int)(O:Nat->Prop):Prop:=
 ∃va es vp,PlanW w pb db sb so E.nd E.cl st.hd va es tp tx vp st.ps/\SrtR es/\es.length=st.puts.length/\(∀x,x∈es↔∃y∈st.puts,x=((y.1:Int),(y.2:Int)))/\∀k,O k↔(k=pb\/Own va k\/Own vp k)
def PutX(w:World)(pb db sb so:Nat)(E:Env)(st:Pl)(tp tx:Int)(O:Nat->Prop)(r:Nat)(s:By)(e:Ending)(w':World):Prop:=
 e = .returned (.agg #[.int .i64 ((E.put st r s).1:Nat),.int .u64 (Dp s:Nat)])/\∃O',Ql w' pb db sb so E (E.put st r s).2 tp tx O'/\Fr O w w'/\∀k,O' k->O k\/w.heap.size<=k
theorem ZmJ(w:World)(n0 pb b d so:Nat)(E:Env)(i:EnvOk E)(st:Pl)(f g:Int)(O:Nat->Prop)(h:Ql w pb b d so E st f g O)(z:EnvW w n0 b d so E)(r:Nat)(s:By)(hs:s.size=64)(aa:∀y∈st.puts,y.1≠r)(ad:st.puts.length<=10000)(ab:st.ps.length<=1000000)(X:st.hd<=1536)(hz:∃k,k<96/\E.nd ((st.hd/16+k)%96)<=0):
  Calls Tryz.prog 272 #[.pointer (some ⟨pb,0,none⟩),.int .u64 r,DA s] w (PutX w pb b d so E st f g O r s):=by
 obtain⟨I,es,m,V,U,J,K,c⟩:=h;obtain⟨vb,Q,R,c3⟩:=z.cb;obtain⟨vf,P,ln,S,vw,ve,T,d2⟩:=z.dk;have hn:∀x∈es,x.1≠r:=fun x hx e=>by
  obtain⟨y,j,rfl⟩:=(K x).1 hx;exact aa y j (by have e':(y.1:Int)=(r:Int):=e;omega)
 have L:∀(a:LI) (q:Nat),(∀x,x∈a↔x=((r:Int),(q:Int))\/x∈es)->∀x,x∈a↔∃y∈st.puts++[(r,q)],x=((y.1:Int),(y.2:Int)):=fun a q Y x=>by
  rw[Y x,K x];simp only[List.mem_append,List.mem_singleton];constructor
  ·rintro(rfl|⟨y,j,rfl⟩)
   ·exact⟨_,.inr rfl,rfl⟩
   ·exact⟨y,.inl j,rfl⟩
  ·rintro⟨y,j|rfl,rfl⟩
   ·exact .inr ⟨y,j,rfl⟩
   ·exact .inl rfl
 have ac:∀q,E.stay r s=some q->∀e w',Zhk w pb b d so E.nd E.cl st.hd I es f g m st.ps r s q e w'->PutX w pb b d so E st f g O r s e w':=fun q t e w' ⟨p,l,a,B,C,D,F,G,H⟩=>by
  unfold PutX Env.put;rw[t];refine⟨p,fun k=>k=pb\/Own l k\/Own m k,⟨l,a,m,B,C,by rw[D,J,List.length_append];rfl,L a q F,fun k=>Iff.rfl⟩,G.mono (fun k _ e=>(c k).2 (by rcases e with e|e;exact .inl e;exact .inr (.inl e))),fun k e=>?_⟩;rcases e with e|e|e
  ·exact .inl ((c k).2 (.inl e))
  ·exact(H k e).imp (fun e=>(c k).2 (.inr (.inl e))) id
  ·exact .inl ((c k).2 (.inr (.inr e)))
 have A:E.stay r s=none->∀e w',Q1 w pb b d so E.nd E.cl I es f g m st.ps r s (DK E.nd 96 st.hd%1536) e w'->PutX w pb b d so E st f g O r s e w':=fun t e w' ⟨p,l,a,N,B,C,D,F,G,H,p7⟩=>by
  unfold PutX Env.put;rw[t];refine⟨p,fun k=>k=pb\/Own l k\/Own N k,⟨l,a,N,B,C,by rw[D,J,List.length_append];rfl,L a _ F,fun k=>Iff.rfl⟩,G.mono (fun k _ e=>(c k).2 e),fun k e=>?_⟩;rcases e with e|e|e
  ·exact .inl ((c k).2 (.inl e))
  ·exact(H k e).imp (fun e=>(c k).2 (.inr (.inl e))) id
  ·exact(p7 k e).imp (fun e=>(c k).2 (.inr (.inr e))) id
 refine Zoa w pb b d so E.nd E.cl st.hd I es f g m st.ps V vb E.eb Q R i.len i.srt r vf P ln S vw ve E.D T s hs E.bt i.bt z.ct X hz ab U (by omega) hn _ ?_
 cases ha:E.at r with
 | none=>exact .inl ⟨Env.at_none ha,A (by unfold Env.stay;rw[ha])⟩
 | some q=>
  obtain⟨Z,M⟩:=i.at_some ha;obtain⟨o,u⟩:∃o,E.D[q]?=some o:=⟨_,List.getElem?_eq_getElem (by rw[i.dl];exact M)⟩;refine .inr ⟨q,o,Z,M,u,?_⟩;by_cases n:o=s
  ·refine .inr ⟨n,fun W v=>A (by unfold Env.stay;rw[ha];simp[W,v]),fun v=>ac q (by unfold Env.stay;rw[ha];simp only[u,n,true_and];rw[if_pos (fun e=>v e.1 e.2)])⟩
  ·exact .inl ⟨n,A (by unfold Env.stay;rw[ha];simp[u,n])⟩
end Go.Proofs.YtaieidcohdhgpaaGreatDoor
