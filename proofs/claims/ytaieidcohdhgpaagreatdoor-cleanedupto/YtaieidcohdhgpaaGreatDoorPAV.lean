/- Cleaned. -/
import Derived.Test.YtaieidcohdhgpaaGreatDoorPAU
import Derived.Test.YtaieidcohdhgpaaGreatDoorPAT
namespace Go.Proofs.YtaieidcohdhgpaaGreatDoor
set_option maxHeartbeats 8000000
set_option maxRecDepth 100000
open Go.RowKit
theorem ZjL(w:World)(pb u n so:Nat)(F:Nat->Int)(hd:Nat)(L:Value)(es:LI)(tp tx:Int)(vp:Value)(ps:LB)(h:PlanW w pb u n so F true hd L es tp tx vp ps)
  (vb:Value) (eb:LI) (ap:w.cell? ⟨n,so,none⟩=some vb) (aO:Sl w 350 2 vb eb.length (Ds eb)) (aZ:eb.length<=10000) (au:SrtR eb) (r:Nat) (q:Nat) (hq:((r:Int),(q:Int))∈eb) (vf:Value) (an:OA) (ln cn:Nat) (vw ve:Value) (D:LY) (W:DO w u vf (.slice an ln cn) vw ve D) (s0:By) (ar:D[q]?=some s0) (s:By) (J:s.size=64)
  (bu:s0=s) (bt:Nat) (bs:bt<1536) (bx:q<1536) (br:w.cell? ⟨n,so+1,none⟩=some (.int .i64 (bt:Nat))) (bz:q/16≠bt/16/\F (q/16)<=8) (hh:hd<=1536) (hz:∃k,k<96/\F ((hd/16+k)%96)<=0) (hl:ps.length<=1000000) (a7:SrtR es) (aX:es.length<=10000) (a3:∀x∈es,x.1≠r):
  Calls Tryz.prog 272 #[.pointer (some ⟨pb,0,none⟩),.int .u64 r,Dx s] w (Qb w pb u n so F true L es tp tx vp ps r s (DI F 96 hd%1536)):=by
 obtain⟨c,aP,bb,bv,a5,aT⟩:=De w (Dc s) 188;obtain⟨l,aQ,bc,aY,a8,aU⟩:=De c [.int .i64 0,.int .u64 0] 175;have H:Below w.heap.size w l:=aT.trans (aU.mono (by omega));have bH:=h.row.lt;have av:n<w.heap.size:=World.block_lt_of_cell? _ _ ap;obtain⟨p,hp⟩:∃p,p=DI F 96 hd%1536:=⟨_,rfl⟩;rw[<-hp];have bG:p<1536:=by omega
 have al:RowIs l w.heap.size 188 (Dc s):=aY _ _ _ bb;obtain⟨M,Q,N,rfl⟩:=Sl.shape h.sp;have HG:Hid (Calls Tryz.prog 300 #[.pointer (some ⟨n,so,none⟩),.int .u64 r] l fun e X=>e = .returned (.tuple #[.int .i64 (q:Nat),.bool true])/\Below l.heap.size l X):=(getR l n so vb eb r ((H.cell (p:=⟨n,so,none⟩) av).trans ap) (aO.kept (fun k z _=>H.block k z)) aZ au).mono fun e X ⟨v,b,he,R,U⟩=>by
  rcases R with⟨rfl,hm⟩|⟨_,_,hm⟩
  ·rw[au.same hm hq]at he;exact⟨he,U⟩
  ·exact absurd rfl (hm _ hq)
 obtain⟨V0,aj⟩:∃V,V=Dx s0:=⟨_,rfl⟩;obtain⟨VB,ak⟩:∃V,V=Dx s:=⟨_,rfl⟩;have a6:s0.size=64:=W.2.1.2 s0 (List.mem_of_getElem? ar);have aC:Hid (∀V x y,(eqGuard .neq 188 x y V0 VB).run Tryz.prog V = .ok () V):=fun V x y=>by
  subst aj ak;exact run_eqGuard_agg (P:=Tryz.prog) V .neq 188 x y _ _ UR
 have aD:Hid (∀V,(binOp .neq 188 V0 VB).run Tryz.prog V = .ok (.bool false) V):=fun V=>by
  subst aj ak;rw[UA V s0 s a6 J];simp[bu]
 have aF:Hid (∀X,Below l.heap.size l X->(X.cell? ⟨pb,0,none⟩=some (.pointer (some ⟨u,0,none⟩))/\X.rangeAt w.heap.size 0 (Dc s)/\X.cell? ⟨pb,98,none⟩=some (.bool true))/\Hid (Calls Tryz.prog 239 #[.pointer (some ⟨u,0,none⟩),.int .i64 q] X.drew fun e C=>e = .returned V0/\(C.cell? ⟨pb,0,none⟩=some (.pointer (some ⟨u,0,none⟩))/\C.rangeAt w.heap.size 0 (Dc s)/\C.cell? ⟨pb,98,none⟩=some (.bool true))/\Hid (Below l.heap.size l C))):=fun X d=>by
  have hS:∀X,Below l.heap.size l X->(X.cell? ⟨pb,0,none⟩=some (.pointer (some ⟨u,0,none⟩))/\X.rangeAt w.heap.size 0 (Dc s)/\X.cell? ⟨pb,98,none⟩=some (.bool true)):=fun X d=>by
   have B:Below w.heap.size w X:=H.trans (d.mono H.size);have E:=h.below B;have hr:RowIs X w.heap.size 188 (Dc s):=(d.block _ al.lt).trans al;exact⟨E.cells.1,fun j v m=>by rw[hr.cell,Nat.zero_add];exact m,E.cells.2.2.2.1⟩
  refine⟨hS X d,?_⟩;have B:Below w.heap.size w X:=H.trans (d.mono H.size);have bk:DO X.drew u vf (.slice an ln cn) vw ve D:=⟨(B.block _ W.1.lt).trans W.1,⟨W.2.1.1.kept (fun k z _=>B.block k z),W.2.1.2⟩,W.2.2⟩;refine(Qr X.drew u vf vw ve an ln cn D bk q s0 ar).mono ?_;rintro e C ⟨rfl,U⟩;have aS:Below l.heap.size l C:=d.trans ⟨U.os,U.tape,U.output,U.size,fun k z=>U.block k (by have:=d.size;show k<X.heap.size;omega)⟩;exact⟨by rw[aj],hS C aS,aS⟩
 have aI:Hid (∀X,Below l.heap.size l X->Calls Tryz.prog 301 #[.pointer (some ⟨pb,0,none⟩),.int .i64 q] X fun e w'=>e = .returned (.bool true)/\w'=X):=fun X d=>by
  have B:Below w.heap.size w X:=H.trans (d.mono H.size);have E:=h.below B;refine(ZdP X pb n so F bt q bx bs E.cells.2.2.1 E.cells.2.1 ((B.cell (p:=⟨n,so+1,none⟩) av).trans br)).mono ?_;rintro e w' ⟨rfl,rfl⟩;exact⟨by simp[bz],rfl⟩
 have HN:Hid (∀X,Below w.heap.size w X->RowIs X w.heap.size 188 (Dc s)->RowIs X c.heap.size 175 [.int .i64 0,.int .u64 0]->Calls Tryz.prog 302 #[.pointer (some ⟨pb,0,none⟩)] X fun e Y=>e = .returned (.int .i64 p)/\Y.rangeAt w.heap.size 0 (Dc s)/\Y.cell? ⟨pb,103,none⟩=some (.slice M Q N)/\Hid (PlanW Y pb u n so F true (p+1) L es tp tx (.slice M Q N) ps/\Fr (fun k=>k=pb) w Y/\RowIs Y w.heap.size 188 (Dc s)/\RowIs Y c.heap.size 175 [.int .i64 0,.int .u64 0])):=fun X d q1 q2=>by
  have E:=h.below d;obtain⟨c0,c1,c2,c3,c4,c5,c6⟩:=E.cells;refine(Zfn X pb _ E.row F hd hh c2 c4 (E.row.frozen 99) hz).mono ?_;rintro e Y ⟨p',bw,r0,rfl,r1,r2,r3⟩;have e':p'=p:=by rw[bw,hp]
  subst e';have q3:RowIs Y w.heap.size 188 (Dc s):=q1.fr r2 (by omega);have aN:=E.next p' r0 r2;refine⟨rfl,fun j v m=>by rw[q3.cell,Nat.zero_add];exact m,aN.cells.2.2.2.2.2.2,aN,(Fr.of_below d).then r2 (fun _ _ h=>h),q3,q2.fr r2 (by omega)⟩
 have HA:Hid (∀Y,Hid (PlanW Y pb u n so F true (p+1) L es tp tx (.slice M Q N) ps/\Fr (fun k=>k=pb) w Y/\RowIs Y w.heap.size 188 (Dc s)/\RowIs Y c.heap.size 175 [.int .i64 0,.int .u64 0])->∃Z,Y.drew.alloc (.cells (pcL p s).toArray 207)=Z/\Z.rangeAt w.heap.size 0 (Dc s)/\Z.cell? ⟨pb,103,none⟩=some (.slice M Q N)/\∃o A t f,(Builtin.append_ #[182,182] 182 #[.slice M Q N,.slice (some ⟨Y.heap.size,0,none⟩) 1 1]).run Tryz.prog Z = .ok (.slice o A t) f/\f.rangeAt w.heap.size 0 (Dc s)/\f.cell? ⟨pb,103,none⟩=some (.slice M Q N)/\f.frozen? ⟨pb,103,none⟩=false/\(f.setCell ⟨pb,103,none⟩ (.slice o A t)).rangeAt w.heap.size 0 (Dc s)/\
   Hid (Calls Tryz.prog 243 #[.pointer (some ⟨pb,100,none⟩),.int .u64 r,.int .i64 p] (f.setCell ⟨pb,103,none⟩ (.slice o A t)) fun e G=>e = .returned (.tuple #[])/\RowIs G w.heap.size 188 (Dc s)/\RowIs G c.heap.size 175 [.int .i64 0,.int .u64 0]/\Hid (∀w7,Fr (fun k=>k=c.heap.size) G w7->Qb w pb u n so F true L es tp tx (.slice M Q N) ps r s p (.returned (.agg #[.int .i64 (p:Nat),.int .u64 (Dm s:Nat)])) w7))):=fun Y hY=>by
  obtain⟨E,R,q1,q2⟩:=Da hY;obtain⟨Z,hZ,bA,bF,bI,bq⟩:=De Y.drew (pcL p s) 207;have ag:Below Y.heap.size Y Z:=((Below.refl Y.heap.size Y).drew).trans bq;have af:=E.below ag;have bE:=R.size;have z1:RowIs Z w.heap.size 188 (Dc s):=(ag.block _ q1.lt).trans q1;have z2:RowIs Z c.heap.size 175 [.int .i64 0,.int .u64 0]:=(ag.block _ q2.lt).trans q2;obtain⟨v',f,r1,o,A,t,rfl,r2,r3,r4⟩:=appP Z _ ps af.sp Y.heap.size p s J bA hl;have aq:∀k,Own (.slice M Q N) k->k<w.heap.size:=fun k z=>Sl.lt h.sp z
  have y1:RowIs f w.heap.size 188 (Dc s):=z1.fr r3 (fun e=>by have:=aq _ e;omega);have y2:RowIs f c.heap.size 175 [.int .i64 0,.int .u64 0]:=z2.fr r3 (fun e=>by have:=aq _ e;omega);have y3:RowIs f pb 184 _:=af.row.fr r3 af.op;have ae:=af.piece r2 r3 r4;have a1:w.heap.size≠pb:=by omega
  have a2:c.heap.size≠pb:=by omega
  have bJ:Z.heap.size<=f.heap.size:=r3.size;have x1:RowIs (f.setCell ⟨pb,103,none⟩ (.slice o A t)) w.heap.size 188 (Dc s):=(Below.heap_setCell _ _ _ _ a1).trans y1;have x2:RowIs (f.setCell ⟨pb,103,none⟩ (.slice o A t)) c.heap.size 175 [.int .i64 0,.int .u64 0]:=(Below.heap_setCell _ _ _ _ a2).trans y2;refine⟨Z,hZ,fun j v m=>by rw[z1.cell,Nat.zero_add];exact m,af.cells.2.2.2.2.2.2,o,A,t,f,r1,fun j v m=>by rw[y1.cell,Nat.zero_add];exact m,(y3.cell 103).trans (Jk _ _ _ _ _ _ _ _ _ _ 5),y3.frozen 103,fun j v m=>by rw[x1.cell,Nat.zero_add];exact m,?_⟩;have bK:(f.setCell ⟨pb,103,none⟩ (.slice o A t)).heap.size=f.heap.size:=by simp[World.setCell]
  have aa:Fr (fun k=>k=pb\/Own L k\/Own (.slice M Q N) k) w (f.setCell ⟨pb,103,none⟩ (.slice o A t)):=by
   refine Fr.set ?_ ⟨pb,103,none⟩ _ (.inl rfl);refine Fr.then (Fr.then (w1:=Y) ⟨R.os,R.tape,R.output,R.size,fun k z d=>R.block k z (fun e=>d (.inl e))⟩ (Fr.of_below ag (X:=fun _=>False)) (fun _ _ h=>h.elim)) r3 (fun k _ e => .inr (.inr e))
  refine(Qt _ pb 100 L es r p ae.cells.2.2.2.2.2.1 (ae.row.frozen 100) ae.oa ae.sa aX a7 a3).mono ?_;rintro e G ⟨rfl,bd,aL,m1,m2,m3,m4,m5,m6,m7⟩;have aw:∀k,Own L k->k<w.heap.size:=fun k z=>h.sa.lt z
  have ax:∀k,k≠pb->¬Own L k->k<(f.setCell ⟨pb,103,none⟩ (.slice o A t)).heap.size->G.heap[k]?=(f.setCell ⟨pb,103,none⟩ (.slice o A t)).heap[k]? := fun k h1 h2 h3=>m7.block k h3 h1 h2
  refine⟨rfl,(ax _ a1 (fun e=>by have:=aw _ e;omega) x1.lt).trans x1,(ax _ a2 (fun e=>by have:=aw _ e;omega) x2.lt).trans x2,fun w7 h7=>?_⟩;have ab:=ae.put m2 m6 m7;have bp:PlanW w7 pb u n so F true (p+1) bd aL tp tx (.slice o A t) (ps++[(p,s)]):=by
   have bL:=m7.size;have a0:∀v,(∀g,Own v g->g≠c.heap.size)->∀g,Own v g->¬(fun k=>k=c.heap.size) g:=fun v m g O=>m g O
   refine⟨ab.row.fr h7 (show ¬pb=c.heap.size by omega),ab.sa.fr h7 (a0 _ (fun g O e=>?_)),Sl.fr ab.sp h7 (a0 _ (fun g O e=>?_)),ab.oa,ab.op,ab.ap⟩
   ·rcases m6 g O with T|T
    ·have:=aw g T;omega
    ·have:=x2.lt;omega
   ·rcases r4 g O with T|T
    ·have:=aq g T;omega
    ·have:=z2.lt;omega
  refine⟨rfl,bd,aL,.slice o A t,bp,m3,m4,m5,?_,fun g O=>(m6 g O).imp id (fun T=>by have:=aa.size;omega),fun g O=>(r4 g O).imp id (fun T=>by have:=ag.size;omega)⟩;refine Fr.then (w1:=G) ⟨m7.os.trans aa.os,m7.tape.trans aa.tape,m7.output.trans aa.output,Nat.le_trans aa.size m7.size,fun k z d=>?_⟩ h7 (fun k z e=>by omega);have aR:k≠pb/\¬Own L k:=⟨fun e=>d (.inl e),fun e=>d (.inr (.inl e))⟩;rw[ax k aR.1 aR.2 (Nat.lt_of_lt_of_le z aa.size)];exact aa.block k z d
 have aV:(Dc s).length=64:=by rw[Dh,J]
 have aA:=Db aV;have be:=Db (Q1 p s J);have aK:=Db bc;have aB:=Db al;have az:=Db H;have bD:l.cell? ⟨pb,1,none⟩=some (.pointer (some ⟨n,so,none⟩)):=(h.below H).cells.2.1;have bi:=Db aP;have bj:=Db aQ;have bB:=Db (show c.heap.size=w.heap.size+1 from a5);have bC:=Db (show l.heap.size=c.heap.size+1 from a8);have bh:=Db ak;clear h ap aO aZ au hq a7 aX a3 hh hz bb bv a5 aT bc aY a8 aU H al aV aP aQ hp av aj ak W ar a6;go_enter Tryz.func272,Tryz.ntmps272;go_upto_region 0 with fail;refine wp_region_lit ?_;refine QH rfl 188 _ rfl (Dc s) rfl ?_;rw[show w.alloc (.cells (Dc s).toArray 188)=c from Da bi]
 (try simp only[pE])
 go_upto_region 1 with fail;rw[show c.alloc (.cells #[Value.int .i64 0,.int .u64 0] 175)=l from Da bj];go_upto_region 2 with(go_at_call 300;refine(Da HG).mono ?_;rintro e X ⟨rfl,aM⟩;have bf:=Db aM;clear aM);obtain⟨aW,ay⟩:=Da aF X (Da bf);refine wp_region_held_drew (S:=fun X=>(X.cell? ⟨pb,0,none⟩=some (.pointer (some ⟨u,0,none⟩))/\X.rangeAt w.heap.size 0 (Dc s)/\X.cell? ⟨pb,98,none⟩=some (.bool true))) (by kernel_rfl) aW (fun am=>?_);refine tk 0 ?_;try simp only[pE];refine tk 1 ?_;try simp only[pE];refine tk 2 ?_;try simp only[pE];refine tk 3 ?_;try simp only[pE];refine tk 4 ?_;try simp only[pE];refine tk 5 ?_;try simp only[pE];refine tk 6 ?_;try simp only[pE];refine tk 7 ?_;try simp only[pE];refine wpAnyH_take (i:=9) (v:=VB) rfl (by kernel_rfl) (by kernel_rfl) (by kernel_rfl) (fun _ _ _ h=>h) (by rw[Da bh];exact yieldsIf_load_mid (by rfl) 188 _ rfl w.heap.size 0 rfl (Dc s) _ (fun X d=>d.2.1) JF rfl (by rw[D7,Da aA])) (by assumption) ?_
 (try simp only[pE])
 refine rk 8 (fun K a=>?_);go_simp;go_at_call 239;refine(Da ay).mono ?_;rintro e C ⟨rfl,ao,ad⟩;go_wp2_with fail;refine a.out _ _ ao (fun ai=>?_);clear a K
 (try simp only[pE])
 refine wpAnyH_take (i:=10) (v := .bool false) rfl (by kernel_rfl) (by kernel_rfl) (by kernel_rfl) (fun _ _ _ h=>h) (Or.inl ⟨by rfl,fun V _=>Uc V .neq 188 _ _ _ rfl V0 VB rfl rfl (Da aC V _ _) (Da aD V)⟩) (by assumption) ?_
 (try simp only[pE])
 refine tk 11 ?_;try simp only[pE];refine tk 12 ?_;try simp only[pE];refine tk 13 ?_;try simp only[pE];refine tk 14 ?_;try simp only[pE];refine tk 15 ?_;try simp only[pE];refine tk 16 ?_;try simp only[pE];refine tk 17 ?_;try simp only[pE];refine tk 18 ?_;try simp only[pE];refine tk 19 ?_;try simp only[pE];refine rk 20 (fun K a=>?_);go_simp;go_at_call 301;refine(Da aI C (Da ad)).mono ?_;rintro e w' ⟨rfl,a9⟩;rw[a9];clear a9;go_wp2_with fail;refine a.out _ _ ao (fun bm=>?_);clear a K
 (try simp only[pE])
 refine tk 21 ?_;try simp only[pE];refine tk 22 ?_;try simp only[pE];refine wpAnyH_done (by kernel_rfl) ?_ _;have ba:Below w.heap.size w C:=(Da az).trans ((Da ad).mono (Da az).size);have q1:RowIs C w.heap.size 188 (Dc s):=((Da ad).block _ (Da aB).lt).trans (Da aB);have q2:RowIs C c.heap.size 175 [.int .i64 0,.int .u64 0]:=((Da ad).block _ (Da aK).lt).trans (Da aK);have bg:=Db (Da HN _ ba q1 q2);clear ba q1 q2 HN HG ay aF aD aC aW ao am ai ad aI bm;go_upto_region 4 with(go_at_call 302;refine(Da bg).mono ?_;rintro e Y ⟨rfl,e2,m3,HY⟩);obtain⟨Z,hZ,sZ,mZ,o,A,t,f,a4,s5,m5,f5,s6,aE⟩:=Da HA Y HY;have HZ:=Db hZ;have aJ:=Db sZ;have aG:=Db s5;have aH:=Db s6;clear hZ sZ s5 s6 HA HY;refine wp_region_held_drew (S:=fun X=>X.rangeAt w.heap.size 0 (Dc s)) (by kernel_rfl) e2 (fun am=>?_);refine tk 0 ?_;try simp only[pE];refine tk 1 ?_;try simp only[pE];refine tk 2 ?_;try simp only[pE];refine tk 3 ?_;try simp only[pE];refine tk 5 ?_;try simp only[pE];refine wpAnyH_take (i:=6) (v:=Dx s) rfl (by kernel_rfl) (by kernel_rfl) (by kernel_rfl) (fun _ _ _ h=>h) (yieldsIf_load_mid (by rfl) 188 _ rfl w.heap.size 0 rfl (Dc s) _ (fun X d=>d) JF rfl (by rw[D7,Da aA])) (by assumption) ?_
 (try simp only[pE])
 refine wpAnyH_take (i:=7) (v:=pcV p s) rfl (by kernel_rfl) (by kernel_rfl) (by kernel_rfl) (fun _ _ _ h=>h) (Or.inl ⟨by rfl,fun X _=>?_⟩) (by assumption) ?_
 ·exact Zct X 207 0 1 _ _ rfl (.int .i64 (p:Nat)) (Dx s) rfl rfl (Da be)
 (try simp only[pE])
 refine wpAnyH_ready (rs:=[4,8]) (by kernel_rfl) (by simp) ?_;refine AllReadyH.cons (i:=4) rfl ?_ (AllReadyH.cons (i:=8) rfl ?_ AllReadyH.nil)
 ·intro K a;go_simp;refine a.out _ _ am (fun bn=>?_);clear a K
  (try simp only[pE])
  refine rk 8 (fun K a=>?_);refine K5 rfl _ rfl p s J rfl ?_;rw[show Y.drew.alloc (.cells (pcL p s).toArray 207)=Z from Da HZ];refine a.out _ _ (Da aJ) (fun ai=>?_);clear a K
  (try simp only[pE])
  refine rk 9 (fun K a=>?_);refine Jo rfl _ _ 182 182 rfl _ _ rfl rfl a4 ?_;refine a.out _ _ (Da aG) (fun bo=>?_);clear a K
  (try simp only[pE])
  refine tk 10 ?_;try simp only[pE];refine tk 11 ?_;try simp only[pE];refine rk 12 (fun K a=>?_);go_simp;refine a.out _ _ (Da aH) (fun bl=>?_);clear a K
  (try simp only[pE])
  refine wpAnyH_done (by kernel_rfl) ?_ _;go_wp2_with (first|(go_at_call 243;refine(Da aE).mono ?_;rintro e G ⟨rfl,ah,I,HF⟩;have ac:=Db (KI G (some ⟨w.heap.size,0,none⟩) 64 64 s ⟨J.symm,fun e=>(by cases e),fun j v m=>⟨_,rfl,by rw[Addr.add_lit,Nat.zero_add,ah.cell];exact m⟩⟩ (by rw[J];decide));rw[KG]at ac;have n0:=I.cell 0;have n1:=I.cell 1;have g0:=I.frozen 0;have g1:=I.frozen 1;clear ah I)|(go_at_call 215;refine(Da ac).mono ?_;rintro e w' ⟨rfl,B⟩;rw[B];clear B));exact bodyPost_ret (v := .agg #[.int .i64 (p:Nat),.int .u64 (Dm s:Nat)]) (by simp[results,Tryz.results272,go_sem,n0,n1]) rfl (Da HF _ (((Fr.refl (fun k=>k=c.heap.size) G).set ⟨c.heap.size,0,none⟩ _ rfl).set ⟨c.heap.size,1,none⟩ _ rfl))
 ·intro K a;refine K5 rfl _ rfl p s J rfl ?_;rw[show Y.drew.alloc (.cells (pcL p s).toArray 207)=Z from Da HZ];refine a.out _ _ (Da aJ) (fun ai=>?_);clear a K
  (try simp only[pE])
  refine rk 4 (fun K a=>?_);go_simp;refine a.out _ _ ai (fun bn=>?_);clear a K
  (try simp only[pE])
  refine rk 9 (fun K a=>?_);refine Jo rfl _ _ 182 182 rfl _ _ rfl rfl a4 ?_;refine a.out _ _ (Da aG) (fun bo=>?_);clear a K
  (try simp only[pE])
  refine tk 10 ?_;try simp only[pE];refine tk 11 ?_;try simp only[pE];refine rk 12 (fun K a=>?_);go_simp;refine a.out _ _ (Da aH) (fun bl=>?_);clear a K
  (try simp only[pE])
  refine wpAnyH_done (by kernel_rfl) ?_ _;go_wp2_with (first|(go_at_call 243;refine(Da aE).mono ?_;rintro e G ⟨rfl,ah,I,HF⟩;have ac:=Db (KI G (some ⟨w.heap.size,0,none⟩) 64 64 s ⟨J.symm,fun e=>(by cases e),fun j v m=>⟨_,rfl,by rw[Addr.add_lit,Nat.zero_add,ah.cell];exact m⟩⟩ (by rw[J];decide));rw[KG]at ac;have n0:=I.cell 0;have n1:=I.cell 1;have g0:=I.frozen 0;have g1:=I.frozen 1;clear ah I)|(go_at_call 215;refine(Da ac).mono ?_;rintro e w' ⟨rfl,B⟩;rw[B];clear B));exact bodyPost_ret (v := .agg #[.int .i64 (p:Nat),.int .u64 (Dm s:Nat)]) (by simp[results,Tryz.results272,go_sem,n0,n1]) rfl (Da HF _ (((Fr.refl (fun k=>k=c.heap.size) G).set ⟨c.heap.size,0,none⟩ _ rfl).set ⟨c.heap.size,1,none⟩ _ rfl))
structure Env where
 nd:Nat->Int
 cl:Bool
 eb:LI
 bt:Nat
 D:LY
structure Pl where
 hd:Nat
 puts:List (Nat×Nat)
 ps:LB
def Env.at(E:Env)(r:Nat):Option Nat:=(E.eb.find? (fun x=>x.1==(r:Int))).map (fun x=>x.2.toNat)
def Env.stay(E:Env)(r:Nat)(s:By):Option Nat:=
 match E.at r with
 | some q=>if E.D[q]?=some s/\¬(E.cl=true/\q/16≠E.bt/16/\E.nd (q/16)<=8) then some q else none
 | none=>none
def Env.put(E:Env)(st:Pl)(r:Nat)(s:By):Nat×Pl:=
 match E.stay r s with
 | some q=>(q,⟨st.hd,st.puts++[(r,q)],st.ps⟩)
 | none=>(DI E.nd 96 st.hd%1536,⟨DI E.nd 96 st.hd%1536+1,st.puts++[(r,DI E.nd 96 st.hd%1536)],st.ps++[(DI E.nd 96 st.hd%1536,s)]⟩)
structure EnvOk(E:Env):Prop where
 srt:SrtR E.eb
 len:E.eb.length<=10000
 bt:E.bt<1536
 dl:E.D.length=1536
 pl:∀x∈E.eb,∃q:Nat,x.2=(q:Int)/\q<1536
theorem EnvOk.at_some{E:Env}(h:EnvOk E){r q:Nat}(e:E.at r=some q):((r:Int),(q:Int))∈E.eb/\q<1536:=by
 unfold Env.at at e;obtain⟨x,g,rfl⟩:=Option.map_eq_some_iff.1 e;have c:=List.find?_some g;have d:=List.mem_of_find?_eq_some g;obtain⟨q,f,i⟩:=h.pl x d;obtain⟨a,b⟩:=x;simp only[beq_iff_eq]at c;simp only at f;subst c f;exact⟨by simpa using d,by simpa using i⟩
theorem Env.at_none{E:Env}{r:Nat}(e:E.at r=none):∀x∈E.eb,x.1≠r:=fun x a h=>by
 unfold Env.at at e;rw[Option.map_eq_none_iff,List.find?_eq_none]at e;exact e x a (by simp[h])
structure EnvW(w:World)(n0 db sb so:Nat)(E:Env):Prop where
 cb:∃vb,w.cell? ⟨sb,so,none⟩=some vb/\Sl w 350 2 vb E.eb.length (Ds E.eb)/\∀k,Own vb k->k<n0
 ct:w.cell? ⟨sb,so+1,none⟩=some (.int .i64 (E.bt:Nat))
 dk:∃vf an ln cn vw ve,DO w db vf (.slice an ln cn) vw ve E.D/\∀k,Own (.slice an ln cn) k->k<n0
 sbl:sb<n0
 dbl:db<n0
theorem EnvW.kept{w w':World}{b g d so:Nat}{E:Env}(h:EnvW w b g d so E)(j:∀k f t z,k<b->w.heap[k]?=some (.cells f t z)->w'.heap[k]?=some (.cells f t z)):EnvW w' b g d so E:=by
 have s:∀(a:Addr) v,a.block<b->w.cell? a=some v->w'.cell? a=some v:=fun a v l e=>by
  obtain⟨f,t,z,r⟩:=Zkf e;exact(World.cell?_of_block ((j _ _ _ _ l r).trans r.symm)).trans e
 have q:∀(e:TypeId) (m:Nat) (v:Value) (n:Nat) (xs:LVa),Sl w e m v n xs->(∀k,Own v k->k<b)->Sl w' e m v n xs:=fun e m v n xs x l=>x.kept (fun k _ u=>by
  obtain⟨R,i⟩:=x.type u;unfold RowIs at i;rw[i];exact j k _ _ _ (l k u) i)
 obtain⟨F,A,B,o⟩:=h.cb;obtain⟨H,y,D,C,vw,G,c,p⟩:=h.dk;refine⟨⟨F,s ⟨d,so,none⟩ _ h.sbl A,q _ _ _ _ _ B o,o⟩,s ⟨d,so+1,none⟩ _ h.sbl h.ct,⟨H,y,D,C,vw,G,⟨j g _ _ _ h.dbl c.1,⟨q _ _ _ _ _ c.2.1.1 p,c.2.1.2⟩,c.2.2⟩,p⟩,h.sbl,h.dbl⟩
def Qj(w:World)(pb db sb so:Nat)(E:Env)(st:Pl)(tp tx:Int)(O:Nat->Prop):Prop:=
 ∃va es vp,PlanW w pb db sb so E.nd E.cl st.hd va es tp tx vp st.ps/\SrtR es/\es.length=st.puts.length/\(∀x,x∈es↔∃y∈st.puts,x=((y.1:Int),(y.2:Int)))/\∀k,O k↔(k=pb\/Own va k\/Own vp k)
def PutX(w:World)(pb db sb so:Nat)(E:Env)(st:Pl)(tp tx:Int)(O:Nat->Prop)(r:Nat)(s:By)(e:Ending)(w':World):Prop:=
 e = .returned (.agg #[.int .i64 ((E.put st r s).1:Nat),.int .u64 (Dm s:Nat)])/\∃O',Qj w' pb db sb so E (E.put st r s).2 tp tx O'/\Fr O w w'/\∀k,O' k->O k\/w.heap.size<=k
theorem Zms(w:World)(n0 pb c d so:Nat)(E:Env)(a:EnvOk E)(st:Pl)(f g:Int)(O:Nat->Prop)(h:Qj w pb c d so E st f g O)(L:EnvW w n0 c d so E)(r:Nat)(s:By)(B:s.size=64)(ac:∀y∈st.puts,y.1≠r)(ad:st.puts.length<=10000)(U:st.ps.length<=1000000)(T:st.hd<=1536)(W:∃k,k<96/\E.nd ((st.hd/16+k)%96)<=0):
  Calls Tryz.prog 272 #[.pointer (some ⟨pb,0,none⟩),.int .u64 r,Dx s] w (PutX w pb c d so E st f g O r s):=by
 obtain⟨t,es,j,m,z,h2,h3,l⟩:=h;obtain⟨F,u,v,c3⟩:=L.cb;obtain⟨R,G,M,H,vw,Q,I,d2⟩:=L.dk;have A:∀x∈es,x.1≠r:=fun x hx e=>by
  obtain⟨y,C,rfl⟩:=(h3 x).1 hx;exact ac y C (by have e':(y.1:Int)=(r:Int):=e;omega)
 have aa:∀(i:LI) (q:Nat),(∀x,x∈i↔x=((r:Int),(q:Int))\/x∈es)->∀x,x∈i↔∃y∈st.puts++[(r,q)],x=((y.1:Int),(y.2:Int)):=fun i q hm x=>by
  rw[hm x,h3 x];simp only[List.mem_append,List.mem_singleton];constructor
  ·rintro(rfl|⟨y,C,rfl⟩)
   ·exact⟨_,.inr rfl,rfl⟩
   ·exact⟨y,.inl C,rfl⟩
  ·rintro⟨y,C|rfl,rfl⟩
   ·exact .inr ⟨y,C,rfl⟩
   ·exact .inl rfl
 have P:∀q,E.stay r s=some q->∀e w',Q8 w pb c d so E.nd E.cl st.hd t es f g j st.ps r s q e w'->PutX w pb c d so E st f g O r s e w':=fun q b e w' ⟨S,D,i,X,Y,Z,p4,p5,p6⟩=>by
  unfold PutX Env.put;rw[b];refine⟨S,fun k=>k=pb\/Own D k\/Own j k,⟨D,i,j,X,Y,by rw[Z,h2,List.length_append];rfl,aa i q p4,fun k=>Iff.rfl⟩,p5.mono (fun k _ e=>(l k).2 (by rcases e with e|e;exact .inl e;exact .inr (.inl e))),fun k e=>?_⟩;rcases e with e|e|e
  ·exact .inl ((l k).2 (.inl e))
  ·exact(p6 k e).imp (fun e=>(l k).2 (.inr (.inl e))) id
  ·exact .inl ((l k).2 (.inr (.inr e)))
 have N:E.stay r s=none->∀e w',Qb w pb c d so E.nd E.cl t es f g j st.ps r s (DI E.nd 96 st.hd%1536) e w'->PutX w pb c d so E st f g O r s e w':=fun b e w' ⟨S,D,i,ab,X,Y,Z,p4,p5,p6,p7⟩=>by
  unfold PutX Env.put;rw[b];refine⟨S,fun k=>k=pb\/Own D k\/Own ab k,⟨D,i,ab,X,Y,by rw[Z,h2,List.length_append];rfl,aa i _ p4,fun k=>Iff.rfl⟩,p5.mono (fun k _ e=>(l k).2 e),fun k e=>?_⟩;rcases e with e|e|e
  ·exact .inl ((l k).2 (.inl e))
  ·exact(p6 k e).imp (fun e=>(l k).2 (.inr (.inl e))) id
  ·exact(p7 k e).imp (fun e=>(l k).2 (.inr (.inr e))) id
 cases ha:E.at r with
 | none=>
  have b:E.stay r s=none:=by unfold Env.stay;rw[ha]
  exact(ZjM w pb c d so E.nd E.cl st.hd t es f g j st.ps m F E.eb u v a.len a.srt r (Env.at_none ha) z (by omega) A T W s B U).mono (N b)
 | some q=>
  obtain⟨J,V⟩:=a.at_some ha;obtain⟨p,o⟩:∃p,E.D[q]?=some p:=⟨_,List.getElem?_eq_getElem (by rw[a.dl];exact V)⟩;by_cases n:p=s
  ·cases hcl:E.cl with
   | false=>
    have b:E.stay r s=some q:=by unfold Env.stay;rw[ha];simp[o,n,hcl]
    rw[hcl]at m P;exact(Zmr w pb c d so E.nd st.hd t es f g j st.ps m F E.eb u v a.len a.srt r q J R G M H vw Q E.D I p o s B n z (by omega) A).mono (P q b)
   | true=>
    rw[hcl]at m P N;by_cases K:q/16≠E.bt/16/\E.nd (q/16)<=8
    ·have b:E.stay r s=none:=by unfold Env.stay;rw[ha];simp[hcl,K]
     exact(ZjL w pb c d so E.nd st.hd t es f g j st.ps m F E.eb u v a.len a.srt r q J R G M H vw Q E.D I p o s B n E.bt a.bt V L.ct K T W U z (by omega) A).mono (N b)
    ·have b:E.stay r s=some q:=by unfold Env.stay;rw[ha];simp only[o,n,hcl,true_and];rw[if_pos K]
     exact(ZkQ w pb c d so E.nd st.hd t es f g j st.ps m F E.eb u v a.len a.srt r q J R G M H vw Q E.D I p o s B n E.bt a.bt V L.ct K z (by omega) A).mono (P q b)
  ·have b:E.stay r s=none:=by unfold Env.stay;rw[ha];simp[o,n]
   exact(Zit w pb c d so E.nd E.cl st.hd t es f g j st.ps m F E.eb u v a.len a.srt r q J R G M H vw Q E.D I p o s B n T W U z (by omega) A).mono (N b)
section
open Go.RowKit Go.Shelf
attribute [local go_sem] Oper.semAt_some
theorem ZkJ(w:World)(M:Nat)(hM:M<=1000)(n0 pb:Nat)(z:Nat)(aN:z<65536)(g off p y:Nat)(s:By)(au:RdB w (some ⟨g,off,none⟩) p y s)(aQ:p<=y)(hl:p<60000)(P X:List Nat->Nat->Nat)(Q:List Nat->(Nat->Prop)->World->Prop)(G O0:Nat->Prop)(H:List Nat->By)
  (aR:n0<=w.heap.size) (L:ZeM M n0 pb 2 z s 60 P X Q) (aJ:H []=⟨#[]⟩) (aI:∀q x,H (q++[x])=H q++DG (P q x) (X q x)) (aK:∀q,(H q).size=10*q.length)
  (av:Q [] O0 w) (aH:∀j,O0 j->G j) (ak:∀j,G j->j<w.heap.size) (aP:¬G g) (aO:g<w.heap.size) (N:Nat) (hN:N=(p+60-1)/60) (aU:N<=M):
  Calls Tryz.prog 237 #[.pointer (some ⟨pb,0,none⟩),.int .u8 2,.int .i64 (z:Nat),.slice (some ⟨g,off,none⟩) p y] w (Zl4 w (w.heap.size+7) Q G H N):=by
 obtain⟨W1,e1,x1,k1,s1,b1⟩:=De w [.pointer (some ⟨pb,0,none⟩)] 168;obtain⟨W2,e2,x2,k2,s2,b2⟩:=De W1 [.int .u8 2] 300;obtain⟨W3,e3,x3,k3,s3,b3⟩:=De W2 [.int .i64 (z:Nat)] 3;obtain⟨W4,e4,x4,k4,s4,b4⟩:=De W3 [.slice none 0 0] 59;obtain⟨W5,e5,x5,k5,s5,b5⟩:=De W4 [.int .i64 0] 3;obtain⟨W6,e6,x6,k6,s6,b6⟩:=De W5 [.slice (some ⟨g,off,none⟩) p y] 59;obtain⟨R,e7,x7,Z,s7,b7⟩:=De W6 [.int .i64 60] 3;have J:Below w.heap.size w R:=b1.trans ((b2.mono (by omega)).trans ((b3.mono (by omega)).trans ((b4.mono (by omega)).trans ((b5.mono (by omega)).trans ((b6.mono (by omega)).trans (b7.mono (by omega)))))));have y1:=Z _ _ _ (k6 _ _ _ (k5 _ _ _ (k4 _ _ _ (k3 _ _ _ (k2 _ _ _ x1)))));have y2:=Z _ _ _ (k6 _ _ _ (k5 _ _ _ (k4 _ _ _ (k3 _ _ _ x2))));have y3:=Z _ _ _ (k6 _ _ _ (k5 _ _ _ (k4 _ _ _ x3)));have y4:=Z _ _ _ (k6 _ _ _ (k5 _ _ _ x4));have y5:=Z _ _ _ (k6 _ _ _ x5);have y6:=Z _ _ _ x6;have t2:W2.heap.size=w.heap.size+1+1:=by omega
 have t3:W3.heap.size=w.heap.size+1+1+1:=by omega
 have t4:W4.heap.size=w.heap.size+1+1+1+1:=by omega
 have t5:W5.heap.size=w.heap.size+1+1+1+1+1:=by omega
 have t6:W6.heap.size=w.heap.size+1+1+1+1+1+1:=by omega
 have I:R.heap.size=w.heap.size+7:=by omega
 rw[s1]at y2;rw[t2]at y3;rw[t3]at y4;rw[t4]at y5;rw[t5]at y6;rw[t6]at x7;have hB:BoxB w (w.heap.size+7) w.heap.size (w.heap.size+1) (w.heap.size+1+1) (w.heap.size+1+1+1) (w.heap.size+1+1+1+1) g p G:=⟨rfl,rfl,rfl,rfl,rfl,by omega,ak,aP,aO⟩;have aq:RowE w (w.heap.size+7) w.heap.size (w.heap.size+1) (w.heap.size+1+1) (w.heap.size+1+1+1) (w.heap.size+1+1+1+1) pb 2 z g off p y s Q G H [] R:=⟨.slice none 0 0,O0,L.abides _ _ _ _ none av ⟨J.os,J.tape,J.output,J.size,fun k hk _=>J.block k hk⟩ (fun r e=>by cases e),fun j hj => .inl (aH j hj),y1,y2,y3,y4,y5,by rw[aJ];exact SlB.nil _ _,fun j _ e=>by simp[Own,Value.ownBlock]at e,au.below J,Fr.of_below J,by omega⟩;have aF:=Db aq;have al:=Db I;have ad:=Db hB;have ay:=Db e1;have az:=Db e2;have aA:=Db e3;have aB:=Db e4;have aC:=Db e5;have aD:=Db e6;have aE:=Db e7;have am:R.cell? ⟨(w.heap.size+1+1+1+1+1),0,none⟩=some (.slice (some ⟨g,off,none⟩) p y):=(y6.cell 0).trans rfl;have an:R.cell? ⟨(w.heap.size+1+1+1+1+1+1),0,none⟩=some (.int .i64 60):=(x7.cell 0).trans rfl;have aw:=Db am;have ax:=Db an;clear x1 x2 x3 x4 x5 x6 x7 k1 k2 k3 k4 k5 k6 Z s1 s2 s3 s4 s5 s6 s7 b1 b2 b3 b4 b5 b6 b7 y1 y2 y3 y4 y5 y6 t2 t3 t4 t5 t6 I e1 e2 e3 e4 e5 e6 e7 J aq am an av au hB;refine(callsIn_wide (n:=3)).1 ?_;refine callsIn_of_wp_marks Tryz.func237 rfl trivial ?_ rfl;simp only[Tryz.ntmps237,List.size_toArray,List.length_cons,List.length_nil,Nat.reduceAdd,Nat.reduceSub,Array.replicate_succ,Array.replicate_zero,List.push_toArray,List.append_toArray,List.nil_append,List.cons_append]
 gi_wp2_with (refine⟨trivial,?_⟩;gi_at_call 172;refine(U0 _ 60 (by omega) (by omega) _ _ ⟨_,_,_,rfl⟩).mono ?_;rintro e w' ⟨rfl,rfl⟩)
 rw[show w.alloc (.cells #[.pointer (some ⟨pb,0,none⟩)] 168)=W1 from Da ay,show W1.alloc (.cells #[.int .u8 2] 300)=W2 from Da az,show W2.alloc (.cells #[.int .i64 (z:Nat)] 3)=W3 from Da aA,show W3.alloc (.cells #[.slice none 0 0] 59)=W4 from Da aB,show W4.alloc (.cells #[.int .i64 0] 3)=W5 from Da aC,show W5.alloc (.cells #[.slice (some ⟨g,off,none⟩) p y] 59)=W6 from Da aD,show W6.alloc (.cells #[.int .i64 60] 3)=R from Da aE];rename_i K0 aG;have I:=Da al;have aV:N<=1000:=by rw[hN];omega
 refine wpIn_rangeFunc_ownF (α := Nat) rfl (by omega) (gf:=220) (lb := #[.pointer (some ⟨(w.heap.size+1+1+1+1+1),0,none⟩),.pointer (some ⟨(w.heap.size+1+1+1+1+1+1),0,none⟩)]) rfl trivial (enters_of Tryz.func220 (by kernel_rfl) rfl)
  (Zdp 2 (by omega) (w.heap.size+1+1+1+1+1) (w.heap.size+1+1+1+1+1+1) g off 60 p y (by omega) (by omega) aQ (by omega) N hN R (by omega) (by omega) (Da aw) (Da ax) (QP (w.heap.size+7) (w.heap.size+1+1+1) (w.heap.size+1+1+1+1) G)
   (fun A B ap h1 h2=>⟨(World.cell?_of_block (w:=A) (a:=⟨(w.heap.size+1+1+1+1+1),0,none⟩) (ap.2 (w.heap.size+1+1+1+1+1) (by omega) (fun e=>by have:=ak _ e;omega) (by omega) (by omega))).trans h1,(World.cell?_of_block (w:=A) (a:=⟨(w.heap.size+1+1+1+1+1+1),0,none⟩) (ap.2 (w.heap.size+1+1+1+1+1+1) (by omega) (fun e=>by have:=ak _ e;omega) (by omega) (by omega))).trans h2⟩))
  (fun h1 h2=>⟨Nat.le_trans h1.1 h2.1,fun k a b c d=>(h2.2 k a b c d).trans (h1.2 k a b c d)⟩)
  (fun X l o o' hl ho _ _=>⟨by simp[World.putObj],fun k hk _ _ _=>by
   have:=I;simp only[World.putObj];rw[Array.getElem?_setIfInBounds];rw[if_neg (by omega)]⟩)
  (Below.refl _ _) (fun _=>rfl)
  (fun q X=>RowE w (w.heap.size+7) w.heap.size (w.heap.size+1) (w.heap.size+1+1) (w.heap.size+1+1+1) (w.heap.size+1+1+1+1) pb 2 z g off p y s Q G H q X)
  (fun _ _ _=>False)
  (fun q A B row hs hg hr=>by
   obtain⟨v,O,h⟩:=hs;exact⟨v,O,h.own L (Da ad) hg (fun r e=>by rw[<-I];exact hr r e)⟩)
  (fun _ _ _ _ _ hs _ _=>hs)
  (Da aF)
  (fun x=>{ tmps := #[.pointer (some ⟨pb,0,none⟩),.int .u8 2,.int .i64 (z:Nat),.slice (some ⟨g,off,none⟩) p y,.pointer (some ⟨w.heap.size,0,none⟩),.pointer (some ⟨(w.heap.size+1),0,none⟩),.pointer (some ⟨(w.heap.size+1+1),0,none⟩),undef,.slice none 0 0,.int .i64 60,.pointer (some ⟨(w.heap.size+1+1+1),0,none⟩),.pointer (some ⟨(w.heap.size+1+1+1+1),0,none⟩),chV g off 60 p x,.int .u8 2,.bool true,.int .i64 63,.int .i64 60,.slice (some ⟨g,off,none⟩) p y,.int .i64 60,.func (.func 220) #[] #[.pointer (some ⟨(w.heap.size+1+1+1+1+1),0,none⟩),.pointer (some ⟨(w.heap.size+1+1+1+1+1+1),0,none⟩)],chV g off 60 p x,undef,undef,undef,undef,undef,undef,undef,undef,undef,undef,undef,undef,undef,undef],defers:=[] })
  ?assign ?body ?done ?stop
 case assign=>
  intro l x X K f;clear I
  gi_wp2
  exact f
 case body=>
  rintro l q x W ⟨v,O,t⟩ aW;obtain⟨ra,rl,rc,rfl⟩:=t.rs.1.shape;obtain⟨h4,h7,h8,ao⟩:=Zhy w M hM n0 (w.heap.size+7) w.heap.size (w.heap.size+1) (w.heap.size+1+1) (w.heap.size+1+1+1) (w.heap.size+1+1+1+1) pb 2 z aN g off p y s 60 (by omega) P X Q G H (Da ad) aR L aI aK q x (by omega) W ra rl rc O t;have H4:=Db h4;have H7:=Db h7;have H8:=Db h8;have ac:=Db ao;have m:Hid (K6 w (w.heap.size+7) w.heap.size (w.heap.size+1) (w.heap.size+1+1) (w.heap.size+1+1+1) (w.heap.size+1+1+1+1) pb 2 z g off p y s Q G H q q (.slice ra rl rc) O O W W.drew):=⟨t.below L (Below.refl _ _).drew,⟨rfl,rfl,rfl,Nat.le_refl _,fun _ _ _=>rfl⟩⟩;have aL:Jr w.heap.size (w.heap.size+1) (w.heap.size+1+1) (w.heap.size+1+1+1+1) pb 2 z q.length W.drew:=⟨t.b4.cell,t.b5.cell,t.b6.cell,t.b11.cell⟩;have Y:W.drew.cell? ⟨(w.heap.size+1+1+1),0,none⟩=some (.slice ra rl rc):=t.b10.cell;clear h4 h7 h8 ao t I
  gi_step
  gi_step
  gi_step
  refine ZbI (Jr w.heap.size (w.heap.size+1) (w.heap.size+1+1) (w.heap.size+1+1+1+1) pb 2 z q.length) (by kernel_rfl) (fun hh=>by obtain⟨_,_,hh⟩:=hh;exact hh) (by kernel_rfl) aL (fun aT=>?_);refine wpAnyH_take (i:=0) (v:=?_) rfl (by kernel_rfl) (by kernel_rfl) (by kernel_rfl) (fun _ _ _ h=>h) (Or.inl ⟨by rfl,?_⟩) (by assumption) ?_
  rotate_left
  ·intro w F;(try unfold Jr at F);go_simp<;>with_reducible rfl
  (try simp only[pE])
  refine wpAnyH_take (i:=1) (v:=?_) rfl (by kernel_rfl) (by kernel_rfl) (by kernel_rfl) (fun _ _ _ h=>h) (Or.inl ⟨by rfl,?_⟩) (by assumption) ?_
  rotate_left
  ·intro w F;(try unfold Jr at F);go_simp<;>with_reducible rfl
  (try simp only[pE])
  refine wpAnyH_take (i:=2) (v:=?_) rfl (by kernel_rfl) (by kernel_rfl) (by kernel_rfl) (fun _ _ _ h=>h) (Or.inl ⟨by rfl,?_⟩) (by assumption) ?_
  rotate_left
  ·intro w F;(try unfold Jr at F);go_simp<;>with_reducible rfl
  (try simp only[pE])
  refine wpAnyH_take (i:=3) (v:=?_) rfl (by kernel_rfl) (by kernel_rfl) (by kernel_rfl) (fun _ _ _ h=>h) (Or.inl ⟨by rfl,?_⟩) (by assumption) ?_
  rotate_left
  ·intro w F;(try unfold Jr at F);go_simp<;>with_reducible rfl
  (try simp only[pE])
  refine wpAnyH_take (i:=5) (v:=?_) rfl (by kernel_rfl) (by kernel_rfl) (by kernel_rfl) (fun _ _ _ h=>h) (Or.inl ⟨by rfl,?_⟩) (by assumption) ?_
  rotate_left
  ·intro w F;(try unfold Jr at F);go_simp<;>with_reducible rfl
  (try simp only[pE])
  refine wpAnyH_take (i:=6) (v:=?_) rfl (by kernel_rfl) (by kernel_rfl) (by kernel_rfl) (fun _ _ _ h=>h) (Or.inl ⟨by rfl,?_⟩) (by assumption) ?_
  rotate_left
  ·intro w F;(try unfold Jr at F);go_simp<;>with_reducible rfl
  (try simp only[pE])
  refine wpAnyH_ready (rs:=[4,9]) (by kernel_rfl) (by simp) ?_;refine(AllReadyH.cons (i:=4) rfl ?_ (AllReadyH.cons (i:=9) rfl ?_ AllReadyH.nil))
  ·intro K f;go_simp;go_at_call 244;refine(Da H4 _).mono ?_;rintro e w' ⟨rfl,hw⟩;rw[hw];clear hw;go_wp2_with fail;refine f.out _ _ (by assumption) (fun aM=>?_);clear f K
   (try simp only[pE])
   refine wpAnyH_ready (rs:=[7,9]) (by kernel_rfl) (by simp) ?_;refine(AllReadyH.cons (i:=7) rfl ?_ (AllReadyH.cons (i:=9) rfl ?_ AllReadyH.nil))
   ·intro K f;go_simp;go_at_call 213;refine(Da H7 _ (Da m)).mono ?_;clear m;rintro e V ⟨rfl,ab,Y,m⟩;go_wp2_with fail;refine f.out _ _ ab (fun ar=>?_);clear f K
    (try simp only[pE])
    refine wpAnyH_ready (rs:=[8,9]) (by kernel_rfl) (by simp) ?_;refine(AllReadyH.cons (i:=8) rfl ?_ (AllReadyH.cons (i:=9) rfl ?_ AllReadyH.nil))
    ·intro K f;go_simp;go_at_call 272;refine(Da H8 _ (Da m)).mono ?_;clear m;rintro e V8 ⟨rfl,U,Y,m⟩;go_wp2_with fail;refine f.out _ _ U (fun af=>?_);clear f K
     (try simp only[pE])
     refine wpAnyH_ready (rs:=[9]) (by kernel_rfl) (by simp) ?_;refine(AllReadyH.cons (i:=9) rfl ?_ AllReadyH.nil)
     ·intro K f;go_simp;refine f.out _ _ (by assumption) (fun ag=>?_);clear f K
      (try simp only[pE])
      refine rk 10 (fun K f=>?_);go_simp;go_at_call 214;refine(Da ac _ (Da m)).mono ?_;clear m;rintro e ae ⟨a',l',c',rfl,C,E,ah,ai,aj,u⟩;go_wp2_with fail;refine f.out _ _ C (fun S=>?_);clear f K
      (try simp only[pE])
      refine rk 11 (fun K f=>?_);go_simp;refine f.out _ _ E (fun T=>?_);clear f K
      (try simp only[pE])
      refine wpAnyH_done (by kernel_rfl) ?_ _;have cT:=E.2.2.2;clear C S T
      gi_wp2
      exact⟨(Da u).1,(Da u).2.1,(Da u).2.2⟩
    ·intro K f;go_simp;refine f.out _ _ (by assumption) (fun ag=>?_);clear f K
     (try simp only[pE])
     refine wpAnyH_ready (rs:=[8]) (by kernel_rfl) (by simp) ?_;refine(AllReadyH.cons (i:=8) rfl ?_ AllReadyH.nil)
     ·intro K f;go_simp;go_at_call 272;refine(Da H8 _ (Da m)).mono ?_;clear m;rintro e V8 ⟨rfl,U,Y,m⟩;go_wp2_with fail;refine f.out _ _ U (fun af=>?_);clear f K
      (try simp only[pE])
      refine rk 10 (fun K f=>?_);go_simp;go_at_call 214;refine(Da ac _ (Da m)).mono ?_;clear m;rintro e ae ⟨a',l',c',rfl,C,E,ah,ai,aj,u⟩;go_wp2_with fail;refine f.out _ _ C (fun S=>?_);clear f K
      (try simp only[pE])
      refine rk 11 (fun K f=>?_);go_simp;refine f.out _ _ E (fun T=>?_);clear f K
      (try simp only[pE])
      refine wpAnyH_done (by kernel_rfl) ?_ _;have cT:=E.2.2.2;clear C S T
      gi_wp2
      exact⟨(Da u).1,(Da u).2.1,(Da u).2.2⟩
   ·intro K f;go_simp;refine f.out _ _ (by assumption) (fun ag=>?_);clear f K
    (try simp only[pE])
    refine wpAnyH_ready (rs:=[7]) (by kernel_rfl) (by simp) ?_;refine(AllReadyH.cons (i:=7) rfl ?_ AllReadyH.nil)
    ·intro K f;go_simp;go_at_call 213;refine(Da H7 _ (Da m)).mono ?_;clear m;rintro e V ⟨rfl,ab,Y,m⟩;go_wp2_with fail;refine f.out _ _ ab (fun ar=>?_);clear f K
     (try simp only[pE])
     refine wpAnyH_ready (rs:=[8]) (by kernel_rfl) (by simp) ?_;refine(AllReadyH.cons (i:=8) rfl ?_ AllReadyH.nil)
     ·intro K f;go_simp;go_at_call 272;refine(Da H8 _ (Da m)).mono ?_;clear m;rintro e V8 ⟨rfl,U,Y,m⟩;go_wp2_with fail;refine f.out _ _ U (fun af=>?_);clear f K
      (try simp only[pE])
      refine rk 10 (fun K f=>?_);go_simp;go_at_call 214;refine(Da ac _ (Da m)).mono ?_;clear m;rintro e ae ⟨a',l',c',rfl,C,E,ah,ai,aj,u⟩;go_wp2_with fail;refine f.out _ _ C (fun S=>?_);clear f K
      (try simp only[pE])
      refine rk 11 (fun K f=>?_);go_simp;refine f.out _ _ E (fun T=>?_);clear f K
      (try simp only[pE])
      refine wpAnyH_done (by kernel_rfl) ?_ _;have cT:=E.2.2.2;clear C S T
      gi_wp2
      exact⟨(Da u).1,(Da u).2.1,(Da u).2.2⟩
  ·intro K f;go_simp;refine f.out _ _ (by assumption) (fun ag=>?_);clear f K
   (try simp only[pE])
   refine wpAnyH_ready (rs:=[4]) (by kernel_rfl) (by simp) ?_;refine(AllReadyH.cons (i:=4) rfl ?_ AllReadyH.nil)
   ·intro K f;go_simp;go_at_call 244;refine(Da H4 _).mono ?_;rintro e w' ⟨rfl,hw⟩;rw[hw];clear hw;go_wp2_with fail;refine f.out _ _ (by assumption) (fun aM=>?_);clear f K
    (try simp only[pE])
    refine wpAnyH_ready (rs:=[7]) (by kernel_rfl) (by simp) ?_;refine(AllReadyH.cons (i:=7) rfl ?_ AllReadyH.nil)
    ·intro K f;go_simp;go_at_call 213;refine(Da H7 _ (Da m)).mono ?_;clear m;rintro e V ⟨rfl,ab,Y,m⟩;go_wp2_with fail;refine f.out _ _ ab (fun ar=>?_);clear f K
     (try simp only[pE])
     refine wpAnyH_ready (rs:=[8]) (by kernel_rfl) (by simp) ?_;refine(AllReadyH.cons (i:=8) rfl ?_ AllReadyH.nil)
     ·intro K f;go_simp;go_at_call 272;refine(Da H8 _ (Da m)).mono ?_;clear m;rintro e V8 ⟨rfl,U,Y,m⟩;go_wp2_with fail;refine f.out _ _ U (fun af=>?_);clear f K
      (try simp only[pE])
      refine rk 10 (fun K f=>?_);go_simp;go_at_call 214;refine(Da ac _ (Da m)).mono ?_;clear m;rintro e ae ⟨a',l',c',rfl,C,E,ah,ai,aj,u⟩;go_wp2_with fail;refine f.out _ _ C (fun S=>?_);clear f K
      (try simp only[pE])
      refine rk 11 (fun K f=>?_);go_simp;refine f.out _ _ E (fun T=>?_);clear f K
      (try simp only[pE])
      refine wpAnyH_done (by kernel_rfl) ?_ _;have cT:=E.2.2.2;clear C S T
      gi_wp2
      exact⟨(Da u).1,(Da u).2.1,(Da u).2.2⟩
 case done=>
  rintro D ys X hD rfl ⟨v,O,t⟩ f;have aS:=t.b10.cell;obtain⟨ra,rl,rc,rfl⟩:=t.rs.1.shape;have HR:=Db t;clear t I;show K0 _ _;refine aG _ _ ?_
  gi_wp2
  have t:=Da HR;have I:=Da al;refine⟨by simp,.inl ⟨_,_,rfl,run_takeDeferred f,?_⟩⟩;have hg:X.grownBy (X.putObj D (.deferred none)) (some D):=⟨rfl,rfl,rfl,by simp[World.putObj],fun k _ hk=>by
   simp only[World.putObj];rw[Array.getElem?_setIfInBounds,if_neg (fun e=>hk (by rw[e]))]⟩
  have aa:=t.own L (Da ad) hg (fun r e=>by cases e;exact⟨by omega,_,f,rfl⟩);exact⟨_,results_tmp rfl _ _ _,ra,rl,rc,O,rfl,aa.rs,aa.st,aa.hO,aa.dis,aa.fr⟩
 case stop=>
  rintro D c q X _ _ h _;exact h.elim
end
end Go.Proofs.YtaieidcohdhgpaaGreatDoor
