/- Cleaned. -/
import Derived.Test.YtaieidcohdhgpaaGreatDoorPAR
import Derived.Stop.BytesEq
namespace Go.Proofs.YtaieidcohdhgpaaGreatDoor
set_option maxHeartbeats 8000000
set_option maxRecDepth 100000
open Go.RowKit
theorem Uc{P:Program}{o:Oper}{a:Act}(X:World)(b:BinOp)(t:TypeId)(x y:Operand)(ty:TypeId)(ho:o.op = .binOp b t x y ty)(u v:Value)(e:a.eval x=u)(f:a.eval y=v)(c:(eqGuard b t x y u v).run P X = .ok () X){r:Value}(d:(binOp b t u v).run P X = .ok r X):(execOp a.eval o).run P X = .ok (.value r) X:=by
 unfold execOp;simp only[ho,Sem.run_bind,e,f,c,d,Result.andThen_ok]
 rfl
theorem UR:Tryz.prog.eqGuardType Tryz.prog.depth 188=false:=by kernel_rfl
theorem UB:Tryz.prog.underlying 188=some (.array 64 5):=by kernel_rfl
theorem U9(s:By):Dx s = .agg (s.data.toList.map Extern.Stop.cell).toArray:=rfl
theorem ZmN(w:World)(a b:By)(c:a.size=64)(d:b.size=64):(Op.equalIn 10000 188 (Dx a) (Dx b)).run Tryz.prog w = .ok (decide (a=b)) w:=by
 rw[U9,U9,run_equalIn_bytes w 9998 188 5 64 UB Tryz.underlying5 (fun w=>by kernel_rfl) a.data.toList b.data.toList (by rw[Array.length_toList];exact c) (by rw[Array.length_toList];exact d)]
 congr 1
 rw[Bool.eq_iff_iff,beq_iff_eq,decide_eq_true_eq];exact⟨fun h=>WideShapes.bytes_inj h,fun h=>by rw[h]⟩
theorem UA(w:World)(a b:By)(c:a.size=64)(d:b.size=64):(binOp .neq 188 (Dx a) (Dx b)).run Tryz.prog w = .ok (.bool (!decide (a=b))) w:=by
 have:=run_neq_struct (P:=Tryz.prog) w 188 (Dc a).toArray (Dc b).toArray;have e:=ZmN w a b c d;unfold Dx at e ⊢;rw[this,e];rfl
theorem SrtR.same{es:LI}(h:SrtR es){k a b:Int}(f:(k,a)∈es)(g:(k,b)∈es):a=b:=by
 obtain⟨i,d⟩:=List.mem_iff_getElem?.1 f;obtain⟨j,c⟩:=List.mem_iff_getElem?.1 g;rcases Nat.lt_trichotomy i j with e|rfl|e
 ·have:=h i j _ _ e d c;simp[ltI]at this
 ·rw[d]at c;cases c;rfl
 ·have:=h j i _ _ e c d;simp[ltI]at this
def Q8(w:World)(pb db sb so:Nat)(nd:Nat->Int)(cl:Bool)(hd:Nat)(va:Value)(es:LI)(tp tx:Int)(vp:Value)(ps:LB)(r:Nat)(s:By)(q:Nat)(e:Ending)(w':World):Prop:=
 e = .returned (.agg #[.int .i64 (q:Nat),.int .u64 (Dm s:Nat)])/\∃va' es',PlanW w' pb db sb so nd cl hd va' es' tp tx vp ps/\SrtR es'/\es'.length=es.length+1/\(∀x,x∈es'↔x=((r:Int),(q:Int))\/x∈es)/\Fr (fun k=>k=pb\/Own va k) w w'/\Dk w va va'
theorem Zmr(w:World)(pb l o so:Nat)(Z:Nat->Int)(U:Nat)(H:Value)(es:LI)(tp tx:Int)(M:Value)(ps:LB)(h:PlanW w pb l o so Z false U H es tp tx M ps)
  (vb:Value) (E:LI) (aa:w.cell? ⟨o,so,none⟩=some vb) (ap:Sl w 350 2 vb E.length (Ds E)) (aD:E.length<=10000) (ac:SrtR E) (r:Nat) (q:Nat) (hq:((r:Int),(q:Int))∈E) (vf:Value) (an:OA) (ln cn:Nat) (vw ve:Value) (D:LY) (A:DO w l vf (.slice an ln cn) vw ve D) (C:By) (ab:D[q]?=some C) (s:By) (W:s.size=64)
  (aX:C=s) (aH:SrtR es) (aB:es.length<=10000) (aE:∀x∈es,x.1≠r):
  Calls Tryz.prog 272 #[.pointer (some ⟨pb,0,none⟩),.int .u64 r,Dx s] w (Q8 w pb l o so Z false U H es tp tx M ps r s q):=by
 obtain⟨d,aq,aK,aY,aF,aw⟩:=De w (Dc s) 188;obtain⟨a,ar,Y,aC,aI,ax⟩:=De d [.int .i64 0,.int .u64 0] 175;have n:Below w.heap.size w a:=aw.trans (ax.mono (by omega));have a8:=h.row.lt;have aJ:o<w.heap.size:=World.block_lt_of_cell? _ _ aa;have G:RowIs a w.heap.size 188 (Dc s):=aC _ _ _ aK;have HG:Hid (Calls Tryz.prog 300 #[.pointer (some ⟨o,so,none⟩),.int .u64 r] a fun e X=>e = .returned (.tuple #[.int .i64 (q:Nat),.bool true])/\Below a.heap.size a X):=(getR a o so vb E r ((n.cell (p:=⟨o,so,none⟩) aJ).trans aa) (ap.kept (fun k m _=>n.block k m)) aD ac).mono fun e X ⟨v,b,he,hF,z⟩=>by
  rcases hF with⟨rfl,hm⟩|⟨_,_,hm⟩
  ·rw[ac.same hm hq]at he;exact⟨he,z⟩
  ·exact absurd rfl (hm _ hq)
 obtain⟨N,R⟩:∃V,V=Dx C:=⟨_,rfl⟩;obtain⟨O,T⟩:∃V,V=Dx s:=⟨_,rfl⟩;have aG:C.size=64:=A.2.1.2 C (List.mem_of_getElem? ab);have ag:Hid (∀V x y,(eqGuard .neq 188 x y N O).run Tryz.prog V = .ok () V):=fun V x y=>by
  subst R T;exact run_eqGuard_agg (P:=Tryz.prog) V .neq 188 x y _ _ UR
 have ah:Hid (∀V,(binOp .neq 188 N O).run Tryz.prog V = .ok (.bool false) V):=fun V=>by
  subst R T;rw[UA V C s aG W];simp[aX]
 have aj:Hid (∀X,Below a.heap.size a X->(X.cell? ⟨pb,0,none⟩=some (.pointer (some ⟨l,0,none⟩))/\X.rangeAt w.heap.size 0 (Dc s)/\X.cell? ⟨pb,98,none⟩=some (.bool false))/\Hid (Calls Tryz.prog 239 #[.pointer (some ⟨l,0,none⟩),.int .i64 q] X.drew fun e u=>e = .returned N/\(u.cell? ⟨pb,0,none⟩=some (.pointer (some ⟨l,0,none⟩))/\u.rangeAt w.heap.size 0 (Dc s)/\u.cell? ⟨pb,98,none⟩=some (.bool false))/\Hid (Below a.heap.size a u))):=fun X f=>by
  have hS:∀X,Below a.heap.size a X->(X.cell? ⟨pb,0,none⟩=some (.pointer (some ⟨l,0,none⟩))/\X.rangeAt w.heap.size 0 (Dc s)/\X.cell? ⟨pb,98,none⟩=some (.bool false)):=fun X f=>by
   have c:Below w.heap.size w X:=n.trans (f.mono n.size);have hP:=h.below c;have hr:RowIs X w.heap.size 188 (Dc s):=(f.block _ G.lt).trans G;exact⟨hP.cells.1,fun j v hv=>by rw[hr.cell,Nat.zero_add];exact hv,hP.cells.2.2.2.1⟩
  refine⟨hS X f,?_⟩;have c:Below w.heap.size w X:=n.trans (f.mono n.size);have aT:DO X.drew l vf (.slice an ln cn) vw ve D:=⟨(c.block _ A.1.lt).trans A.1,⟨A.2.1.1.kept (fun k m _=>c.block k m),A.2.1.2⟩,A.2.2⟩;refine(Qr X.drew l vf vw ve an ln cn D aT q C ab).mono ?_;rintro e u ⟨rfl,z⟩;have av:Below a.heap.size a u:=f.trans ⟨z.os,z.tape,z.output,z.size,fun k m=>z.block k (by have:=f.size;show k<X.heap.size;omega)⟩;exact⟨by rw[R],hS u av,av⟩
 have ai:Hid (∀X,Below a.heap.size a X->Calls Tryz.prog 243 #[.pointer (some ⟨pb,100,none⟩),.int .u64 r,.int .i64 q] X fun e t=>e = .returned (.tuple #[])/\RowIs t w.heap.size 188 (Dc s)/\RowIs t d.heap.size 175 [.int .i64 0,.int .u64 0]/\Hid (∀w7,Fr (fun k=>k=d.heap.size) t w7->Q8 w pb l o so Z false U H es tp tx M ps r s q (.returned (.agg #[.int .i64 (q:Nat),.int .u64 (Dm s:Nat)])) w7)):=fun X f=>by
  have c:Below w.heap.size w X:=n.trans (f.mono n.size);have I:=h.below c;have x1:RowIs X w.heap.size 188 (Dc s):=(f.block _ G.lt).trans G;have x2:RowIs X d.heap.size 175 [.int .i64 0,.int .u64 0]:=(f.block _ Y.lt).trans Y;have ad:∀k,Own H k->k<w.heap.size:=fun k m=>h.sa.lt m
  have a1:∀k,Own M k->k<w.heap.size:=fun k m=>Sl.lt h.sp m
  have aZ:w.heap.size≠pb:=by omega
  have a0:d.heap.size≠pb:=by omega
  refine(Qt X pb 100 H es r q I.cells.2.2.2.2.2.1 (I.row.frozen 100) I.oa I.sa aB aH aE).mono ?_;rintro e t ⟨rfl,aM,am,m1,m2,m3,m4,m5,m6,B⟩;have ae:∀k,k≠pb->¬Own H k->k<X.heap.size->t.heap[k]?=X.heap[k]? := fun k h1 h2 h3=>B.block k h3 h1 h2
  refine⟨rfl,(ae _ aZ (fun e=>by have:=ad _ e;omega) x1.lt).trans x1,(ae _ a0 (fun e=>by have:=ad _ e;omega) x2.lt).trans x2,fun w7 Q=>?_⟩;have F:=I.put m2 m6 B;have aW:PlanW w7 pb l o so Z false U aM am tp tx M ps:=by
   have a9:=B.size;refine⟨F.row.fr Q (show ¬pb=d.heap.size by omega),F.sa.fr Q (fun g J e=>?_),Sl.fr F.sp Q (fun g J e=>?_),F.oa,F.op,F.ap⟩
   ·rcases m6 g J with h8|h8
    ·have:=ad g h8;omega
    ·have:=x2.lt;omega
   ·have:=a1 g J;omega
  refine⟨rfl,aM,am,aW,m3,m4,m5,?_,fun g J=>(m6 g J).imp id (fun h8=>by have:=c.size;omega)⟩;refine Fr.then (w1:=t) ⟨B.os.trans c.os,B.tape.trans c.tape,B.output.trans c.output,Nat.le_trans c.size B.size,fun k m au=>?_⟩ Q (fun k m e=>by omega);rw[ae k (fun e=>au (.inl e)) (fun e=>au (.inr e)) (Nat.lt_of_lt_of_le m c.size)];exact c.block k m
 have ay:(Dc s).length=64:=by rw[Dh,W]
 have aN:=Db ay;have a6:=Db Y;have a3:=Db G;have a2:=Db n;have a7:a.cell? ⟨pb,1,none⟩=some (.pointer (some ⟨o,so,none⟩)):=(h.below n).cells.2.1;have aR:=Db aq;have aS:=Db ar;have a4:=Db (show d.heap.size=w.heap.size+1 from aF);have a5:=Db (show a.heap.size=d.heap.size+1 from aI);have aQ:=Db T;clear h aa ap aD ac hq aH aB aE aK aY aF aw Y aC aI ax n G ay aq ar aJ R T A ab aG;go_enter Tryz.func272,Tryz.ntmps272;go_upto_region 0 with fail;refine wp_region_lit ?_;refine QH rfl 188 _ rfl (Dc s) rfl ?_;rw[show w.alloc (.cells (Dc s).toArray 188)=d from Da aR]
 (try simp only[pE])
 go_upto_region 1 with fail;rw[show d.alloc (.cells #[Value.int .i64 0,.int .u64 0] 175)=a from Da aS];go_upto_region 2 with(go_at_call 300;refine(Da HG).mono ?_;rintro e X ⟨rfl,ao⟩;have aO:=Db ao;clear ao);obtain⟨aA,af⟩:=Da aj X (Da aO);refine wp_region_held_drew (S:=fun X=>(X.cell? ⟨pb,0,none⟩=some (.pointer (some ⟨l,0,none⟩))/\X.rangeAt w.heap.size 0 (Dc s)/\X.cell? ⟨pb,98,none⟩=some (.bool false))) (by kernel_rfl) aA (fun aV=>?_);refine tk 0 ?_;try simp only[pE];refine tk 1 ?_;try simp only[pE];refine tk 2 ?_;try simp only[pE];refine tk 3 ?_;try simp only[pE];refine tk 4 ?_;try simp only[pE];refine tk 5 ?_;try simp only[pE];refine tk 6 ?_;try simp only[pE];refine tk 7 ?_;try simp only[pE];refine wpAnyH_take (i:=9) (v:=O) rfl (by kernel_rfl) (by kernel_rfl) (by kernel_rfl) (fun _ _ _ h=>h) (by rw[Da aQ];exact yieldsIf_load_mid (by rfl) 188 _ rfl w.heap.size 0 rfl (Dc s) _ (fun X f=>f.2.1) JF rfl (by rw[D7,Da aN])) (by assumption) ?_
 (try simp only[pE])
 refine rk 8 (fun K hK=>?_);go_simp;go_at_call 239;refine(Da af).mono ?_;rintro e u ⟨rfl,az,al⟩;go_wp2_with fail;refine hK.out _ _ az (fun aU=>?_);clear hK K
 (try simp only[pE])
 refine wpAnyH_take (i:=10) (v := .bool false) rfl (by kernel_rfl) (by kernel_rfl) (by kernel_rfl) (fun _ _ _ h=>h) (Or.inl ⟨by rfl,fun V _=>Uc V .neq 188 _ _ _ rfl N O rfl rfl (Da ag V _ _) (Da ah V)⟩) (by assumption) ?_
 (try simp only[pE])
 refine tk 11 ?_;try simp only[pE];refine tk 12 ?_;try simp only[pE];refine tk 13 ?_;try simp only[pE];refine tk 14 ?_;try simp only[pE];refine tk 15 ?_;try simp only[pE];refine tk 16 ?_;try simp only[pE];refine tk 17 ?_;try simp only[pE];refine tu 18 ?_
 (try simp only[pE])
 refine tu 19 ?_
 (try simp only[pE])
 refine tu 20 ?_
 (try simp only[pE])
 refine tk 21 ?_;try simp only[pE];refine tk 22 ?_;try simp only[pE];refine wpAnyH_done (by kernel_rfl) ?_ _;have aP:=Db (Da ai _ (Da al));clear ai HG af aj ah ag aA az aV aU al;go_wp2_with (first|(go_at_call 243;refine(Da aP).mono ?_;rintro e t ⟨rfl,aL,L,HF⟩;have ak:=Db (KI t (some ⟨w.heap.size,0,none⟩) 64 64 s ⟨W.symm,fun e=>(by cases e),fun j v hv=>⟨_,rfl,by rw[Addr.add_lit,Nat.zero_add,aL.cell];exact hv⟩⟩ (by rw[W];decide));rw[KG]at ak;have n0:=L.cell 0;have n1:=L.cell 1;have g0:=L.frozen 0;have g1:=L.frozen 1;clear aL L)|(go_at_call 215;refine(Da ak).mono ?_;rintro e w' ⟨rfl,c⟩;rw[c];clear c));exact bodyPost_ret (v := .agg #[.int .i64 (q:Nat),.int .u64 (Dm s:Nat)]) (by simp[results,Tryz.results272,go_sem,n0,n1]) rfl (Da HF _ (((Fr.refl (fun k=>k=d.heap.size) t).set ⟨d.heap.size,0,none⟩ _ rfl).set ⟨d.heap.size,1,none⟩ _ rfl))
theorem ZkQ(w:World)(pb n m so:Nat)(H:Nat->Int)(hd:Nat)(I:Value)(es:LI)(tp tx:Int)(Q:Value)(ps:LB)(h:PlanW w pb n m so H true hd I es tp tx Q ps)
  (vb:Value) (E:LI) (ad:w.cell? ⟨m,so,none⟩=some vb) (av:Sl w 350 2 vb E.length (Ds E)) (aG:E.length<=10000) (af:SrtR E) (r:Nat) (q:Nat) (hq:((r:Int),(q:Int))∈E) (vf:Value) (an:OA) (ln cn:Nat) (vw ve:Value) (D:LY) (A:DO w n vf (.slice an ln cn) vw ve D) (C:By) (ae:D[q]?=some C) (s:By) (hs:s.size=64)
  (a3:C=s) (U:Nat) (a2:U<1536) (a8:q<1536) (a1:w.cell? ⟨m,so+1,none⟩=some (.int .i64 (U:Nat))) (a9:¬(q/16≠U/16/\H (q/16)<=8)) (aK:SrtR es) (aE:es.length<=10000) (aH:∀x∈es,x.1≠r):
  Calls Tryz.prog 272 #[.pointer (some ⟨pb,0,none⟩),.int .u64 r,Dx s] w (Q8 w pb n m so H true hd I es tp tx Q ps r s q):=by
 obtain⟨f,aw,aN,a4,aI,aA⟩:=De w (Dc s) 188;obtain⟨a,ax,aa,aF,aL,aB⟩:=De f [.int .i64 0,.int .u64 0] 175;have l:Below w.heap.size w a:=aA.trans (aB.mono (by omega));have bg:=h.row.lt;have ag:m<w.heap.size:=World.block_lt_of_cell? _ _ ad;have G:RowIs a w.heap.size 188 (Dc s):=aF _ _ _ aN;have HG:Hid (Calls Tryz.prog 300 #[.pointer (some ⟨m,so,none⟩),.int .u64 r] a fun e X=>e = .returned (.tuple #[.int .i64 (q:Nat),.bool true])/\Below a.heap.size a X):=(getR a m so vb E r ((l.cell (p:=⟨m,so,none⟩) ag).trans ad) (av.kept (fun k o _=>l.block k o)) aG af).mono fun e X ⟨v,b,he,hF,z⟩=>by
  rcases hF with⟨rfl,hm⟩|⟨_,_,hm⟩
  ·rw[af.same hm hq]at he;exact⟨he,z⟩
  ·exact absurd rfl (hm _ hq)
 obtain⟨R,Y⟩:∃V,V=Dx C:=⟨_,rfl⟩;obtain⟨T,Z⟩:∃V,V=Dx s:=⟨_,rfl⟩;have aJ:C.size=64:=A.2.1.2 C (List.mem_of_getElem? ae);have ak:Hid (∀V x y,(eqGuard .neq 188 x y R T).run Tryz.prog V = .ok () V):=fun V x y=>by
  subst Y Z;exact run_eqGuard_agg (P:=Tryz.prog) V .neq 188 x y _ _ UR
 have al:Hid (∀V,(binOp .neq 188 R T).run Tryz.prog V = .ok (.bool false) V):=fun V=>by
  subst Y Z;rw[UA V C s aJ hs];simp[a3]
 have ao:Hid (∀X,Below a.heap.size a X->(X.cell? ⟨pb,0,none⟩=some (.pointer (some ⟨n,0,none⟩))/\X.rangeAt w.heap.size 0 (Dc s)/\X.cell? ⟨pb,98,none⟩=some (.bool true))/\Hid (Calls Tryz.prog 239 #[.pointer (some ⟨n,0,none⟩),.int .i64 q] X.drew fun e t=>e = .returned R/\(t.cell? ⟨pb,0,none⟩=some (.pointer (some ⟨n,0,none⟩))/\t.rangeAt w.heap.size 0 (Dc s)/\t.cell? ⟨pb,98,none⟩=some (.bool true))/\Hid (Below a.heap.size a t))):=fun X d=>by
  have hS:∀X,Below a.heap.size a X->(X.cell? ⟨pb,0,none⟩=some (.pointer (some ⟨n,0,none⟩))/\X.rangeAt w.heap.size 0 (Dc s)/\X.cell? ⟨pb,98,none⟩=some (.bool true)):=fun X d=>by
   have c:Below w.heap.size w X:=l.trans (d.mono l.size);have L:=h.below c;have hr:RowIs X w.heap.size 188 (Dc s):=(d.block _ G.lt).trans G;exact⟨L.cells.1,fun j v hv=>by rw[hr.cell,Nat.zero_add];exact hv,L.cells.2.2.2.1⟩
  refine⟨hS X d,?_⟩;have c:Below w.heap.size w X:=l.trans (d.mono l.size);have aW:DO X.drew n vf (.slice an ln cn) vw ve D:=⟨(c.block _ A.1.lt).trans A.1,⟨A.2.1.1.kept (fun k o _=>c.block k o),A.2.1.2⟩,A.2.2⟩;refine(Qr X.drew n vf vw ve an ln cn D aW q C ae).mono ?_;rintro e t ⟨rfl,z⟩;have az:Below a.heap.size a t:=d.trans ⟨z.os,z.tape,z.output,z.size,fun k o=>z.block k (by have:=d.size;show k<X.heap.size;omega)⟩;exact⟨by rw[Y],hS t az,az⟩
 have ap:Hid (∀X,Below a.heap.size a X->Calls Tryz.prog 301 #[.pointer (some ⟨pb,0,none⟩),.int .i64 q] X fun e w'=>e = .returned (.bool false)/\w'=X):=fun X d=>by
  have c:Below w.heap.size w X:=l.trans (d.mono l.size);have L:=h.below c;refine(ZdP X pb m so H U q a8 a2 L.cells.2.2.1 L.cells.2.1 ((c.cell (p:=⟨m,so+1,none⟩) ag).trans a1)).mono ?_;rintro e w' ⟨rfl,rfl⟩;exact⟨by simp[a9],rfl⟩
 have am:Hid (∀X,Below a.heap.size a X->Calls Tryz.prog 243 #[.pointer (some ⟨pb,100,none⟩),.int .u64 r,.int .i64 q] X fun e u=>e = .returned (.tuple #[])/\RowIs u w.heap.size 188 (Dc s)/\RowIs u f.heap.size 175 [.int .i64 0,.int .u64 0]/\Hid (∀w7,Fr (fun k=>k=f.heap.size) u w7->Q8 w pb n m so H true hd I es tp tx Q ps r s q (.returned (.agg #[.int .i64 (q:Nat),.int .u64 (Dm s:Nat)])) w7)):=fun X d=>by
  have c:Below w.heap.size w X:=l.trans (d.mono l.size);have M:=h.below c;have x1:RowIs X w.heap.size 188 (Dc s):=(d.block _ G.lt).trans G;have x2:RowIs X f.heap.size 175 [.int .i64 0,.int .u64 0]:=(d.block _ aa.lt).trans aa;have ah:∀k,Own I k->k<w.heap.size:=fun k o=>h.sa.lt o
  have a7:∀k,Own Q k->k<w.heap.size:=fun k o=>Sl.lt h.sp o
  have a5:w.heap.size≠pb:=by omega
  have a6:f.heap.size≠pb:=by omega
  refine(Qt X pb 100 I es r q M.cells.2.2.2.2.2.1 (M.row.frozen 100) M.oa M.sa aE aK aH).mono ?_;rintro e u ⟨rfl,aP,ar,m1,m2,m3,m4,m5,m6,B⟩;have ai:∀k,k≠pb->¬Own I k->k<X.heap.size->u.heap[k]?=X.heap[k]? := fun k h1 h2 h3=>B.block k h3 h1 h2
  refine⟨rfl,(ai _ a5 (fun e=>by have:=ah _ e;omega) x1.lt).trans x1,(ai _ a6 (fun e=>by have:=ah _ e;omega) x2.lt).trans x2,fun w7 W=>?_⟩;have F:=M.put m2 m6 B;have a0:PlanW w7 pb n m so H true hd aP ar tp tx Q ps:=by
   have bh:=B.size;refine⟨F.row.fr W (show ¬pb=f.heap.size by omega),F.sa.fr W (fun g N e=>?_),Sl.fr F.sp W (fun g N e=>?_),F.oa,F.op,F.ap⟩
   ·rcases m6 g N with h8|h8
    ·have:=ah g h8;omega
    ·have:=x2.lt;omega
   ·have:=a7 g N;omega
  refine⟨rfl,aP,ar,a0,m3,m4,m5,?_,fun g N=>(m6 g N).imp id (fun h8=>by have:=c.size;omega)⟩;refine Fr.then (w1:=u) ⟨B.os.trans c.os,B.tape.trans c.tape,B.output.trans c.output,Nat.le_trans c.size B.size,fun k o ay=>?_⟩ W (fun k o e=>by omega);rw[ai k (fun e=>ay (.inl e)) (fun e=>ay (.inr e)) (Nat.lt_of_lt_of_le o c.size)];exact c.block k o
 have aC:(Dc s).length=64:=by rw[Dh,hs]
 have aQ:=Db aC;have be:=Db aa;have bb:=Db G;have ba:=Db l;have bf:a.cell? ⟨pb,1,none⟩=some (.pointer (some ⟨m,so,none⟩)):=(h.below l).cells.2.1;have aU:=Db aw;have aV:=Db ax;have bc:=Db (show f.heap.size=w.heap.size+1 from aI);have bd:=Db (show a.heap.size=f.heap.size+1 from aL);have aT:=Db Z;clear h ad av aG af hq aK aE aH aN a4 aI aA aa aF aL aB l G aC aw ax ag Y Z A ae aJ;go_enter Tryz.func272,Tryz.ntmps272;go_upto_region 0 with fail;refine wp_region_lit ?_;refine QH rfl 188 _ rfl (Dc s) rfl ?_;rw[show w.alloc (.cells (Dc s).toArray 188)=f from Da aU]
 (try simp only[pE])
 go_upto_region 1 with fail;rw[show f.alloc (.cells #[Value.int .i64 0,.int .u64 0] 175)=a from Da aV];go_upto_region 2 with(go_at_call 300;refine(Da HG).mono ?_;rintro e X ⟨rfl,au⟩;have aR:=Db au;clear au);obtain⟨aD,aj⟩:=Da ao X (Da aR);refine wp_region_held_drew (S:=fun X=>(X.cell? ⟨pb,0,none⟩=some (.pointer (some ⟨n,0,none⟩))/\X.rangeAt w.heap.size 0 (Dc s)/\X.cell? ⟨pb,98,none⟩=some (.bool true))) (by kernel_rfl) aD (fun aZ=>?_);refine tk 0 ?_;try simp only[pE];refine tk 1 ?_;try simp only[pE];refine tk 2 ?_;try simp only[pE];refine tk 3 ?_;try simp only[pE];refine tk 4 ?_;try simp only[pE];refine tk 5 ?_;try simp only[pE];refine tk 6 ?_;try simp only[pE];refine tk 7 ?_;try simp only[pE];refine wpAnyH_take (i:=9) (v:=T) rfl (by kernel_rfl) (by kernel_rfl) (by kernel_rfl) (fun _ _ _ h=>h) (by rw[Da aT];exact yieldsIf_load_mid (by rfl) 188 _ rfl w.heap.size 0 rfl (Dc s) _ (fun X d=>d.2.1) JF rfl (by rw[D7,Da aQ])) (by assumption) ?_
 (try simp only[pE])
 refine rk 8 (fun K J=>?_);go_simp;go_at_call 239;refine(Da aj).mono ?_;rintro e t ⟨rfl,ac,ab⟩;go_wp2_with fail;refine J.out _ _ ac (fun aY=>?_);clear J K
 (try simp only[pE])
 refine wpAnyH_take (i:=10) (v := .bool false) rfl (by kernel_rfl) (by kernel_rfl) (by kernel_rfl) (fun _ _ _ h=>h) (Or.inl ⟨by rfl,fun V _=>Uc V .neq 188 _ _ _ rfl R T rfl rfl (Da ak V _ _) (Da al V)⟩) (by assumption) ?_
 (try simp only[pE])
 refine tk 11 ?_;try simp only[pE];refine tk 12 ?_;try simp only[pE];refine tk 13 ?_;try simp only[pE];refine tk 14 ?_;try simp only[pE];refine tk 15 ?_;try simp only[pE];refine tk 16 ?_;try simp only[pE];refine tk 17 ?_;try simp only[pE];refine tk 18 ?_;try simp only[pE];refine tk 19 ?_;try simp only[pE];refine rk 20 (fun K J=>?_);go_simp;go_at_call 301;refine(Da ap t (Da ab)).mono ?_;rintro e w' ⟨rfl,aM⟩;rw[aM];clear aM;go_wp2_with fail;refine J.out _ _ ac (fun aX=>?_);clear J K
 (try simp only[pE])
 refine tk 21 ?_;try simp only[pE];refine tk 22 ?_;try simp only[pE];refine wpAnyH_done (by kernel_rfl) ?_ _;have aS:=Db (Da am _ (Da ab));clear am HG aj ao al ak aD ac aZ aY ab ap aX;go_wp2_with (first|(go_at_call 243;refine(Da aS).mono ?_;rintro e u ⟨rfl,aO,O,HF⟩;have aq:=Db (KI u (some ⟨w.heap.size,0,none⟩) 64 64 s ⟨hs.symm,fun e=>(by cases e),fun j v hv=>⟨_,rfl,by rw[Addr.add_lit,Nat.zero_add,aO.cell];exact hv⟩⟩ (by rw[hs];decide));rw[KG]at aq;have n0:=O.cell 0;have n1:=O.cell 1;have g0:=O.frozen 0;have g1:=O.frozen 1;clear aO O)|(go_at_call 215;refine(Da aq).mono ?_;rintro e w' ⟨rfl,c⟩;rw[c];clear c));exact bodyPost_ret (v := .agg #[.int .i64 (q:Nat),.int .u64 (Dm s:Nat)]) (by simp[results,Tryz.results272,go_sem,n0,n1]) rfl (Da HF _ (((Fr.refl (fun k=>k=f.heap.size) u).set ⟨f.heap.size,0,none⟩ _ rfl).set ⟨f.heap.size,1,none⟩ _ rfl))
theorem Zit(w:World)(pb t A so:Nat)(H:Nat->Int)(cl:Bool)(hd:Nat)(I:Value)(es:LI)(tp tx:Int)(vp:Value)(ps:LB)(h:PlanW w pb t A so H cl hd I es tp tx vp ps)
  (vb:Value) (eb:LI) (ao:w.cell? ⟨A,so,none⟩=some vb) (aL:Sl w 350 2 vb eb.length (Ds eb)) (aX:eb.length<=10000) (ar:SrtR eb) (r:Nat) (q:Nat) (hq:((r:Int),(q:Int))∈eb) (vf:Value) (an:OA) (ln cn:Nat) (vw ve:Value) (D:LY) (W:DO w t vf (.slice an ln cn) vw ve D) (s0:By) (aq:D[q]?=some s0) (s:By) (F:s.size=64)
  (bo:s0≠s) (hh:hd<=1536) (hz:∃k,k<96/\H ((hd/16+k)%96)<=0) (hl:ps.length<=1000000) (a5:SrtR es) (aV:es.length<=10000) (a1:∀x∈es,x.1≠r):
  Calls Tryz.prog 272 #[.pointer (some ⟨pb,0,none⟩),.int .u64 r,Dx s] w (Qb w pb t A so H cl I es tp tx vp ps r s (DI H 96 hd%1536)):=by
 obtain⟨c,aM,a9,bp,a3,aQ⟩:=De w (Dc s) 188;obtain⟨l,aN,ba,aW,a6,aR⟩:=De c [.int .i64 0,.int .u64 0] 175;have N:Below w.heap.size w l:=aQ.trans (aR.mono (by omega));have bz:=h.row.lt;have a7:A<w.heap.size:=World.block_lt_of_cell? _ _ ao;obtain⟨p,hp⟩:∃p,p=DI H 96 hd%1536:=⟨_,rfl⟩;rw[<-hp];have bx:p<1536:=by omega
 have al:RowIs l w.heap.size 188 (Dc s):=aW _ _ _ a9;obtain⟨J,Q,L,rfl⟩:=Sl.shape h.sp;have HG:Hid (Calls Tryz.prog 300 #[.pointer (some ⟨A,so,none⟩),.int .u64 r] l fun e X=>e = .returned (.tuple #[.int .i64 (q:Nat),.bool true])/\Below l.heap.size l X):=(getR l A so vb eb r ((N.cell (p:=⟨A,so,none⟩) a7).trans ao) (aL.kept (fun k u _=>N.block k u)) aX ar).mono fun e X ⟨v,b,he,R,U⟩=>by
  rcases R with⟨rfl,hm⟩|⟨_,_,hm⟩
  ·rw[ar.same hm hq]at he;exact⟨he,U⟩
  ·exact absurd rfl (hm _ hq)
 obtain⟨V0,aj⟩:∃V,V=Dx s0:=⟨_,rfl⟩;obtain⟨VB,ak⟩:∃V,V=Dx s:=⟨_,rfl⟩;have a4:s0.size=64:=W.2.1.2 s0 (List.mem_of_getElem? aq);have aA:Hid (∀V x y,(eqGuard .neq 188 x y V0 VB).run Tryz.prog V = .ok () V):=fun V x y=>by
  subst aj ak;exact run_eqGuard_agg (P:=Tryz.prog) V .neq 188 x y _ _ UR
 have aB:Hid (∀V,(binOp .neq 188 V0 VB).run Tryz.prog V = .ok (.bool true) V):=fun V=>by
  subst aj ak;rw[UA V s0 s a4 F];simp[bo]
 have aD:Hid (∀X,Below l.heap.size l X->(X.cell? ⟨pb,0,none⟩=some (.pointer (some ⟨t,0,none⟩))/\X.rangeAt w.heap.size 0 (Dc s)/\X.cell? ⟨pb,98,none⟩=some (.bool cl))/\Hid (Calls Tryz.prog 239 #[.pointer (some ⟨t,0,none⟩),.int .i64 q] X.drew fun e C=>e = .returned V0/\(C.cell? ⟨pb,0,none⟩=some (.pointer (some ⟨t,0,none⟩))/\C.rangeAt w.heap.size 0 (Dc s)/\C.cell? ⟨pb,98,none⟩=some (.bool cl))/\Hid (Below l.heap.size l C))):=fun X d=>by
  have hS:∀X,Below l.heap.size l X->(X.cell? ⟨pb,0,none⟩=some (.pointer (some ⟨t,0,none⟩))/\X.rangeAt w.heap.size 0 (Dc s)/\X.cell? ⟨pb,98,none⟩=some (.bool cl)):=fun X d=>by
   have G:Below w.heap.size w X:=N.trans (d.mono N.size);have M:=h.below G;have hr:RowIs X w.heap.size 188 (Dc s):=(d.block _ al.lt).trans al;exact⟨M.cells.1,fun j v m=>by rw[hr.cell,Nat.zero_add];exact m,M.cells.2.2.2.1⟩
  refine⟨hS X d,?_⟩;have G:Below w.heap.size w X:=N.trans (d.mono N.size);have bi:DO X.drew t vf (.slice an ln cn) vw ve D:=⟨(G.block _ W.1.lt).trans W.1,⟨W.2.1.1.kept (fun k u _=>G.block k u),W.2.1.2⟩,W.2.2⟩;refine(Qr X.drew t vf vw ve an ln cn D bi q s0 aq).mono ?_;rintro e C ⟨rfl,U⟩;have aP:Below l.heap.size l C:=d.trans ⟨U.os,U.tape,U.output,U.size,fun k u=>U.block k (by have:=d.size;show k<X.heap.size;omega)⟩;exact⟨by rw[aj],hS C aP,aP⟩
 have HN:Hid (∀X,Below w.heap.size w X->RowIs X w.heap.size 188 (Dc s)->RowIs X c.heap.size 175 [.int .i64 0,.int .u64 0]->Calls Tryz.prog 302 #[.pointer (some ⟨pb,0,none⟩)] X fun e Y=>e = .returned (.int .i64 p)/\Y.rangeAt w.heap.size 0 (Dc s)/\Y.cell? ⟨pb,103,none⟩=some (.slice J Q L)/\Hid (PlanW Y pb t A so H cl (p+1) I es tp tx (.slice J Q L) ps/\Fr (fun k=>k=pb) w Y/\RowIs Y w.heap.size 188 (Dc s)/\RowIs Y c.heap.size 175 [.int .i64 0,.int .u64 0])):=fun X d q1 q2=>by
  have M:=h.below d;obtain⟨c0,c1,c2,c3,c4,c5,c6⟩:=M.cells;refine(Zfn X pb _ M.row H hd hh c2 c4 (M.row.frozen 99) hz).mono ?_;rintro e Y ⟨p',bq,r0,rfl,r1,r2,r3⟩;have e':p'=p:=by rw[bq,hp]
  subst e';have q3:RowIs Y w.heap.size 188 (Dc s):=q1.fr r2 (by omega);have aK:=M.next p' r0 r2;refine⟨rfl,fun j v m=>by rw[q3.cell,Nat.zero_add];exact m,aK.cells.2.2.2.2.2.2,aK,(Fr.of_below d).then r2 (fun _ _ h=>h),q3,q2.fr r2 (by omega)⟩
 have HA:Hid (∀Y,Hid (PlanW Y pb t A so H cl (p+1) I es tp tx (.slice J Q L) ps/\Fr (fun k=>k=pb) w Y/\RowIs Y w.heap.size 188 (Dc s)/\RowIs Y c.heap.size 175 [.int .i64 0,.int .u64 0])->∃Z,Y.drew.alloc (.cells (pcL p s).toArray 207)=Z/\Z.rangeAt w.heap.size 0 (Dc s)/\Z.cell? ⟨pb,103,none⟩=some (.slice J Q L)/\∃n z o f,(Builtin.append_ #[182,182] 182 #[.slice J Q L,.slice (some ⟨Y.heap.size,0,none⟩) 1 1]).run Tryz.prog Z = .ok (.slice n z o) f/\f.rangeAt w.heap.size 0 (Dc s)/\f.cell? ⟨pb,103,none⟩=some (.slice J Q L)/\f.frozen? ⟨pb,103,none⟩=false/\(f.setCell ⟨pb,103,none⟩ (.slice n z o)).rangeAt w.heap.size 0 (Dc s)/\
   Hid (Calls Tryz.prog 243 #[.pointer (some ⟨pb,100,none⟩),.int .u64 r,.int .i64 p] (f.setCell ⟨pb,103,none⟩ (.slice n z o)) fun e B=>e = .returned (.tuple #[])/\RowIs B w.heap.size 188 (Dc s)/\RowIs B c.heap.size 175 [.int .i64 0,.int .u64 0]/\Hid (∀w7,Fr (fun k=>k=c.heap.size) B w7->Qb w pb t A so H cl I es tp tx (.slice J Q L) ps r s p (.returned (.agg #[.int .i64 (p:Nat),.int .u64 (Dm s:Nat)])) w7))):=fun Y hY=>by
  obtain⟨M,R,q1,q2⟩:=Da hY;obtain⟨Z,hZ,br,bw,bA,bn⟩:=De Y.drew (pcL p s) 207;have af:Below Y.heap.size Y Z:=((Below.refl Y.heap.size Y).drew).trans bn;have ae:=M.below af;have bv:=R.size;have z1:RowIs Z w.heap.size 188 (Dc s):=(af.block _ q1.lt).trans q1;have z2:RowIs Z c.heap.size 175 [.int .i64 0,.int .u64 0]:=(af.block _ q2.lt).trans q2;obtain⟨v',f,r1,n,z,o,rfl,r2,r3,r4⟩:=appP Z _ ps ae.sp Y.heap.size p s F br hl;have ap:∀k,Own (.slice J Q L) k->k<w.heap.size:=fun k u=>Sl.lt h.sp u
  have y1:RowIs f w.heap.size 188 (Dc s):=z1.fr r3 (fun e=>by have:=ap _ e;omega);have y2:RowIs f c.heap.size 175 [.int .i64 0,.int .u64 0]:=z2.fr r3 (fun e=>by have:=ap _ e;omega);have y3:RowIs f pb 184 _:=ae.row.fr r3 ae.op;have ad:=ae.piece r2 r3 r4;have aZ:w.heap.size≠pb:=by omega
  have a0:c.heap.size≠pb:=by omega
  have bB:Z.heap.size<=f.heap.size:=r3.size;have x1:RowIs (f.setCell ⟨pb,103,none⟩ (.slice n z o)) w.heap.size 188 (Dc s):=(Below.heap_setCell _ _ _ _ aZ).trans y1;have x2:RowIs (f.setCell ⟨pb,103,none⟩ (.slice n z o)) c.heap.size 175 [.int .i64 0,.int .u64 0]:=(Below.heap_setCell _ _ _ _ a0).trans y2;refine⟨Z,hZ,fun j v m=>by rw[z1.cell,Nat.zero_add];exact m,ae.cells.2.2.2.2.2.2,n,z,o,f,r1,fun j v m=>by rw[y1.cell,Nat.zero_add];exact m,(y3.cell 103).trans (Jk _ _ _ _ _ _ _ _ _ _ 5),y3.frozen 103,fun j v m=>by rw[x1.cell,Nat.zero_add];exact m,?_⟩;have bC:(f.setCell ⟨pb,103,none⟩ (.slice n z o)).heap.size=f.heap.size:=by simp[World.setCell]
  have aa:Fr (fun k=>k=pb\/Own I k\/Own (.slice J Q L) k) w (f.setCell ⟨pb,103,none⟩ (.slice n z o)):=by
   refine Fr.set ?_ ⟨pb,103,none⟩ _ (.inl rfl);refine Fr.then (Fr.then (w1:=Y) ⟨R.os,R.tape,R.output,R.size,fun k u d=>R.block k u (fun e=>d (.inl e))⟩ (Fr.of_below af (X:=fun _=>False)) (fun _ _ h=>h.elim)) r3 (fun k _ e => .inr (.inr e))
  refine(Qt _ pb 100 I es r p ad.cells.2.2.2.2.2.1 (ad.row.frozen 100) ad.oa ad.sa aV a5 a1).mono ?_;rintro e B ⟨rfl,bb,aI,m1,m2,m3,m4,m5,m6,m7⟩;have au:∀k,Own I k->k<w.heap.size:=fun k u=>h.sa.lt u
  have av:∀k,k≠pb->¬Own I k->k<(f.setCell ⟨pb,103,none⟩ (.slice n z o)).heap.size->B.heap[k]?=(f.setCell ⟨pb,103,none⟩ (.slice n z o)).heap[k]? := fun k h1 h2 h3=>m7.block k h3 h1 h2
  refine⟨rfl,(av _ aZ (fun e=>by have:=au _ e;omega) x1.lt).trans x1,(av _ a0 (fun e=>by have:=au _ e;omega) x2.lt).trans x2,fun w7 h7=>?_⟩;have ab:=ad.put m2 m6 m7;have bm:PlanW w7 pb t A so H cl (p+1) bb aI tp tx (.slice n z o) (ps++[(p,s)]):=by
   have bD:=m7.size;have aY:∀v,(∀g,Own v g->g≠c.heap.size)->∀g,Own v g->¬(fun k=>k=c.heap.size) g:=fun v m g O=>m g O
   refine⟨ab.row.fr h7 (show ¬pb=c.heap.size by omega),ab.sa.fr h7 (aY _ (fun g O e=>?_)),Sl.fr ab.sp h7 (aY _ (fun g O e=>?_)),ab.oa,ab.op,ab.ap⟩
   ·rcases m6 g O with T|T
    ·have:=au g T;omega
    ·have:=x2.lt;omega
   ·rcases r4 g O with T|T
    ·have:=ap g T;omega
    ·have:=z2.lt;omega
  refine⟨rfl,bb,aI,.slice n z o,bm,m3,m4,m5,?_,fun g O=>(m6 g O).imp id (fun T=>by have:=aa.size;omega),fun g O=>(r4 g O).imp id (fun T=>by have:=af.size;omega)⟩;refine Fr.then (w1:=B) ⟨m7.os.trans aa.os,m7.tape.trans aa.tape,m7.output.trans aa.output,Nat.le_trans aa.size m7.size,fun k u d=>?_⟩ h7 (fun k u e=>by omega);have aO:k≠pb/\¬Own I k:=⟨fun e=>d (.inl e),fun e=>d (.inr (.inl e))⟩;rw[av k aO.1 aO.2 (Nat.lt_of_lt_of_le u aa.size)];exact aa.block k u d
 have aS:(Dc s).length=64:=by rw[Dh,F]
 have ay:=Db aS;have bc:=Db (Q1 p s F);have aH:=Db ba;have az:=Db al;have ax:=Db N;have bu:l.cell? ⟨pb,1,none⟩=some (.pointer (some ⟨A,so,none⟩)):=(h.below N).cells.2.1;have bg:=Db aM;have bh:=Db aN;have bs:=Db (show c.heap.size=w.heap.size+1 from a3);have bt:=Db (show l.heap.size=c.heap.size+1 from a6);have bf:=Db ak;clear h ao aL aX ar hq a5 aV a1 hh hz a9 bp a3 aQ ba aW a6 aR N al aS aM aN hp a7 aj ak W aq a4;go_enter Tryz.func272,Tryz.ntmps272;go_upto_region 0 with fail;refine wp_region_lit ?_;refine QH rfl 188 _ rfl (Dc s) rfl ?_;rw[show w.alloc (.cells (Dc s).toArray 188)=c from Da bg]
 (try simp only[pE])
 go_upto_region 1 with fail;rw[show c.alloc (.cells #[Value.int .i64 0,.int .u64 0] 175)=l from Da bh];go_upto_region 2 with(go_at_call 300;refine(Da HG).mono ?_;rintro e X ⟨rfl,aJ⟩;have bd:=Db aJ;clear aJ);obtain⟨aU,aw⟩:=Da aD X (Da bd);refine wp_region_held_drew (S:=fun X=>(X.cell? ⟨pb,0,none⟩=some (.pointer (some ⟨t,0,none⟩))/\X.rangeAt w.heap.size 0 (Dc s)/\X.cell? ⟨pb,98,none⟩=some (.bool cl))) (by kernel_rfl) aU (fun am=>?_);refine tk 0 ?_;try simp only[pE];refine tk 1 ?_;try simp only[pE];refine tk 2 ?_;try simp only[pE];refine tk 3 ?_;try simp only[pE];refine tk 4 ?_;try simp only[pE];refine tk 5 ?_;try simp only[pE];refine tk 6 ?_;try simp only[pE];refine tk 7 ?_;try simp only[pE];refine wpAnyH_take (i:=9) (v:=VB) rfl (by kernel_rfl) (by kernel_rfl) (by kernel_rfl) (fun _ _ _ h=>h) (by rw[Da bf];exact yieldsIf_load_mid (by rfl) 188 _ rfl w.heap.size 0 rfl (Dc s) _ (fun X d=>d.2.1) JF rfl (by rw[D7,Da ay])) (by assumption) ?_
 (try simp only[pE])
 refine rk 8 (fun K a=>?_);go_simp;go_at_call 239;refine(Da aw).mono ?_;rintro e C ⟨rfl,aT,ah⟩;go_wp2_with fail;refine a.out _ _ aT (fun ai=>?_);clear a K
 (try simp only[pE])
 refine wpAnyH_take (i:=10) (v := .bool true) rfl (by kernel_rfl) (by kernel_rfl) (by kernel_rfl) (fun _ _ _ h=>h) (Or.inl ⟨by rfl,fun V _=>Uc V .neq 188 _ _ _ rfl V0 VB rfl rfl (Da aA V _ _) (Da aB V)⟩) (by assumption) ?_
 (try simp only[pE])
 refine tk 11 ?_;try simp only[pE];refine tk 12 ?_;try simp only[pE];refine tu 13 ?_
 (try simp only[pE])
 refine tu 14 ?_
 (try simp only[pE])
 refine tu 15 ?_
 (try simp only[pE])
 refine tu 16 ?_
 (try simp only[pE])
 refine tu 17 ?_
 (try simp only[pE])
 refine tu 18 ?_
 (try simp only[pE])
 refine tu 19 ?_
 (try simp only[pE])
 refine tu 20 ?_
 (try simp only[pE])
 refine tu 21 ?_
 (try simp only[pE])
 refine tk 22 ?_;try simp only[pE];refine wpAnyH_done (by kernel_rfl) ?_ _;have a8:Below w.heap.size w C:=(Da ax).trans ((Da ah).mono (Da ax).size);have q1:RowIs C w.heap.size 188 (Dc s):=((Da ah).block _ (Da az).lt).trans (Da az);have q2:RowIs C c.heap.size 175 [.int .i64 0,.int .u64 0]:=((Da ah).block _ (Da aH).lt).trans (Da aH);have be:=Db (Da HN _ a8 q1 q2);clear a8 q1 q2 HN HG aw aD aB aA aU aT am ai ah;go_upto_region 4 with(go_at_call 302;refine(Da be).mono ?_;rintro e Y ⟨rfl,e2,m3,HY⟩);obtain⟨Z,hZ,sZ,mZ,n,z,o,f,a2,s5,m5,f5,s6,aC⟩:=Da HA Y HY;have HZ:=Db hZ;have aG:=Db sZ;have aE:=Db s5;have aF:=Db s6;clear hZ sZ s5 s6 HA HY;refine wp_region_held_drew (S:=fun X=>X.rangeAt w.heap.size 0 (Dc s)) (by kernel_rfl) e2 (fun am=>?_);refine tk 0 ?_;try simp only[pE];refine tk 1 ?_;try simp only[pE];refine tk 2 ?_;try simp only[pE];refine tk 3 ?_;try simp only[pE];refine tk 5 ?_;try simp only[pE];refine wpAnyH_take (i:=6) (v:=Dx s) rfl (by kernel_rfl) (by kernel_rfl) (by kernel_rfl) (fun _ _ _ h=>h) (yieldsIf_load_mid (by rfl) 188 _ rfl w.heap.size 0 rfl (Dc s) _ (fun X d=>d) JF rfl (by rw[D7,Da ay])) (by assumption) ?_
 (try simp only[pE])
 refine wpAnyH_take (i:=7) (v:=pcV p s) rfl (by kernel_rfl) (by kernel_rfl) (by kernel_rfl) (fun _ _ _ h=>h) (Or.inl ⟨by rfl,fun X _=>?_⟩) (by assumption) ?_
 ·exact Zct X 207 0 1 _ _ rfl (.int .i64 (p:Nat)) (Dx s) rfl rfl (Da bc)
 (try simp only[pE])
 refine wpAnyH_ready (rs:=[4,8]) (by kernel_rfl) (by simp) ?_;refine AllReadyH.cons (i:=4) rfl ?_ (AllReadyH.cons (i:=8) rfl ?_ AllReadyH.nil)
 ·intro K a;go_simp;refine a.out _ _ am (fun bk=>?_);clear a K
  (try simp only[pE])
  refine rk 8 (fun K a=>?_);refine K5 rfl _ rfl p s F rfl ?_;rw[show Y.drew.alloc (.cells (pcL p s).toArray 207)=Z from Da HZ];refine a.out _ _ (Da aG) (fun ai=>?_);clear a K
  (try simp only[pE])
  refine rk 9 (fun K a=>?_);refine Jo rfl _ _ 182 182 rfl _ _ rfl rfl a2 ?_;refine a.out _ _ (Da aE) (fun bl=>?_);clear a K
  (try simp only[pE])
  refine tk 10 ?_;try simp only[pE];refine tk 11 ?_;try simp only[pE];refine rk 12 (fun K a=>?_);go_simp;refine a.out _ _ (Da aF) (fun bj=>?_);clear a K
  (try simp only[pE])
  refine wpAnyH_done (by kernel_rfl) ?_ _;go_wp2_with (first|(go_at_call 243;refine(Da aC).mono ?_;rintro e B ⟨rfl,ag,E,HF⟩;have ac:=Db (KI B (some ⟨w.heap.size,0,none⟩) 64 64 s ⟨F.symm,fun e=>(by cases e),fun j v m=>⟨_,rfl,by rw[Addr.add_lit,Nat.zero_add,ag.cell];exact m⟩⟩ (by rw[F];decide));rw[KG]at ac;have n0:=E.cell 0;have n1:=E.cell 1;have g0:=E.frozen 0;have g1:=E.frozen 1;clear ag E)|(go_at_call 215;refine(Da ac).mono ?_;rintro e w' ⟨rfl,G⟩;rw[G];clear G));exact bodyPost_ret (v := .agg #[.int .i64 (p:Nat),.int .u64 (Dm s:Nat)]) (by simp[results,Tryz.results272,go_sem,n0,n1]) rfl (Da HF _ (((Fr.refl (fun k=>k=c.heap.size) B).set ⟨c.heap.size,0,none⟩ _ rfl).set ⟨c.heap.size,1,none⟩ _ rfl))
 ·intro K a;refine K5 rfl _ rfl p s F rfl ?_;rw[show Y.drew.alloc (.cells (pcL p s).toArray 207)=Z from Da HZ];refine a.out _ _ (Da aG) (fun ai=>?_);clear a K
  (try simp only[pE])
  refine rk 4 (fun K a=>?_);go_simp;refine a.out _ _ ai (fun bk=>?_);clear a K
  (try simp only[pE])
  refine rk 9 (fun K a=>?_);refine Jo rfl _ _ 182 182 rfl _ _ rfl rfl a2 ?_;refine a.out _ _ (Da aE) (fun bl=>?_);clear a K
  (try simp only[pE])
  refine tk 10 ?_;try simp only[pE];refine tk 11 ?_;try simp only[pE];refine rk 12 (fun K a=>?_);go_simp;refine a.out _ _ (Da aF) (fun bj=>?_);clear a K
  (try simp only[pE])
  refine wpAnyH_done (by kernel_rfl) ?_ _;go_wp2_with (first|(go_at_call 243;refine(Da aC).mono ?_;rintro e B ⟨rfl,ag,E,HF⟩;have ac:=Db (KI B (some ⟨w.heap.size,0,none⟩) 64 64 s ⟨F.symm,fun e=>(by cases e),fun j v m=>⟨_,rfl,by rw[Addr.add_lit,Nat.zero_add,ag.cell];exact m⟩⟩ (by rw[F];decide));rw[KG]at ac;have n0:=E.cell 0;have n1:=E.cell 1;have g0:=E.frozen 0;have g1:=E.frozen 1;clear ag E)|(go_at_call 215;refine(Da ac).mono ?_;rintro e w' ⟨rfl,G⟩;rw[G];clear G));exact bodyPost_ret (v := .agg #[.int .i64 (p:Nat),.int .u64 (Dm s:Nat)]) (by simp[results,Tryz.results272,go_sem,n0,n1]) rfl (Da HF _ (((Fr.refl (fun k=>k=c.heap.size) B).set ⟨c.heap.size,0,none⟩ _ rfl).set ⟨c.heap.size,1,none⟩ _ rfl))
end Go.Proofs.YtaieidcohdhgpaaGreatDoor
