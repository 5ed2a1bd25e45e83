/- The law Dumps returns true at every text, where what comes in is of bulk at most 1048576 (values and letters, each counted each time it is reached), whatever the world; the input reads behind the call as before. Conditions: the row's own alone. -/
import Derived.Test.YtaieidcohdhgpaaGreatDoorZBH
import Derived.Test.YtaieidcohdhgpaaGreatDoorZBI
import Derived.Deep.DeepHandedRow
import Derived.Deep.Slices
import Derived.Stop.LaidErr
namespace Go.Proofs.YtaieidcohdhgpaaGreatDoor
set_option maxHeartbeats 40000000
set_option maxRecDepth 100000
open Go.ChangeShapes Go.WideShapes Go.ChangeAt Go.RowKit
theorem Ye:laidOutB Tryz.prog=true:=by kernel_rfl
theorem pkg_ok{W:World}(h:W.ShapedOpen Tryz.prog):Gk W:=by
 obtain⟨cs,hh,hs,hr⟩:=h.1 0 #[.int .i64 0] 3 (Ba (by kernel_rfl)) (by kernel_rfl);refine⟨cell_of_shapedOpen_int (zero := #[.int .i64 0]) (t:=3) h (Ba (by kernel_rfl)) (by kernel_rfl) rfl (by kernel_rfl) (by kernel_rfl) Tryz.underlying3,fun t R hR=>?_⟩;unfold FH at hR;rw[hh]at hR
 cases hR
 rfl
theorem Ig : "*" ++ "errors.errorString" = "*errors.errorString" := by decide
theorem Iy (u : TypeId) (h : Tryz.prog.typeName? 3 u = some "*errors.errorString") : u = 390 :=
 typeName_ptr_named (nm := "errors.errorString") (by rw [Ig]; kernel_rfl) (by kernel_rfl) (by decide) u (by rw [Ig]; exact h)
theorem laid_facts {W : World} (h : laidMetH Tryz.prog Rows.dumpsUptoRow.laid W) : GH W ∧ Lib.TabIs Tryz.prog W "internal/strconv.uint64pow10" .u64 Lib.pow10Tab := by
 rw[MakeChecks.laidMetH_plain _ _ _ (by kernel_rfl)]at h;have h2:=h.tail.tail;have h4:=h2.tail.tail;have gR : Tryz.prog.globalNamed "strconv.ErrRange" = some 3 := by kernel_rfl
 have gS : Tryz.prog.globalNamed "strconv.ErrSyntax" = some 2 := by kernel_rfl
 obtain⟨a0,s0,hv0,_⟩:=laid_sentinel h4 gR (ti:=241) (by kernel_rfl) Tryz.underlying241 Iy Tryz.underlying390 Tryz.underlying392 rfl rfl Tryz.underlying9 (by kernel_rfl) (by kernel_rfl);obtain⟨a1,s1,hv1,_⟩:=laid_sentinel h4.tail gS (ti:=241) (by kernel_rfl) Tryz.underlying241 Iy Tryz.underlying390 Tryz.underlying392 rfl rfl Tryz.underlying9 (by kernel_rfl) (by kernel_rfl);refine⟨⟨⟨390,_,by simpa using World.var?_cell gS hv1 0⟩,390,_,by simpa using World.var?_cell gR hv0 0⟩,?_⟩;exact Lib.tabIs_of_head (k := .u64) (zs:=Lib.pow10Tab) (t:=361) (e:=173) (n:=20) (g:=1) (by kernel_rfl) (by kernel_rfl) (by kernel_rfl) (by kernel_rfl) (by kernel_rfl) (by kernel_rfl) h2
theorem XT:ownKnob Tryz.prog.godebug=none:=by kernel_rfl
theorem ZgR(os:Os){H:Type}(enc:TypeId×Value->H):
  ∃(w:World) (tape:Tape) (i:Input),w.os=os/\(w.forCall tape i).Shaped Tryz.checked.prog/\i.vars=[]/\Input.okWide Tryz.checked.prog (w.forCall tape i) .any w.heap.size 5 i/\
   (Rows.OpenSpec.upto Rows.dumpsSpec).preRow enc Tryz.checked.prog Tryz.f5 Rows.dumpsUptoRow.domain false Rows.dumpsUptoRow.laid (w.forCall tape i).memory i.args/\({ modest:=false }:Assume).holds Tryz.checked.prog (lone (Frame.enter Tryz.checked.prog 5 i.args .normal) [] (w.forCall tape i)):=by
 have hok:Input.okWideB Tryz.prog ((World.laidAll Tryz.prog os Rows.dumpsUptoRow.laid).forCall (fun _ _=>0) ⟨#[],#[.string ⟨#[]⟩],[]⟩) 5 ⟨#[],#[.string ⟨#[]⟩],[]⟩=true:=by kernel_rfl
 have hw:(DataW.whole enc Tryz.prog ((World.laidAll Tryz.prog os Rows.dumpsUptoRow.laid).forCall (fun _ _=>0) ⟨#[],#[.string ⟨#[]⟩],[]⟩).memory Tryz.f5.params.toList (Rows.OpenSpec.upto Rows.dumpsSpec).vars false #[Value.string ⟨#[]⟩].toList 8).map (fun x=>(x.1,x.2.1))=some ([.lit (.string [])],[]):=by kernel_rfl
 obtain⟨⟨x1,x2,x3⟩,hx,hx1⟩:=BJ.1 hw;simp only[C4]at hx1;obtain⟨rfl,rfl⟩:=hx1;refine⟨World.laidAll Tryz.prog os Rows.dumpsUptoRow.laid,fun _ _=>0,⟨#[],#[.string ⟨#[]⟩],[]⟩,World.laidAll_os _ _ _,World.shaped_of_ZipB (by kernel_rfl) (by kernel_rfl),(Input.okWide_of_okWideB (base:=0) hok).1,(Input.okWide_of_okWideB hok).2,
  OpenSpec.preRow_of_cond 8 hx (by kernel_rfl) (fun k hk=>by cases hk;rfl) (by kernel_rfl) ?_,?_⟩
 ·rw[MakeChecks.laidMetH_plain _ _ _ (by kernel_rfl)];exact laidMet_laidAll _ (by kernel_rfl) (by kernel_rfl)
 ·simp only[Assume.holds];exact⟨by simp,by simp,fun h=>(by cases h),by simp,by simp⟩
theorem ZiW(os:Os)(started:os.Started)(H:Type)(enc:TypeId×Value->H)(F:Stop.Interp):
  ReturnsInHanded {} Tryz.checked os 5 .any ((Rows.OpenSpec.upto Rows.dumpsSpec).preRow enc Tryz.prog Tryz.f5 Rows.dumpsUptoRow.domain false Rows.dumpsUptoRow.laid) (((Rows.OpenSpec.upto Rows.dumpsSpec).at F).post enc Tryz.prog Tryz.f5 false true false false):=by
 refine returnsInHanded_of_row (C:=Tryz.checked) (s:=Rows.OpenSpec.upto Rows.dumpsSpec) XT started (by kernel_rfl) Tryz.func5 (ZgR os enc) ?_;intro W base args ds gs before hval0 hW _ hcond0 _ hlaid hsh _;have hcond:Rows.uptoSmall H (ds++gs)=true:=hcond0 _ rfl;have hval:∀(j:Nat) t v,Tryz.f5.params[j]?=some t->args[j]?=some v->Value.okWide Tryz.prog W .any base t v:=hval0;have hW':=hW;obtain⟨p,q,hA0,hV0,rfl,_,_⟩:=hW;have hA:DataW.TrodAll enc Tryz.prog W 0 (fun _=>true) true Tryz.f5.params.toList args.toList ds p:=hA0;rw[Tryz.params5]at hA hval;obtain⟨v0,vs0,d0,ds0,p0,q0,hargs,rfl,rfl,h0,r0⟩:=trodAll_cons hA;obtain⟨rfl,rfl,rfl⟩:=trodAll_nil r0;obtain rfl:args = #[v0]:=by cases args;simp_all
 obtain⟨rfl,rfl⟩:=trodVars_none hV0;obtain⟨s,rfl,rfl,rfl,_⟩:=Go.ChangeMaps.open_string Tryz.underlying9 (hval 0 9 v0 rfl rfl) h0;have h0k:=h0;clear hA0 hV0 hval0 hcond0 hA;simp only[AZ]at hW' hcond;have hlt:∀x∈([]:List MemPlace),x.block<W.heap.size:=fun x hx=>by cases hx
 have hbulk:Rows.uptoBulkAll [(.lit (.string s.data.toList):DataW H)]<=1048576:=Ba hcond;simp only[Rows.uptoBulkAll,Rows.uptoBulk]at hbulk;have hsz:s.data.toList.length=s.size:=Az;have htb:=(laid_facts hlaid).2;refine(dumps_code W (pkg_ok hsh) (laid_facts hlaid).1 W.heap.size (Aa _) (Lib.tabBelow_of_tabIs htb) (by obtain⟨_,_,_,q⟩:=(laid_facts hlaid).1;have:3<W.heap.size:=Al _ _ q;omega) s (by omega)).mono fun e W' ⟨he,bel⟩=>?_
 subst he;refine⟨_,rfl,_,_,_,[],[],[],hW',trodAll_mk1 (shut_bool Tryz.underlying4 _),?_,rfl,bel.frame _,fun h=>by cases h⟩;have hT:=trodAll_mk1 (Below.trod Ye (by kernel_rfl) (Ba (by kernel_rfl)) h0k bel hlt);exact hT
theorem ZkG:Rows.DumpsUptoSaid:=
 OpenClaim.holds_of_cond 5 Tryz.f5 rfl rfl rfl rfl rfl rfl rfl ⟨rfl,rfl,rfl,rfl,rfl⟩ rfl rfl rfl rfl rfl XP Tryz.func5 Zw Xy XD
  (fun os started H enc _ F=>by rw[OpenClaim.pre_eq_preRow];exact ZiW os started H enc F)
theorem XO:true=Tryz.pinned.checked.prog.looks []:=by kernel_rfl
theorem dumps_plain (f : FuncId) (fn : Func) (hf : Tryz.pinned.checked.prog.funcNamed "silt/siltlaw.Dumps" = some f) (hfn : Tryz.pinned.checked.prog.funcs[f]? = some fn) :
  true=Tryz.pinned.checked.prog.looks []/\∀(j:Nat) t,fn.params[j]?=some t->Tryz.pinned.checked.prog.wantsStandIn t=false:=by
 obtain rfl : f = 5 := BG ((show Tryz.prog.funcNamed "silt/siltlaw.Dumps" = some 5 by kernel_rfl).symm.trans hf) |>.symm
 obtain rfl:fn=Tryz.f5:=(BG (Tryz.func5.symm.trans hfn)).symm;refine⟨XO,fun j t ht=>?_⟩;rw[Tryz.params5]at ht;have hm:t=9:=by
  have:=Array.mem_of_getElem? ht
  simpa using this
 subst hm;exact(show Tryz.prog.wantsStandIn 9=false by kernel_rfl)
theorem dumps_card:Rows.DumpsUptoCardSaid:=
 Claim7.holds_tied_plain_at .later [] _ _ _ _ ZkG (fun _ h=>by cases h) (by kernel_rfl) (fun _ h=>by cases h) dumpsUpto_row_tie rfl ⟨rfl,rfl⟩ (by kernel_rfl) rfl dumps_plain (by kernel_rfl)
#print axioms dumps_card
end Go.Proofs.YtaieidcohdhgpaaGreatDoor
