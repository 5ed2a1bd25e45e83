/- The law Failed returns true at every list of raw numbers, every epoch, whatever is lost, and every list of further numbers, where what comes in is of bulk at most 1048576 (values and letters, each counted each time it is reached), whatever the world; the input reads behind the call as before. Conditions: the row's own alone. -/
import Derived.Test.YtaieidcohdhgpaaGreatDoorSBS
import Derived.Test.YtaieidcohdhgpaaGreatDoorSBT
import Derived.Deep.DeepHandedRow
import Derived.Deep.Grids
namespace Go.Proofs.YtaieidcohdhgpaaGreatDoor
set_option maxHeartbeats 40000000
set_option maxRecDepth 100000
open Go.ChangeShapes Go.WideShapes Go.ChangeAt Go.RowKit
section
variable{H:Type}
theorem Zng(d:DataW H):1<=Rows.uptoBulk d:=by
 cases d with
 | lit l=>cases l<;>simp[Rows.uptoBulk]
 | nil=>simp[Rows.uptoBulk]
 | ptr d=>simp[Rows.uptoBulk]
 | slice elems spare=>simp[Rows.uptoBulk]
 | agg parts=>simp[Rows.uptoBulk]
 | iface t d=>simp[Rows.uptoBulk]
 | map entries=>simp[Rows.uptoBulk]
 | held h=>simp[Rows.uptoBulk]
theorem Zg9:∀l:List (DataW H),l.length<=Rows.uptoBulkAll l
 | []=>by simp
 | d::l=>by
  have:=Zg9 l;have:=Zng d;simp only[Rows.uptoBulkAll,List.length_cons];omega
end
theorem cells3:Tryz.prog.cellsOf 3=1:=by kernel_rfl
theorem ZgV:laidOutB Tryz.prog=true:=by kernel_rfl
theorem wf_in{n:Int}(h:(Lit.int .i64 n).wf=true):In64 n:=by
 unfold Lit.wf at h;rw[Bool.and_eq_true]at h;exact⟨of_decide_eq_true h.1,of_decide_eq_true h.2⟩
theorem pkg_ok{W:World}(h:W.ShapedOpen Tryz.prog):PkgOk W:=by
 obtain⟨cs,hh,hs,hr⟩:=h.1 0 #[.int .i64 0] 3 (of_decide_eq_true (by kernel_rfl)) (by kernel_rfl);refine⟨cell_of_shapedOpen_int (zero := #[.int .i64 0]) (t:=3) h (of_decide_eq_true (by kernel_rfl)) (by kernel_rfl) rfl (by kernel_rfl) (by kernel_rfl) Tryz.underlying3,fun t R hR=>?_⟩;unfold RowIs at hR;rw[hh]at hR
 cases hR
 rfl
theorem Zjp{H:Type}{enc:TypeId×Value->H}{W:World}{a0:OA}{len cap fuel:Nat}{x:DataW H×List MemPlace}
  (hf:DataW.trod enc Tryz.prog W 0 (fun _=>true) true fuel 53 [.slice a0 len cap]=some x):
  ∃xs:List Int,xs.length=len/\RdI W a0 xs/\(∀z∈xs,In64 z)/\len<=Rows.uptoBulk x.1:=by
 rcases open_ints Tryz.underlying53 Tryz.underlying3 cells3 hf with⟨hcs,hx⟩|⟨a,len',cap',zs,hcs,_,hle,_,hz,hx,hcell,hw⟩
 ·simp at hcs;obtain⟨rfl,rfl,rfl⟩:=hcs;exact⟨[],rfl,fun j v h=>(by simp at h),fun z h=>(by cases h),Nat.zero_le _⟩
 ·simp at hcs;obtain⟨rfl,rfl,rfl⟩:=hcs;simp only[if_true]at hz;have hlz:len<=zs.length:=by omega
  refine⟨zs.take len,by rw[List.length_take];omega,fun j v hv=>?_,fun z h=>wf_in (hw z (List.mem_of_mem_take h)),?_⟩
  ·rw[List.getElem?_take]at hv
   split at hv
   ·rename_i hj;have hc:=hcell j (by omega);have hsp:=World.cell?_spot (hcell 0 (by omega));obtain⟨g,f,sp⟩:=a;have hsp':sp=none:=by simpa [Addr.add] using hsp
    subst hsp';refine⟨g,f,rfl,?_⟩;rw[Addr.add_lit]at hc;rw[hc,List.getD_eq_getElem?_getD,hv]
    rfl
   ·cases hv
  ·subst hx;simp only[Rows.uptoBulk];have h1:=Zg9 (lits (H:=H) .i64 (zs.take len));have h2:(lits (H:=H) .i64 (zs.take len)).length=len:=by simp[lits,List.length_take];omega
   omega
theorem cells4:Tryz.prog.cellsOf 4=1:=by kernel_rfl
theorem Zlc{H:Type}{enc:TypeId×Value->H}{W:World}{a0:OA}{len cap fuel:Nat}{x:DataW H×List MemPlace}
  (hf:DataW.trod enc Tryz.prog W 0 (fun _=>true) true fuel 69 [.slice a0 len cap]=some x):
  ∃xs:List Bool,xs.length=len/\RdT W a0 xs/\len<=Rows.uptoBulk x.1:=by
 rcases Deep.open_bools Tryz.underlying69 Tryz.underlying4 cells4 hf with⟨hcs,hx⟩|⟨a,len',cap',B,hcs,_,hle,_,hx,hcell⟩
 ·simp at hcs;obtain⟨rfl,rfl,rfl⟩:=hcs;exact⟨[],rfl,fun j v h=>(by simp at h),Nat.zero_le _⟩
 ·simp at hcs;obtain⟨rfl,rfl,rfl⟩:=hcs;refine⟨(List.range len).map B,by simp,fun j v hv=>?_,?_⟩
  ·have hj:j<len:=by have:=(List.getElem?_eq_some_iff.1 hv).1;simpa using this
   rw[List.getElem?_map,List.getElem?_range hj]at hv
   cases hv
   have hc:=hcell j (by omega);have hsp:=World.cell?_spot (hcell 0 (by omega));obtain⟨g,f,sp⟩:=a;have hsp':sp=none:=by simpa [Addr.add] using hsp
   subst hsp';refine⟨g,f,rfl,?_⟩;rw[Addr.add_lit]at hc;exact hc
  ·subst hx;simp only[Deep.boolRow,Rows.uptoBulk];have h1:=Zg9 ((List.range len).map fun i=>(DataW.lit (.bool (B i)):DataW H));rw[List.length_map,List.length_range]at h1;omega
theorem ZlT:ownKnob Tryz.prog.godebug=none:=by kernel_rfl
theorem Zf2(os:Os){H:Type}(enc:TypeId×Value->H):
  ∃(w:World) (tape:Tape) (i:Input),w.os=os/\(w.forCall tape i).Shaped Tryz.checked.prog/\i.vars=[]/\Input.okWide Tryz.checked.prog (w.forCall tape i) .any w.heap.size 10 i/\
   (Rows.OpenSpec.upto Rows.failedSpec).preRow enc Tryz.checked.prog Tryz.f10 Rows.failedUptoRow.domain false Rows.failedUptoRow.laid (w.forCall tape i).memory i.args/\({ modest:=false }:Assume).holds Tryz.checked.prog (lone (Frame.enter Tryz.checked.prog 10 i.args .normal) [] (w.forCall tape i)):=by
 have hok:Input.okWideB Tryz.prog ((World.laidAll Tryz.prog os Rows.failedUptoRow.laid).forCall (fun _ _=>0) ⟨#[],#[.slice none 0 0,.int .i64 0,.slice none 0 0,.slice none 0 0],[]⟩) 10 ⟨#[],#[.slice none 0 0,.int .i64 0,.slice none 0 0,.slice none 0 0],[]⟩=true:=by kernel_rfl
 have hw:(DataW.whole enc Tryz.prog ((World.laidAll Tryz.prog os Rows.failedUptoRow.laid).forCall (fun _ _=>0) ⟨#[],#[.slice none 0 0,.int .i64 0,.slice none 0 0,.slice none 0 0],[]⟩).memory Tryz.f10.params.toList (Rows.OpenSpec.upto Rows.failedSpec).vars false #[Value.slice none 0 0,.int .i64 0,.slice none 0 0,.slice none 0 0].toList 8).map (fun x=>(x.1,x.2.1))=some ([.nil,.lit (.int .i64 0),.nil,.nil],[]):=by kernel_rfl
 obtain⟨⟨x1,x2,x3⟩,hx,hx1⟩:=Option.map_eq_some_iff.1 hw;simp only[Prod.mk.injEq]at hx1;obtain⟨rfl,rfl⟩:=hx1;refine⟨World.laidAll Tryz.prog os Rows.failedUptoRow.laid,fun _ _=>0,⟨#[],#[.slice none 0 0,.int .i64 0,.slice none 0 0,.slice none 0 0],[]⟩,World.laidAll_os _ _ _,World.shaped_of_ZipB (by kernel_rfl) (by kernel_rfl),(Input.okWide_of_okWideB (base:=0) hok).1,(Input.okWide_of_okWideB hok).2,
  OpenSpec.preRow_of_cond 8 hx (by kernel_rfl) (fun k hk=>by cases hk;rfl) (by kernel_rfl) ?_,?_⟩
 ·rw[MakeChecks.laidMetH_plain _ _ _ (by kernel_rfl)];exact laidMet_laidAll _ (by kernel_rfl) (by kernel_rfl)
 ·simp only[Assume.holds];exact⟨by simp,by simp,fun h=>(by cases h),by simp,by simp⟩
theorem Zh7(os:Os)(started:os.Started)(H:Type)(enc:TypeId×Value->H)(F:Stop.Interp):
  ReturnsInHanded {} Tryz.checked os 10 .any ((Rows.OpenSpec.upto Rows.failedSpec).preRow enc Tryz.prog Tryz.f10 Rows.failedUptoRow.domain false Rows.failedUptoRow.laid) (((Rows.OpenSpec.upto Rows.failedSpec).at F).post enc Tryz.prog Tryz.f10 false true false false):=by
 refine returnsInHanded_of_row (C:=Tryz.checked) (s:=Rows.OpenSpec.upto Rows.failedSpec) ZlT started (by kernel_rfl) Tryz.func10 (Zf2 os enc) ?_;intro W base args ds gs before hval0 hW _ hcond0 _ _ hsh _;have hcond:Rows.uptoSmall H (ds++gs)=true:=hcond0 _ rfl;have hval:∀(j:Nat) t v,Tryz.f10.params[j]?=some t->args[j]?=some v->Value.okWide Tryz.prog W .any base t v:=hval0;have hW':=hW;obtain⟨p,q,hA0,hV0,rfl,_,_⟩:=hW;have hA:DataW.TrodAll enc Tryz.prog W 0 (fun _=>true) true Tryz.f10.params.toList args.toList ds p:=hA0;rw[Tryz.params10]at hA hval;obtain⟨v0,vs0,d0,ds0,p0,q0,hargs,rfl,rfl,h0,r0⟩:=trodAll_cons hA;obtain⟨v1,vs1,d1,ds1,p1,q1,rfl,rfl,rfl,h1,r1⟩:=trodAll_cons r0;obtain⟨v2,vs2,d2,ds2,p2,q2,rfl,rfl,rfl,h2,r2⟩:=trodAll_cons r1;obtain⟨v3,vs3,d3,ds3,p3,q3,rfl,rfl,rfl,h3,r3⟩:=trodAll_cons r2;obtain⟨rfl,rfl,rfl⟩:=trodAll_nil r3;obtain rfl:args = #[v0,v1,v2,v3]:=by cases args;simp_all
 obtain⟨rfl,rfl⟩:=trodVars_none hV0;obtain⟨a0,len,cap,rfl⟩:=okWide_slice Tryz.underlying53 (hval 0 53 v0 rfl rfl);obtain⟨epo,rfl,rfl,rfl,wt⟩:=open_int Tryz.underlying3 (hval 1 3 v1 rfl rfl) h1;obtain⟨al,ll,cl,rfl⟩:=okWide_slice Tryz.underlying69 (hval 2 69 v2 rfl rfl);obtain⟨am,lm,cm,rfl⟩:=okWide_slice Tryz.underlying53 (hval 3 53 v3 rfl rfl);have h0k:=h0;have h2k:=h2;have h3k:=h3;obtain⟨fuel,hf⟩:=h0;obtain⟨fuel2,hf2⟩:=h2;obtain⟨fuel3,hf3⟩:=h3;clear hA0 hV0 hval0 hcond0 hA;simp only[List.append_nil]at hW' hcond;have hlt0:∀x∈p0,x.block<W.heap.size:=fun x hx=>by simpa using hW'.lt x (by simp[hx])
 have hlt2:∀x∈p2,x.block<W.heap.size:=fun x hx=>by simpa using hW'.lt x (by simp[hx])
 have hlt3:∀x∈p3,x.block<W.heap.size:=fun x hx=>by simpa using hW'.lt x (by simp[hx])
 obtain⟨xs,hlen,hrd,h64,hbl⟩:=Zjp hf;obtain⟨lost,hlen2,hrd2,hbl2⟩:=Zlc hf2;obtain⟨ms,hlen3,hrd3,h643,hbl3⟩:=Zjp hf3;have hbulk:Rows.uptoBulkAll [d0,.lit (.int .i64 epo),d2,d3]<=1048576:=of_decide_eq_true hcond;simp only[Rows.uptoBulkAll]at hbulk;simp only at hbl hbl2 hbl3;subst hlen hlen2 hlen3;refine(ZiU W (pkg_ok hsh) a0 xs cap hrd h64 (by omega) epo (wf_in wt) al lost cl hrd2 (by omega) am ms cm hrd3 h643 (by omega)).mono fun e W' ⟨he,bel⟩=>?_
 subst he;refine⟨_,rfl,_,_,_,[],p0++([]++(p2++p3)),[],hW',trodAll_mk1 (shut_bool Tryz.underlying4 _),?_,rfl,bel.frame _,fun h=>by cases h⟩;have hT:=trodAll_mk4 (Below.trod ZgV (by kernel_rfl) (of_decide_eq_true (by kernel_rfl)) h0k bel hlt0) (shut_int Tryz.underlying3 wt) (Below.trod ZgV (by kernel_rfl) (of_decide_eq_true (by kernel_rfl)) h2k bel hlt2) (Below.trod ZgV (by kernel_rfl) (of_decide_eq_true (by kernel_rfl)) h3k bel hlt3);exact hT
theorem ZiT:Rows.FailedUptoSaid:=
 OpenClaim.holds_of_cond 10 Tryz.f10 rfl rfl rfl rfl rfl rfl rfl ⟨rfl,rfl,rfl,rfl,rfl⟩ rfl rfl rfl rfl rfl Zm3 Tryz.func10 ZlU ZoI ZoD
  (fun os started H enc _ F=>by rw[OpenClaim.pre_eq_preRow];exact Zh7 os started H enc F)
theorem Zm4:true=Tryz.pinned.checked.prog.looks []:=by kernel_rfl
theorem failed_plain (f : FuncId) (fn : Func) (hf : Tryz.pinned.checked.prog.funcNamed "silt/siltkeep.Failed" = some f) (hfn : Tryz.pinned.checked.prog.funcs[f]? = some fn) :
  true=Tryz.pinned.checked.prog.looks []/\∀(j:Nat) t,fn.params[j]?=some t->Tryz.pinned.checked.prog.wantsStandIn t=false:=by
 obtain rfl : f = 10 := Option.some.inj ((show Tryz.prog.funcNamed "silt/siltkeep.Failed" = some 10 by kernel_rfl).symm.trans hf) |>.symm
 obtain rfl:fn=Tryz.f10:=(Option.some.inj (Tryz.func10.symm.trans hfn)).symm;refine⟨Zm4,fun j t ht=>?_⟩;rw[Tryz.params10]at ht;have hm:t=53\/t=3\/t=69:=by
  have:=Array.mem_of_getElem? ht;simp at this;rcases this with e|e|e|e
  ·exact .inl e
  ·exact .inr (.inl e)
  ·exact .inr (.inr e)
  ·exact .inl e
 rcases hm with rfl|rfl|rfl
 ·exact(show Tryz.prog.wantsStandIn 53=false by kernel_rfl)
 ·exact(show Tryz.prog.wantsStandIn 3=false by kernel_rfl)
 ·exact(show Tryz.prog.wantsStandIn 69=false by kernel_rfl)
theorem failed_card:Rows.FailedUptoCardSaid:=
 Claim7.holds_tied_plain_at .later [] _ _ _ _ ZiT (fun _ h=>by cases h) (by kernel_rfl) (fun _ h=>by cases h) failedUpto_row_tie rfl ⟨rfl,rfl⟩ (by kernel_rfl) rfl failed_plain (by kernel_rfl)
#print axioms failed_card
end Go.Proofs.YtaieidcohdhgpaaGreatDoor
