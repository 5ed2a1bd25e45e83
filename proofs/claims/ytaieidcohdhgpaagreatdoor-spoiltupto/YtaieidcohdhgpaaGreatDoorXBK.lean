/- The law Spoilt returns true at every list of raw numbers, every place and every number by which the byte there is made another one, where what comes in is of bulk at most 1048576 (values and letters, each counted each time it is reached), whatever the world; the input reads behind the call as before. Conditions: the row's own alone. -/
import Derived.Test.YtaieidcohdhgpaaGreatDoorXBI
import Derived.Test.YtaieidcohdhgpaaGreatDoorXBJ
import Derived.Deep.DeepHandedRow
import Derived.Deep.Slices
namespace Go.Proofs.YtaieidcohdhgpaaGreatDoor
set_option maxHeartbeats 40000000
set_option maxRecDepth 100000
open Go.ChangeShapes Go.WideShapes Go.ChangeAt Go.RowKit
section
variable{H:Type}
theorem Zn1(d:DataW H):1<=Rows.uptoBulk d:=by
 cases d with
 | lit l=>cases l<;>simp[Rows.uptoBulk]
 | nil=>simp[Rows.uptoBulk]
 | ptr d=>simp[Rows.uptoBulk]
 | slice elems spare=>simp[Rows.uptoBulk]
 | agg parts=>simp[Rows.uptoBulk]
 | iface t d=>simp[Rows.uptoBulk]
 | map entries=>simp[Rows.uptoBulk]
 | held h=>simp[Rows.uptoBulk]
theorem T8:∀l:List (DataW H),l.length<=Rows.uptoBulkAll l
 | []=>by simp
 | d::l=>by
  have:=T8 l;have:=Zn1 d;simp only[Rows.uptoBulkAll,Aq];omega
end
theorem Mr:Tryz.prog.cellsOf 3=1:=by kernel_rfl
theorem Zh:laidOutB Tryz.prog=true:=by kernel_rfl
theorem O8{n:Int}(h:(Lit.int .i64 n).wf=true):GL n:=by
 unfold Lit.wf at h;rw[Bu]at h;exact⟨Cg h.1,Cg h.2⟩
theorem pkg_ok{W:World}(h:W.ShapedOpen Tryz.prog):Gs W:=by
 obtain⟨cs,hh,hs,hr⟩:=h.1 0 #[.int .i64 0] 3 (Cg (by kernel_rfl)) (by kernel_rfl);refine⟨cell_of_shapedOpen_int (zero := #[.int .i64 0]) (t:=3) h (Cg (by kernel_rfl)) (by kernel_rfl) rfl (by kernel_rfl) (by kernel_rfl) Tryz.underlying3,fun t R hR=>?_⟩;unfold F0 at hR;rw[hh]at hR
 cases hR
 rfl
theorem Zk{H:Type}{enc:TypeId×Value->H}{W:World}{a0:OA}{len cap fuel:Nat}{x:DataW H×List MemPlace}
  (hf:DataW.trod enc Tryz.prog W 0 (fun _=>true) true fuel 53 [.slice a0 len cap]=some x):
  ∃xs:List Int,xs.length=len/\Xs W a0 xs/\(∀z∈xs,GL z)/\len<=Rows.uptoBulk x.1:=by
 rcases open_ints Tryz.underlying53 Tryz.underlying3 Mr hf with⟨hcs,hx⟩|⟨a,len',cap',zs,hcs,_,hle,_,hz,hx,hcell,hw⟩
 ·simp at hcs;obtain⟨rfl,rfl,rfl⟩:=hcs;exact⟨[],rfl,fun j v h=>(by simp at h),fun z h=>(by cases h),Aw _⟩
 ·simp at hcs;obtain⟨rfl,rfl,rfl⟩:=hcs;simp only[if_true]at hz;have hlz:len<=zs.length:=by omega
  refine⟨zs.take len,by rw[Am];omega,fun j v hv=>?_,fun z h=>O8 (hw z (BE h)),?_⟩
  ·rw[Ao]at hv
   split at hv
   ·rename_i hj;have hc:=hcell j (by omega);have hsp:=World.cell?_spot (hcell 0 (by omega));obtain⟨g,f,sp⟩:=a;have hsp':sp=none:=by simpa [Addr.add] using hsp
    subst hsp';refine⟨g,f,rfl,?_⟩;rw[AL]at hc;rw[hc,List.getD_eq_getElem?_getD,hv]
    rfl
   ·cases hv
  ·subst hx;simp only[Rows.uptoBulk];have h1:=T8 (lits (H:=H) .i64 (zs.take len));have h2:(lits (H:=H) .i64 (zs.take len)).length=len:=by simp[lits,List.length_take];omega
   omega
theorem Zld:ownKnob Tryz.prog.godebug=none:=by kernel_rfl
theorem Zge(os:Os){H:Type}(enc:TypeId×Value->H):
  ∃(w:World) (tape:Tape) (i:Input),w.os=os/\(w.forCall tape i).Shaped Tryz.checked.prog/\i.vars=[]/\Input.okWide Tryz.checked.prog (w.forCall tape i) .any w.heap.size 11 i/\
   (Rows.OpenSpec.upto Rows.spoiltSpec).preRow enc Tryz.checked.prog Tryz.f11 Rows.spoiltUptoRow.domain false Rows.spoiltUptoRow.laid (w.forCall tape i).memory i.args/\({ modest:=false }:Assume).holds Tryz.checked.prog (lone (Frame.enter Tryz.checked.prog 11 i.args .normal) [] (w.forCall tape i)):=by
 have hok:Input.okWideB Tryz.prog ((World.laidAll Tryz.prog os Rows.spoiltUptoRow.laid).forCall (fun _ _=>0) ⟨#[],#[.slice none 0 0,.int .i64 0,.int .i64 0],[]⟩) 11 ⟨#[],#[.slice none 0 0,.int .i64 0,.int .i64 0],[]⟩=true:=by kernel_rfl
 have hw:(DataW.whole enc Tryz.prog ((World.laidAll Tryz.prog os Rows.spoiltUptoRow.laid).forCall (fun _ _=>0) ⟨#[],#[.slice none 0 0,.int .i64 0,.int .i64 0],[]⟩).memory Tryz.f11.params.toList (Rows.OpenSpec.upto Rows.spoiltSpec).vars false #[Value.slice none 0 0,.int .i64 0,.int .i64 0].toList 8).map (fun x=>(x.1,x.2.1))=some ([.nil,.lit (.int .i64 0),.lit (.int .i64 0)],[]):=by kernel_rfl
 obtain⟨⟨x1,x2,x3⟩,hx,hx1⟩:=Option.map_eq_some_iff.1 hw;simp only[AT]at hx1;obtain⟨rfl,rfl⟩:=hx1;refine⟨World.laidAll Tryz.prog os Rows.spoiltUptoRow.laid,fun _ _=>0,⟨#[],#[.slice none 0 0,.int .i64 0,.int .i64 0],[]⟩,World.laidAll_os _ _ _,World.shaped_of_ZipB (by kernel_rfl) (by kernel_rfl),(Input.okWide_of_okWideB (base:=0) hok).1,(Input.okWide_of_okWideB hok).2,
  OpenSpec.preRow_of_cond 8 hx (by kernel_rfl) (fun k hk=>by cases hk;rfl) (by kernel_rfl) ?_,?_⟩
 ·rw[MakeChecks.laidMetH_plain _ _ _ (by kernel_rfl)];exact laidMet_laidAll _ (by kernel_rfl) (by kernel_rfl)
 ·simp only[Assume.holds];exact⟨by simp,by simp,fun h=>(by cases h),by simp,by simp⟩
theorem ZhX(os:Os)(started:os.Started)(H:Type)(enc:TypeId×Value->H)(F:Stop.Interp):
  ReturnsInHanded {} Tryz.checked os 11 .any ((Rows.OpenSpec.upto Rows.spoiltSpec).preRow enc Tryz.prog Tryz.f11 Rows.spoiltUptoRow.domain false Rows.spoiltUptoRow.laid) (((Rows.OpenSpec.upto Rows.spoiltSpec).at F).post enc Tryz.prog Tryz.f11 false true false false):=by
 refine returnsInHanded_of_row (C:=Tryz.checked) (s:=Rows.OpenSpec.upto Rows.spoiltSpec) Zld started (by kernel_rfl) Tryz.func11 (Zge os enc) ?_;intro W base args ds gs before hval0 hW _ hcond0 _ _ hsh _;have hcond:Rows.uptoSmall H (ds++gs)=true:=hcond0 _ rfl;have hval:∀(j:Nat) t v,Tryz.f11.params[j]?=some t->args[j]?=some v->Value.okWide Tryz.prog W .any base t v:=hval0;have hW':=hW;obtain⟨p,q,hA0,hV0,rfl,_,_⟩:=hW;have hA:DataW.TrodAll enc Tryz.prog W 0 (fun _=>true) true Tryz.f11.params.toList args.toList ds p:=hA0;rw[Tryz.params11]at hA hval;obtain⟨v0,vs0,d0,ds0,p0,q0,hargs,rfl,rfl,h0,r0⟩:=trodAll_cons hA;obtain⟨v1,vs1,d1,ds1,p1,q1,rfl,rfl,rfl,h1,r1⟩:=trodAll_cons r0;obtain⟨v2,vs2,d2,ds2,p2,q2,rfl,rfl,rfl,h2,r2⟩:=trodAll_cons r1;obtain⟨rfl,rfl,rfl⟩:=trodAll_nil r2;obtain rfl:args = #[v0,v1,v2]:=by cases args;simp_all
 obtain⟨rfl,rfl⟩:=trodVars_none hV0;obtain⟨a0,len,cap,rfl⟩:=okWide_slice Tryz.underlying53 (hval 0 53 v0 rfl rfl);obtain⟨times,rfl,rfl,rfl,wt⟩:=open_int Tryz.underlying3 (hval 1 3 v1 rfl rfl) h1;obtain⟨sync,rfl,rfl,rfl,ws⟩:=open_int Tryz.underlying3 (hval 2 3 v2 rfl rfl) h2;have h0k:=h0;obtain⟨fuel,hf⟩:=h0;clear hA0 hV0 hval0 hcond0 hA;simp only[CG]at hW' hcond;have hlt:∀x∈p0,x.block<W.heap.size:=fun x hx=>by simpa using hW'.lt x (by simp[hx])
 obtain⟨xs,hlen,hrd,h64,hbl⟩:=Zk hf;have hbulk:Rows.uptoBulkAll [d0,.lit (.int .i64 times),.lit (.int .i64 sync)]<=1048576:=Cg hcond;simp only[Rows.uptoBulkAll]at hbulk;simp only at hbl;subst hlen;refine(ZiP W (pkg_ok hsh) a0 xs cap hrd h64 (by omega) times sync (O8 wt) (O8 ws)).mono fun e W' ⟨he,bel⟩=>?_
 subst he;refine⟨_,rfl,_,_,_,[],p0,[],hW',trodAll_mk1 (shut_bool Tryz.underlying4 _),?_,rfl,bel.frame _,fun h=>by cases h⟩;have hT:=trodAll_mk3 (Below.trod Zh (by kernel_rfl) (Cg (by kernel_rfl)) h0k bel hlt) (shut_int Tryz.underlying3 wt) (shut_int Tryz.underlying3 ws);simp only[CG]at hT;exact hT
theorem ZiN:Rows.SpoiltUptoSaid:=
 OpenClaim.holds_of_cond 11 Tryz.f11 rfl rfl rfl rfl rfl rfl rfl ⟨rfl,rfl,rfl,rfl,rfl⟩ rfl rfl rfl rfl rfl ZA Tryz.func11 Zlf Zf YR
  (fun os started H enc _ F=>by rw[OpenClaim.pre_eq_preRow];exact ZhX os started H enc F)
theorem Zz:true=Tryz.pinned.checked.prog.looks []:=by kernel_rfl
theorem spoilt_plain (f : FuncId) (fn : Func) (hf : Tryz.pinned.checked.prog.funcNamed "silt/siltkeep.Spoilt" = some f) (hfn : Tryz.pinned.checked.prog.funcs[f]? = some fn) :
  true=Tryz.pinned.checked.prog.looks []/\∀(j:Nat) t,fn.params[j]?=some t->Tryz.pinned.checked.prog.wantsStandIn t=false:=by
 obtain rfl : f = 11 := BV ((show Tryz.prog.funcNamed "silt/siltkeep.Spoilt" = some 11 by kernel_rfl).symm.trans hf) |>.symm
 obtain rfl:fn=Tryz.f11:=(BV (Tryz.func11.symm.trans hfn)).symm;refine⟨Zz,fun j t ht=>?_⟩;rw[Tryz.params11]at ht;have hm:t=53\/t=3:=by
  have:=Array.mem_of_getElem? ht;simp at this;exact this
 rcases hm with rfl|rfl
 ·exact(show Tryz.prog.wantsStandIn 53=false by kernel_rfl)
 ·exact(show Tryz.prog.wantsStandIn 3=false by kernel_rfl)
theorem spoilt_card:Rows.SpoiltUptoCardSaid:=
 Claim7.holds_tied_plain_at .later [] _ _ _ _ ZiN (fun _ h=>by cases h) (by kernel_rfl) (fun _ h=>by cases h) spoilt_tie rfl ⟨rfl,rfl⟩ (by kernel_rfl) rfl spoilt_plain (by kernel_rfl)
#print axioms spoilt_card
end Go.Proofs.YtaieidcohdhgpaaGreatDoor
