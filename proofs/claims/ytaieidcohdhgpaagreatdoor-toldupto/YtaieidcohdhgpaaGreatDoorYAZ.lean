/- The law Told returns true at every list of raw numbers, where what comes in is of bulk at most 1048576 (values and letters, each counted each time it is reached), whatever the world; the input reads behind the call as before. Conditions: the row's own alone. -/
import Derived.Test.YtaieidcohdhgpaaGreatDoorYAX
import Derived.Test.YtaieidcohdhgpaaGreatDoorYAY
import Derived.Deep.DeepHandedRow
import Derived.Deep.Slices
import Derived.Stop.LaidErr
namespace Go.Proofs.YtaieidcohdhgpaaGreatDoor
set_option maxHeartbeats 40000000
set_option maxRecDepth 100000
open _root_.Go.Proofs.Tryz
open Go.ChangeShapes Go.WideShapes Go.ChangeAt Go.RowKit
section
variable{H:Type}
theorem Zn9(d:DataW H):1<=Rows.uptoBulk d:=by
 cases d with
 |lit l=>cases l<;>simp[Rows.uptoBulk]
 |nil=>simp[Rows.uptoBulk]
 |ptr d=>simp[Rows.uptoBulk]
 |slice elems spare=>simp[Rows.uptoBulk]
 |agg parts=>simp[Rows.uptoBulk]
 |iface t d=>simp[Rows.uptoBulk]
 |map entries=>simp[Rows.uptoBulk]
 |held h=>simp[Rows.uptoBulk]
theorem T2:∀l:List (DataW H),l.length<=Rows.uptoBulkAll l
 |[]=>by simp
 |d::l=>by
  have:=T2 l;have:=Zn9 d;simp only[Rows.uptoBulkAll,Al];omega
end
theorem My:Tryz.prog.cellsOf 3=1:=by kernel_rfl
theorem ZnI:laidOutB Tryz.prog=true:=by kernel_rfl
theorem wf_in{n:Int}(h:(Lit.int .i64 n).wf=true):GH n:=by
 unfold Lit.wf at h;rw[A6]at h;exact⟨BO h.1,BO h.2⟩
theorem pkg_ok{W:World}(h:W.ShapedOpen Tryz.prog):Gd W:=by
 obtain⟨cs,hh,hs,hr⟩:=h.1 0 #[.int .i64 0] 3 (BO (by kernel_rfl)) (by kernel_rfl);refine⟨cell_of_shapedOpen_int (zero:=#[.int .i64 0]) (t:=3) h (BO (by kernel_rfl)) (by kernel_rfl) rfl (by kernel_rfl) (by kernel_rfl) underlying3,λt R hR=>?_⟩;unfold FX at hR;rw[hh]at hR
 cases hR
 rfl
theorem ZnE{H:Type}{enc:TypeId×Value->H}{W:World}{a0:OA}{len cap fuel:Nat}{x:DataW H×List MemPlace}(hf:DataW.trod enc Tryz.prog W 0 (λ_=>true) true fuel 53 [.slice a0 len cap]=some x):
  ∃xs:List Int,xs.length=len/\XF W a0 xs/\(∀z∈xs,GH z)/\len<=Rows.uptoBulk x.1:=by
 rcases open_ints underlying53 underlying3 My hf with⟨hcs,hx⟩|⟨a,len',cap',zs,hcs,_,hle,_,hz,hx,hcell,hw⟩
 ·simp at hcs;obtain⟨rfl,rfl,rfl⟩:=hcs;exact⟨[],rfl,λj v h=>(by simp at h),λz h=>(by cases h),Au _⟩
 ·simp at hcs;obtain⟨rfl,rfl,rfl⟩:=hcs;simp only[if_true]at hz;have hlz:len<=zs.length:=by omega
  refine⟨zs.take len,by rw[An];omega,λj v hv=>?_,λz h=>wf_in (hw z (Bv h)),?_⟩
  ·rw[Ao]at hv
   split at hv
   ·rename_i hj;have hc:=hcell j (by omega);have hsp:=World.cell?_spot (hcell 0 (by omega));obtain⟨g,f,sp⟩:=a;have hsp':sp=none:=by simpa [Addr.add] using hsp
    subst hsp';refine⟨g,f,rfl,?_⟩;rw[AI]at hc;rw[hc,List.getD_eq_getElem?_getD,hv]
    rfl
   ·cases hv
  ·subst hx;simp only[Rows.uptoBulk];have h1:=T2 (lits (H:=H) .i64 (zs.take len));have h2:(lits (H:=H) .i64 (zs.take len)).length=len:=by simp[lits,List.length_take];omega
   omega
theorem IW : "*" ++ "errors.errorString" = "*errors.errorString" := by decide
theorem Ln(u : TypeId)(h : Tryz.prog.typeName? 3 u = some "*errors.errorString") : u = 390 :=
 typeName_ptr_named (nm:= "errors.errorString") (by rw [IW]; kernel_rfl) (by kernel_rfl) (by decide) u (by rw [IW]; exact h)
theorem Wx{W:World}(h:laidMetH Tryz.prog Rows.toldUptoRow.laid W):GU W/\MC W:=by
 rw[MakeChecks.laidMetH_plain _ _ _ (by kernel_rfl)]at h;have h2:=h.tail.tail;have h4:=h2.tail.tail;have gR : Tryz.prog.globalNamed "strconv.ErrRange" = some 3:=by kernel_rfl
 have gS : Tryz.prog.globalNamed "strconv.ErrSyntax" = some 2:=by kernel_rfl
 obtain⟨a0,s0,hv0,_⟩:=laid_sentinel h4 gR (ti:=241) (by kernel_rfl) underlying241 Ln underlying390 underlying392 rfl rfl underlying9 (by kernel_rfl) (by kernel_rfl);obtain⟨a1,s1,hv1,_⟩:=laid_sentinel h4.tail gS (ti:=241) (by kernel_rfl) underlying241 Ln underlying390 underlying392 rfl rfl underlying9 (by kernel_rfl) (by kernel_rfl);refine⟨⟨⟨390,_,by simpa using World.var?_cell gS hv1 0⟩,390,_,by simpa using World.var?_cell gR hv0 0⟩,?_⟩;exact Lib.tabIs_of_head (k:=.u64) (zs:=Lib.pow10Tab) (t:=361) (e:=173) (n:=20) (g:=1) (by kernel_rfl) (by kernel_rfl) (by kernel_rfl) (by kernel_rfl) (by kernel_rfl) (by kernel_rfl) h2
theorem Zq:ownKnob Tryz.prog.godebug=none:=by kernel_rfl
theorem ZhA(os:Os){H:Type}(enc:TypeId×Value->H):
  ∃(w:World) (tape:Tape) (i:Input),w.os=os/\(w.forCall tape i).Shaped Tryz.checked.prog/\i.vars=[]/\Input.okWide Tryz.checked.prog (w.forCall tape i) .any w.heap.size 13 i/\
   (Rows.OpenSpec.upto Rows.toldSpec).preRow enc Tryz.checked.prog Tryz.f13 Rows.toldUptoRow.domain false Rows.toldUptoRow.laid (w.forCall tape i).memory i.args/\({ modest:=false }:Assume).holds Tryz.checked.prog (lone (Frame.enter Tryz.checked.prog 13 i.args .normal) [] (w.forCall tape i)):=by
 have hok:Input.okWideB Tryz.prog ((World.laidAll Tryz.prog os Rows.toldUptoRow.laid).forCall (λ_ _=>0) ⟨#[],#[.slice none 0 0],[]⟩) 13 ⟨#[],#[.slice none 0 0],[]⟩=true:=by kernel_rfl
 have hw:(DataW.whole enc Tryz.prog ((World.laidAll Tryz.prog os Rows.toldUptoRow.laid).forCall (λ_ _=>0) ⟨#[],#[.slice none 0 0],[]⟩).memory Tryz.f13.params.toList (Rows.OpenSpec.upto Rows.toldSpec).vars false #[Value.slice none 0 0].toList 8).map (λx=>(x.1,x.2.1))=some ([.nil],[]):=by kernel_rfl
 obtain⟨⟨x1,x2,x3⟩,hx,hx1⟩:=Fi.1 hw;simp only[A9]at hx1;obtain⟨rfl,rfl⟩:=hx1;refine⟨World.laidAll Tryz.prog os Rows.toldUptoRow.laid,λ_ _=>0,⟨#[],#[.slice none 0 0],[]⟩,World.laidAll_os _ _ _,World.shaped_of_ZipB (by kernel_rfl) (by kernel_rfl),(Input.okWide_of_okWideB (base:=0) hok).1,(Input.okWide_of_okWideB hok).2,
  OpenSpec.preRow_of_cond 8 hx (by kernel_rfl) (λk hk=>by cases hk;rfl) (by kernel_rfl) ?_,?_⟩
 ·rw[MakeChecks.laidMetH_plain _ _ _ (by kernel_rfl)];exact laidMet_laidAll _ (by kernel_rfl) (by kernel_rfl)
 ·simp only[Assume.holds];exact⟨by simp,by simp,λh=>(by cases h),by simp,by simp⟩
theorem Zkh(os:Os)(started:os.Started)(H:Type)(enc:TypeId×Value->H)(F:Stop.Interp):
  ReturnsInHanded {} Tryz.checked os 13 .any ((Rows.OpenSpec.upto Rows.toldSpec).preRow enc Tryz.prog Tryz.f13 Rows.toldUptoRow.domain false Rows.toldUptoRow.laid) (((Rows.OpenSpec.upto Rows.toldSpec).at F).post enc Tryz.prog Tryz.f13 false true false false):=by
 refine returnsInHanded_of_row (C:=Tryz.checked) (s:=Rows.OpenSpec.upto Rows.toldSpec) Zq started (by kernel_rfl) func13 (ZhA os enc) ?_;intro W base args ds gs before hval0 hW _ hcond0 _ hlaid hsh _;have hcond:Rows.uptoSmall H (ds++gs)=true:=hcond0 _ rfl;have hval:∀(j:Nat) t v,Tryz.f13.params[j]?=some t->args[j]?=some v->Value.okWide Tryz.prog W .any base t v:=hval0;have hW':=hW;obtain⟨p,q,hA0,hV0,rfl,_,_⟩:=hW;have hA:DataW.TrodAll enc Tryz.prog W 0 (λ_=>true) true Tryz.f13.params.toList args.toList ds p:=hA0;rw[params13]at hA hval;obtain⟨v0,vs0,d0,ds0,p0,q0,hargs,rfl,rfl,h0,r0⟩:=trodAll_cons hA;obtain⟨rfl,rfl,rfl⟩:=trodAll_nil r0;obtain rfl:args = #[v0]:=by cases args;simp_all
 obtain⟨rfl,rfl⟩:=trodVars_none hV0;obtain⟨a0,len,cap,rfl⟩:=okWide_slice underlying53 (hval 0 53 v0 rfl rfl);have h0k:=h0;obtain⟨fuel,hf⟩:=h0;clear hA0 hV0 hval0 hcond0 hA;simp only[Cf]at hW' hcond;have hlt:∀x∈p0,x.block<W.heap.size:=λx hx=>by simpa using hW'.lt x (by simp[hx])
 obtain⟨xs,hlen,hrd,h64,hbl⟩:=ZnE hf;have hbulk:Rows.uptoBulkAll [d0]<=1048576:=BO hcond;simp only[Rows.uptoBulkAll]at hbulk;have hbl:len<=Rows.uptoBulk d0:=hbl;subst hlen;refine(Zlb W (pkg_ok hsh) (Wx hlaid).1 (Wx hlaid).2 a0 xs cap hrd h64 (by omega)).mono λe W' ⟨he,bel⟩=>?_
 subst he;refine⟨_,rfl,_,_,_,[],p0,[],hW',trodAll_mk1 (shut_bool underlying4 _),?_,rfl,bel.frame _,λh=>by cases h⟩;have hT:=trodAll_mk1 (Below.trod ZnI (by kernel_rfl) (BO (by kernel_rfl)) h0k bel hlt);exact hT
theorem Zla:Rows.ToldUptoSaid:=
 OpenClaim.holds_of_cond 13 Tryz.f13 rfl rfl rfl rfl rfl rfl rfl ⟨rfl,rfl,rfl,rfl,rfl⟩ rfl rfl rfl rfl rfl ZW func13 Zle ZB ZG
  (λos started H enc _ F=>by rw[OpenClaim.pre_eq_preRow];exact Zkh os started H enc F)
theorem ZV:true=Tryz.pinned.checked.prog.looks []:=by kernel_rfl
theorem told_plain(f : FuncId)(fn : Func)(hf : Tryz.pinned.checked.prog.funcNamed "silt/siltkeep.Told" = some f)(hfn : Tryz.pinned.checked.prog.funcs[f]? = some fn) :
  true=Tryz.pinned.checked.prog.looks []/\∀(j:Nat) t,fn.params[j]?=some t->Tryz.pinned.checked.prog.wantsStandIn t=false:=by
 obtain rfl : f = 13:=BR ((show Tryz.prog.funcNamed "silt/siltkeep.Told" = some 13 by kernel_rfl).symm.trans hf) |>.symm
 obtain rfl:fn=Tryz.f13:=(BR (func13.symm.trans hfn)).symm;refine⟨ZV,λj t ht=>?_⟩;rw[params13]at ht;have hm:t=53:=by
  have:=Array.mem_of_getElem? ht
  simpa using this
 subst hm;exact(show Tryz.prog.wantsStandIn 53=false by kernel_rfl)
theorem told_card:Rows.ToldUptoCardSaid:=
 Claim7.holds_tied_plain_at .later [] _ _ _ _ Zla (λ_ h=>by cases h) (by kernel_rfl) (λ_ h=>by cases h) toldUpto_row_tie rfl ⟨rfl,rfl⟩ (by kernel_rfl) rfl told_plain (by kernel_rfl)
#print axioms told_card
end Go.Proofs.YtaieidcohdhgpaaGreatDoor
