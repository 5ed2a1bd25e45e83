/- Spoilt. -/
import Derived.Test.YtaieidcohdhgpaaGreatDoorCards
import Derived.ProofKit
import Derived.OpenShut
import Derived.Lay
import Derived.LaidByTextLater
import Derived.SevenTiedAt
import Derived.LaidOnce
namespace Go.Proofs.YtaieidcohdhgpaaGreatDoor
set_option maxHeartbeats 40000000
set_option maxRecDepth 100000
open Go.ChangeShapes Go.WideShapes Go.ChangeAt Go.RowKit
abbrev sS:=(Rows.OpenSpec.upto Rows.spoiltSpec).bare
abbrev rS:=Rows.spoiltUptoRow
theorem D6{a b:Bool}(ha:a=true)(hb:b=true):(a && b)=true:=by rw[ha,hb];rfl
theorem ZA:Tryz.pinned.checked.prog.funcNamed rS.func=some 11:=by kernel_rfl
theorem Zf:Tryz.f11.isInstance Tryz.pinned.checked.prog rS.origin rS.targs:=of_decide_eq_true (by kernel_rfl)
theorem YR:Tryz.f11.isWrapper Tryz.pinned.checked.prog rS.wrapper rS.mainSum:=by unfold Func.isWrapper;first|(rw[if_pos (by decide +kernel)];kernel_rfl)|(rw[if_neg (by decide +kernel)];exact⟨rfl,rfl⟩)
theorem sp_k1:(rS.wf (OpenSpec.ofChange sS))=true:=by kernel_rfl
theorem sp_k2:(laidOutB Tryz.pinned.checked.prog)=true:=by kernel_rfl
theorem sp_k3:(mapsRowed Tryz.pinned.checked.prog)=true:=by kernel_rfl
theorem sp_k4:(Tryz.f11.params.all (Tryz.pinned.checked.prog.readableRec ·))=true:=by kernel_rfl
theorem sp_k5:(namedTie Tryz.pinned.checked.prog rS.named sS.vars)=true:=by kernel_rfl
theorem sp_k6:((rS.stops==[]))=true:=by kernel_rfl
theorem sp_k7:((Tryz.pinned.checked.prog.stops==[]))=true:=by kernel_rfl
theorem sp_k8:((rS.knobs==[]))=true:=by kernel_rfl
theorem sp_k9:((Tryz.pinned.checked.prog.stopKnobs==[]))=true:=by kernel_rfl
theorem sp_k10:((rS.inPlace==Tryz.pinned.checked.prog.inPlace 11))=true:=by kernel_rfl
theorem sp_k11:((rS.unfollowed==Tryz.pinned.checked.prog.unfollowed 11))=true:=by kernel_rfl
theorem sp_k12:((rS.recurses==Tryz.pinned.checked.prog.recurses 11))=true:=by kernel_rfl
theorem sp_k13:((rS.named==Tryz.pinned.checked.prog.varsNamed 11))=true:=by kernel_rfl
theorem sp_k14:((rS.maps==(Tryz.f11.params.toList++sS.plain.varTypes Tryz.pinned.checked.prog).any (Tryz.pinned.checked.prog.mapsRec ·)))=true:=by kernel_rfl
theorem sp_k15:((rS.ifaces==(Tryz.f11.params.toList++sS.plain.varTypes Tryz.pinned.checked.prog).any (Tryz.pinned.checked.prog.ifacesRec ·)))=true:=by kernel_rfl
theorem sp_k16:((rS.mapsOut==Tryz.pinned.checked.prog.mapsAmong Tryz.f11.resultTypes.toList))=true:=by kernel_rfl
theorem sp_k17:((rS.loops==(Tryz.f11.params.toList++sS.plain.varTypes Tryz.pinned.checked.prog).any (Tryz.pinned.checked.prog.loopsFrom ·)))=true:=by kernel_rfl
theorem YN:((rS.wideKeys==(Tryz.f11.params.toList++sS.plain.varTypes Tryz.pinned.checked.prog++Tryz.f11.resultTypes.toList).any (Tryz.pinned.checked.prog.wideKeysFrom ·)))=true:=by kernel_rfl
theorem sp_k18:(sS.vars.all (Tryz.pinned.checked.prog.varReadable ·))=true:=by kernel_rfl
theorem sp_k19:(Tryz.f11.resultTypes.all (fun t=>Tryz.pinned.checked.prog.readableRec t && decide (t<Tryz.pinned.checked.prog.types.size)))=true:=by kernel_rfl
theorem sp_k20:((rS.ifacesOut==Tryz.f11.resultTypes.toList.any (Tryz.pinned.checked.prog.ifacesRec ·)))=true:=by kernel_rfl
theorem sp_k21:((rS.loopsOut==Tryz.f11.resultTypes.toList.any (Tryz.pinned.checked.prog.loopsFrom ·)))=true:=by kernel_rfl
theorem sp_k22:((rS.plainKeys==Tryz.pinned.checked.prog.plainKeys))=true:=by kernel_rfl
theorem sp_k23:(rS.shortTexts.isNone)=true:=by kernel_rfl
theorem YO:(Tryz.pinned.checked.prog.stopsHeard)=true:=by kernel_rfl
theorem sp_k24:(Tryz.pinned.checked.prog.mayEnter)=true:=by kernel_rfl
theorem YP:((rS.lifted==Tryz.pinned.checked.prog.liftsFinal))=true:=by kernel_rfl
theorem YQ:((Tryz.pinned.checked.prog.make==some rS.make))=true:=by kernel_rfl
theorem sp_k25:((rS.kinds==(if rS.domain.isEmpty then [] else Tryz.f11.params.toList.map fun t=>match Tryz.pinned.checked.prog.underlying t with|some (.int k)=>some k|_=>none)))=true:=by kernel_rfl
theorem sp_k26:((rS.pinned==rS.pinnedBy))=true:=by kernel_rfl
theorem sp_k27:((rS.veiled==(Tryz.f11.params.toList++sS.plain.varTypes Tryz.pinned.checked.prog++Tryz.f11.resultTypes.toList).any (Tryz.pinned.checked.prog.veiledRec ·)))=true:=by kernel_rfl
theorem sp_k28:(rS.veiledFits Tryz.pinned.checked.prog Tryz.f11.params.toList (Tryz.f11.params.toList++sS.plain.varTypes Tryz.pinned.checked.prog++Tryz.f11.resultTypes.toList))=true:=by kernel_rfl
theorem Zlf:joinedFacts Tryz.pinned.checked.prog 11 Tryz.f11 sS rS=true:=(D6 (D6 (D6 (D6 (D6 (D6 (D6 (D6 (D6 (D6 (D6 (D6 (D6 (D6 (D6 (D6 (D6 (D6 (D6 (D6 (D6 (D6 (D6 (D6 (D6 (D6 (D6 (D6 (D6 (D6 (D6 sp_k1 sp_k2) sp_k3) sp_k4) sp_k5) sp_k6) sp_k7) sp_k8) sp_k9) sp_k10) sp_k11) sp_k12) sp_k13) sp_k14) sp_k15) sp_k16) sp_k17) YN) sp_k18) sp_k19) sp_k20) sp_k21) sp_k22) sp_k23) YO) sp_k24) YP) YQ) sp_k25) sp_k26) sp_k27) sp_k28)
theorem spoilt_tie:Rows.spoiltUptoRow.laidByTextAt .later Tryz.pinned [.data,.pinned] true:=
 OpenClaim.laidByTextAt_pinned rfl rfl (Program.laidByTextLater_by_one 72 8 65 (by kernel_rfl) (by kernel_rfl) (by kernel_rfl) (by kernel_rfl) (by kernel_rfl) (by kernel_rfl) (fun _ _=>by kernel_rfl)) rfl rfl rfl rfl (fun y hy e=>by
  simp only[Rows.spoiltUptoRow,List.zip_cons_cons,List.zip_nil_right,List.mem_cons,List.mem_nil_iff,or_false]at hy
  rcases hy with rfl|rfl
  cases e
  exact⟨by kernel_rfl,by kernel_rfl⟩) (by unfold Program.listedFits;rw[Bool.and_eq_true,Bool.or_eq_true];exact⟨.inl (by kernel_rfl),by kernel_rfl⟩)
end Go.Proofs.YtaieidcohdhgpaaGreatDoor
