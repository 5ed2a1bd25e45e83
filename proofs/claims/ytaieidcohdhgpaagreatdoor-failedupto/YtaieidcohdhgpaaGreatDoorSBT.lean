/- Failed. -/
import Derived.Test.YtaieidcohdhgpaaGreatDoorCards
import Derived.Test.YtaieidcohdhgpaaGreatDoorTie
import Derived.ProofKit
import Derived.OpenShut
import Derived.Lay
import Derived.SevenTiedAt
namespace Go.Proofs.YtaieidcohdhgpaaGreatDoor
set_option maxHeartbeats 40000000
set_option maxRecDepth 100000
open Go.ChangeShapes Go.WideShapes Go.ChangeAt Go.RowKit
abbrev sF:=(Rows.OpenSpec.upto Rows.failedSpec).bare
abbrev rF:=Rows.failedUptoRow
theorem DZ{a b:Bool}(ha:a=true)(hb:b=true):(a && b)=true:=by rw[ha,hb];rfl
theorem Zm3:Tryz.pinned.checked.prog.funcNamed rF.func=some 10:=by kernel_rfl
theorem ZoI:Tryz.f10.isInstance Tryz.pinned.checked.prog rF.origin rF.targs:=of_decide_eq_true (by kernel_rfl)
theorem ZoD:Tryz.f10.isWrapper Tryz.pinned.checked.prog rF.wrapper rF.mainSum:=by unfold Func.isWrapper;first|(rw[if_pos (by decide +kernel)];kernel_rfl)|(rw[if_neg (by decide +kernel)];exact⟨rfl,rfl⟩)
theorem fa_k1:(rF.wf (OpenSpec.ofChange sF))=true:=by kernel_rfl
theorem fa_k2:(laidOutB Tryz.pinned.checked.prog)=true:=by kernel_rfl
theorem fa_k3:(mapsRowed Tryz.pinned.checked.prog)=true:=by kernel_rfl
theorem fa_k4:(Tryz.f10.params.all (Tryz.pinned.checked.prog.readableRec ·))=true:=by kernel_rfl
theorem fa_k5:(namedTie Tryz.pinned.checked.prog rF.named sF.vars)=true:=by kernel_rfl
theorem fa_k6:((rF.stops==[]))=true:=by kernel_rfl
theorem fa_k7:((Tryz.pinned.checked.prog.stops==[]))=true:=by kernel_rfl
theorem fa_k8:((rF.knobs==[]))=true:=by kernel_rfl
theorem fa_k9:((Tryz.pinned.checked.prog.stopKnobs==[]))=true:=by kernel_rfl
theorem fa_k10:((rF.inPlace==Tryz.pinned.checked.prog.inPlace 10))=true:=by kernel_rfl
theorem fa_k11:((rF.unfollowed==Tryz.pinned.checked.prog.unfollowed 10))=true:=by kernel_rfl
theorem fa_k12:((rF.recurses==Tryz.pinned.checked.prog.recurses 10))=true:=by kernel_rfl
theorem fa_k13:((rF.named==Tryz.pinned.checked.prog.varsNamed 10))=true:=by kernel_rfl
theorem fa_k14:((rF.maps==(Tryz.f10.params.toList++sF.plain.varTypes Tryz.pinned.checked.prog).any (Tryz.pinned.checked.prog.mapsRec ·)))=true:=by kernel_rfl
theorem fa_k15:((rF.ifaces==(Tryz.f10.params.toList++sF.plain.varTypes Tryz.pinned.checked.prog).any (Tryz.pinned.checked.prog.ifacesRec ·)))=true:=by kernel_rfl
theorem fa_k16:((rF.mapsOut==Tryz.pinned.checked.prog.mapsAmong Tryz.f10.resultTypes.toList))=true:=by kernel_rfl
theorem fa_k17:((rF.loops==(Tryz.f10.params.toList++sF.plain.varTypes Tryz.pinned.checked.prog).any (Tryz.pinned.checked.prog.loopsFrom ·)))=true:=by kernel_rfl
theorem ZoH:((rF.wideKeys==(Tryz.f10.params.toList++sF.plain.varTypes Tryz.pinned.checked.prog++Tryz.f10.resultTypes.toList).any (Tryz.pinned.checked.prog.wideKeysFrom ·)))=true:=by kernel_rfl
theorem fa_k18:(sF.vars.all (Tryz.pinned.checked.prog.varReadable ·))=true:=by kernel_rfl
theorem fa_k19:(Tryz.f10.resultTypes.all (fun t=>Tryz.pinned.checked.prog.readableRec t && decide (t<Tryz.pinned.checked.prog.types.size)))=true:=by kernel_rfl
theorem fa_k20:((rF.ifacesOut==Tryz.f10.resultTypes.toList.any (Tryz.pinned.checked.prog.ifacesRec ·)))=true:=by kernel_rfl
theorem fa_k21:((rF.loopsOut==Tryz.f10.resultTypes.toList.any (Tryz.pinned.checked.prog.loopsFrom ·)))=true:=by kernel_rfl
theorem fa_k22:((rF.plainKeys==Tryz.pinned.checked.prog.plainKeys))=true:=by kernel_rfl
theorem fa_k23:(rF.shortTexts.isNone)=true:=by kernel_rfl
theorem ZoG:(Tryz.pinned.checked.prog.stopsHeard)=true:=by kernel_rfl
theorem fa_k24:(Tryz.pinned.checked.prog.mayEnter)=true:=by kernel_rfl
theorem ZoF:((rF.lifted==Tryz.pinned.checked.prog.liftsFinal))=true:=by kernel_rfl
theorem ZoE:((Tryz.pinned.checked.prog.make==some rF.make))=true:=by kernel_rfl
theorem fa_k25:((rF.kinds==(if rF.domain.isEmpty then [] else Tryz.f10.params.toList.map fun t=>match Tryz.pinned.checked.prog.underlying t with|some (.int k)=>some k|_=>none)))=true:=by kernel_rfl
theorem fa_k26:((rF.pinned==rF.pinnedBy))=true:=by kernel_rfl
theorem fa_k27:((rF.veiled==(Tryz.f10.params.toList++sF.plain.varTypes Tryz.pinned.checked.prog++Tryz.f10.resultTypes.toList).any (Tryz.pinned.checked.prog.veiledRec ·)))=true:=by kernel_rfl
theorem fa_k28:(rF.veiledFits Tryz.pinned.checked.prog Tryz.f10.params.toList (Tryz.f10.params.toList++sF.plain.varTypes Tryz.pinned.checked.prog++Tryz.f10.resultTypes.toList))=true:=by kernel_rfl
theorem ZlU:joinedFacts Tryz.pinned.checked.prog 10 Tryz.f10 sF rF=true:=(DZ (DZ (DZ (DZ (DZ (DZ (DZ (DZ (DZ (DZ (DZ (DZ (DZ (DZ (DZ (DZ (DZ (DZ (DZ (DZ (DZ (DZ (DZ (DZ (DZ (DZ (DZ (DZ (DZ (DZ (DZ fa_k1 fa_k2) fa_k3) fa_k4) fa_k5) fa_k6) fa_k7) fa_k8) fa_k9) fa_k10) fa_k11) fa_k12) fa_k13) fa_k14) fa_k15) fa_k16) fa_k17) ZoH) fa_k18) fa_k19) fa_k20) fa_k21) fa_k22) fa_k23) ZoG) fa_k24) ZoF) ZoE) fa_k25) fa_k26) fa_k27) fa_k28)
end Go.Proofs.YtaieidcohdhgpaaGreatDoor
