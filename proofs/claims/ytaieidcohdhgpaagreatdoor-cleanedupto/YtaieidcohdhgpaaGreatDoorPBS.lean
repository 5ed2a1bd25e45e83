/- Cleaned. -/
import Derived.Test.YtaieidcohdhgpaaGreatDoorCards
import Derived.Test.YtaieidcohdhgpaaGreatDoorTie
import Derived.ProofKit
import Derived.OpenShut
import Derived.Lay
import Derived.SevenTiedAt
namespace Go.Proofs.YtaieidcohdhgpaaGreatDoor
set_option maxHeartbeats 8000000
set_option maxRecDepth 100000
open Go.ChangeShapes Go.WideShapes Go.ChangeAt Go.RowKit
abbrev sC:=(Rows.OpenSpec.upto Rows.cleanedSpec).bare
abbrev rC:=Rows.cleanedUptoRow
theorem D2{a b:Bool}(ha:a=true)(hb:b=true):(a && b)=true:=by rw[ha,hb];rfl
theorem ZmW:Tryz.pinned.checked.prog.funcNamed rC.func=some 12:=by kernel_rfl
theorem Zou:Tryz.f12.isInstance Tryz.pinned.checked.prog rC.origin rC.targs:=of_decide_eq_true (by kernel_rfl)
theorem Zop:Tryz.f12.isWrapper Tryz.pinned.checked.prog rC.wrapper rC.mainSum:=by unfold Func.isWrapper;first|(rw[if_pos (by decide +kernel)];kernel_rfl)|(rw[if_neg (by decide +kernel)];exact⟨rfl,rfl⟩)
theorem cl_k1:(rC.wf (OpenSpec.ofChange sC))=true:=by kernel_rfl
theorem cl_k2:(laidOutB Tryz.pinned.checked.prog)=true:=by kernel_rfl
theorem cl_k3:(mapsRowed Tryz.pinned.checked.prog)=true:=by kernel_rfl
theorem cl_k4:(Tryz.f12.params.all (Tryz.pinned.checked.prog.readableRec ·))=true:=by kernel_rfl
theorem cl_k5:(namedTie Tryz.pinned.checked.prog rC.named sC.vars)=true:=by kernel_rfl
theorem cl_k6:((rC.stops==[]))=true:=by kernel_rfl
theorem cl_k7:((Tryz.pinned.checked.prog.stops==[]))=true:=by kernel_rfl
theorem cl_k8:((rC.knobs==[]))=true:=by kernel_rfl
theorem cl_k9:((Tryz.pinned.checked.prog.stopKnobs==[]))=true:=by kernel_rfl
theorem cl_k10:((rC.inPlace==Tryz.pinned.checked.prog.inPlace 12))=true:=by kernel_rfl
theorem cl_k11:((rC.unfollowed==Tryz.pinned.checked.prog.unfollowed 12))=true:=by kernel_rfl
theorem cl_k12:((rC.recurses==Tryz.pinned.checked.prog.recurses 12))=true:=by kernel_rfl
theorem cl_k13:((rC.named==Tryz.pinned.checked.prog.varsNamed 12))=true:=by kernel_rfl
theorem cl_k14:((rC.maps==(Tryz.f12.params.toList++sC.plain.varTypes Tryz.pinned.checked.prog).any (Tryz.pinned.checked.prog.mapsRec ·)))=true:=by kernel_rfl
theorem cl_k15:((rC.ifaces==(Tryz.f12.params.toList++sC.plain.varTypes Tryz.pinned.checked.prog).any (Tryz.pinned.checked.prog.ifacesRec ·)))=true:=by kernel_rfl
theorem cl_k16:((rC.mapsOut==Tryz.pinned.checked.prog.mapsAmong Tryz.f12.resultTypes.toList))=true:=by kernel_rfl
theorem cl_k17:((rC.loops==(Tryz.f12.params.toList++sC.plain.varTypes Tryz.pinned.checked.prog).any (Tryz.pinned.checked.prog.loopsFrom ·)))=true:=by kernel_rfl
theorem Zot:((rC.wideKeys==(Tryz.f12.params.toList++sC.plain.varTypes Tryz.pinned.checked.prog++Tryz.f12.resultTypes.toList).any (Tryz.pinned.checked.prog.wideKeysFrom ·)))=true:=by kernel_rfl
theorem cl_k18:(sC.vars.all (Tryz.pinned.checked.prog.varReadable ·))=true:=by kernel_rfl
theorem cl_k19:(Tryz.f12.resultTypes.all (fun t=>Tryz.pinned.checked.prog.readableRec t && decide (t<Tryz.pinned.checked.prog.types.size)))=true:=by kernel_rfl
theorem cl_k20:((rC.ifacesOut==Tryz.f12.resultTypes.toList.any (Tryz.pinned.checked.prog.ifacesRec ·)))=true:=by kernel_rfl
theorem cl_k21:((rC.loopsOut==Tryz.f12.resultTypes.toList.any (Tryz.pinned.checked.prog.loopsFrom ·)))=true:=by kernel_rfl
theorem cl_k22:((rC.plainKeys==Tryz.pinned.checked.prog.plainKeys))=true:=by kernel_rfl
theorem cl_k23:(rC.shortTexts.isNone)=true:=by kernel_rfl
theorem Zos:(Tryz.pinned.checked.prog.stopsHeard)=true:=by kernel_rfl
theorem cl_k24:(Tryz.pinned.checked.prog.mayEnter)=true:=by kernel_rfl
theorem Zor:((rC.lifted==Tryz.pinned.checked.prog.liftsFinal))=true:=by kernel_rfl
theorem Zoq:((Tryz.pinned.checked.prog.make==some rC.make))=true:=by kernel_rfl
theorem cl_k25:((rC.kinds==(if rC.domain.isEmpty then [] else Tryz.f12.params.toList.map fun t=>match Tryz.pinned.checked.prog.underlying t with|some (.int k)=>some k|_=>none)))=true:=by kernel_rfl
theorem cl_k26:((rC.pinned==rC.pinnedBy))=true:=by kernel_rfl
theorem cl_k27:((rC.veiled==(Tryz.f12.params.toList++sC.plain.varTypes Tryz.pinned.checked.prog++Tryz.f12.resultTypes.toList).any (Tryz.pinned.checked.prog.veiledRec ·)))=true:=by kernel_rfl
theorem cl_k28:(rC.veiledFits Tryz.pinned.checked.prog Tryz.f12.params.toList (Tryz.f12.params.toList++sC.plain.varTypes Tryz.pinned.checked.prog++Tryz.f12.resultTypes.toList))=true:=by kernel_rfl
theorem ZlU:joinedFacts Tryz.pinned.checked.prog 12 Tryz.f12 sC rC=true:=(D2 (D2 (D2 (D2 (D2 (D2 (D2 (D2 (D2 (D2 (D2 (D2 (D2 (D2 (D2 (D2 (D2 (D2 (D2 (D2 (D2 (D2 (D2 (D2 (D2 (D2 (D2 (D2 (D2 (D2 (D2 cl_k1 cl_k2) cl_k3) cl_k4) cl_k5) cl_k6) cl_k7) cl_k8) cl_k9) cl_k10) cl_k11) cl_k12) cl_k13) cl_k14) cl_k15) cl_k16) cl_k17) Zot) cl_k18) cl_k19) cl_k20) cl_k21) cl_k22) cl_k23) Zos) cl_k24) Zor) Zoq) cl_k25) cl_k26) cl_k27) cl_k28)
end Go.Proofs.YtaieidcohdhgpaaGreatDoor
