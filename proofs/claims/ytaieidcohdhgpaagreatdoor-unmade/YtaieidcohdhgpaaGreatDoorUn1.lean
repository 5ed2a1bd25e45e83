/- Unmade: the row's closed facts. -/
import Derived.Test.YtaieidcohdhgpaaGreatDoorCards
import Derived.Test.YtaieidcohdhgpaaGreatDoorTie
import Derived.ProofKit
import Derived.OpenShut
import Derived.Lay
import Derived.SevenTiedAt
import Derived.Stop.Joined
namespace Go.Proofs.YtaieidcohdhgpaaGreatDoor
open Go.ChangeShapes Go.WideShapes Go.ChangeAt Go.RowKit
set_option maxHeartbeats 400000
set_option maxRecDepth 100000
theorem and_tt {a b : Bool} (ha : a = true) (hb : b = true) : (a && b) = true := by rw [ha, hb]; rfl
theorem un_named : Tryz.pinned.checked.prog.funcNamed Rows.unmadeRow.func = some 7 := by kernel_rfl
theorem un_inst : Tryz.f7.isInstance Tryz.pinned.checked.prog Rows.unmadeRow.origin Rows.unmadeRow.targs := of_decide_eq_true (by kernel_rfl)
theorem un_wrap : Tryz.f7.isWrapper Tryz.pinned.checked.prog Rows.unmadeRow.wrapper Rows.unmadeRow.mainSum := by unfold Func.isWrapper; first | (rw [if_pos (by decide +kernel)]; kernel_rfl) | (rw [if_neg (by decide +kernel)]; exact ⟨rfl, rfl⟩)
theorem un_k1 : (Rows.unmadeRow.wf (OpenSpec.ofChange Rows.unmadeSpec)) = true := by kernel_rfl
theorem un_k2 : (laidOutB Tryz.pinned.checked.prog) = true := by kernel_rfl
theorem un_k3 : (mapsRowed Tryz.pinned.checked.prog) = true := by kernel_rfl
theorem un_k4 : (Tryz.f7.params.all (Tryz.pinned.checked.prog.readableRec ·)) = true := by kernel_rfl
theorem un_k5 : (namedTie Tryz.pinned.checked.prog Rows.unmadeRow.named Rows.unmadeSpec.vars) = true := by kernel_rfl
theorem un_k6 : ((Rows.unmadeRow.stops == [])) = true := by kernel_rfl
theorem un_k7 : ((Tryz.pinned.checked.prog.stops == [])) = true := by kernel_rfl
theorem un_k8 : ((Rows.unmadeRow.knobs == [])) = true := by kernel_rfl
theorem un_k9 : ((Tryz.pinned.checked.prog.stopKnobs == [])) = true := by kernel_rfl
theorem un_k10 : ((Rows.unmadeRow.inPlace == Tryz.pinned.checked.prog.inPlace 7)) = true := by kernel_rfl
theorem un_k11 : ((Rows.unmadeRow.unfollowed == Tryz.pinned.checked.prog.unfollowed 7)) = true := by kernel_rfl
theorem un_k12 : ((Rows.unmadeRow.recurses == Tryz.pinned.checked.prog.recurses 7)) = true := by kernel_rfl
theorem un_k13 : ((Rows.unmadeRow.named == Tryz.pinned.checked.prog.varsNamed 7)) = true := by kernel_rfl
theorem un_k14 : ((Rows.unmadeRow.maps == (Tryz.f7.params.toList ++ Rows.unmadeSpec.plain.varTypes Tryz.pinned.checked.prog).any (Tryz.pinned.checked.prog.mapsRec ·))) = true := by kernel_rfl
theorem un_k15 : ((Rows.unmadeRow.ifaces == (Tryz.f7.params.toList ++ Rows.unmadeSpec.plain.varTypes Tryz.pinned.checked.prog).any (Tryz.pinned.checked.prog.ifacesRec ·))) = true := by kernel_rfl
theorem un_k16 : ((Rows.unmadeRow.mapsOut == Tryz.pinned.checked.prog.mapsAmong Tryz.f7.resultTypes.toList)) = true := by kernel_rfl
theorem un_k17 : ((Rows.unmadeRow.loops == (Tryz.f7.params.toList ++ Rows.unmadeSpec.plain.varTypes Tryz.pinned.checked.prog).any (Tryz.pinned.checked.prog.loopsFrom ·))) = true := by kernel_rfl
theorem un_k17b : ((Rows.unmadeRow.wideKeys == (Tryz.f7.params.toList ++ Rows.unmadeSpec.plain.varTypes Tryz.pinned.checked.prog ++ Tryz.f7.resultTypes.toList).any (Tryz.pinned.checked.prog.wideKeysFrom ·))) = true := by kernel_rfl
theorem un_k18 : (Rows.unmadeSpec.vars.all (Tryz.pinned.checked.prog.varReadable ·)) = true := by kernel_rfl
theorem un_k19 : (Tryz.f7.resultTypes.all (fun t => Tryz.pinned.checked.prog.readableRec t && decide (t < Tryz.pinned.checked.prog.types.size))) = true := by kernel_rfl
theorem un_k20 : ((Rows.unmadeRow.ifacesOut == Tryz.f7.resultTypes.toList.any (Tryz.pinned.checked.prog.ifacesRec ·))) = true := by kernel_rfl
theorem un_k21 : ((Rows.unmadeRow.loopsOut == Tryz.f7.resultTypes.toList.any (Tryz.pinned.checked.prog.loopsFrom ·))) = true := by kernel_rfl
theorem un_k22 : ((Rows.unmadeRow.plainKeys == Tryz.pinned.checked.prog.plainKeys)) = true := by kernel_rfl
theorem un_k23 : (Rows.unmadeRow.shortTexts.isNone) = true := by kernel_rfl
theorem un_k23b : (Tryz.pinned.checked.prog.stopsHeard) = true := by kernel_rfl
theorem un_k24 : (Tryz.pinned.checked.prog.mayEnter) = true := by kernel_rfl
theorem un_k24b : ((Rows.unmadeRow.lifted == Tryz.pinned.checked.prog.liftsFinal)) = true := by kernel_rfl
theorem un_k24c : ((Tryz.pinned.checked.prog.make == some Rows.unmadeRow.make)) = true := by kernel_rfl
theorem un_k25 : ((Rows.unmadeRow.kinds == (if Rows.unmadeRow.domain.isEmpty then [] else Tryz.f7.params.toList.map fun t => match Tryz.pinned.checked.prog.underlying t with | some (.int k) => some k | _ => none))) = true := by kernel_rfl
theorem un_k26 : ((Rows.unmadeRow.pinned == Rows.unmadeRow.pinnedBy)) = true := by kernel_rfl
theorem un_k27 : ((Rows.unmadeRow.veiled == (Tryz.f7.params.toList ++ Rows.unmadeSpec.plain.varTypes Tryz.pinned.checked.prog ++ Tryz.f7.resultTypes.toList).any (Tryz.pinned.checked.prog.veiledRec ·))) = true := by kernel_rfl
theorem un_k28 : (Rows.unmadeRow.veiledFits Tryz.pinned.checked.prog Tryz.f7.params.toList (Tryz.f7.params.toList ++ Rows.unmadeSpec.plain.varTypes Tryz.pinned.checked.prog ++ Tryz.f7.resultTypes.toList)) = true := by kernel_rfl
theorem un_closed : joinedFacts Tryz.pinned.checked.prog 7 Tryz.f7 Rows.unmadeSpec Rows.unmadeRow = true := (and_tt (and_tt (and_tt (and_tt (and_tt (and_tt (and_tt (and_tt (and_tt (and_tt (and_tt (and_tt (and_tt (and_tt (and_tt (and_tt (and_tt (and_tt (and_tt (and_tt (and_tt (and_tt (and_tt (and_tt (and_tt (and_tt (and_tt (and_tt (and_tt (and_tt (and_tt un_k1 un_k2) un_k3) un_k4) un_k5) un_k6) un_k7) un_k8) un_k9) un_k10) un_k11) un_k12) un_k13) un_k14) un_k15) un_k16) un_k17) un_k17b) un_k18) un_k19) un_k20) un_k21) un_k22) un_k23) un_k23b) un_k24) un_k24b) un_k24c) un_k25) un_k26) un_k27) un_k28)
end Go.Proofs.YtaieidcohdhgpaaGreatDoor
