/- Files. -/
import Derived.Test.YtaieidcohdhgpaaGreatDoorCards
import Derived.Test.YtaieidcohdhgpaaGreatDoorTie
import Derived.ProofKit
import Derived.OpenShut
import Derived.Lay
import Derived.SevenTiedAt
import Derived.Stop.Joined
namespace Go.Proofs.YtaieidcohdhgpaaGreatDoor
open Go.ChangeShapes Go.WideShapes Go.ChangeAt Go.RowKit
set_option maxHeartbeats 400000
set_option maxRecDepth 100000
theorem and_tt {a b : Bool} (ha : a = true) (hb : b = true) : (a && b) = true := by rw [ha, hb]; rfl
theorem fi_named : Tryz.pinned.checked.prog.funcNamed Rows.filesUptoRow.func = some 3 := by kernel_rfl
theorem fi_inst : Tryz.f3.isInstance Tryz.pinned.checked.prog Rows.filesUptoRow.origin Rows.filesUptoRow.targs := of_decide_eq_true (by kernel_rfl)
theorem fi_wrap : Tryz.f3.isWrapper Tryz.pinned.checked.prog Rows.filesUptoRow.wrapper Rows.filesUptoRow.mainSum := by unfold Func.isWrapper; first | (rw [if_pos (by decide +kernel)]; kernel_rfl) | (rw [if_neg (by decide +kernel)]; exact ⟨rfl, rfl⟩)
theorem fi_k1 : (Rows.filesUptoRow.wf (OpenSpec.ofChange (Rows.OpenSpec.upto Rows.filesSpec).bare)) = true := by kernel_rfl
theorem fi_k2 : (laidOutB Tryz.pinned.checked.prog) = true := by kernel_rfl
theorem fi_k3 : (mapsRowed Tryz.pinned.checked.prog) = true := by kernel_rfl
theorem fi_k4 : (Tryz.f3.params.all (Tryz.pinned.checked.prog.readableRec ·)) = true := by kernel_rfl
theorem fi_k5 : (namedTie Tryz.pinned.checked.prog Rows.filesUptoRow.named (Rows.OpenSpec.upto Rows.filesSpec).bare.vars) = true := by kernel_rfl
theorem fi_k6 : ((Rows.filesUptoRow.stops == [])) = true := by kernel_rfl
theorem fi_k7 : ((Tryz.pinned.checked.prog.stops == [])) = true := by kernel_rfl
theorem fi_k8 : ((Rows.filesUptoRow.knobs == [])) = true := by kernel_rfl
theorem fi_k9 : ((Tryz.pinned.checked.prog.stopKnobs == [])) = true := by kernel_rfl
theorem fi_k10 : ((Rows.filesUptoRow.inPlace == Tryz.pinned.checked.prog.inPlace 3)) = true := by kernel_rfl
theorem fi_k11 : ((Rows.filesUptoRow.unfollowed == Tryz.pinned.checked.prog.unfollowed 3)) = true := by kernel_rfl
theorem fi_k12 : ((Rows.filesUptoRow.recurses == Tryz.pinned.checked.prog.recurses 3)) = true := by kernel_rfl
theorem fi_k13 : ((Rows.filesUptoRow.named == Tryz.pinned.checked.prog.varsNamed 3)) = true := by kernel_rfl
theorem fi_k14 : ((Rows.filesUptoRow.maps == (Tryz.f3.params.toList ++ (Rows.OpenSpec.upto Rows.filesSpec).bare.plain.varTypes Tryz.pinned.checked.prog).any (Tryz.pinned.checked.prog.mapsRec ·))) = true := by kernel_rfl
theorem fi_k15 : ((Rows.filesUptoRow.ifaces == (Tryz.f3.params.toList ++ (Rows.OpenSpec.upto Rows.filesSpec).bare.plain.varTypes Tryz.pinned.checked.prog).any (Tryz.pinned.checked.prog.ifacesRec ·))) = true := by kernel_rfl
theorem fi_k16 : ((Rows.filesUptoRow.mapsOut == Tryz.pinned.checked.prog.mapsAmong Tryz.f3.resultTypes.toList)) = true := by kernel_rfl
theorem fi_k17 : ((Rows.filesUptoRow.loops == (Tryz.f3.params.toList ++ (Rows.OpenSpec.upto Rows.filesSpec).bare.plain.varTypes Tryz.pinned.checked.prog).any (Tryz.pinned.checked.prog.loopsFrom ·))) = true := by kernel_rfl
theorem fi_k17b : ((Rows.filesUptoRow.wideKeys == (Tryz.f3.params.toList ++ (Rows.OpenSpec.upto Rows.filesSpec).bare.plain.varTypes Tryz.pinned.checked.prog ++ Tryz.f3.resultTypes.toList).any (Tryz.pinned.checked.prog.wideKeysFrom ·))) = true := by kernel_rfl
theorem fi_k18 : ((Rows.OpenSpec.upto Rows.filesSpec).bare.vars.all (Tryz.pinned.checked.prog.varReadable ·)) = true := by kernel_rfl
theorem fi_k19 : (Tryz.f3.resultTypes.all (fun t => Tryz.pinned.checked.prog.readableRec t && decide (t < Tryz.pinned.checked.prog.types.size))) = true := by kernel_rfl
theorem fi_k20 : ((Rows.filesUptoRow.ifacesOut == Tryz.f3.resultTypes.toList.any (Tryz.pinned.checked.prog.ifacesRec ·))) = true := by kernel_rfl
theorem fi_k21 : ((Rows.filesUptoRow.loopsOut == Tryz.f3.resultTypes.toList.any (Tryz.pinned.checked.prog.loopsFrom ·))) = true := by kernel_rfl
theorem fi_k22 : ((Rows.filesUptoRow.plainKeys == Tryz.pinned.checked.prog.plainKeys)) = true := by kernel_rfl
theorem fi_k23 : (Rows.filesUptoRow.shortTexts.isNone) = true := by kernel_rfl
theorem fi_k23b : (Tryz.pinned.checked.prog.stopsHeard) = true := by kernel_rfl
theorem fi_k24 : (Tryz.pinned.checked.prog.mayEnter) = true := by kernel_rfl
theorem fi_k24b : ((Rows.filesUptoRow.lifted == Tryz.pinned.checked.prog.liftsFinal)) = true := by kernel_rfl
theorem fi_k24c : ((Tryz.pinned.checked.prog.make == some Rows.filesUptoRow.make)) = true := by kernel_rfl
theorem fi_k25 : ((Rows.filesUptoRow.kinds == (if Rows.filesUptoRow.domain.isEmpty then [] else Tryz.f3.params.toList.map fun t => match Tryz.pinned.checked.prog.underlying t with | some (.int k) => some k | _ => none))) = true := by kernel_rfl
theorem fi_k26 : ((Rows.filesUptoRow.pinned == Rows.filesUptoRow.pinnedBy)) = true := by kernel_rfl
theorem fi_k27 : ((Rows.filesUptoRow.veiled == (Tryz.f3.params.toList ++ (Rows.OpenSpec.upto Rows.filesSpec).bare.plain.varTypes Tryz.pinned.checked.prog ++ Tryz.f3.resultTypes.toList).any (Tryz.pinned.checked.prog.veiledRec ·))) = true := by kernel_rfl
theorem fi_k28 : (Rows.filesUptoRow.veiledFits Tryz.pinned.checked.prog Tryz.f3.params.toList (Tryz.f3.params.toList ++ (Rows.OpenSpec.upto Rows.filesSpec).bare.plain.varTypes Tryz.pinned.checked.prog ++ Tryz.f3.resultTypes.toList)) = true := by kernel_rfl
theorem fi_closed : joinedFacts Tryz.pinned.checked.prog 3 Tryz.f3 (Rows.OpenSpec.upto Rows.filesSpec).bare Rows.filesUptoRow = true := (and_tt (and_tt (and_tt (and_tt (and_tt (and_tt (and_tt (and_tt (and_tt (and_tt (and_tt (and_tt (and_tt (and_tt (and_tt (and_tt (and_tt (and_tt (and_tt (and_tt (and_tt (and_tt (and_tt (and_tt (and_tt (and_tt (and_tt (and_tt (and_tt (and_tt (and_tt fi_k1 fi_k2) fi_k3) fi_k4) fi_k5) fi_k6) fi_k7) fi_k8) fi_k9) fi_k10) fi_k11) fi_k12) fi_k13) fi_k14) fi_k15) fi_k16) fi_k17) fi_k17b) fi_k18) fi_k19) fi_k20) fi_k21) fi_k22) fi_k23) fi_k23b) fi_k24) fi_k24b) fi_k24c) fi_k25) fi_k26) fi_k27) fi_k28)
end Go.Proofs.YtaieidcohdhgpaaGreatDoor
