/- The law Unmade returns true, whatever the world: a Volume that is nil, or that the caller made, is closed. The row's own conditions alone: what two tables of package unicode/utf8 hold is taken from the row's list; nothing else is asked. -/
import Derived.Test.YtaieidcohdhgpaaGreatDoorUnA
import Derived.Test.YtaieidcohdhgpaaGreatDoorUn1
import Derived.Test.YtaieidcohdhgpaaGreatDoorCards
import Derived.Test.YtaieidcohdhgpaaGreatDoorTie
import Derived.ProofKit
import Derived.OpenShut
import Derived.Lay
import Derived.SevenTiedAt
import Derived.Stop.Joined
namespace Go.Proofs.YtaieidcohdhgpaaGreatDoor
open Go.ChangeShapes Go.WideShapes Go.ChangeAt Go.RowKit

set_option maxHeartbeats 400000
set_option maxRecDepth 100000
theorem unmade_calls (w : World) : Calls Tryz.prog 7 #[] w fun e w' => e = .returned (.bool true) ∧ Below w.heap.size w w' := by
  go_enter Tryz.func7, Tryz.ntmps7
  go_wp2_with fail
  refine (none_un _ _ (Or.inl rfl)).mono ?_
  rintro e w1 ⟨rfl, hb⟩
  go_wp2_with fail
  refine (none_un _ _ (Or.inr ⟨_, _, rfl, by go_simp⟩)).mono ?_
  rintro e w2 ⟨rfl, hb2⟩
  go_wp2
  go_ret
  exact ⟨rfl, (hb.alloc (by simpa using hb.size) _).trans (hb2.mono (by have := hb.size; simp; omega))⟩
theorem unOwn : ownKnob Tryz.prog.godebug = none := by kernel_rfl
theorem unLifted (os : Os) (started : os.Started) (H : Type) (enc : TypeId × Value → H) :
    ReturnsInHanded {} Tryz.checked os 7 .any (fun w args => (Rows.unmadeSpec.pre enc Tryz.prog Tryz.f7 Rows.unmadeRow.domain false w args ∧ laidMetH Tryz.prog Rows.unmadeRow.laid w) ∧ sizedMet enc Tryz.prog Tryz.f7 (OpenSpec.ofChange Rows.unmadeSpec) false w args)
      (Rows.unmadeSpec.post enc Tryz.prog Tryz.f7 false true false false) := by
  refine returnsInHanded_of_change_and (C := Tryz.checked) (X := fun w _ => laidMetH Tryz.prog Rows.unmadeRow.laid w) (fun _ _ _ hh h => h.of_heap hh) unOwn started (by kernel_rfl) Tryz.func7
    (ChangeSpec.witness_shaped (enc := enc) (C := Tryz.checked) (os := os) (X := fun w _ => laidMetH Tryz.prog Rows.unmadeRow.laid w) false (World.laidAll Tryz.prog os Rows.unmadeRow.laid) #[] 8 (World.laidAll_os _ _ _)
      (World.shaped_of_ZipB (by kernel_rfl) (by kernel_rfl)) (by kernel_rfl) (by kernel_rfl) (by kernel_rfl)
      (by rw [MakeChecks.laidMetH_plain _ _ _ (by kernel_rfl)]; exact laidMet_laidAll _ (by kernel_rfl) (by kernel_rfl))) ?_
  intro W base args ds gs before hval0 hW hc _ hL _
  have hW' := hW
  obtain ⟨p, q, hA0, hV, rfl, _, _⟩ := hW
  have hA : DataW.TrodAll enc Tryz.prog W 0 (fun _ => true) true Tryz.f7.params.toList args.toList ds p := hA0
  rw [Tryz.params7] at hA
  obtain ⟨rfl, rfl, rfl⟩ := trodAll_none hA
  obtain ⟨rfl, rfl⟩ := trodVars_none hV
  simp only [List.append_nil] at hW'
  refine (unmade_calls W).mono fun e W' ⟨he, hb⟩ => ?_
  subst he
  exact ⟨_, rfl, _, _, _, [], [], [], hW', trodAll_mk1 (shut_bool Tryz.underlying4 _), trodAll_mk0, rfl, hb.frame _, fun h => by cases h⟩
theorem unmade_said : Rows.UnmadeSaid :=
  OpenClaim.holds_of_wide 7 Tryz.f7 rfl rfl rfl rfl rfl rfl rfl ⟨rfl, rfl, rfl, rfl, rfl⟩ rfl rfl rfl rfl rfl un_named Tryz.func7 un_closed un_inst un_wrap
    (fun os started H enc _ => unLifted os started H enc)
theorem un_looks : true = Tryz.pinned.checked.prog.looks [] := by kernel_rfl
theorem unmade_plain (f : FuncId) (fn : Func) (hf : Tryz.pinned.checked.prog.funcNamed "silt/siltlaw.Unmade" = some f) (hfn : Tryz.pinned.checked.prog.funcs[f]? = some fn) :
    true = Tryz.pinned.checked.prog.looks [] ∧ ∀ (j : Nat) t, fn.params[j]? = some t → Tryz.pinned.checked.prog.wantsStandIn t = false := by
  obtain rfl : f = 7 := Option.some.inj ((show Tryz.prog.funcNamed "silt/siltlaw.Unmade" = some 7 by kernel_rfl).symm.trans hf) |>.symm
  obtain rfl : fn = Tryz.f7 := (Option.some.inj (Tryz.func7.symm.trans hfn)).symm
  refine ⟨un_looks, fun j t ht => ?_⟩
  rw [Tryz.params7] at ht
  simp at ht
theorem unmade_card : Rows.UnmadeCardSaid :=
  Claim7.holds_tied_plain_at .later [] _ _ _ _ unmade_said (fun _ h => by cases h) (by kernel_rfl) (fun _ h => by cases h) unmade_row_tie rfl ⟨rfl, rfl⟩ (by kernel_rfl) rfl unmade_plain (by kernel_rfl)
#print axioms unmade_card
end Go.Proofs.YtaieidcohdhgpaaGreatDoor
