/- The walks of Unmade: every call on a Volume that is none answers ErrClosed, or nothing. -/
import Derived.Test.YtaieidcohdhgpaaGreatDoorRows
import Derived.WalkKit
import Derived.WalkLawsBesides
import Derived.WalkSpells
import Derived.Deep.QuietTactic
import Derived.BigQuiet
namespace Go.Proofs.YtaieidcohdhgpaaGreatDoor
open Go.RowKit

set_option maxHeartbeats 400000
set_option maxRecDepth 20000
theorem eql_none_some (a : Addr) (w : World) : (binOp .eql 25 (.pointer none) (.pointer (some a))).run Tryz.prog w = .ok (.bool false) w := by kernel_rfl
theorem made_nil (w : World) : Calls Tryz.prog 53 #[.pointer none] w fun e w' => e = .returned (.bool false) ∧ w' = w := by
  go_enter Tryz.func53, Tryz.ntmps53
  go_wp2
  go_ret
  exact ⟨rfl, rfl⟩
theorem made_none (w : World) (b o : Nat) (h : w.cell? ⟨b, o, none⟩ = some (.pointer none)) : Calls Tryz.prog 53 #[.pointer (some ⟨b, o, none⟩)] w fun e w' => e = .returned (.bool false) ∧ w' = w := by
  have hq := eql_none_some
  go_enter Tryz.func53, Tryz.ntmps53
  go_wp2
  go_ret
  exact ⟨rfl, rfl⟩
/-- The pointer leads to no Volume that was made. -/
def Unmd (w : World) (v : Option Addr) : Prop := v = none ∨ ∃ b o, v = some ⟨b, o, none⟩ ∧ w.cell? ⟨b, o, none⟩ = some (.pointer none)
theorem Unmd.below {w w' : World} {v : Option Addr} (h : Unmd w v) (hb : Below w.heap.size w w') : Unmd w' v := by
  rcases h with rfl | ⟨b, o, rfl, hc⟩
  · exact Or.inl rfl
  · refine Or.inr ⟨b, o, rfl, ?_⟩
    have hlt : b < w.heap.size := by
      by_cases hb : b < w.heap.size
      · exact hb
      · simp [World.cell?, Array.getElem?_eq_none (Nat.le_of_not_lt hb)] at hc
    rw [hb.cell hlt]; exact hc
theorem made_un (w : World) (v : Option Addr) (h : Unmd w v) : Calls Tryz.prog 53 #[.pointer v] w fun e w' => e = .returned (.bool false) ∧ w' = w := by
  rcases h with rfl | ⟨b, o, rfl, hc⟩
  · exact made_nil w
  · exact made_none w b o hc
theorem un12 (w : World) (v : Option Addr) (s : ByteArray) (a n : Int) (h : Unmd w v) : Calls Tryz.prog 55 #[.pointer v, .string s, .int .i64 a, .int .i64 n] w fun e w' => e = .returned (.tuple #[.slice none 0 0, .int .i64 12]) ∧ w' = w := by
  go_enter Tryz.func55, Tryz.ntmps55
  go_wp2_with (go_at_call 53; refine (made_un _ _ h).mono ?_; rintro e w' ⟨rfl, rfl⟩)
  go_ret2
  exact ⟨rfl, rfl⟩
theorem un13 (w : World) (v : Option Addr) (s : ByteArray) (h : Unmd w v) : Calls Tryz.prog 56 #[.pointer v, .string s] w fun e w' => e = .returned (.tuple #[.slice none 0 0, .int .i64 12]) ∧ w' = w := by
  go_enter Tryz.func56, Tryz.ntmps56
  go_wp2_with (go_at_call 53; refine (made_un _ _ h).mono ?_; rintro e w' ⟨rfl, rfl⟩)
  go_ret2
  exact ⟨rfl, rfl⟩
theorem un15 (w : World) (v : Option Addr) (s : ByteArray) (h : Unmd w v) : Calls Tryz.prog 58 #[.pointer v, .string s] w fun e w' => e = .returned (.int .i64 12) ∧ w' = w := by
  go_enter Tryz.func58, Tryz.ntmps58
  go_wp2_with (go_at_call 53; refine (made_un _ _ h).mono ?_; rintro e w' ⟨rfl, rfl⟩)
  go_ret
  exact ⟨rfl, rfl⟩
theorem un16 (w : World) (v : Option Addr) (s : ByteArray) (a : Int) (x : Value) (h : Unmd w v) : Calls Tryz.prog 59 #[.pointer v, .string s, .int .i64 a, x] w fun e w' => e = .returned (.int .i64 12) ∧ w' = w := by
  go_enter Tryz.func59, Tryz.ntmps59
  go_wp2_with (go_at_call 53; refine (made_un _ _ h).mono ?_; rintro e w' ⟨rfl, rfl⟩)
  go_ret
  exact ⟨rfl, rfl⟩
theorem un17 (w : World) (v : Option Addr) (s : ByteArray) (a : Int) (h : Unmd w v) : Calls Tryz.prog 60 #[.pointer v, .string s, .int .i64 a] w fun e w' => e = .returned (.int .i64 12) ∧ w' = w := by
  go_enter Tryz.func60, Tryz.ntmps60
  go_wp2_with (go_at_call 53; refine (made_un _ _ h).mono ?_; rintro e w' ⟨rfl, rfl⟩)
  go_ret
  exact ⟨rfl, rfl⟩
theorem un18 (w : World) (v : Option Addr) (s t : ByteArray) (h : Unmd w v) : Calls Tryz.prog 61 #[.pointer v, .string s, .string t] w fun e w' => e = .returned (.int .i64 12) ∧ w' = w := by
  go_enter Tryz.func61, Tryz.ntmps61
  go_wp2_with (go_at_call 53; refine (made_un _ _ h).mono ?_; rintro e w' ⟨rfl, rfl⟩)
  go_ret
  exact ⟨rfl, rfl⟩
theorem un19 (w : World) (v : Option Addr) (s t : ByteArray) (h : Unmd w v) : Calls Tryz.prog 62 #[.pointer v, .string s, .string t] w fun e w' => e = .returned (.int .i64 12) ∧ w' = w := by
  go_enter Tryz.func62, Tryz.ntmps62
  go_wp2_with (go_at_call 53; refine (made_un _ _ h).mono ?_; rintro e w' ⟨rfl, rfl⟩)
  go_ret
  exact ⟨rfl, rfl⟩
theorem un20 (w : World) (v : Option Addr) (s : ByteArray) (h : Unmd w v) : Calls Tryz.prog 63 #[.pointer v, .string s] w fun e w' => e = .returned (.int .i64 12) ∧ w' = w := by
  go_enter Tryz.func63, Tryz.ntmps63
  go_wp2_with (go_at_call 53; refine (made_un _ _ h).mono ?_; rintro e w' ⟨rfl, rfl⟩)
  go_ret
  exact ⟨rfl, rfl⟩
theorem un21 (w : World) (v : Option Addr) (h : Unmd w v) : Calls Tryz.prog 26 #[.pointer v] w fun e w' => e = .returned (.int .i64 12) ∧ w' = w := by
  go_enter Tryz.func26, Tryz.ntmps26
  go_wp2_with (go_at_call 53; refine (made_un _ _ h).mono ?_; rintro e w' ⟨rfl, rfl⟩)
  go_ret
  exact ⟨rfl, rfl⟩
theorem un22 (w : World) (v : Option Addr) (h : Unmd w v) : Calls Tryz.prog 34 #[.pointer v] w fun e w' => e = .returned (.int .i64 0) ∧ w' = w := by
  go_enter Tryz.func34, Tryz.ntmps34
  go_wp2_with (go_at_call 53; refine (made_un _ _ h).mono ?_; rintro e w' ⟨rfl, rfl⟩)
  go_ret
  exact ⟨rfl, rfl⟩
theorem un14 (w : World) (v : Option Addr) (s : ByteArray) (h : Unmd w v) : Calls Tryz.prog 57 #[.pointer v, .string s] w fun e w' => e = .returned (.tuple #[.agg #[.string ⟨#[]⟩, .bool false, .int .i64 0, .int .i64 0], .int .i64 12]) ∧ Below w.heap.size w w' := by
  go_enter Tryz.func57, Tryz.ntmps57
  go_wp2_with (go_at_call 53; refine (made_un _ _ (h.below (by exact (Below.refl _ _).alloc (Nat.le_refl _) _))).mono ?_; rintro e w' ⟨rfl, rfl⟩)
  exact bodyPost_ret (v := .tuple #[.agg #[.string ⟨#[]⟩, .bool false, .int .i64 0, .int .i64 0], .int .i64 12]) (by simp [results, Tryz.results57, go_sem]) rfl ⟨rfl, (Below.refl _ _).alloc (Nat.le_refl _) _⟩
theorem un34 (w : World) (v : Option Addr) (h : Unmd w v) : Calls Tryz.prog 33 #[.pointer v] w fun e w' => e = .returned (.int .i64 0) ∧ w' = w := by
  go_enter Tryz.func33, Tryz.ntmps33
  go_wp2_with (go_at_call 53; refine (made_un _ _ h).mono ?_; rintro e w' ⟨rfl, rfl⟩)
  go_ret
  exact ⟨rfl, rfl⟩
theorem unImage (w : World) (v : Option Addr) (h : Unmd w v) : Calls Tryz.prog 28 #[.pointer v] w fun e w' => e = .returned (.slice none 0 0) ∧ w' = w := by
  go_enter Tryz.func28, Tryz.ntmps28
  go_wp2_with (go_at_call 53; refine (made_un _ _ h).mono ?_; rintro e w' ⟨rfl, rfl⟩)
  go_ret
  exact ⟨rfl, rfl⟩
theorem unEpochs (w : World) (v : Option Addr) (h : Unmd w v) : Calls Tryz.prog 30 #[.pointer v] w fun e w' => e = .returned (.int .i64 0) ∧ w' = w := by
  go_enter Tryz.func30, Tryz.ntmps30
  go_wp2_with (go_at_call 53; refine (made_un _ _ h).mono ?_; rintro e w' ⟨rfl, rfl⟩)
  go_ret
  exact ⟨rfl, rfl⟩
theorem unWrites (w : World) (v : Option Addr) (n : Int) (h : Unmd w v) : Calls Tryz.prog 64 #[.pointer v, .int .i64 n] w fun e w' => e = .returned (.int .i64 0) ∧ w' = w := by
  go_enter Tryz.func64, Tryz.ntmps64
  go_wp2_with (go_at_call 53; refine (made_un _ _ h).mono ?_; rintro e w' ⟨rfl, rfl⟩)
  go_ret
  exact ⟨rfl, rfl⟩
theorem unBroken (w : World) (v : Option Addr) (n : Int) (x : Value) (h : Unmd w v) : Calls Tryz.prog 31 #[.pointer v, .int .i64 n, x] w fun e w' => e = .returned (.slice none 0 0) ∧ w' = w := by
  go_enter Tryz.func31, Tryz.ntmps31
  go_wp2_with (go_at_call 53; refine (made_un _ _ h).mono ?_; rintro e w' ⟨rfl, rfl⟩)
  go_ret
  exact ⟨rfl, rfl⟩
theorem unDump (w : World) (v : Option Addr) (h : Unmd w v) : Calls Tryz.prog 19 #[.pointer v] w fun e w' => e = .returned (.string ⟨#[]⟩) ∧ w' = w := by
  go_enter Tryz.func19, Tryz.ntmps19
  go_wp2_with (go_at_call 53; refine (made_un _ _ h).mono ?_; rintro e w' ⟨rfl, rfl⟩)
  go_ret
  exact ⟨rfl, rfl⟩
theorem num_any (n : Int) (w : World) : Calls Tryz.prog 16 #[.int .i64 n] w fun e w' => e = .returned (.int .i64 n) ∧ w' = w := by
  go_enter Tryz.func16, Tryz.ntmps16
  go_wp2
  go_ret
  exact ⟨rfl, rfl⟩
theorem none_un (w : World) (v : Option Addr) (h : Unmd w v) : Calls Tryz.prog 20 #[.pointer v] w fun e w' => e = .returned (.bool true) ∧ Below w.heap.size w w' := by
  go_enter Tryz.func20, Tryz.ntmps20
  go_wp2_with fail
  refine (un12 _ _ _ _ _ h).mono ?_
  rintro e w' ⟨rfl, rfl⟩
  go_wp2_with fail
  refine (un13 _ _ _ h).mono ?_
  rintro e w' ⟨rfl, rfl⟩
  go_wp2_with fail
  refine (un14 _ _ _ h).mono ?_
  rintro e w' ⟨rfl, hb⟩
  have h1 : Unmd w' v := h.below hb
  have h2 := fun o => h1.below (((Below.refl w'.heap.size w')).alloc (Nat.le_refl _) o)
  have hbb := fun o => (hb.trans (((Below.refl w'.heap.size w').alloc (Nat.le_refl _) o).mono hb.size))
  go_wp2_with fail
  refine (un15 _ _ _ (h2 _)).mono ?_
  rintro e w1 ⟨rfl, rfl⟩
  go_wp2_with fail
  refine (un16 _ _ _ _ _ (h2 _)).mono ?_
  rintro e w1 ⟨rfl, rfl⟩
  go_wp2_with fail
  refine (un17 _ _ _ _ (h2 _)).mono ?_
  rintro e w1 ⟨rfl, rfl⟩
  go_wp2_with fail
  refine (un18 _ _ _ _ (h2 _)).mono ?_
  rintro e w1 ⟨rfl, rfl⟩
  go_wp2_with fail
  refine (un19 _ _ _ _ (h2 _)).mono ?_
  rintro e w1 ⟨rfl, rfl⟩
  go_wp2_with fail
  refine (un20 _ _ _ (h2 _)).mono ?_
  rintro e w1 ⟨rfl, rfl⟩
  go_wp2_with fail
  refine (un21 _ _ (h2 _)).mono ?_
  rintro e w1 ⟨rfl, rfl⟩
  go_wp2_with (first | (go_at_call 33; refine (un34 _ _ (h2 _)).mono ?_; rintro e w1 ⟨rfl, rfl⟩) | (go_at_call 28; refine (unImage _ _ (h2 _)).mono ?_; rintro e w1 ⟨rfl, rfl⟩) | (go_at_call 30; refine (unEpochs _ _ (h2 _)).mono ?_; rintro e w1 ⟨rfl, rfl⟩) | (go_at_call 64; refine (unWrites _ _ _ (h2 _)).mono ?_; rintro e w1 ⟨rfl, rfl⟩) | (go_at_call 31; refine (unBroken _ _ _ _ (h2 _)).mono ?_; rintro e w1 ⟨rfl, rfl⟩) | (go_at_call 19; refine (unDump _ _ (h2 _)).mono ?_; rintro e w1 ⟨rfl, rfl⟩) | (go_at_call 34; refine (un22 _ _ (h2 _)).mono ?_; rintro e w1 ⟨rfl, rfl⟩) | (go_at_call 16; refine (num_any _ _).mono ?_; rintro e w1 ⟨rfl, rfl⟩) | go_in)
  go_ret
  exact ⟨rfl, hbb _⟩
end Go.Proofs.YtaieidcohdhgpaaGreatDoor
