/- Files: a Volume's calls are its tree's; New, Format. Files: the program's Volume beside the reference's tree: both hold the same. -/
import Derived.Test.YtfabjhgkigagpaaGreatDoorPBA
import Derived.Test.YtfabjhgkigagpaaGreatDoorPBC
namespace Go.Proofs.YtfabjhgkigagpaaGreatDoor
open Go.RowKit

set_option maxHeartbeats 1000000
set_option maxRecDepth 100000
/-- A Volume that was made. -/
def VolW (w : World) (vb tb : Nat) : Prop := RowIs w vb 29 [.pointer (some ⟨vb, 0, none⟩), .pointer (some ⟨tb, 0, none⟩)]
theorem eql_same (a : Addr) (w : World) : (binOp .eql 25 (.pointer (some a)) (.pointer (some a))).run Tryz.prog w = .ok (.bool true) w := by
  obtain ⟨j, hj⟩ : ∃ j, Tryz.prog.info? 29 = some j := Option.isSome_iff_exists.1 (by kernel_rfl)
  exact run_eql_ptr_same w a Tryz.underlying25 hj
theorem made_yes (w : World) (vb tb : Nat) (h : VolW w vb tb) : Calls Tryz.prog 47 #[.pointer (some ⟨vb, 0, none⟩)] w fun e w' => e = .returned (.bool true) ∧ w' = w := by
  have h0 : w.cell? ⟨vb, 0, none⟩ = some (.pointer (some ⟨vb, 0, none⟩)) := (RowIs.cell h 0).trans rfl
  have hq := eql_same
  go_enter Tryz.func47, Tryz.ntmps47
  go_wp2
  go_ret
  exact ⟨rfl, rfl⟩
theorem mkdirV (w : World) (vb tb : Nat) (h : VolW w vb tb) (p : ByteArray) (Q : Ending → World → Prop) (hQ : ∀ e w', Q e w' → ∃ n : Int, e = .returned (.int .i64 n))
    (hc : Calls Tryz.prog 51 #[.pointer (some ⟨tb, 0, none⟩), .string p] w Q) : Calls Tryz.prog 15 #[.pointer (some ⟨vb, 0, none⟩), .string p] w Q := by
  have hm := made_yes w vb tb h
  have h1 : w.cell? ⟨vb, 1, none⟩ = some (.pointer (some ⟨tb, 0, none⟩)) := (RowIs.cell h 1).trans rfl
  have HQ := hide hQ
  clear hQ h
  go_enter Tryz.func15, Tryz.ntmps15
  go_wp2_with (go_at_call 47; refine hm.mono ?_; rintro e w' ⟨rfl, rfl⟩)
  refine hc.mono ?_
  intro e w1 hq
  obtain ⟨n, rfl⟩ := unhide HQ e w1 hq
  go_wp2
  exact hq
theorem writeV (w : World) (vb tb : Nat) (h : VolW w vb tb) (p : ByteArray) (i : Int) (x : Value) (Q : Ending → World → Prop) (hQ : ∀ e w', Q e w' → ∃ n : Int, e = .returned (.int .i64 n))
    (hc : Calls Tryz.prog 52 #[.pointer (some ⟨tb, 0, none⟩), .string p, .int .i64 i, x] w Q) : Calls Tryz.prog 16 #[.pointer (some ⟨vb, 0, none⟩), .string p, .int .i64 i, x] w Q := by
  have hm := made_yes w vb tb h
  have h1 : w.cell? ⟨vb, 1, none⟩ = some (.pointer (some ⟨tb, 0, none⟩)) := (RowIs.cell h 1).trans rfl
  have HQ := hide hQ
  clear hQ h
  go_enter Tryz.func16, Tryz.ntmps16
  go_wp2_with (go_at_call 47; refine hm.mono ?_; rintro e w' ⟨rfl, rfl⟩)
  refine hc.mono ?_
  intro e w1 hq
  obtain ⟨n, rfl⟩ := unhide HQ e w1 hq
  go_wp2
  exact hq
theorem cutV (w : World) (vb tb : Nat) (h : VolW w vb tb) (p : ByteArray) (i : Int) (Q : Ending → World → Prop) (hQ : ∀ e w', Q e w' → ∃ n : Int, e = .returned (.int .i64 n))
    (hc : Calls Tryz.prog 53 #[.pointer (some ⟨tb, 0, none⟩), .string p, .int .i64 i] w Q) : Calls Tryz.prog 17 #[.pointer (some ⟨vb, 0, none⟩), .string p, .int .i64 i] w Q := by
  have hm := made_yes w vb tb h
  have h1 : w.cell? ⟨vb, 1, none⟩ = some (.pointer (some ⟨tb, 0, none⟩)) := (RowIs.cell h 1).trans rfl
  have HQ := hide hQ
  clear hQ h
  go_enter Tryz.func17, Tryz.ntmps17
  go_wp2_with (go_at_call 47; refine hm.mono ?_; rintro e w' ⟨rfl, rfl⟩)
  refine hc.mono ?_
  intro e w1 hq
  obtain ⟨n, rfl⟩ := unhide HQ e w1 hq
  go_wp2
  exact hq
theorem linkV (w : World) (vb tb : Nat) (h : VolW w vb tb) (p q : ByteArray) (Q : Ending → World → Prop) (hQ : ∀ e w', Q e w' → ∃ n : Int, e = .returned (.int .i64 n))
    (hc : Calls Tryz.prog 54 #[.pointer (some ⟨tb, 0, none⟩), .string p, .string q] w Q) : Calls Tryz.prog 18 #[.pointer (some ⟨vb, 0, none⟩), .string p, .string q] w Q := by
  have hm := made_yes w vb tb h
  have h1 : w.cell? ⟨vb, 1, none⟩ = some (.pointer (some ⟨tb, 0, none⟩)) := (RowIs.cell h 1).trans rfl
  have HQ := hide hQ
  clear hQ h
  go_enter Tryz.func18, Tryz.ntmps18
  go_wp2_with (go_at_call 47; refine hm.mono ?_; rintro e w' ⟨rfl, rfl⟩)
  refine hc.mono ?_
  intro e w1 hq
  obtain ⟨n, rfl⟩ := unhide HQ e w1 hq
  go_wp2
  exact hq
theorem moveV (w : World) (vb tb : Nat) (h : VolW w vb tb) (p q : ByteArray) (Q : Ending → World → Prop) (hQ : ∀ e w', Q e w' → ∃ n : Int, e = .returned (.int .i64 n))
    (hc : Calls Tryz.prog 55 #[.pointer (some ⟨tb, 0, none⟩), .string p, .string q] w Q) : Calls Tryz.prog 19 #[.pointer (some ⟨vb, 0, none⟩), .string p, .string q] w Q := by
  have hm := made_yes w vb tb h
  have h1 : w.cell? ⟨vb, 1, none⟩ = some (.pointer (some ⟨tb, 0, none⟩)) := (RowIs.cell h 1).trans rfl
  have HQ := hide hQ
  clear hQ h
  go_enter Tryz.func19, Tryz.ntmps19
  go_wp2_with (go_at_call 47; refine hm.mono ?_; rintro e w' ⟨rfl, rfl⟩)
  refine hc.mono ?_
  intro e w1 hq
  obtain ⟨n, rfl⟩ := unhide HQ e w1 hq
  go_wp2
  exact hq
theorem removeV (w : World) (vb tb : Nat) (h : VolW w vb tb) (p : ByteArray) (Q : Ending → World → Prop) (hQ : ∀ e w', Q e w' → ∃ n : Int, e = .returned (.int .i64 n))
    (hc : Calls Tryz.prog 56 #[.pointer (some ⟨tb, 0, none⟩), .string p] w Q) : Calls Tryz.prog 20 #[.pointer (some ⟨vb, 0, none⟩), .string p] w Q := by
  have hm := made_yes w vb tb h
  have h1 : w.cell? ⟨vb, 1, none⟩ = some (.pointer (some ⟨tb, 0, none⟩)) := (RowIs.cell h 1).trans rfl
  have HQ := hide hQ
  clear hQ h
  go_enter Tryz.func20, Tryz.ntmps20
  go_wp2_with (go_at_call 47; refine hm.mono ?_; rintro e w' ⟨rfl, rfl⟩)
  refine hc.mono ?_
  intro e w1 hq
  obtain ⟨n, rfl⟩ := unhide HQ e w1 hq
  go_wp2
  exact hq
theorem usageV (w : World) (vb tb : Nat) (h : VolW w vb tb)  (Q : Ending → World → Prop) (hQ : ∀ e w', Q e w' → ∃ n : Int, e = .returned (.int .i64 n))
    (hc : Calls Tryz.prog 57 #[.pointer (some ⟨tb, 0, none⟩)] w Q) : Calls Tryz.prog 22 #[.pointer (some ⟨vb, 0, none⟩)] w Q := by
  have hm := made_yes w vb tb h
  have h1 : w.cell? ⟨vb, 1, none⟩ = some (.pointer (some ⟨tb, 0, none⟩)) := (RowIs.cell h 1).trans rfl
  have HQ := hide hQ
  clear hQ h
  go_enter Tryz.func22, Tryz.ntmps22
  go_wp2_with (go_at_call 47; refine hm.mono ?_; rintro e w' ⟨rfl, rfl⟩)
  refine hc.mono ?_
  intro e w1 hq
  obtain ⟨n, rfl⟩ := unhide HQ e w1 hq
  go_wp2
  exact hq
theorem readV (w : World) (vb tb : Nat) (h : VolW w vb tb) (p : ByteArray) (i n : Int) (Q : Ending → World → Prop) (hQ : ∀ e w', Q e w' → ∃ a n c k, e = .returned (.tuple #[.slice a n c, .int .i64 k]))
    (hc : Calls Tryz.prog 48 #[.pointer (some ⟨tb, 0, none⟩), .string p, .int .i64 i, .int .i64 n] w Q) : Calls Tryz.prog 12 #[.pointer (some ⟨vb, 0, none⟩), .string p, .int .i64 i, .int .i64 n] w Q := by
  have hm := made_yes w vb tb h
  have h1 : w.cell? ⟨vb, 1, none⟩ = some (.pointer (some ⟨tb, 0, none⟩)) := (RowIs.cell h 1).trans rfl
  have HQ := hide hQ
  clear hQ h
  go_enter Tryz.func12, Tryz.ntmps12
  go_wp2_with (go_at_call 47; refine hm.mono ?_; rintro e w' ⟨rfl, rfl⟩)
  refine hc.mono ?_
  intro e w1 hq
  obtain ⟨a, n, c, k, rfl⟩ := unhide HQ e w1 hq
  go_wp2
  exact hq
theorem listV (w : World) (vb tb : Nat) (h : VolW w vb tb) (p : ByteArray) (Q : Ending → World → Prop) (hQ : ∀ e w', Q e w' → ∃ a n c k, e = .returned (.tuple #[.slice a n c, .int .i64 k]))
    (hc : Calls Tryz.prog 49 #[.pointer (some ⟨tb, 0, none⟩), .string p] w Q) : Calls Tryz.prog 13 #[.pointer (some ⟨vb, 0, none⟩), .string p] w Q := by
  have hm := made_yes w vb tb h
  have h1 : w.cell? ⟨vb, 1, none⟩ = some (.pointer (some ⟨tb, 0, none⟩)) := (RowIs.cell h 1).trans rfl
  have HQ := hide hQ
  clear hQ h
  go_enter Tryz.func13, Tryz.ntmps13
  go_wp2_with (go_at_call 47; refine hm.mono ?_; rintro e w' ⟨rfl, rfl⟩)
  refine hc.mono ?_
  intro e w1 hq
  obtain ⟨a, n, c, k, rfl⟩ := unhide HQ e w1 hq
  go_wp2
  exact hq
theorem imageV (w : World) (v : Option Addr) : Calls Tryz.prog 24 #[.pointer v] w fun e w' => e = .returned (.slice none 0 0) ∧ w' = w := by
  go_enter Tryz.func24, Tryz.ntmps24
  go_wp2
  go_ret
  exact ⟨rfl, rfl⟩
theorem epochsV (w : World) (v : Option Addr) : Calls Tryz.prog 25 #[.pointer v] w fun e w' => e = .returned (.int .i64 0) ∧ w' = w := by
  go_enter Tryz.func25, Tryz.ntmps25
  go_wp2
  go_ret
  exact ⟨rfl, rfl⟩
theorem statV (w : World) (vb tb : Nat) (h : VolW w vb tb) (p : ByteArray) (Q : Ending → Prop) (hQ : ∀ e, Q e → ∃ a b c d k, e = .returned (.tuple #[.agg #[.string a, .bool b, .int .i64 c, .int .i64 d], .int .i64 k]))
    (hc : ∀ W, Below w.heap.size w W → Calls Tryz.prog 50 #[.pointer (some ⟨tb, 0, none⟩), .string p] W fun e w' => Q e ∧ Below W.heap.size W w') :
    Calls Tryz.prog 14 #[.pointer (some ⟨vb, 0, none⟩), .string p] w fun e w' => Q e ∧ Below w.heap.size w w' := by
  have hal : ∀ o, Below w.heap.size w (w.alloc o) := fun o => (Below.refl _ _).alloc (Nat.le_refl _) o
  have hm := fun o => made_yes (w.alloc o) vb tb (RowIs.alloc h o)
  have h1 := fun o => ((RowIs.cell (RowIs.alloc h o) 1).trans rfl : (w.alloc o).cell? ⟨vb, 1, none⟩ = some (.pointer (some ⟨tb, 0, none⟩)))
  have HR0 := hide (row_new w [.string ⟨#[]⟩, .bool false, .int .i64 0, .int .i64 0] 51)
  have hcc := fun o => hc _ (hal o)
  have HQ := hide hQ
  clear hQ h hc
  go_enter Tryz.func14, Tryz.ntmps14
  go_wp2_with (go_at_call 47; refine (hm _).mono ?_; rintro e w' ⟨rfl, rfl⟩)
  refine (hcc _).mono ?_
  rintro e w1 ⟨hq, hb1⟩
  obtain ⟨a, b, c, d, k, rfl⟩ := unhide HQ e hq
  have hb : Below w.heap.size w w1 := (hal _).trans (hb1.mono (by simp))
  have hy : RowIs w1 w.heap.size 51 _ := (hb1.block _ (by simp)).trans (unhide HR0)
  clear hcc hal hb1 HR0 hm h1
  have b0 := hy.cell 0; have b1 := hy.cell 1; have b2 := hy.cell 2; have b3 := hy.cell 3
  have g0 := hy.frozen 0; have g1 := hy.frozen 1; have g2 := hy.frozen 2; have g3 := hy.frozen 3
  go_wp2
  have hR := set4' hy (.string a) (.bool b) (.int .i64 c) (.int .i64 d)
  have r0 := hR.cell 0; have r1 := hR.cell 1; have r2 := hR.cell 2; have r3 := hR.cell 3
  exact bodyPost_ret (v := .tuple #[.agg #[.string a, .bool b, .int .i64 c, .int .i64 d], .int .i64 k]) (by simp [results, Tryz.results14, go_sem, r0, r1, r2, r3]) rfl
      ⟨hq, below_set4' hb (Nat.le_refl _) _ _ _ _⟩
def NewPost (w : World) (e : Ending) (w' : World) : Prop :=
  ∃ tb, e = .returned (.pointer (some ⟨tb, 0, none⟩)) ∧ w.heap.size < tb ∧ PS w' tb [] [] (fun _ => ⟨#[]⟩) ∧ Below w.heap.size w w'
theorem new_code (w : World) (hp : PkgOk w) : Calls Tryz.prog 58 #[] w (NewPost w) := by
  go_enter Tryz.func58, Tryz.ntmps58
  go_wp2
  go_ret
  have hb : Below w.heap.size w ((w.alloc (.cells #[.slice none 0 0] 131)).alloc (.cells #[.pointer (some ⟨w.heap.size, 0, none⟩), .slice none 0 0] 118)) := ((Below.refl _ w).alloc (Nat.le_refl _) _).alloc (by simp) _
  refine ⟨_, rfl, by simp, ⟨w.heap.size, fun _ => .slice none 0 0, fun _ => [], .slice none 0 0, ?_, ?_, ?_, ?_, ?_, ?_, by simp, fun g hg => by simp [Value.ownBlock] at hg⟩, hb⟩
  · exact hp.fr (X := fun _ => False) (Fr.of_below hb) id
  · have := row_new (w.alloc (.cells #[.slice none 0 0] 131)) [.pointer (some ⟨w.heap.size, 0, none⟩), .slice none 0 0] 118
    rw [show (w.alloc (.cells #[.slice none 0 0] 131)).heap.size = w.heap.size + 1 by simp] at this
    exact this
  · have hr : RowIs ((w.alloc (.cells #[.slice none 0 0] 131)).alloc (.cells #[.pointer (some ⟨w.heap.size, 0, none⟩), .slice none 0 0] 118)) w.heap.size 131 [.slice none 0 0] := (row_new w [.slice none 0 0] 131).alloc _
    have hd : ∀ ns b, IsDir [] w.heap.size ns b → ns = [] ∧ b = w.heap.size := fun ns b h => h.elim id (fun h => by cases h)
    refine ⟨fun x hx => (by cases hx), fun ns b h => ?_, fun ns b h => ⟨rfl, .inl ⟨rfl, rfl⟩⟩, fun ns b h => ?_, fun ns b h => ?_, fun ns ns' b h h' => (hd _ _ h).1.trans (hd _ _ h').1.symm, fun ns ns' b b' g h h' _ _ => (hd _ _ h).2.trans (hd _ _ h').2.symm, fun ns b h => ⟨Nat.le_of_eq (hd _ _ h).2.symm, fun g hg => by simp [Value.ownBlock] at hg⟩⟩
    · obtain ⟨-, rfl⟩ := hd _ _ h
      exact hr
    · exact fun j k x y _ h => by simp at h
    · intro a s
      simp
  · exact ⟨rfl, .inl ⟨rfl, rfl⟩⟩
  · exact fun j k x y _ h => by simp at h
  · intro x hx
    cases hx
def FmPost (w : World) (e : Ending) (w' : World) : Prop :=
  ∃ vb tb, e = .returned (.pointer (some ⟨vb, 0, none⟩)) ∧ w.heap.size ≤ vb ∧ VolW w' vb tb ∧ PS w' tb [] [] (fun _ => ⟨#[]⟩) ∧ Below w.heap.size w w' ∧ w.heap.size < tb ∧ tb < w'.heap.size
theorem format_code (w : World) (hp : PkgOk w) : Calls Tryz.prog 30 #[] w (FmPost w) := by
  have hn := new_code w hp
  clear hp
  go_enter Tryz.func30, Tryz.ntmps30
  go_wp2_with fail
  refine hn.mono ?_
  rintro e w1 ⟨tb, rfl, hle, hps, hb⟩
  have HPS := hide hps
  clear hn hps
  go_upto_region 2 with fail
  obtain ⟨W, hW, hx, hk, hsz, hbW⟩ := alloc_name w1 [.pointer none, .pointer (some ⟨tb, 0, none⟩)] 29
  have hb2 : Below w.heap.size w W := hb.trans (hbW.mono hb.size)
  have htl : tb < W.heap.size := by obtain ⟨rd, V, E, vi, h⟩ := unhide HPS; have := h.t.lt; omega
  have hps2 : PS W tb [] [] (fun _ => ⟨#[]⟩) := by obtain ⟨rd, V, E, vi, h⟩ := unhide HPS; exact ⟨rd, V, E, vi, h.below hbW (Nat.le_refl _)⟩
  have HPS2 := hide hps2
  have hle1 := hb.size
  rw [hW]
  clear hW hk hbW hps2 HPS hb hsz
  have b0 := hx.cell 0
  have g0 := hx.frozen 0
  go_wp2
  go_ret
  refine ⟨_, tb, rfl, hle1, ?_, ?_, hb2.setCell (p := ⟨w1.heap.size, 0, none⟩) hle1 _, hle, by simpa [World.setCell] using htl⟩
  · exact hx.set 0 _
  · obtain ⟨rd, V, E, vi, h⟩ := unhide HPS2
    refine ⟨rd, V, E, vi, h.fr (X := fun k => k = w1.heap.size) ((Fr.refl _ _).set _ _ rfl) ?_ ?_⟩
    · intro e
      have := h.pk.2 29 _ (by rw [e]; exact hx)
      exact absurd this (by decide)
    · rintro k t R rfl hR
      have := hR.type hx
      subst this
      decide
end Go.Proofs.YtfabjhgkigagpaaGreatDoor
namespace Go.Proofs.YtfabjhgkigagpaaGreatDoor
open Go.RowKit

set_option maxHeartbeats 1000000
set_option maxRecDepth 100000
/-- The blocks that are a tree's, the program's or the reference's. -/
def JT (tb : Nat) (w : World) (k : Nat) : Prop := (∃ t R, RowIs w k t R ∧ (t = 118 ∨ t = 131 ∨ t = 164 ∨ t = 160 ∨ t = 69 ∨ t = 81 ∨ t = 9)) ∧ tb ≤ k + 1
theorem Fr.jTrans {tb : Nat} {w w1 w2 : World} (h1 : Fr (JT tb w) w w1) (h2 : Fr (JT tb w1) w1 w2) : Fr (JT tb w) w w2 :=
  ⟨h2.os.trans h1.os, h2.tape.trans h1.tape, h2.output.trans h1.output, Nat.le_trans h1.size h2.size, fun k hk hX => by
    have e1 := h1.block k hk hX
    refine (h2.block k (Nat.lt_of_lt_of_le hk h1.size) (fun ⟨⟨t, R, hR, ht⟩, hl⟩ => hX ⟨⟨t, R, e1.symm.trans hR, ht⟩, hl⟩)).trans e1⟩
theorem Fr.jBelow {tb : Nat} {w w1 w2 : World} (h1 : Fr (JT tb w) w w1) (h2 : Below w1.heap.size w1 w2) : Fr (JT tb w) w w2 := h1.jTrans (Fr.of_below h2)
/-- The reference's tree, and where it stands. -/
structure RefL (w : World) (tb rb : Nat) (vl vf : Value) (L : List (ByteArray × Int)) (F : List ByteArray) : Prop extends RefW w rb vl vf L F where
  lo : ∀ k, RefOwn rb vl vf k → tb ≤ k + 1
/-- A Volume and a reference's tree: the tree holds L and F; the Volume L' and F'. -/
def Md (w : World) (vb tb rb : Nat) (L : List (ByteArray × Int)) (F : List ByteArray) (L' : List (ByteArray × Int)) (F' : List ByteArray) : Prop :=
  ∃ G I C ρ vl vf, VolW w vb tb ∧ PS w tb G I C ∧ RefL w tb rb vl vf L F ∧ Rl G I C ρ L' F' ∧ cD G [] + I.length ≤ 60
section
variable {w w' : World} {vb tb rb : Nat} {L L' L1 : List (ByteArray × Int)} {F F' F1 : List ByteArray} {G G' : Gh} {I I' : List (Int × VF)} {C C' : Int → ByteArray} {ρ ρ' : Int → Nat} {vl vf : Value}
theorem refOwn_type (h : RefW w rb vl vf L F) {k : Nat} (hk : RefOwn rb vl vf k) : ∃ t R, RowIs w k t R ∧ (t = 69 ∨ t = 81 ∨ t = 9) := by
  rcases hk with rfl | hk | hk
  · exact ⟨_, _, h.hd, .inl rfl⟩
  · obtain ⟨R, hR⟩ := h.sl.type hk
    exact ⟨_, _, hR, .inr (.inl rfl)⟩
  · obtain ⟨R, hR⟩ := h.sf.type hk
    exact ⟨_, _, hR, .inr (.inr rfl)⟩
theorem Md.prog (hv : VolW w vb tb) (hrf : RefL w tb rb vl vf L F) (hf : Fr (ProgT tb w) w w') (hps : PS w' tb G' I' C') (hrl : Rl G' I' C' ρ' L' F') (hn : cD G' [] + I'.length ≤ 60) : Fr (JT tb w) w w' ∧ Md w' vb tb rb L F L' F' := by
  refine ⟨⟨hf.os, hf.tape, hf.output, hf.size, fun k hk hX => hf.block k hk (fun ⟨⟨t, R, hR, ht⟩, hl⟩ => hX ⟨⟨t, R, hR, by rcases ht with h | h | h | h <;> simp [h]⟩, hl⟩)⟩, G', I', C', ρ', vl, vf, ?_, hps, ?_, hrl, hn⟩
  · refine RowIs.fr hv hf (fun ⟨⟨t, R, hR, ht⟩, _⟩ => ?_)
    have := hR.type hv
    subst this
    revert ht; decide
  · refine ⟨hrf.fr hf (fun k hk ⟨⟨t, R, hR, ht⟩, _⟩ => ?_), hrf.lo⟩
    obtain ⟨t', R', hR', ht'⟩ := refOwn_type hrf.toRefW hk
    have := hR.type hR'
    subst this
    rcases ht' with rfl | rfl | rfl <;> revert ht <;> decide
theorem PS.fr {X : Nat → Prop} (h : PS w tb G I C) (hf : Fr X w w') (h0 : ¬ X 0) (hX : ∀ k t R, X k → RowIs w k t R → t ≠ 118 ∧ t ≠ 131 ∧ t ≠ 164 ∧ t ≠ 160 ∧ t ≠ 5) : PS w' tb G I C := by
  obtain ⟨rd, V, E, vi, h⟩ := h
  exact ⟨rd, V, E, vi, h.fr hf h0 hX⟩
theorem PS.ndI (h : PS w tb G I C) : (I.map (·.1)).Nodup := by
  obtain ⟨rd, V, E, vi, h⟩ := h
  exact h.si.nd
theorem Md.ref (hv : VolW w vb tb) (hps : PS w tb G I C) (hrf : RefL w tb rb vl vf L F) (hrl : Rl G I C ρ L' F') (hn : cD G [] + I.length ≤ 60) (hp : RefPost w rb vl vf w' L1 F1) : Fr (JT tb w) w w' ∧ Md w' vb tb rb L1 F1 L' F' := by
  obtain ⟨vl', vf', h1, hf, h3⟩ := hp
  have hty : ∀ k t R, RefOwn rb vl vf k → RowIs w k t R → t = 69 ∨ t = 81 ∨ t = 9 := fun k t R hk hR => by
    obtain ⟨t', R', hR', ht'⟩ := refOwn_type hrf.toRefW hk
    have := hR.type hR'
    subst this
    exact ht'
  refine ⟨⟨hf.os, hf.tape, hf.output, hf.size, fun k hk hX => hf.block k hk (fun hk' => ?_)⟩, G, I, C, ρ, vl', vf', ?_, ?_, ⟨h1, fun k hk => (h3 k hk).elim (hrf.lo k) (fun h => by have := hrf.hd.lt; have := hrf.lo rb (.inl rfl); omega)⟩, hrl, hn⟩
  · obtain ⟨t, R, hR, ht⟩ := refOwn_type hrf.toRefW hk'
    exact hX ⟨⟨t, R, hR, by rcases ht with h | h | h <;> simp [h]⟩, hrf.lo k hk'⟩
  · refine RowIs.fr hv hf (fun hk => ?_)
    have := hty _ _ _ hk hv
    revert this; decide
  · refine hps.fr hf (fun hk => ?_) (fun k t R hk hR => ?_)
    · obtain ⟨t, R, hR, ht⟩ := refOwn_type hrf.toRefW hk
      obtain ⟨rd, V, E, vi, h⟩ := hps
      have := h.pk.2 t R hR
      subst this
      revert ht; decide
    · rcases hty k t R hk hR with rfl | rfl | rfl <;> decide
theorem Md.below (h : Md w vb tb rb L F L' F') (hb : Below w.heap.size w w') : Md w' vb tb rb L F L' F' := by
  obtain ⟨G, I, C, ρ, vl, vf, hv, hps, hrf, hrl, hn⟩ := h
  exact (Md.ref hv hps hrf hrl hn (RefPost.same hrf.toRefW hb)).2
/-- A call of the reference that writes. -/
theorem Md.refCall (h : Md w vb tb rb L F L' F') {f : FuncId} {args : Array Value} {v : Value} (hc : ∀ vl vf, RefW w rb vl vf L F → Calls Tryz.prog f args w fun e w' => e = .returned v ∧ RefPost w rb vl vf w' L1 F1) :
    Calls Tryz.prog f args w fun e w' => e = .returned v ∧ Fr (JT tb w) w w' ∧ Md w' vb tb rb L1 F1 L' F' := by
  obtain ⟨G, I, C, ρ, vl, vf, hv, hps, hrf, hrl, hn⟩ := h
  exact (hc vl vf hrf.toRefW).mono (fun e w' hq => ⟨hq.1, Md.ref hv hps hrf hrl hn hq.2⟩)
end
section
variable {w : World} {vb tb rb : Nat} {L : List (ByteArray × Int)} {F : List ByteArray}
theorem mkdirJ (h : Md w vb tb rb L F L F) (p : ByteArray) (hp : p.size ≤ 2000000) :
    Calls Tryz.prog 15 #[.pointer (some ⟨vb, 0, none⟩), .string p] w fun e w' => e = .returned (.int .i64 (mkdirR L F p).1) ∧ Fr (JT tb w) w w' ∧ Md w' vb tb rb L F (mkdirR L F p).2 F := by
  obtain ⟨G, I, C, ρ, vl, vf, hv, hps, hrf, hrl, hn⟩ := h
  have hlG := hrl.lG
  have hlI := hrl.lI
  refine (mkdirV w vb tb hv p (MkPost w tb G I C p) (fun e w' hq => ⟨_, hq.1⟩) (mkdir_code w tb G I C hps hrl.ok (by omega) (by omega) p hp)).mono ?_
  rintro e w' ⟨rfl, hf, hc⟩
  obtain ⟨e1, e2, e3⟩ := hrl.mkdirE p
  refine ⟨by rw [e1], ?_⟩
  rcases hc with ⟨hne, hps'⟩ | ⟨hz, nb, hps'⟩
  · rw [e2 hne]; exact Md.prog hv hrf hf hps' hrl hn
  · obtain ⟨e4, -, -, -, -, hm⟩ := e3 hz
    rw [e4]
    refine Md.prog hv hrf hf hps' (hrl.addDir hz nb) ?_
    unfold mayB at hm
    have hm' := of_decide_eq_true hm
    rw [cD_root (hrl.addDir hz nb).ok, List.countP_append]
    rw [cD_root hrl.ok] at hm'
    simp
    omega
theorem linkJ (h : Md w vb tb rb L F L F) (p q : ByteArray) (hp : p.size ≤ 2000000) (hq : q.size ≤ 2000000) :
    Calls Tryz.prog 18 #[.pointer (some ⟨vb, 0, none⟩), .string p, .string q] w fun e w' => e = .returned (.int .i64 (linkR L F p q).1) ∧ Fr (JT tb w) w w' ∧ Md w' vb tb rb L F (linkR L F p q).2 F := by
  obtain ⟨G, I, C, ρ, vl, vf, hv, hps, hrf, hrl, hn⟩ := h
  have hlG := hrl.lG
  have hlI := hrl.lI
  refine (linkV w vb tb hv p q (LnPost w tb G I C p q) (fun e w' hq => ⟨_, hq.1⟩) (linkT_code w tb G I C hps hrl.ok (by omega) (by omega) hrl.flOk p q hp hq)).mono ?_
  rintro e w' ⟨rfl, hf, hc⟩
  obtain ⟨e1, e2, e3⟩ := hrl.linkE hn p q
  refine ⟨by rw [e1], ?_⟩
  rcases hc with ⟨hne, hps'⟩ | ⟨hz, u, r, I', hat, hu, hin, hio, hps'⟩
  · rw [e2 hne]; exact Md.prog hv hrf hf hps' hrl hn
  · obtain ⟨e4, a1, a2, a3, a4, a5⟩ := e3 hz u hat hu
    rw [e4]
    have hr2 := hrl.addLink a1 a2 a3 a4 a5 hin hio (hio.nd hrl.num.nd hin)
    refine Md.prog hv hrf hf hps' hr2 ?_
    rw [cD_root hr2.ok, List.countP_append, hio.1]
    rw [cD_root hrl.ok] at hn
    simp
    omega
theorem removeJ (h : Md w vb tb rb L F L F) (p : ByteArray) (hp : p.size ≤ 2000000) :
    Calls Tryz.prog 20 #[.pointer (some ⟨vb, 0, none⟩), .string p] w fun e w' => e = .returned (.int .i64 (removeR L p).1) ∧ Fr (JT tb w) w w' ∧ Md w' vb tb rb L F (removeR L p).2 F := by
  obtain ⟨G, I, C, ρ, vl, vf, hv, hps, hrf, hrl, hn⟩ := h
  have hlG := hrl.lG
  have hlI := hrl.lI
  refine (removeV w vb tb hv p (RmPost w tb G I C p) (fun e w' hq => ⟨_, hq.1⟩) (remove_code w tb G I C hps hrl.ok (by omega) (by omega) hrl.flOk p hp)).mono ?_
  rintro e w' ⟨rfl, hf, hc⟩
  obtain ⟨e1, e2, e3⟩ := hrl.removeE p
  refine ⟨by rw [e1], ?_⟩
  rcases hc with ⟨hne, hps'⟩ | ⟨hz, u, hat, hc⟩
  · rw [e2 hne]; exact Md.prog hv hrf hf hps' hrl hn
  · obtain ⟨e4, a1, a2, a3⟩ := e3 hz u hat
    rw [e4]
    have hd := gErase_del hrl.ok.nd (names p)
    have hsub := List.Sublist.countP_le (p := fun x : List ByteArray × VS => x.2.p.isSome) (gErase_sub G (names p))
    rcases hc with ⟨hu, hps'⟩ | ⟨hu, r, I', hin, hci, hps'⟩
    · have hr2 := hrl.delDir a1 a2 hat hu (a3 hu)
      refine Md.prog hv hrf hf (hps' _ hd) hr2 ?_
      rw [cD_root hr2.ok]
      rw [cD_root hrl.ok] at hn
      omega
    · have hnd : (I'.map (·.1)).Nodup := (hps' _ hd).ndI
      have hr2 := hrl.delFile a1 a2 hat hu hin hci hnd
      refine Md.prog hv hrf hf (hps' _ hd) hr2 ?_
      rw [cD_root hr2.ok]
      rw [cD_root hrl.ok] at hn
      have hl : I'.length ≤ I.length := by rcases hci with ⟨_, h, _⟩ | ⟨_, h, _⟩ <;> omega
      omega
theorem moveJ (h : Md w vb tb rb L F L F) (p q : ByteArray) (hp : p.size ≤ 2000000) (hq : q.size ≤ 2000000) :
    Calls Tryz.prog 19 #[.pointer (some ⟨vb, 0, none⟩), .string p, .string q] w fun e w' => e = .returned (.int .i64 (moveR L p q).1) ∧ Fr (JT tb w) w w' ∧ Md w' vb tb rb L F (moveR L p q).2 F := by
  obtain ⟨G, I, C, ρ, vl, vf, hv, hps, hrf, hrl, hn⟩ := h
  have hlG := hrl.lG
  refine (moveV w vb tb hv p q (MvPost w tb G I C p q) (fun e w' hq => ⟨_, hq.1⟩) (moveT_code w tb G I C hps hrl.ok (by omega) p q hp hq)).mono ?_
  rintro e w' ⟨rfl, hf, hc⟩
  obtain ⟨e1, e2, e3⟩ := hrl.moveE p q
  refine ⟨by rw [e1], ?_⟩
  rcases hc with ⟨hne, hps'⟩ | ⟨hz, hps'⟩
  · rw [e2 hne]; exact Md.prog hv hrf hf hps' hrl hn
  · obtain ⟨u, hm, e4, a1, a2, a3, a4⟩ := e3 hz
    rw [e4]
    have hr2 := hrl.moved hm a1 a2 a3 a4
    refine Md.prog hv hrf hf (hps' u hm) hr2 ?_
    rw [cD_root hr2.ok, mvG, List.countP_map]
    rw [cD_root hrl.ok] at hn
    exact hn
theorem cutJ (h : Md w vb tb rb L F L F) (p : ByteArray) (n : Int) (hp : p.size ≤ 2000000) :
    Calls Tryz.prog 17 #[.pointer (some ⟨vb, 0, none⟩), .string p, .int .i64 n] w fun e w' => e = .returned (.int .i64 (trimR L F p n).1) ∧ Fr (JT tb w) w w' ∧ Md w' vb tb rb L F L (trimR L F p n).2 := by
  obtain ⟨G, I, C, ρ, vl, vf, hv, hps, hrf, hrl, hn⟩ := h
  have hlG := hrl.lG
  have hlI := hrl.lI
  have hC := hrl.C_le
  have hll : ∀ x ∈ I, x.2.l ≤ 2000000 := fun x hx => by rw [hrl.l_eq x hx]; have := hC x hx; omega
  refine (cutV w vb tb hv p n (CtPost w tb G I C p n) (fun e w' hq => ?_) (cutT_code w tb G I C hps hrl.ok (by omega) (by omega) hrl.flOk hll hC p hp n)).mono ?_
  · rcases hq with ⟨_, he, _⟩ | ⟨_, u, r, a, c, _, _, _, _, I', _, ⟨he, _⟩ | ⟨he, _⟩⟩
    · exact ⟨_, he⟩
    · exact ⟨_, he⟩
    · exact ⟨_, he⟩
  intro e w' hq
  obtain ⟨e1, e2⟩ := hrl.cutE p n
  rcases hq with ⟨hne, rfl, hf, hps'⟩ | ⟨hz, u, r, a, c, hat, hu, hin, hf, I', hio, hc⟩
  · obtain ⟨e3, e4⟩ := e1 hne
    rw [e4]
    exact ⟨by rw [e3], Md.prog hv hrf hf hps' hrl hn⟩
  · have hn' := of_decide_eq_true (fileE_fits hz)
    have hs := longR_size (C u.f) n.toNat
    have hr2 := hrl.filled hin (s := longR (C u.f) n.toNat) (by omega) (by rw [hs]; exact hio)
    have hus := hr2.num.usage
    rw [← use_eq] at hus
    rw [e2 hz u hat hu, ← hus]
    rcases hc with ⟨rfl, hgt, I'', hps', hl, hm⟩ | ⟨rfl, hle, hps'⟩
    · rw [if_pos hgt]
      refine ⟨rfl, Md.prog hv hrf hf hps' (hrl.congrI hl hm hps'.ndI (fun _ _ => rfl)) (by omega)⟩
    · rw [if_neg (by omega)]
      refine ⟨rfl, Md.prog hv hrf hf hps' hr2 (by rw [hio.1]; exact hn)⟩
theorem ovR_le {s : ByteArray} {i : Int} {d : ByteArray} (h : 0 ≤ i ∧ i ≤ 1280 - (d.size : Int)) (hs : s.size ≤ 1280) : (ovR s i d).size ≤ 1280 := by
  unfold ovR
  split
  · exact hs
  · rw [wrR_size]
    omega
theorem wrE_fits {G : Gh} {I : List (Int × VF)} {p : ByteArray} {i : Int} {d : ByteArray} (h : wrE G I p i d = 0) : 0 ≤ i ∧ i ≤ 1280 - (d.size : Int) := by
  by_cases hf : wrFits i d = true
  · exact of_decide_eq_true hf
  · exfalso
    have hf' : wrFits i d = false := by simpa using hf
    have hl : locE G p (wrFits i d) ≠ 0 := by rw [hf']; unfold locE; split <;> simp
    unfold wrE at h
    rw [if_pos hl] at h
    exact hl h
/-- Read: the bytes in a new row, or none. -/
theorem readJ (h : Md w vb tb rb L F L F) (p : ByteArray) (hp : p.size ≤ 2000000) (i n : Int) (hi : i ≤ 9223372036854775807) (hn : n ≤ 9223372036854775807) :
    Calls Tryz.prog 12 #[.pointer (some ⟨vb, 0, none⟩), .string p, .int .i64 i, .int .i64 n] w fun e w' => (∃ a m c, e = .returned (.tuple #[.slice a m c, .int .i64 (readR L F p i n).2]) ∧ m = (readR L F p i n).1.size ∧ Sl w' 5 1 (.slice a m c) m (bytesV (readR L F p i n).1)) ∧ Below w.heap.size w w' := by
  obtain ⟨G, I, C, ρ, vl, vf, hv, ⟨rd, V, E, vi, htw⟩, hrf, hrl, hnod⟩ := h
  have hlG := hrl.lG
  have hlI := hrl.lI
  refine (readV w vb tb hv p i n (RdPost w G C p i n) (fun e w' hq => ?_) (readT_code w tb rd V E vi G I C htw hrl.ok (by omega) (by omega) hrl.flOk hrl.C_le p hp i n hi hn)).mono ?_
  · rcases hq with ⟨⟨_, he⟩ | ⟨_, u, _, _, x, m, he, _⟩, _⟩
    · exact ⟨_, _, _, _, he⟩
    · exact ⟨_, _, _, _, he⟩
  rintro e w' ⟨hq, hb⟩
  obtain ⟨e1, e2, e3⟩ := hrl.readE p i n
  refine ⟨?_, hb⟩
  rcases hq with ⟨hne, rfl⟩ | ⟨hz, u, hat, hu, x, m, rfl, _, hS⟩
  · rw [e2 hne, ← e1]
    exact ⟨none, 0, 0, rfl, rfl, rfl, .inl ⟨rfl, rfl⟩⟩
  · rw [← e1, hz, e3 hz u hat hu]
    refine ⟨_, _, _, rfl, ?_, hS⟩
    have h1 := hS.1
    unfold bytesV at h1
    simp at h1
    exact h1.symm
theorem statJ (h : Md w vb tb rb L F L F) (p : ByteArray) (hp : p.size ≤ 2000000) :
    Calls Tryz.prog 14 #[.pointer (some ⟨vb, 0, none⟩), .string p] w fun e w' => e = .returned (.tuple #[(statR L F p).1, .int .i64 (statR L F p).2]) ∧ Below w.heap.size w w' := by
  obtain ⟨G, I, C, ρ, vl, vf, hv, ⟨rd, V, E, vi, htw⟩, hrf, hrl, hnod⟩ := h
  have hlG := hrl.lG
  have hlI := hrl.lI
  obtain ⟨e1, e2, e3⟩ := hrl.statE p
  have key : ∀ e W W', StPost W G I p e W' → e = .returned (.tuple #[(statR L F p).1, .int .i64 (statR L F p).2]) ∧ ∃ a b c d k, e = .returned (.tuple #[.agg #[.string a, .bool b, .int .i64 c, .int .i64 d], .int .i64 k]) := by
    rintro e W W' ⟨⟨hne, rfl⟩ | ⟨hz, v, hv, rfl⟩, _⟩
    · refine ⟨by rw [e2 hne, ← e1], ?_⟩
      unfold noEntry
      exact ⟨_, _, _, _, _, rfl⟩
    · refine ⟨by rw [e3 hz v hv, ← e1, hz], ?_⟩
      rcases hv with ⟨_, rfl⟩ | ⟨ds, n, u, _, _, ht⟩
      · exact ⟨_, _, _, _, _, rfl⟩
      · obtain ⟨b, c, d, rfl⟩ := tellV_shape ht
        exact ⟨_, _, _, _, _, rfl⟩
  refine (statV w vb tb hv p (fun e => ∃ W W', StPost W G I p e W') (fun e ⟨W, W', hq⟩ => (key e W W' hq).2) (fun W hb => (statT_code W tb rd V E vi G I C (htw.below hb (Nat.le_refl _)) hrl.ok (by omega) (by omega) hrl.flOk p hp).mono (fun e W' hq => ⟨⟨W, W', hq⟩, hq.2⟩))).mono ?_
  rintro e w' ⟨⟨W, W', hq⟩, hb⟩
  exact ⟨(key e W W' hq).1, hb⟩
theorem usageJ (h : Md w vb tb rb L F L F) :
    Calls Tryz.prog 22 #[.pointer (some ⟨vb, 0, none⟩)] w fun e w' => e = .returned (.int .i64 (usageR L F : Nat)) ∧ Below w.heap.size w w' := by
  obtain ⟨G, I, C, ρ, vl, vf, hv, ⟨rd, V, E, vi, htw⟩, hrf, hrl, hnod⟩ := h
  have hlI := hrl.lI
  have hC := hrl.C_le
  have hll : ∀ x ∈ I, x.2.l ≤ 2000000 := fun x hx => by rw [hrl.l_eq x hx]; have := hC x hx; omega
  have hus := hrl.num.usage
  rw [← use_eq] at hus
  rw [← hus]
  exact usageV w vb tb hv _ (fun e w' hq => ⟨_, hq.1⟩) (usage_code w tb _ vi I htw.t htw.i (by omega) hll)
end
end Go.Proofs.YtfabjhgkigagpaaGreatDoor
