/- Files: the law's own helpers: one call of the program beside one of the reference. Files: the law's stat, read; steps 7, 9, 10, and the kinds that do nothing. Files: the law's read. Files: the law's steps 7, 9, 10, and the kinds that do nothing. -/
import Derived.Test.YtfabjhgkigagpaaGreatDoorPBD
import Derived.Laws.StructEq
import Derived.Lib.SlBytesRow
import Derived.Lib.BufferRead
namespace Go.Proofs.YtfabjhgkigagpaaGreatDoor
open Go.RowKit

set_option maxHeartbeats 1000000
set_option maxRecDepth 100000
theorem num_code (n : Int) (w : World) : Calls Tryz.prog 29 #[.int .i64 n] w fun e w' => e = .returned (.int .i64 n) ∧ w' = w := by
  go_enter Tryz.func29, Tryz.ntmps29
  go_wp2
  go_ret
  exact ⟨rfl, rfl⟩
/-- What the list of the reference keeps. -/
structure Jf (L : List (ByteArray × Int)) (F : List ByteArray) : Prop where
  len : L.length ≤ 100
  fv : ∀ x ∈ L, x.2 < F.length
  ok : ∀ x ∈ L, nmOk x.1 = true
  un : ∀ (i j : Nat) x y, L[i]? = some x → L[j]? = some y → x.1 = y.1 → i = j
theorem Rl.jf {G : Gh} {I : List (Int × VF)} {C : Int → ByteArray} {ρ : Int → Nat} {L : List (ByteArray × Int)} {F : List ByteArray} (h : Rl G I C ρ L F) : Jf L F := by
  refine ⟨by rw [h.lL]; exact h.lG, fun x hx => ?_, fun x hx => ?_, fun i j x y hx hy he => ?_⟩
  · rw [h.eqL] at hx
    obtain ⟨y, hy, rfl⟩ := List.mem_map.1 hx
    show nodeV ρ y.2 < _
    unfold nodeV
    split
    · omega
    · rename_i hp
      obtain ⟨r, hr⟩ := h.fl y hy (by simpa using hp)
      have := h.num.lt _ hr
      simp only at this
      omega
  · rw [h.eqL] at hx
    obtain ⟨y, hy, rfl⟩ := List.mem_map.1 hx
    exact nmOk_jn (h.ok.nms y hy) (h.ok.ne y hy) (h.ok.le y hy)
  · rw [h.eqL, List.getElem?_map] at hx hy
    obtain ⟨a, ha, rfl⟩ := Option.map_eq_some_iff.1 hx
    obtain ⟨b, hb, rfl⟩ := Option.map_eq_some_iff.1 hy
    have e := jn_inj (h.ok.nms a (List.mem_of_getElem? ha)) (h.ok.nms b (List.mem_of_getElem? hb)) he
    obtain ⟨hi, ha'⟩ := List.getElem?_eq_some_iff.1 ha
    obtain ⟨hj, hb'⟩ := List.getElem?_eq_some_iff.1 hb
    exact (List.getElem_inj (h₀ := by simpa using hi) (h₁ := by simpa using hj) h.ok.nd).1 (by simp [ha', hb', e])
theorem Md.jf {w : World} {vb tb rb : Nat} {L L' : List (ByteArray × Int)} {F F' : List ByteArray} (h : Md w vb tb rb L F L' F') : Jf L' F' := by
  obtain ⟨G, I, C, ρ, vl, vf, hv, hps, hrf, hrl, hn⟩ := h
  exact hrl.jf
/-- Where the law's pair stands. -/
def BothW (w : World) (xb vb rb : Nat) (kp ep fs : Value) : Prop := RowIs w xb 42 [.pointer (some ⟨vb, 0, none⟩), .pointer (some ⟨rb, 0, none⟩), kp, ep, fs]
structure K1 (w W : World) (vb tb rb xb : Nat) (kp ep fs : Value) (ob : Nat) (O : List Value) (L : List (ByteArray × Int)) (F : List ByteArray) (L' : List (ByteArray × Int)) (F' : List ByteArray) : Prop where
  fr : Fr (JT tb w) w W
  md : Md W vb tb rb L F L' F'
  x : BothW W xb vb rb kp ep fs
  o : RowIs W ob 36 O
section
variable {w W W' : World} {vb tb rb xb ob : Nat} {kp ep fs : Value} {O : List Value} {L L' L1 : List (ByteArray × Int)} {F F' F1 : List ByteArray}
theorem RowIs.jt {tb : Nat} {t : TypeId} {R : List Value} {k : Nat} (h : RowIs W k t R) (hf : Fr (JT tb W) W W') (ht : ¬ (t = 118 ∨ t = 131 ∨ t = 164 ∨ t = 160 ∨ t = 69 ∨ t = 81 ∨ t = 9)) : RowIs W' k t R :=
  h.fr hf (fun ⟨⟨t', R', hR, ht'⟩, _⟩ => ht (by rw [h.type hR]; exact ht'))
theorem K1.next (h : K1 w W vb tb rb xb kp ep fs ob O L F L' F') (hf : Fr (JT tb W) W W') (hm : Md W' vb tb rb L1 F1 L' F') : K1 w W' vb tb rb xb kp ep fs ob O L1 F1 L' F' :=
  ⟨h.fr.jTrans hf, hm, RowIs.jt h.x hf (by decide), h.o.jt hf (by decide)⟩
theorem K1.next' (h : K1 w W vb tb rb xb kp ep fs ob O L F L F) (hf : Fr (JT tb W) W W') (hm : Md W' vb tb rb L F L1 F1) : K1 w W' vb tb rb xb kp ep fs ob O L F L1 F1 :=
  ⟨h.fr.jTrans hf, hm, RowIs.jt h.x hf (by decide), h.o.jt hf (by decide)⟩
theorem K1.below (h : K1 w W vb tb rb xb kp ep fs ob O L F L' F') (hb : Below W.heap.size W W') : K1 w W' vb tb rb xb kp ep fs ob O L F L' F' :=
  h.next (Fr.of_below hb) (h.md.below hb)
theorem K1.c0 (h : K1 w W vb tb rb xb kp ep fs ob O L F L' F') : W.cell? ⟨xb, 0, none⟩ = some (.pointer (some ⟨vb, 0, none⟩)) := (RowIs.cell h.x 0).trans rfl
theorem K1.c1 (h : K1 w W vb tb rb xb kp ep fs ob O L F L' F') : W.cell? ⟨xb, 1, none⟩ = some (.pointer (some ⟨rb, 0, none⟩)) := (RowIs.cell h.x 1).trans rfl
theorem K1.begin (hx : BothW w xb vb rb kp ep fs) (hm : Md w vb tb rb L F L F) (O : List Value) : K1 w (w.alloc (.cells O.toArray 36)) vb tb rb xb kp ep fs w.heap.size O L F L F := by
  have hb : Below w.heap.size w (w.alloc (.cells O.toArray 36)) := (Below.refl _ _).alloc (Nat.le_refl _) _
  exact ⟨Fr.of_below hb, hm.below hb, RowIs.jt (tb := tb) hx (Fr.of_below hb) (by decide), row_new w O 36⟩
end
abbrev opL (k kk a b : Int) (s t u : ByteArray) : List Value := [.int .i64 k, .int .i64 kk, .int .i64 a, .int .i64 b, .string s, .string t, .string u]
def StepPost (w : World) (vb tb rb xb : Nat) (kp ep fs : Value) (L' : List (ByteArray × Int)) (F' : List ByteArray) (e : Ending) (w' : World) : Prop :=
  e = .returned (.bool true) ∧ Fr (JT tb w) w w' ∧ BothW w' xb vb rb kp ep fs ∧ Md w' vb tb rb L' F' L' F'
theorem K1.post {w W : World} {vb tb rb xb ob : Nat} {kp ep fs : Value} {O : List Value} {L' : List (ByteArray × Int)} {F' : List ByteArray} (h : K1 w W vb tb rb xb kp ep fs ob O L' F' L' F') : StepPost w vb tb rb xb kp ep fs L' F' (.returned (.bool true)) W := ⟨rfl, h.fr, h.x, h.md⟩
theorem step1 (w : World) (vb tb rb xb : Nat) (kp ep fs : Value) (L : List (ByteArray × Int)) (F : List ByteArray) (hx : BothW w xb vb rb kp ep fs) (hm : Md w vb tb rb L F L F) (kk a b : Int) (s t u : ByteArray) (hs : s.size ≤ 1048576) :
    Calls Tryz.prog 8 #[.pointer (some ⟨xb, 0, none⟩), .agg (opL 1 kk a b s t u).toArray] w (StepPost w vb tb rb xb kp ep fs (mkdirR L F s).2 F) := by
  have hjf := hm.jf
  have hk0 := K1.begin hx hm (opL 1 kk a b s t u)
  have HA : Hid (∀ W, K1 w W vb tb rb xb kp ep fs w.heap.size (opL 1 kk a b s t u) L F L F → Calls Tryz.prog 15 #[.pointer (some ⟨vb, 0, none⟩), .string s] W fun e w' => e = .returned (.int .i64 (mkdirR L F s).1) ∧ K1 w w' vb tb rb xb kp ep fs w.heap.size (opL 1 kk a b s t u) L F (mkdirR L F s).2 F) := fun W hk =>
    (mkdirJ hk.md s (by omega)).mono (fun e w' ⟨h1, h2, h3⟩ => ⟨h1, hk.next' h2 h3⟩)
  have HB : Hid (∀ W, K1 w W vb tb rb xb kp ep fs w.heap.size (opL 1 kk a b s t u) L F (mkdirR L F s).2 F → Calls Tryz.prog 32 #[.pointer (some ⟨rb, 0, none⟩), .string s] W fun e w' => e = .returned (.int .i64 (mkdirR L F s).1) ∧ K1 w w' vb tb rb xb kp ep fs w.heap.size (opL 1 kk a b s t u) (mkdirR L F s).2 F (mkdirR L F s).2 F) := fun W hk =>
    (hk.md.refCall (fun vl vf hr => mkdir_ref W rb vl vf L F hr (by have := hjf.len; omega) s (by omega))).mono (fun e w' ⟨h1, h2, h3⟩ => ⟨h1, hk.next h2 h3⟩)
  obtain ⟨R, hR⟩ : ∃ R, R = (mkdirR L F s) := ⟨_, rfl⟩
  rw [← hR] at HA HB ⊢
  clear hR hx hm hjf
  go_enter Tryz.func8, Tryz.ntmps8
  obtain ⟨W, hW, -, -, -, -⟩ := alloc_name w (opL 1 kk a b s t u) 36
  rw [hW] at hk0
  have o0 := hk0.o.cell 0
  have o4 := hk0.o.cell 4
  have x0 := hk0.c0
  have x1 := hk0.c1
  have HK := hide hk0
  clear hk0
  go_upto_region 1 with fail
  clear hW
  go_upto_region 4 with fail
  go_region_held3 (fun W => W.cell? ⟨xb, 0, none⟩ = some (.pointer (some ⟨vb, 0, none⟩)) ∧ W.cell? ⟨xb, 1, none⟩ = some (.pointer (some ⟨rb, 0, none⟩)) ∧ W.cell? ⟨w.heap.size, 4, none⟩ = some (.string s)) (go_keep)
    (first | (go_at_call 15; refine (unhide HA _ ((unhide HK).below (Below.refl _ _).drew)).mono ?_; rintro e w1 ⟨rfl, hk⟩; have m0 := hk.c0; have m1 := hk.c1; have m4 := hk.o.cell 4; have HK1 := hide hk; clear hk) | (go_at_call 29; refine (num_code _ _).mono ?_; rintro e w2 ⟨rfl, rfl⟩) | (go_at_call 32; refine (unhide HB _ (unhide HK1)).mono ?_; rintro e w3 ⟨rfl, hk⟩; have n0 := hk.c0; have n1 := hk.c1; have n4 := hk.o.cell 4; have HK2 := hide hk; clear hk))
  all_goals
    go_wp2
    go_ret
    exact (unhide HK2).post
theorem step3 (w : World) (vb tb rb xb : Nat) (kp ep fs : Value) (L : List (ByteArray × Int)) (F : List ByteArray) (hx : BothW w xb vb rb kp ep fs) (hm : Md w vb tb rb L F L F) (kk a b : Int) (s t u : ByteArray) (hs : s.size ≤ 1048576) :
    Calls Tryz.prog 8 #[.pointer (some ⟨xb, 0, none⟩), .agg (opL 3 kk a b s t u).toArray] w (StepPost w vb tb rb xb kp ep fs L (trimR L F s a).2) := by
  have hjf := hm.jf
  have hk0 := K1.begin hx hm (opL 3 kk a b s t u)
  have HA : Hid (∀ W, K1 w W vb tb rb xb kp ep fs w.heap.size (opL 3 kk a b s t u) L F L F → Calls Tryz.prog 17 #[.pointer (some ⟨vb, 0, none⟩), .string s, .int .i64 a] W fun e w' => e = .returned (.int .i64 (trimR L F s a).1) ∧ K1 w w' vb tb rb xb kp ep fs w.heap.size (opL 3 kk a b s t u) L F L (trimR L F s a).2) := fun W hk =>
    (cutJ hk.md s a (by omega)).mono (fun e w' ⟨h1, h2, h3⟩ => ⟨h1, hk.next' h2 h3⟩)
  have HB : Hid (∀ W, K1 w W vb tb rb xb kp ep fs w.heap.size (opL 3 kk a b s t u) L F L (trimR L F s a).2 → Calls Tryz.prog 33 #[.pointer (some ⟨rb, 0, none⟩), .string s, .int .i64 a] W fun e w' => e = .returned (.int .i64 (trimR L F s a).1) ∧ K1 w w' vb tb rb xb kp ep fs w.heap.size (opL 3 kk a b s t u) L (trimR L F s a).2 L (trimR L F s a).2) := fun W hk =>
    (hk.md.refCall (fun vl vf hr => trim_ref W rb vl vf L F hr hjf.fv s (by omega) a)).mono (fun e w' ⟨h1, h2, h3⟩ => ⟨h1, hk.next h2 h3⟩)
  obtain ⟨R, hR⟩ : ∃ R, R = (trimR L F s a) := ⟨_, rfl⟩
  rw [← hR] at HA HB ⊢
  clear hR hx hm hjf
  go_enter Tryz.func8, Tryz.ntmps8
  obtain ⟨W, hW, -, -, -, -⟩ := alloc_name w (opL 3 kk a b s t u) 36
  rw [hW] at hk0
  have o0 := hk0.o.cell 0
  have o4 := hk0.o.cell 4
  have o2 := hk0.o.cell 2
  have x0 := hk0.c0
  have x1 := hk0.c1
  have HK := hide hk0
  clear hk0
  go_upto_region 1 with fail
  clear hW
  go_upto_region 8 with fail
  go_region_held3 (fun W => W.cell? ⟨xb, 0, none⟩ = some (.pointer (some ⟨vb, 0, none⟩)) ∧ W.cell? ⟨xb, 1, none⟩ = some (.pointer (some ⟨rb, 0, none⟩)) ∧ W.cell? ⟨w.heap.size, 4, none⟩ = some (.string s) ∧ W.cell? ⟨w.heap.size, 2, none⟩ = some (.int .i64 a)) (go_keep)
    (first | (go_at_call 17; refine (unhide HA _ ((unhide HK).below (Below.refl _ _).drew)).mono ?_; rintro e w1 ⟨rfl, hk⟩; have m0 := hk.c0; have m1 := hk.c1; have m4 := hk.o.cell 4; have m2 := hk.o.cell 2; have HK1 := hide hk; clear hk) | (go_at_call 29; refine (num_code _ _).mono ?_; rintro e w2 ⟨rfl, rfl⟩) | (go_at_call 33; refine (unhide HB _ (unhide HK1)).mono ?_; rintro e w3 ⟨rfl, hk⟩; have n0 := hk.c0; have n1 := hk.c1; have n4 := hk.o.cell 4; have n2 := hk.o.cell 2; have HK2 := hide hk; clear hk))
  all_goals
    go_wp2
    go_ret
    exact (unhide HK2).post
theorem step4 (w : World) (vb tb rb xb : Nat) (kp ep fs : Value) (L : List (ByteArray × Int)) (F : List ByteArray) (hx : BothW w xb vb rb kp ep fs) (hm : Md w vb tb rb L F L F) (kk a b : Int) (s t u : ByteArray) (hs : s.size ≤ 1048576) (ht : t.size ≤ 1048576) :
    Calls Tryz.prog 8 #[.pointer (some ⟨xb, 0, none⟩), .agg (opL 4 kk a b s t u).toArray] w (StepPost w vb tb rb xb kp ep fs (linkR L F s t).2 F) := by
  have hjf := hm.jf
  have hk0 := K1.begin hx hm (opL 4 kk a b s t u)
  have HA : Hid (∀ W, K1 w W vb tb rb xb kp ep fs w.heap.size (opL 4 kk a b s t u) L F L F → Calls Tryz.prog 18 #[.pointer (some ⟨vb, 0, none⟩), .string s, .string t] W fun e w' => e = .returned (.int .i64 (linkR L F s t).1) ∧ K1 w w' vb tb rb xb kp ep fs w.heap.size (opL 4 kk a b s t u) L F (linkR L F s t).2 F) := fun W hk =>
    (linkJ hk.md s t (by omega) (by omega)).mono (fun e w' ⟨h1, h2, h3⟩ => ⟨h1, hk.next' h2 h3⟩)
  have HB : Hid (∀ W, K1 w W vb tb rb xb kp ep fs w.heap.size (opL 4 kk a b s t u) L F (linkR L F s t).2 F → Calls Tryz.prog 34 #[.pointer (some ⟨rb, 0, none⟩), .string s, .string t] W fun e w' => e = .returned (.int .i64 (linkR L F s t).1) ∧ K1 w w' vb tb rb xb kp ep fs w.heap.size (opL 4 kk a b s t u) (linkR L F s t).2 F (linkR L F s t).2 F) := fun W hk =>
    (hk.md.refCall (fun vl vf hr => link_ref W rb vl vf L F hr (by have := hjf.len; omega) s t (by omega) (by omega))).mono (fun e w' ⟨h1, h2, h3⟩ => ⟨h1, hk.next h2 h3⟩)
  obtain ⟨R, hR⟩ : ∃ R, R = (linkR L F s t) := ⟨_, rfl⟩
  rw [← hR] at HA HB ⊢
  clear hR hx hm hjf
  go_enter Tryz.func8, Tryz.ntmps8
  obtain ⟨W, hW, -, -, -, -⟩ := alloc_name w (opL 4 kk a b s t u) 36
  rw [hW] at hk0
  have o0 := hk0.o.cell 0
  have o4 := hk0.o.cell 4
  have o5 := hk0.o.cell 5
  have x0 := hk0.c0
  have x1 := hk0.c1
  have HK := hide hk0
  clear hk0
  go_upto_region 1 with fail
  clear hW
  go_upto_region 10 with fail
  go_region_held3 (fun W => W.cell? ⟨xb, 0, none⟩ = some (.pointer (some ⟨vb, 0, none⟩)) ∧ W.cell? ⟨xb, 1, none⟩ = some (.pointer (some ⟨rb, 0, none⟩)) ∧ W.cell? ⟨w.heap.size, 4, none⟩ = some (.string s) ∧ W.cell? ⟨w.heap.size, 5, none⟩ = some (.string t)) (go_keep)
    (first | (go_at_call 18; refine (unhide HA _ ((unhide HK).below (Below.refl _ _).drew)).mono ?_; rintro e w1 ⟨rfl, hk⟩; have m0 := hk.c0; have m1 := hk.c1; have m4 := hk.o.cell 4; have m5 := hk.o.cell 5; have HK1 := hide hk; clear hk) | (go_at_call 29; refine (num_code _ _).mono ?_; rintro e w2 ⟨rfl, rfl⟩) | (go_at_call 34; refine (unhide HB _ (unhide HK1)).mono ?_; rintro e w3 ⟨rfl, hk⟩; have n0 := hk.c0; have n1 := hk.c1; have n4 := hk.o.cell 4; have n5 := hk.o.cell 5; have HK2 := hide hk; clear hk))
  all_goals
    go_wp2
    go_ret
    exact (unhide HK2).post
theorem step5 (w : World) (vb tb rb xb : Nat) (kp ep fs : Value) (L : List (ByteArray × Int)) (F : List ByteArray) (hx : BothW w xb vb rb kp ep fs) (hm : Md w vb tb rb L F L F) (kk a b : Int) (s t u : ByteArray) (hs : s.size ≤ 1048576) (ht : t.size ≤ 1048576) :
    Calls Tryz.prog 8 #[.pointer (some ⟨xb, 0, none⟩), .agg (opL 5 kk a b s t u).toArray] w (StepPost w vb tb rb xb kp ep fs (moveR L s t).2 F) := by
  have hjf := hm.jf
  have hk0 := K1.begin hx hm (opL 5 kk a b s t u)
  have HA : Hid (∀ W, K1 w W vb tb rb xb kp ep fs w.heap.size (opL 5 kk a b s t u) L F L F → Calls Tryz.prog 19 #[.pointer (some ⟨vb, 0, none⟩), .string s, .string t] W fun e w' => e = .returned (.int .i64 (moveR L s t).1) ∧ K1 w w' vb tb rb xb kp ep fs w.heap.size (opL 5 kk a b s t u) L F (moveR L s t).2 F) := fun W hk =>
    (moveJ hk.md s t (by omega) (by omega)).mono (fun e w' ⟨h1, h2, h3⟩ => ⟨h1, hk.next' h2 h3⟩)
  have HB : Hid (∀ W, K1 w W vb tb rb xb kp ep fs w.heap.size (opL 5 kk a b s t u) L F (moveR L s t).2 F → Calls Tryz.prog 35 #[.pointer (some ⟨rb, 0, none⟩), .string s, .string t] W fun e w' => e = .returned (.int .i64 (moveR L s t).1) ∧ K1 w w' vb tb rb xb kp ep fs w.heap.size (opL 5 kk a b s t u) (moveR L s t).2 F (moveR L s t).2 F) := fun W hk =>
    (hk.md.refCall (fun vl vf hr => move_ref W rb vl vf L F hr s t (by omega) (by omega) hjf.ok hjf.un)).mono (fun e w' ⟨h1, h2, h3⟩ => ⟨h1, hk.next h2 h3⟩)
  obtain ⟨R, hR⟩ : ∃ R, R = (moveR L s t) := ⟨_, rfl⟩
  rw [← hR] at HA HB ⊢
  clear hR hx hm hjf
  go_enter Tryz.func8, Tryz.ntmps8
  obtain ⟨W, hW, -, -, -, -⟩ := alloc_name w (opL 5 kk a b s t u) 36
  rw [hW] at hk0
  have o0 := hk0.o.cell 0
  have o4 := hk0.o.cell 4
  have o5 := hk0.o.cell 5
  have x0 := hk0.c0
  have x1 := hk0.c1
  have HK := hide hk0
  clear hk0
  go_upto_region 1 with fail
  clear hW
  go_upto_region 12 with fail
  go_region_held3 (fun W => W.cell? ⟨xb, 0, none⟩ = some (.pointer (some ⟨vb, 0, none⟩)) ∧ W.cell? ⟨xb, 1, none⟩ = some (.pointer (some ⟨rb, 0, none⟩)) ∧ W.cell? ⟨w.heap.size, 4, none⟩ = some (.string s) ∧ W.cell? ⟨w.heap.size, 5, none⟩ = some (.string t)) (go_keep)
    (first | (go_at_call 19; refine (unhide HA _ ((unhide HK).below (Below.refl _ _).drew)).mono ?_; rintro e w1 ⟨rfl, hk⟩; have m0 := hk.c0; have m1 := hk.c1; have m4 := hk.o.cell 4; have m5 := hk.o.cell 5; have HK1 := hide hk; clear hk) | (go_at_call 29; refine (num_code _ _).mono ?_; rintro e w2 ⟨rfl, rfl⟩) | (go_at_call 35; refine (unhide HB _ (unhide HK1)).mono ?_; rintro e w3 ⟨rfl, hk⟩; have n0 := hk.c0; have n1 := hk.c1; have n4 := hk.o.cell 4; have n5 := hk.o.cell 5; have HK2 := hide hk; clear hk))
  all_goals
    go_wp2
    go_ret
    exact (unhide HK2).post
theorem step6 (w : World) (vb tb rb xb : Nat) (kp ep fs : Value) (L : List (ByteArray × Int)) (F : List ByteArray) (hx : BothW w xb vb rb kp ep fs) (hm : Md w vb tb rb L F L F) (kk a b : Int) (s t u : ByteArray) (hs : s.size ≤ 1048576) :
    Calls Tryz.prog 8 #[.pointer (some ⟨xb, 0, none⟩), .agg (opL 6 kk a b s t u).toArray] w (StepPost w vb tb rb xb kp ep fs (removeR L s).2 F) := by
  have hjf := hm.jf
  have hk0 := K1.begin hx hm (opL 6 kk a b s t u)
  have HA : Hid (∀ W, K1 w W vb tb rb xb kp ep fs w.heap.size (opL 6 kk a b s t u) L F L F → Calls Tryz.prog 20 #[.pointer (some ⟨vb, 0, none⟩), .string s] W fun e w' => e = .returned (.int .i64 (removeR L s).1) ∧ K1 w w' vb tb rb xb kp ep fs w.heap.size (opL 6 kk a b s t u) L F (removeR L s).2 F) := fun W hk =>
    (removeJ hk.md s (by omega)).mono (fun e w' ⟨h1, h2, h3⟩ => ⟨h1, hk.next' h2 h3⟩)
  have HB : Hid (∀ W, K1 w W vb tb rb xb kp ep fs w.heap.size (opL 6 kk a b s t u) L F (removeR L s).2 F → Calls Tryz.prog 36 #[.pointer (some ⟨rb, 0, none⟩), .string s] W fun e w' => e = .returned (.int .i64 (removeR L s).1) ∧ K1 w w' vb tb rb xb kp ep fs w.heap.size (opL 6 kk a b s t u) (removeR L s).2 F (removeR L s).2 F) := fun W hk =>
    (hk.md.refCall (fun vl vf hr => remove_ref W rb vl vf L F hr s (by omega))).mono (fun e w' ⟨h1, h2, h3⟩ => ⟨h1, hk.next h2 h3⟩)
  obtain ⟨R, hR⟩ : ∃ R, R = (removeR L s) := ⟨_, rfl⟩
  rw [← hR] at HA HB ⊢
  clear hR hx hm hjf
  go_enter Tryz.func8, Tryz.ntmps8
  obtain ⟨W, hW, -, -, -, -⟩ := alloc_name w (opL 6 kk a b s t u) 36
  rw [hW] at hk0
  have o0 := hk0.o.cell 0
  have o4 := hk0.o.cell 4
  have x0 := hk0.c0
  have x1 := hk0.c1
  have HK := hide hk0
  clear hk0
  go_upto_region 1 with fail
  clear hW
  go_upto_region 14 with fail
  go_region_held3 (fun W => W.cell? ⟨xb, 0, none⟩ = some (.pointer (some ⟨vb, 0, none⟩)) ∧ W.cell? ⟨xb, 1, none⟩ = some (.pointer (some ⟨rb, 0, none⟩)) ∧ W.cell? ⟨w.heap.size, 4, none⟩ = some (.string s)) (go_keep)
    (first | (go_at_call 20; refine (unhide HA _ ((unhide HK).below (Below.refl _ _).drew)).mono ?_; rintro e w1 ⟨rfl, hk⟩; have m0 := hk.c0; have m1 := hk.c1; have m4 := hk.o.cell 4; have HK1 := hide hk; clear hk) | (go_at_call 29; refine (num_code _ _).mono ?_; rintro e w2 ⟨rfl, rfl⟩) | (go_at_call 36; refine (unhide HB _ (unhide HK1)).mono ?_; rintro e w3 ⟨rfl, hk⟩; have n0 := hk.c0; have n1 := hk.c1; have n4 := hk.o.cell 4; have HK2 := hide hk; clear hk))
  all_goals
    go_wp2
    go_ret
    exact (unhide HK2).post
end Go.Proofs.YtfabjhgkigagpaaGreatDoor
namespace Go.Proofs.YtfabjhgkigagpaaGreatDoor
open Go.RowKit

set_option maxHeartbeats 1000000
set_option maxRecDepth 100000
theorem eql51 (s : ByteArray) (b : Bool) (c d : Int) (w : World) : (binOp .eql 51 (.agg #[.string s, .bool b, .int .i64 c, .int .i64 d]) (.agg #[.string s, .bool b, .int .i64 c, .int .i64 d])).run Tryz.prog w = .ok (.bool true) w := by
  go_simp
theorem statR_shape (L : List (ByteArray × Int)) (F : List ByteArray) (p : ByteArray) : ∃ s b c d, (statR L F p).1 = .agg #[.string s, .bool b, .int .i64 c, .int .i64 d] := by
  unfold statR noEntry toldV
  (repeat' split) <;> exact ⟨_, _, _, _, rfl⟩
theorem stat_law (w : World) (vb tb rb xb : Nat) (kp ep fs : Value) (L : List (ByteArray × Int)) (F : List ByteArray) (hx : BothW w xb vb rb kp ep fs) (hm : Md w vb tb rb L F L F) (s : ByteArray) (hs : s.size ≤ 2000000) :
    Calls Tryz.prog 39 #[.pointer (some ⟨xb, 0, none⟩), .string s] w fun e w' => e = .returned (.bool true) ∧ Below w.heap.size w w' := by
  have hjf := hm.jf
  have x0 : w.cell? ⟨xb, 0, none⟩ = some (.pointer (some ⟨vb, 0, none⟩)) := (RowIs.cell hx 0).trans rfl
  have hst := statJ hm s (by omega)
  have HB : Hid (∀ W, Below w.heap.size w W → Calls Tryz.prog 72 #[.pointer (some ⟨rb, 0, none⟩), .string s] W fun e w' => e = .returned (.tuple #[(statR L F s).1, .int .i64 (statR L F s).2]) ∧ Below W.heap.size W w') := fun W hb => by
    obtain ⟨G, I, C, ρ, vl, vf, hv, hps, hrf, hrl, hn⟩ := hm.below hb
    exact stat_ref W rb vl vf L F hrf.toRefW hjf.fv s (by omega)
  have HX : Hid (∀ W, Below w.heap.size w W → W.cell? ⟨xb, 1, none⟩ = some (.pointer (some ⟨rb, 0, none⟩))) := fun W hb => ((RowIs.fr hx (X := fun _ => False) (Fr.of_below hb) id).cell 1).trans rfl
  obtain ⟨v0, v1, v2, v3, hsh⟩ := statR_shape L F s
  obtain ⟨n, hn⟩ : ∃ n, n = (statR L F s).2 := ⟨_, rfl⟩
  rw [hsh, ← hn] at hst HB
  clear hsh hn hx hm hjf
  go_enter Tryz.func39, Tryz.ntmps39
  go_wp2_with fail
  refine hst.mono ?_
  rintro e w1 ⟨rfl, hb1⟩
  clear hst
  obtain ⟨W, hW, hr0, hk, hsz, hbW⟩ := alloc_name w1 [.string ⟨#[]⟩, .bool false, .int .i64 0, .int .i64 0] 51
  have hb2 : Below w.heap.size w W := hb1.trans (hbW.mono hb1.size)
  have g0 := hr0.cell 0; have g1 := hr0.cell 1; have g2 := hr0.cell 2; have g3 := hr0.cell 3
  have f0 := hr0.frozen 0; have f1 := hr0.frozen 1; have f2 := hr0.frozen 2; have f3 := hr0.frozen 3
  go_upto_region 2 with fail
  have hR2 := set4' hr0 (.string v0) (.bool v1) (.int .i64 v2) (.int .i64 v3)
  have hb3 := below_set4' hb2 hb1.size (.string v0) (.bool v1) (.int .i64 v2) (.int .i64 v3)
  obtain ⟨W2, hW2⟩ : ∃ W2, W2 = ((((W.setCell ⟨w1.heap.size, 0, none⟩ (.string v0)).setCell ⟨w1.heap.size, 1, none⟩ (.bool v1)).setCell ⟨w1.heap.size, 2, none⟩ (.int .i64 v2)).setCell ⟨w1.heap.size, 3, none⟩ (.int .i64 v3)) := ⟨_, rfl⟩
  rw [← hW2] at hR2 hb3 ⊢
  have hlt := hR2.lt
  clear hW2 hW hr0 hk hsz hbW hb2 g0 g1 g2 g3 f0 f1 f2 f3 x0
  have x1 := unhide HX W2 hb3
  have hst := unhide HB W2 hb3
  go_wp2_with fail
  refine hst.mono ?_
  rintro e w3 ⟨rfl, hb4⟩
  clear hst
  have hb5 : Below w.heap.size w w3 := hb3.trans (hb4.mono hb3.size)
  have hR3 : RowIs w3 w1.heap.size 51 _ := (hb4.block _ hlt).trans hR2
  obtain ⟨W4, hW4, hr4, hk4, hsz4, hbW4⟩ := alloc_name w3 [.string ⟨#[]⟩, .bool false, .int .i64 0, .int .i64 0] 51
  have hR4 := hk4 _ _ _ hR3
  have hb6 : Below w.heap.size w W4 := hb5.trans (hbW4.mono hb5.size)
  have hlt3 := hR3.lt
  have g0 := hr4.cell 0; have g1 := hr4.cell 1; have g2 := hr4.cell 2; have g3 := hr4.cell 3
  have f0 := hr4.frozen 0; have f1 := hr4.frozen 1; have f2 := hr4.frozen 2; have f3 := hr4.frozen 3
  go_upto_region 3 with fail
  have hR5 := set4' hr4 (.string v0) (.bool v1) (.int .i64 v2) (.int .i64 v3)
  have hb7 := below_set4' hb6 hb5.size (.string v0) (.bool v1) (.int .i64 v2) (.int .i64 v3)
  have hne : w3.heap.size ≠ w1.heap.size := by omega
  have hR6 : RowIs ((((W4.setCell ⟨w3.heap.size, 0, none⟩ (.string v0)).setCell ⟨w3.heap.size, 1, none⟩ (.bool v1)).setCell ⟨w3.heap.size, 2, none⟩ (.int .i64 v2)).setCell ⟨w3.heap.size, 3, none⟩ (.int .i64 v3)) w1.heap.size 51 [.string v0, .bool v1, .int .i64 v2, .int .i64 v3] :=
    (((hR4.setOther _ _ hne).setOther _ _ hne).setOther _ _ hne).setOther _ _ hne
  obtain ⟨W5, hW5⟩ : ∃ W5, W5 = ((((W4.setCell ⟨w3.heap.size, 0, none⟩ (.string v0)).setCell ⟨w3.heap.size, 1, none⟩ (.bool v1)).setCell ⟨w3.heap.size, 2, none⟩ (.int .i64 v2)).setCell ⟨w3.heap.size, 3, none⟩ (.int .i64 v3)) := ⟨_, rfl⟩
  rw [← hW5] at hR5 hb7 hR6 ⊢
  clear hW5 hW4 hr4 hk4 hsz4 hbW4 hb6 g0 g1 g2 g3 f0 f1 f2 f3 x1 hR4 hR3 hR2 hne hlt hlt3
  have a0 := hR5.cell 0; have a1 := hR5.cell 1; have a2 := hR5.cell 2; have a3 := hR5.cell 3
  have c0 := hR6.cell 0; have c1 := hR6.cell 1; have c2 := hR6.cell 2; have c3 := hR6.cell 3
  have hq := eql51 v0 v1 v2 v3
  go_wp2_with (go_at_call 29; refine (num_code _ _).mono ?_; rintro e w2 ⟨rfl, rfl⟩)
  go_ret
  exact ⟨rfl, hb7⟩
end Go.Proofs.YtfabjhgkigagpaaGreatDoor
namespace Go.Proofs.YtfabjhgkigagpaaGreatDoor
open Go.RowKit

set_option maxHeartbeats 1000000
set_option maxRecDepth 100000
theorem conv_sl {W : World} {a : Option Addr} {m c : Nat} {s : ByteArray} (h : Sl W 5 1 (.slice a m c) m (bytesV s)) (hm : m = s.size) : (convert 43 9 (.slice a m c)).run Tryz.prog W = .ok (.string s) W := by
  rcases h.2 with ⟨e, h0⟩ | ⟨g, cap, R, e, hr, hle, hcap, hl, ht⟩
  · simp only [Value.slice.injEq] at e
    obtain ⟨rfl, rfl, rfl⟩ := e
    rw [Go.Lib.run_convert_nil_bytes W 43 9 5 0 Tryz.underlying43 Tryz.underlying5 Tryz.underlying9]
    congr 2
    apply ByteArray.ext
    exact (Array.size_eq_zero_iff.1 hm.symm).symm
  · simp only [Value.slice.injEq] at e
    obtain ⟨rfl, -, rfl⟩ := e
    subst hm
    refine Go.Lib.run_convert_whole W 43 5 9 Tryz.underlying43 Tryz.underlying5 Tryz.underlying9 g 0 s (fun i hi => ?_) c
    rw [Nat.zero_add, hr.cell]
    have h1 : (R.take (s.size * 1))[i]? = (bytesV s)[i]? := by rw [ht]
    rw [List.getElem?_take_of_lt (by omega)] at h1
    rw [h1]
    unfold bytesV
    rw [List.getElem?_map, Array.getElem?_toList, Array.getElem?_eq_getElem hi]
    rfl
def ReadLaw (w : World) (e : Ending) (w' : World) : Prop := (∃ a n c, e = .returned (.tuple #[.slice a n c, .bool true])) ∧ Below w.heap.size w w'
theorem read_law (w : World) (vb tb rb xb : Nat) (kp ep fs : Value) (L : List (ByteArray × Int)) (F : List ByteArray) (hx : BothW w xb vb rb kp ep fs) (hm : Md w vb tb rb L F L F) (k kk a b : Int) (ha : a ≤ 9223372036854775807) (hb : b ≤ 9223372036854775807) (s t u : ByteArray) (hs : s.size ≤ 2000000) :
    Calls Tryz.prog 37 #[.pointer (some ⟨xb, 0, none⟩), .agg (opL k kk a b s t u).toArray] w (ReadLaw w) := by
  have hjf := hm.jf
  have hal : Below w.heap.size w (w.alloc (.cells (opL k kk a b s t u).toArray 36)) := (Below.refl _ _).alloc (Nat.le_refl _) _
  have hk0 := K1.begin hx hm (opL k kk a b s t u)
  have HA : Hid (∀ W, Below w.heap.size w W → Calls Tryz.prog 12 #[.pointer (some ⟨vb, 0, none⟩), .string s, .int .i64 a, .int .i64 b] W fun e w' => (∃ x m c, e = .returned (.tuple #[.slice x m c, .int .i64 (readR L F s a b).2]) ∧ m = (readR L F s a b).1.size ∧ Sl w' 5 1 (.slice x m c) m (bytesV (readR L F s a b).1)) ∧ Below W.heap.size W w') := fun W hbW =>
    readJ (hm.below hbW) s (by omega) a b ha hb
  have HB : Hid (∀ W, Below w.heap.size w W → Calls Tryz.prog 69 #[.pointer (some ⟨rb, 0, none⟩), .string s, .int .i64 a, .int .i64 b] W fun e w' => e = .returned (.tuple #[.string (readR L F s a b).1, .int .i64 (readR L F s a b).2]) ∧ Below W.heap.size W w') := fun W hbW => by
    obtain ⟨G, I, C, ρ, vl, vf, hv, hps, hrf, hrl, hn⟩ := hm.below hbW
    exact read_ref W rb vl vf L F hrf.toRefW hjf.fv s (by omega) a b ha hb
  have hlt := RowIs.lt hx
  obtain ⟨R, hR⟩ : ∃ R, R = readR L F s a b := ⟨_, rfl⟩
  rw [← hR] at HA HB
  clear hR hx hm hjf
  go_enter Tryz.func37, Tryz.ntmps37
  obtain ⟨W, hW, -, -, hsz, -⟩ := alloc_name w (opL k kk a b s t u) 36
  rw [hW] at hk0 hal
  have o2 := hk0.o.cell 2
  have o3 := hk0.o.cell 3
  have o4 := hk0.o.cell 4
  have x0 := hk0.c0
  have x1 := hk0.c1
  have HSZ := hide hsz
  have HAL := hide hal
  clear hk0 hal hsz
  go_upto_region 1 with fail
  clear hW
  go_region_held3 (fun W => W.cell? ⟨xb, 0, none⟩ = some (.pointer (some ⟨vb, 0, none⟩)) ∧ W.cell? ⟨w.heap.size, 4, none⟩ = some (.string s) ∧ W.cell? ⟨w.heap.size, 2, none⟩ = some (.int .i64 a) ∧ W.cell? ⟨w.heap.size, 3, none⟩ = some (.int .i64 b)) (go_keep)
    (first | (go_at_call 12; refine (unhide HA _ (unhide HAL).drew).mono ?_; rintro e w1 ⟨⟨x, m, c, rfl, hmm, hS⟩, hb1⟩; have hb1' : Below W.heap.size W w1 := (Below.refl _ _).drew.trans hb1; have HS := hide hS; have HM := hide hmm; have y2 := (hb1'.cell (p := ⟨w.heap.size, 2, none⟩) (by rw [unhide HSZ]; simp)).trans o2; have y3 := (hb1'.cell (p := ⟨w.heap.size, 3, none⟩) (by rw [unhide HSZ]; simp)).trans o3; have y4 := (hb1'.cell (p := ⟨w.heap.size, 4, none⟩) (by rw [unhide HSZ]; simp)).trans o4; have z0 := (hb1'.cell (p := ⟨xb, 0, none⟩) (by rw [unhide HSZ]; show xb < _; omega)).trans x0; have z1 := (hb1'.cell (p := ⟨xb, 1, none⟩) (by rw [unhide HSZ]; show xb < _; omega)).trans x1; have hb2 : Below w.heap.size w w1 := (unhide HAL).trans (hb1'.mono (by rw [unhide HSZ]; omega)); have HB2 := hide hb2; have hsz1 : w.heap.size + 1 ≤ w1.heap.size := (by rw [← unhide HSZ]; exact hb1'.size); have HW1 := hide hsz1; clear hsz1 hS hmm hb1 hb1' hb2))
  clear x0 x1 o2 o3 o4
  go_upto_region 2 with fail
  go_region_held3 (fun W => W.cell? ⟨xb, 1, none⟩ = some (.pointer (some ⟨rb, 0, none⟩)) ∧ W.cell? ⟨w.heap.size, 4, none⟩ = some (.string s) ∧ W.cell? ⟨w.heap.size, 2, none⟩ = some (.int .i64 a) ∧ W.cell? ⟨w.heap.size, 3, none⟩ = some (.int .i64 b)) (go_keep)
    (first | (go_at_call 69; refine (unhide HB _ (unhide HB2).drew).mono ?_; rintro e w2 ⟨rfl, hb3⟩; have hb3' : Below w1.heap.size w1 w2 := (Below.refl _ _).drew.trans hb3; have hcv := conv_sl ((unhide HS).kept (fun k hk _ => hb3'.block k hk)) (unhide HM); have hb4 : Below w.heap.size w w2 := (unhide HB2).trans (hb3'.mono (unhide HB2).size); have HB4 := hide hb4; have q1 := (hb3'.cell (p := ⟨xb, 1, none⟩) (by have := unhide HW1; show xb < _; omega)).trans z1; have q2 := (hb3'.cell (p := ⟨w.heap.size, 2, none⟩) (by have := unhide HW1; show w.heap.size < _; omega)).trans y2; have q3 := (hb3'.cell (p := ⟨w.heap.size, 3, none⟩) (by have := unhide HW1; show w.heap.size < _; omega)).trans y3; have q4 := (hb3'.cell (p := ⟨w.heap.size, 4, none⟩) (by have := unhide HW1; show w.heap.size < _; omega)).trans y4; clear hb3 hb3' hb4))
  clear z0 z1 y2 y3 y4
  go_wp2_with (go_at_call 29; refine (num_code _ _).mono ?_; rintro e w4 ⟨rfl, rfl⟩)
  go_ret2
  exact ⟨⟨_, _, _, rfl⟩, unhide HB4⟩
end Go.Proofs.YtfabjhgkigagpaaGreatDoor
namespace Go.Proofs.YtfabjhgkigagpaaGreatDoor
open Go.RowKit

set_option maxHeartbeats 1000000
set_option maxRecDepth 100000
theorem step7 (w : World) (vb tb rb xb : Nat) (kp ep fs : Value) (L : List (ByteArray × Int)) (F : List ByteArray) (hx : BothW w xb vb rb kp ep fs) (hm : Md w vb tb rb L F L F) (kk a b : Int) (s t u : ByteArray) (ha : a ≤ 9223372036854775807) (hb : b ≤ 9223372036854775807) (hs : s.size ≤ 1048576) :
    Calls Tryz.prog 8 #[.pointer (some ⟨xb, 0, none⟩), .agg (opL 7 kk a b s t u).toArray] w (StepPost w vb tb rb xb kp ep fs L F) := by
  have hk0 := K1.begin hx hm (opL 7 kk a b s t u)
  have HA : Hid (∀ W, K1 w W vb tb rb xb kp ep fs w.heap.size (opL 7 kk a b s t u) L F L F → Calls Tryz.prog 37 #[.pointer (some ⟨xb, 0, none⟩), .agg (opL 7 kk a b s t u).toArray] W (ReadLaw W)) := fun W hk =>
    read_law W vb tb rb xb kp ep fs L F hk.x hk.md 7 kk a b ha hb s t u (by omega)
  clear hx hm
  go_enter Tryz.func8, Tryz.ntmps8
  obtain ⟨W, hW, -, -, -, -⟩ := alloc_name w (opL 7 kk a b s t u) 36
  rw [hW] at hk0
  have o0 := hk0.o.cell 0; have o1 := hk0.o.cell 1; have o2 := hk0.o.cell 2; have o3 := hk0.o.cell 3; have o4 := hk0.o.cell 4; have o5 := hk0.o.cell 5; have o6 := hk0.o.cell 6
  have HK := hide hk0
  clear hk0
  go_upto_region 1 with fail
  clear hW
  go_upto_region 16 with fail
  go_wp2_with (go_at_call 37; refine (unhide HA _ (unhide HK)).mono ?_; rintro e w1 ⟨⟨xa, xn, xc, rfl⟩, hb1⟩)
  go_ret
  exact ((unhide HK).below hb1).post
theorem step9 (w : World) (vb tb rb xb : Nat) (kp ep fs : Value) (L : List (ByteArray × Int)) (F : List ByteArray) (hx : BothW w xb vb rb kp ep fs) (hm : Md w vb tb rb L F L F) (kk a b : Int) (s t u : ByteArray) (hs : s.size ≤ 1048576) :
    Calls Tryz.prog 8 #[.pointer (some ⟨xb, 0, none⟩), .agg (opL 9 kk a b s t u).toArray] w (StepPost w vb tb rb xb kp ep fs L F) := by
  have hk0 := K1.begin hx hm (opL 9 kk a b s t u)
  have HA : Hid (∀ W, K1 w W vb tb rb xb kp ep fs w.heap.size (opL 9 kk a b s t u) L F L F → Calls Tryz.prog 39 #[.pointer (some ⟨xb, 0, none⟩), .string s] W fun e w' => e = .returned (.bool true) ∧ Below W.heap.size W w') := fun W hk =>
    stat_law W vb tb rb xb kp ep fs L F hk.x hk.md s (by omega)
  clear hx hm
  go_enter Tryz.func8, Tryz.ntmps8
  obtain ⟨W, hW, -, -, -, -⟩ := alloc_name w (opL 9 kk a b s t u) 36
  rw [hW] at hk0
  have o0 := hk0.o.cell 0; have o4 := hk0.o.cell 4
  have HK := hide hk0
  clear hk0
  go_upto_region 1 with fail
  clear hW
  go_wp2_with (go_at_call 39; refine (unhide HA _ (unhide HK)).mono ?_; rintro e w1 ⟨rfl, hb1⟩)
  go_ret
  exact ((unhide HK).below hb1).post
theorem step10 (w : World) (vb tb rb xb : Nat) (kp ep fs : Value) (L : List (ByteArray × Int)) (F : List ByteArray) (hx : BothW w xb vb rb kp ep fs) (hm : Md w vb tb rb L F L F) (kk a b : Int) (s t u : ByteArray) :
    Calls Tryz.prog 8 #[.pointer (some ⟨xb, 0, none⟩), .agg (opL 10 kk a b s t u).toArray] w (StepPost w vb tb rb xb kp ep fs L F) := by
  have hk0 := K1.begin hx hm (opL 10 kk a b s t u)
  have HA : Hid (∀ W, K1 w W vb tb rb xb kp ep fs w.heap.size (opL 10 kk a b s t u) L F L F → Calls Tryz.prog 22 #[.pointer (some ⟨vb, 0, none⟩)] W fun e w' => e = .returned (.int .i64 (usageR L F : Nat)) ∧ K1 w w' vb tb rb xb kp ep fs w.heap.size (opL 10 kk a b s t u) L F L F) := fun W hk =>
    (usageJ hk.md).mono (fun e w' ⟨h1, h2⟩ => ⟨h1, hk.below h2⟩)
  have HB : Hid (∀ W, K1 w W vb tb rb xb kp ep fs w.heap.size (opL 10 kk a b s t u) L F L F → Calls Tryz.prog 40 #[.pointer (some ⟨rb, 0, none⟩)] W fun e w' => e = .returned (.int .i64 (usageR L F : Nat)) ∧ w' = W) := fun W hk => by
    obtain ⟨G, I, C, ρ, vl, vf, hv, hps, hrf, hrl, hn⟩ := hk.md
    exact usage_ref W rb vl vf L F hrf.toRefW.c
  obtain ⟨R, hR⟩ : ∃ R, R = usageR L F := ⟨_, rfl⟩
  rw [← hR] at HA HB
  clear hR hx hm
  go_enter Tryz.func8, Tryz.ntmps8
  obtain ⟨W, hW, -, -, -, -⟩ := alloc_name w (opL 10 kk a b s t u) 36
  rw [hW] at hk0
  have o0 := hk0.o.cell 0
  have x0 := hk0.c0; have x1 := hk0.c1
  have HK := hide hk0
  clear hk0
  go_upto_region 1 with fail
  clear hW
  go_upto_region 22 with fail
  go_region_held3 (fun W => W.cell? ⟨xb, 0, none⟩ = some (.pointer (some ⟨vb, 0, none⟩)) ∧ W.cell? ⟨xb, 1, none⟩ = some (.pointer (some ⟨rb, 0, none⟩))) (go_keep)
    (first | (go_at_call 22; refine (unhide HA _ ((unhide HK).below (Below.refl _ _).drew)).mono ?_; rintro e w1 ⟨rfl, hk⟩; have m0 := hk.c0; have m1 := hk.c1; have HK1 := hide hk; clear hk) | (go_at_call 40; refine (unhide HB _ (unhide HK1)).mono ?_; rintro e w3 ⟨rfl, rfl⟩))
  all_goals
    go_wp2
    go_ret
    exact (unhide HK1).post
theorem step0 (w : World) (vb tb rb xb : Nat) (kp ep fs : Value) (L : List (ByteArray × Int)) (F : List ByteArray) (hx : BothW w xb vb rb kp ep fs) (hm : Md w vb tb rb L F L F) (kk a b : Int) (s t u : ByteArray) (k : Int) (hk1 : k ≤ 0 ∨ 10 < k) :
    Calls Tryz.prog 8 #[.pointer (some ⟨xb, 0, none⟩), .agg (opL k kk a b s t u).toArray] w (StepPost w vb tb rb xb kp ep fs L F) := by
  have hk0 := K1.begin hx hm (opL k kk a b s t u)
  clear hx hm
  have e1 : (k == 1) = false := by simp; omega
  have e2 : (k == 2) = false := by simp; omega
  have e3 : (k == 3) = false := by simp; omega
  have e4 : (k == 4) = false := by simp; omega
  have e5 : (k == 5) = false := by simp; omega
  have e6 : (k == 6) = false := by simp; omega
  have e7 : (k == 7) = false := by simp; omega
  have e8 : (k == 8) = false := by simp; omega
  have e9 : (k == 9) = false := by simp; omega
  have e10 : (k == 10) = false := by simp; omega
  clear hk1
  go_enter Tryz.func8, Tryz.ntmps8
  obtain ⟨W, hW, -, -, -, -⟩ := alloc_name w (opL k kk a b s t u) 36
  rw [hW] at hk0
  have o0 := hk0.o.cell 0
  have HK := hide hk0
  clear hk0
  go_upto_region 1 with fail
  clear hW
  go_wp2
  go_ret
  exact (unhide HK).post
end Go.Proofs.YtfabjhgkigagpaaGreatDoor
