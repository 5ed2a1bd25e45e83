/- Files. -/
import Derived.Test.YtaieidcohdhgpaaGreatDoorPBJ
import Derived.Laws.StructEq
import Derived.Lib.SlBytesRow
import Derived.Lib.BufferRead
import Derived.Lib.BufferWrite
import Derived.Laws.CopyOwn
namespace Go.Proofs.YtaieidcohdhgpaaGreatDoor
open Go.RowKit
set_option maxHeartbeats 1000000
set_option maxRecDepth 100000
theorem num_code (n : Int) (w : World) : Calls Tryz.prog 16 #[.int .i64 n] w fun e w' => e = .returned (.int .i64 n) ∧ w' = w := by
 go_enter Tryz.func16, Tryz.ntmps16
 go_wp2
 go_ret
 exact ⟨rfl, rfl⟩
structure Jf (L : List (ByteArray × Int)) (F : List ByteArray) : Prop where
 len : L.length ≤ 100
 fv : ∀ x ∈ L, x.2 < F.length
 ok : ∀ x ∈ L, nmOk x.1 = true
 un : ∀ (i j : Nat) x y, L[i]? = some x → L[j]? = some y → x.1 = y.1 → i = j
theorem Rl.jf {G : Gh} {I : List (Int × VF)} {C : Int → ByteArray} {ρ : Int → Nat} {L : List (ByteArray × Int)} {F : List ByteArray} (h : Rl G I C ρ L F) : Jf L F := by
 refine ⟨by rw [h.lL]; exact h.lG, fun x hx => ?_, fun x hx => ?_, fun i j x y hx hy he => ?_⟩
 ·rw [h.eqL] at hx
  obtain ⟨y, hy, rfl⟩ := List.mem_map.1 hx
  show nodeV ρ y.2 < _
  unfold nodeV
  split
  ·omega
  ·rename_i hp
   obtain ⟨r, hr⟩ := h.fl y hy (by simpa using hp)
   have := h.num.lt _ hr
   simp only at this
   omega
 ·rw [h.eqL] at hx
  obtain ⟨y, hy, rfl⟩ := List.mem_map.1 hx
  exact nmOk_jn (h.ok.nms y hy) (h.ok.ne y hy) (h.ok.le y hy)
 ·rw [h.eqL, List.getElem?_map] at hx hy
  obtain ⟨a, ha, rfl⟩ := Option.map_eq_some_iff.1 hx
  obtain ⟨b, hb, rfl⟩ := Option.map_eq_some_iff.1 hy
  have e := jn_inj (h.ok.nms a (List.mem_of_getElem? ha)) (h.ok.nms b (List.mem_of_getElem? hb)) he
  obtain ⟨hi, ha'⟩ := List.getElem?_eq_some_iff.1 ha
  obtain ⟨hj, hb'⟩ := List.getElem?_eq_some_iff.1 hb
  exact (List.getElem_inj (h₀ := by simpa using hi) (h₁ := by simpa using hj) h.ok.nd).1 (by simp [ha', hb', e])
theorem Md.jf {w : World} {vb tb rb : Nat} {L L' : List (ByteArray × Int)} {F F' : List ByteArray} (h : Md w vb tb rb L F L' F') : Jf L' F' := by
 obtain ⟨G, I, C, ρ, vl, vf, hv, hps, hrf, hrl, hn⟩ := h
 exact hrl.jf
def BothW (w : World) (xb vb rb : Nat) (kp ep fs : Value) : Prop := RowIs w xb 55 [.pointer (some ⟨vb, 0, none⟩), .pointer (some ⟨rb, 0, none⟩), kp, ep, fs]
structure K1 (w W : World) (vb tb rb xb : Nat) (kp ep fs : Value) (ob : Nat) (O : List Value) (L : List (ByteArray × Int)) (F : List ByteArray) (L' : List (ByteArray × Int)) (F' : List ByteArray) : Prop where
 fr : Fr (JT tb w) w W
 md : Md W vb tb rb L F L' F'
 x : BothW W xb vb rb kp ep fs
 o : RowIs W ob 51 O
section
variable {w W W' : World} {vb tb rb xb ob : Nat} {kp ep fs : Value} {O : List Value} {L L' L1 : List (ByteArray × Int)} {F F' F1 : List ByteArray}
theorem RowIs.jt {tb : Nat} {t : TypeId} {R : List Value} {k : Nat} (h : RowIs W k t R) (hf : Fr (JT tb W) W W') (ht : ¬ (t = 214 ∨ t = 229 ∨ t = 310 ∨ t = 293 ∨ t = 89 ∨ t = 103 ∨ t = 9)) : RowIs W' k t R :=
 h.fr hf (fun ⟨⟨t', R', hR, ht'⟩, _⟩ => ht (by rw [h.type hR]; exact ht'))
theorem K1.next (h : K1 w W vb tb rb xb kp ep fs ob O L F L' F') (hf : Fr (JT tb W) W W') (hm : Md W' vb tb rb L1 F1 L' F') : K1 w W' vb tb rb xb kp ep fs ob O L1 F1 L' F' :=
 ⟨h.fr.jTrans hf, hm, RowIs.jt h.x hf (by decide), h.o.jt hf (by decide)⟩
theorem K1.next' (h : K1 w W vb tb rb xb kp ep fs ob O L F L F) (hf : Fr (JT tb W) W W') (hm : Md W' vb tb rb L F L1 F1) : K1 w W' vb tb rb xb kp ep fs ob O L F L1 F1 :=
 ⟨h.fr.jTrans hf, hm, RowIs.jt h.x hf (by decide), h.o.jt hf (by decide)⟩
theorem K1.below (h : K1 w W vb tb rb xb kp ep fs ob O L F L' F') (hb : Below W.heap.size W W') : K1 w W' vb tb rb xb kp ep fs ob O L F L' F' :=
 h.next (Fr.of_below hb) (h.md.below hb)
theorem K1.c0 (h : K1 w W vb tb rb xb kp ep fs ob O L F L' F') : W.cell? ⟨xb, 0, none⟩ = some (.pointer (some ⟨vb, 0, none⟩)) := (RowIs.cell h.x 0).trans rfl
theorem K1.c1 (h : K1 w W vb tb rb xb kp ep fs ob O L F L' F') : W.cell? ⟨xb, 1, none⟩ = some (.pointer (some ⟨rb, 0, none⟩)) := (RowIs.cell h.x 1).trans rfl
theorem K1.begin (hx : BothW w xb vb rb kp ep fs) (hm : Md w vb tb rb L F L F) (O : List Value) : K1 w (w.alloc (.cells O.toArray 51)) vb tb rb xb kp ep fs w.heap.size O L F L F := by
 have hb : Below w.heap.size w (w.alloc (.cells O.toArray 51)) := (Below.refl _ _).alloc (Nat.le_refl _) _
 exact ⟨Fr.of_below hb, hm.below hb, RowIs.jt (tb := tb) hx (Fr.of_below hb) (by decide), row_new w O 51⟩
end
abbrev opL (k kk a b : Int) (s t u : ByteArray) : List Value := [.int .i64 k, .int .i64 kk, .int .i64 a, .int .i64 b, .string s, .string t, .string u]
def StepPost (w : World) (vb tb rb xb : Nat) (kp ep fs : Value) (L' : List (ByteArray × Int)) (F' : List ByteArray) (e : Ending) (w' : World) : Prop :=
 e = .returned (.bool true) ∧ Fr (JT tb w) w w' ∧ BothW w' xb vb rb kp ep fs ∧ Md w' vb tb rb L' F' L' F'
theorem K1.post {w W : World} {vb tb rb xb ob : Nat} {kp ep fs : Value} {O : List Value} {L' : List (ByteArray × Int)} {F' : List ByteArray} (h : K1 w W vb tb rb xb kp ep fs ob O L' F' L' F') : StepPost w vb tb rb xb kp ep fs L' F' (.returned (.bool true)) W := ⟨rfl, h.fr, h.x, h.md⟩
theorem step1 (w : World) (vb tb rb xb : Nat) (kp ep fs : Value) (L : List (ByteArray × Int)) (F : List ByteArray) (hx : BothW w xb vb rb kp ep fs) (hm : Md w vb tb rb L F L F) (kk a b : Int) (s t u : ByteArray) (hs : s.size ≤ 1048576) :
  Calls Tryz.prog 36 #[.pointer (some ⟨xb, 0, none⟩), .agg (opL 1 kk a b s t u).toArray] w (StepPost w vb tb rb xb kp ep fs (mkdirR L F s).2 F) := by
 have hjf := hm.jf
 have hk0 := K1.begin hx hm (opL 1 kk a b s t u)
 have HA : Hid (∀ W, K1 w W vb tb rb xb kp ep fs w.heap.size (opL 1 kk a b s t u) L F L F → Calls Tryz.prog 58 #[.pointer (some ⟨vb, 0, none⟩), .string s] W fun e w' => e = .returned (.int .i64 (mkdirR L F s).1) ∧ K1 w w' vb tb rb xb kp ep fs w.heap.size (opL 1 kk a b s t u) L F (mkdirR L F s).2 F) := fun W hk =>
  (mkdirJ hk.md s (by omega)).mono (fun e w' ⟨h1, h2, h3⟩ => ⟨h1, hk.next' h2 h3⟩)
 have HB : Hid (∀ W, K1 w W vb tb rb xb kp ep fs w.heap.size (opL 1 kk a b s t u) L F (mkdirR L F s).2 F → Calls Tryz.prog 43 #[.pointer (some ⟨rb, 0, none⟩), .string s] W fun e w' => e = .returned (.int .i64 (mkdirR L F s).1) ∧ K1 w w' vb tb rb xb kp ep fs w.heap.size (opL 1 kk a b s t u) (mkdirR L F s).2 F (mkdirR L F s).2 F) := fun W hk =>
  (hk.md.refCall (fun vl vf hr => mkdir_ref W rb vl vf L F hr (by have := hjf.len; omega) s (by omega))).mono (fun e w' ⟨h1, h2, h3⟩ => ⟨h1, hk.next h2 h3⟩)
 obtain ⟨R, hR⟩ : ∃ R, R = (mkdirR L F s) := ⟨_, rfl⟩
 rw [← hR] at HA HB ⊢
 clear hR hx hm hjf
 go_enter Tryz.func36, Tryz.ntmps36
 obtain ⟨W, hW, -, -, -, -⟩ := alloc_name w (opL 1 kk a b s t u) 51
 rw [hW] at hk0
 have o0 := hk0.o.cell 0
 have o4 := hk0.o.cell 4
 have x0 := hk0.c0
 have x1 := hk0.c1
 have HK := hide hk0
 clear hk0
 go_upto_region 1 with fail
 clear hW
 go_upto_region 4 with fail
 go_region_held3 (fun W => W.cell? ⟨xb, 0, none⟩ = some (.pointer (some ⟨vb, 0, none⟩)) ∧ W.cell? ⟨xb, 1, none⟩ = some (.pointer (some ⟨rb, 0, none⟩)) ∧ W.cell? ⟨w.heap.size, 4, none⟩ = some (.string s)) (go_keep)
  (first | (go_at_call 58; refine (unhide HA _ ((unhide HK).below (Below.refl _ _).drew)).mono ?_; rintro e w1 ⟨rfl, hk⟩; have m0 := hk.c0; have m1 := hk.c1; have m4 := hk.o.cell 4; have HK1 := hide hk; clear hk) | (go_at_call 16; refine (num_code _ _).mono ?_; rintro e w2 ⟨rfl, rfl⟩) | (go_at_call 43; refine (unhide HB _ (unhide HK1)).mono ?_; rintro e w3 ⟨rfl, hk⟩; have n0 := hk.c0; have n1 := hk.c1; have n4 := hk.o.cell 4; have HK2 := hide hk; clear hk))
 all_goals
  go_wp2
  go_ret
  exact (unhide HK2).post
theorem step3 (w : World) (vb tb rb xb : Nat) (kp ep fs : Value) (L : List (ByteArray × Int)) (F : List ByteArray) (hx : BothW w xb vb rb kp ep fs) (hm : Md w vb tb rb L F L F) (kk a b : Int) (s t u : ByteArray) (hs : s.size ≤ 1048576) :
  Calls Tryz.prog 36 #[.pointer (some ⟨xb, 0, none⟩), .agg (opL 3 kk a b s t u).toArray] w (StepPost w vb tb rb xb kp ep fs L (trimR L F s a).2) := by
 have hjf := hm.jf
 have hk0 := K1.begin hx hm (opL 3 kk a b s t u)
 have HA : Hid (∀ W, K1 w W vb tb rb xb kp ep fs w.heap.size (opL 3 kk a b s t u) L F L F → Calls Tryz.prog 60 #[.pointer (some ⟨vb, 0, none⟩), .string s, .int .i64 a] W fun e w' => e = .returned (.int .i64 (trimR L F s a).1) ∧ K1 w w' vb tb rb xb kp ep fs w.heap.size (opL 3 kk a b s t u) L F L (trimR L F s a).2) := fun W hk =>
  (cutJ hk.md s a (by omega)).mono (fun e w' ⟨h1, h2, h3⟩ => ⟨h1, hk.next' h2 h3⟩)
 have HB : Hid (∀ W, K1 w W vb tb rb xb kp ep fs w.heap.size (opL 3 kk a b s t u) L F L (trimR L F s a).2 → Calls Tryz.prog 87 #[.pointer (some ⟨rb, 0, none⟩), .string s, .int .i64 a] W fun e w' => e = .returned (.int .i64 (trimR L F s a).1) ∧ K1 w w' vb tb rb xb kp ep fs w.heap.size (opL 3 kk a b s t u) L (trimR L F s a).2 L (trimR L F s a).2) := fun W hk =>
  (hk.md.refCall (fun vl vf hr => trim_ref W rb vl vf L F hr hjf.fv s (by omega) a)).mono (fun e w' ⟨h1, h2, h3⟩ => ⟨h1, hk.next h2 h3⟩)
 obtain ⟨R, hR⟩ : ∃ R, R = (trimR L F s a) := ⟨_, rfl⟩
 rw [← hR] at HA HB ⊢
 clear hR hx hm hjf
 go_enter Tryz.func36, Tryz.ntmps36
 obtain ⟨W, hW, -, -, -, -⟩ := alloc_name w (opL 3 kk a b s t u) 51
 rw [hW] at hk0
 have o0 := hk0.o.cell 0
 have o4 := hk0.o.cell 4
 have o2 := hk0.o.cell 2
 have x0 := hk0.c0
 have x1 := hk0.c1
 have HK := hide hk0
 clear hk0
 go_upto_region 1 with fail
 clear hW
 go_upto_region 8 with fail
 go_region_held3 (fun W => W.cell? ⟨xb, 0, none⟩ = some (.pointer (some ⟨vb, 0, none⟩)) ∧ W.cell? ⟨xb, 1, none⟩ = some (.pointer (some ⟨rb, 0, none⟩)) ∧ W.cell? ⟨w.heap.size, 4, none⟩ = some (.string s) ∧ W.cell? ⟨w.heap.size, 2, none⟩ = some (.int .i64 a)) (go_keep)
  (first | (go_at_call 60; refine (unhide HA _ ((unhide HK).below (Below.refl _ _).drew)).mono ?_; rintro e w1 ⟨rfl, hk⟩; have m0 := hk.c0; have m1 := hk.c1; have m4 := hk.o.cell 4; have m2 := hk.o.cell 2; have HK1 := hide hk; clear hk) | (go_at_call 16; refine (num_code _ _).mono ?_; rintro e w2 ⟨rfl, rfl⟩) | (go_at_call 87; refine (unhide HB _ (unhide HK1)).mono ?_; rintro e w3 ⟨rfl, hk⟩; have n0 := hk.c0; have n1 := hk.c1; have n4 := hk.o.cell 4; have n2 := hk.o.cell 2; have HK2 := hide hk; clear hk))
 all_goals
  go_wp2
  go_ret
  exact (unhide HK2).post
theorem step4 (w : World) (vb tb rb xb : Nat) (kp ep fs : Value) (L : List (ByteArray × Int)) (F : List ByteArray) (hx : BothW w xb vb rb kp ep fs) (hm : Md w vb tb rb L F L F) (kk a b : Int) (s t u : ByteArray) (hs : s.size ≤ 1048576) (ht : t.size ≤ 1048576) :
  Calls Tryz.prog 36 #[.pointer (some ⟨xb, 0, none⟩), .agg (opL 4 kk a b s t u).toArray] w (StepPost w vb tb rb xb kp ep fs (linkR L F s t).2 F) := by
 have hjf := hm.jf
 have hk0 := K1.begin hx hm (opL 4 kk a b s t u)
 have HA : Hid (∀ W, K1 w W vb tb rb xb kp ep fs w.heap.size (opL 4 kk a b s t u) L F L F → Calls Tryz.prog 61 #[.pointer (some ⟨vb, 0, none⟩), .string s, .string t] W fun e w' => e = .returned (.int .i64 (linkR L F s t).1) ∧ K1 w w' vb tb rb xb kp ep fs w.heap.size (opL 4 kk a b s t u) L F (linkR L F s t).2 F) := fun W hk =>
  (linkJ hk.md s t (by omega) (by omega)).mono (fun e w' ⟨h1, h2, h3⟩ => ⟨h1, hk.next' h2 h3⟩)
 have HB : Hid (∀ W, K1 w W vb tb rb xb kp ep fs w.heap.size (opL 4 kk a b s t u) L F (linkR L F s t).2 F → Calls Tryz.prog 44 #[.pointer (some ⟨rb, 0, none⟩), .string s, .string t] W fun e w' => e = .returned (.int .i64 (linkR L F s t).1) ∧ K1 w w' vb tb rb xb kp ep fs w.heap.size (opL 4 kk a b s t u) (linkR L F s t).2 F (linkR L F s t).2 F) := fun W hk =>
  (hk.md.refCall (fun vl vf hr => link_ref W rb vl vf L F hr (by have := hjf.len; omega) s t (by omega) (by omega))).mono (fun e w' ⟨h1, h2, h3⟩ => ⟨h1, hk.next h2 h3⟩)
 obtain ⟨R, hR⟩ : ∃ R, R = (linkR L F s t) := ⟨_, rfl⟩
 rw [← hR] at HA HB ⊢
 clear hR hx hm hjf
 go_enter Tryz.func36, Tryz.ntmps36
 obtain ⟨W, hW, -, -, -, -⟩ := alloc_name w (opL 4 kk a b s t u) 51
 rw [hW] at hk0
 have o0 := hk0.o.cell 0
 have o4 := hk0.o.cell 4
 have o5 := hk0.o.cell 5
 have x0 := hk0.c0
 have x1 := hk0.c1
 have HK := hide hk0
 clear hk0
 go_upto_region 1 with fail
 clear hW
 go_upto_region 10 with fail
 go_region_held3 (fun W => W.cell? ⟨xb, 0, none⟩ = some (.pointer (some ⟨vb, 0, none⟩)) ∧ W.cell? ⟨xb, 1, none⟩ = some (.pointer (some ⟨rb, 0, none⟩)) ∧ W.cell? ⟨w.heap.size, 4, none⟩ = some (.string s) ∧ W.cell? ⟨w.heap.size, 5, none⟩ = some (.string t)) (go_keep)
  (first | (go_at_call 61; refine (unhide HA _ ((unhide HK).below (Below.refl _ _).drew)).mono ?_; rintro e w1 ⟨rfl, hk⟩; have m0 := hk.c0; have m1 := hk.c1; have m4 := hk.o.cell 4; have m5 := hk.o.cell 5; have HK1 := hide hk; clear hk) | (go_at_call 16; refine (num_code _ _).mono ?_; rintro e w2 ⟨rfl, rfl⟩) | (go_at_call 44; refine (unhide HB _ (unhide HK1)).mono ?_; rintro e w3 ⟨rfl, hk⟩; have n0 := hk.c0; have n1 := hk.c1; have n4 := hk.o.cell 4; have n5 := hk.o.cell 5; have HK2 := hide hk; clear hk))
 all_goals
  go_wp2
  go_ret
  exact (unhide HK2).post
theorem step5 (w : World) (vb tb rb xb : Nat) (kp ep fs : Value) (L : List (ByteArray × Int)) (F : List ByteArray) (hx : BothW w xb vb rb kp ep fs) (hm : Md w vb tb rb L F L F) (kk a b : Int) (s t u : ByteArray) (hs : s.size ≤ 1048576) (ht : t.size ≤ 1048576) :
  Calls Tryz.prog 36 #[.pointer (some ⟨xb, 0, none⟩), .agg (opL 5 kk a b s t u).toArray] w (StepPost w vb tb rb xb kp ep fs (moveR L s t).2 F) := by
 have hjf := hm.jf
 have hk0 := K1.begin hx hm (opL 5 kk a b s t u)
 have HA : Hid (∀ W, K1 w W vb tb rb xb kp ep fs w.heap.size (opL 5 kk a b s t u) L F L F → Calls Tryz.prog 62 #[.pointer (some ⟨vb, 0, none⟩), .string s, .string t] W fun e w' => e = .returned (.int .i64 (moveR L s t).1) ∧ K1 w w' vb tb rb xb kp ep fs w.heap.size (opL 5 kk a b s t u) L F (moveR L s t).2 F) := fun W hk =>
  (moveJ hk.md s t (by omega) (by omega)).mono (fun e w' ⟨h1, h2, h3⟩ => ⟨h1, hk.next' h2 h3⟩)
 have HB : Hid (∀ W, K1 w W vb tb rb xb kp ep fs w.heap.size (opL 5 kk a b s t u) L F (moveR L s t).2 F → Calls Tryz.prog 88 #[.pointer (some ⟨rb, 0, none⟩), .string s, .string t] W fun e w' => e = .returned (.int .i64 (moveR L s t).1) ∧ K1 w w' vb tb rb xb kp ep fs w.heap.size (opL 5 kk a b s t u) (moveR L s t).2 F (moveR L s t).2 F) := fun W hk =>
  (hk.md.refCall (fun vl vf hr => move_ref W rb vl vf L F hr s t (by omega) (by omega) hjf.ok hjf.un)).mono (fun e w' ⟨h1, h2, h3⟩ => ⟨h1, hk.next h2 h3⟩)
 obtain ⟨R, hR⟩ : ∃ R, R = (moveR L s t) := ⟨_, rfl⟩
 rw [← hR] at HA HB ⊢
 clear hR hx hm hjf
 go_enter Tryz.func36, Tryz.ntmps36
 obtain ⟨W, hW, -, -, -, -⟩ := alloc_name w (opL 5 kk a b s t u) 51
 rw [hW] at hk0
 have o0 := hk0.o.cell 0
 have o4 := hk0.o.cell 4
 have o5 := hk0.o.cell 5
 have x0 := hk0.c0
 have x1 := hk0.c1
 have HK := hide hk0
 clear hk0
 go_upto_region 1 with fail
 clear hW
 go_upto_region 12 with fail
 go_region_held3 (fun W => W.cell? ⟨xb, 0, none⟩ = some (.pointer (some ⟨vb, 0, none⟩)) ∧ W.cell? ⟨xb, 1, none⟩ = some (.pointer (some ⟨rb, 0, none⟩)) ∧ W.cell? ⟨w.heap.size, 4, none⟩ = some (.string s) ∧ W.cell? ⟨w.heap.size, 5, none⟩ = some (.string t)) (go_keep)
  (first | (go_at_call 62; refine (unhide HA _ ((unhide HK).below (Below.refl _ _).drew)).mono ?_; rintro e w1 ⟨rfl, hk⟩; have m0 := hk.c0; have m1 := hk.c1; have m4 := hk.o.cell 4; have m5 := hk.o.cell 5; have HK1 := hide hk; clear hk) | (go_at_call 16; refine (num_code _ _).mono ?_; rintro e w2 ⟨rfl, rfl⟩) | (go_at_call 88; refine (unhide HB _ (unhide HK1)).mono ?_; rintro e w3 ⟨rfl, hk⟩; have n0 := hk.c0; have n1 := hk.c1; have n4 := hk.o.cell 4; have n5 := hk.o.cell 5; have HK2 := hide hk; clear hk))
 all_goals
  go_wp2
  go_ret
  exact (unhide HK2).post
theorem step6 (w : World) (vb tb rb xb : Nat) (kp ep fs : Value) (L : List (ByteArray × Int)) (F : List ByteArray) (hx : BothW w xb vb rb kp ep fs) (hm : Md w vb tb rb L F L F) (kk a b : Int) (s t u : ByteArray) (hs : s.size ≤ 1048576) :
  Calls Tryz.prog 36 #[.pointer (some ⟨xb, 0, none⟩), .agg (opL 6 kk a b s t u).toArray] w (StepPost w vb tb rb xb kp ep fs (removeR L s).2 F) := by
 have hjf := hm.jf
 have hk0 := K1.begin hx hm (opL 6 kk a b s t u)
 have HA : Hid (∀ W, K1 w W vb tb rb xb kp ep fs w.heap.size (opL 6 kk a b s t u) L F L F → Calls Tryz.prog 63 #[.pointer (some ⟨vb, 0, none⟩), .string s] W fun e w' => e = .returned (.int .i64 (removeR L s).1) ∧ K1 w w' vb tb rb xb kp ep fs w.heap.size (opL 6 kk a b s t u) L F (removeR L s).2 F) := fun W hk =>
  (removeJ hk.md s (by omega)).mono (fun e w' ⟨h1, h2, h3⟩ => ⟨h1, hk.next' h2 h3⟩)
 have HB : Hid (∀ W, K1 w W vb tb rb xb kp ep fs w.heap.size (opL 6 kk a b s t u) L F (removeR L s).2 F → Calls Tryz.prog 89 #[.pointer (some ⟨rb, 0, none⟩), .string s] W fun e w' => e = .returned (.int .i64 (removeR L s).1) ∧ K1 w w' vb tb rb xb kp ep fs w.heap.size (opL 6 kk a b s t u) (removeR L s).2 F (removeR L s).2 F) := fun W hk =>
  (hk.md.refCall (fun vl vf hr => remove_ref W rb vl vf L F hr s (by omega))).mono (fun e w' ⟨h1, h2, h3⟩ => ⟨h1, hk.next h2 h3⟩)
 obtain ⟨R, hR⟩ : ∃ R, R = (removeR L s) := ⟨_, rfl⟩
 rw [← hR] at HA HB ⊢
 clear hR hx hm hjf
 go_enter Tryz.func36, Tryz.ntmps36
 obtain ⟨W, hW, -, -, -, -⟩ := alloc_name w (opL 6 kk a b s t u) 51
 rw [hW] at hk0
 have o0 := hk0.o.cell 0
 have o4 := hk0.o.cell 4
 have x0 := hk0.c0
 have x1 := hk0.c1
 have HK := hide hk0
 clear hk0
 go_upto_region 1 with fail
 clear hW
 go_upto_region 14 with fail
 go_region_held3 (fun W => W.cell? ⟨xb, 0, none⟩ = some (.pointer (some ⟨vb, 0, none⟩)) ∧ W.cell? ⟨xb, 1, none⟩ = some (.pointer (some ⟨rb, 0, none⟩)) ∧ W.cell? ⟨w.heap.size, 4, none⟩ = some (.string s)) (go_keep)
  (first | (go_at_call 63; refine (unhide HA _ ((unhide HK).below (Below.refl _ _).drew)).mono ?_; rintro e w1 ⟨rfl, hk⟩; have m0 := hk.c0; have m1 := hk.c1; have m4 := hk.o.cell 4; have HK1 := hide hk; clear hk) | (go_at_call 16; refine (num_code _ _).mono ?_; rintro e w2 ⟨rfl, rfl⟩) | (go_at_call 89; refine (unhide HB _ (unhide HK1)).mono ?_; rintro e w3 ⟨rfl, hk⟩; have n0 := hk.c0; have n1 := hk.c1; have n4 := hk.o.cell 4; have HK2 := hide hk; clear hk))
 all_goals
  go_wp2
  go_ret
  exact (unhide HK2).post
theorem eql51 (s : ByteArray) (b : Bool) (c d : Int) (w : World) : (binOp .eql 112 (.agg #[.string s, .bool b, .int .i64 c, .int .i64 d]) (.agg #[.string s, .bool b, .int .i64 c, .int .i64 d])).run Tryz.prog w = .ok (.bool true) w := by
 go_simp
theorem statR_shape (L : List (ByteArray × Int)) (F : List ByteArray) (p : ByteArray) : ∃ s b c d, (statR L F p).1 = .agg #[.string s, .bool b, .int .i64 c, .int .i64 d] := by
 unfold statR noEntry toldV
 (repeat' split) <;> exact ⟨_, _, _, _, rfl⟩
theorem stat_law (w : World) (vb tb rb xb : Nat) (kp ep fs : Value) (L : List (ByteArray × Int)) (F : List ByteArray) (hx : BothW w xb vb rb kp ep fs) (hm : Md w vb tb rb L F L F) (s : ByteArray) (hs : s.size ≤ 2000000) :
  Calls Tryz.prog 50 #[.pointer (some ⟨xb, 0, none⟩), .string s] w fun e w' => e = .returned (.bool true) ∧ Below w.heap.size w w' := by
 have hjf := hm.jf
 have x0 : w.cell? ⟨xb, 0, none⟩ = some (.pointer (some ⟨vb, 0, none⟩)) := (RowIs.cell hx 0).trans rfl
 have hst := statJ hm s (by omega)
 have HB : Hid (∀ W, Below w.heap.size w W → Calls Tryz.prog 111 #[.pointer (some ⟨rb, 0, none⟩), .string s] W fun e w' => e = .returned (.tuple #[(statR L F s).1, .int .i64 (statR L F s).2]) ∧ Below W.heap.size W w') := fun W hb => by
  obtain ⟨G, I, C, ρ, vl, vf, hv, hps, hrf, hrl, hn⟩ := hm.below hb
  exact stat_ref W rb vl vf L F hrf.toRefW hjf.fv s (by omega)
 have HX : Hid (∀ W, Below w.heap.size w W → W.cell? ⟨xb, 1, none⟩ = some (.pointer (some ⟨rb, 0, none⟩))) := fun W hb => ((RowIs.fr hx (X := fun _ => False) (Fr.of_below hb) id).cell 1).trans rfl
 obtain ⟨v0, v1, v2, v3, hsh⟩ := statR_shape L F s
 obtain ⟨n, hn⟩ : ∃ n, n = (statR L F s).2 := ⟨_, rfl⟩
 rw [hsh, ← hn] at hst HB
 clear hsh hn hx hm hjf
 go_enter Tryz.func50, Tryz.ntmps50
 go_wp2_with fail
 refine hst.mono ?_
 rintro e w1 ⟨rfl, hb1⟩
 clear hst
 obtain ⟨W, hW, hr0, hk, hsz, hbW⟩ := alloc_name w1 [.string ⟨#[]⟩, .bool false, .int .i64 0, .int .i64 0] 112
 have hb2 : Below w.heap.size w W := hb1.trans (hbW.mono hb1.size)
 have g0 := hr0.cell 0; have g1 := hr0.cell 1; have g2 := hr0.cell 2; have g3 := hr0.cell 3
 have f0 := hr0.frozen 0; have f1 := hr0.frozen 1; have f2 := hr0.frozen 2; have f3 := hr0.frozen 3
 go_upto_region 2 with fail
 have hR2 := set4' hr0 (.string v0) (.bool v1) (.int .i64 v2) (.int .i64 v3)
 have hb3 := below_set4' hb2 hb1.size (.string v0) (.bool v1) (.int .i64 v2) (.int .i64 v3)
 obtain ⟨W2, hW2⟩ : ∃ W2, W2 = ((((W.setCell ⟨w1.heap.size, 0, none⟩ (.string v0)).setCell ⟨w1.heap.size, 1, none⟩ (.bool v1)).setCell ⟨w1.heap.size, 2, none⟩ (.int .i64 v2)).setCell ⟨w1.heap.size, 3, none⟩ (.int .i64 v3)) := ⟨_, rfl⟩
 rw [← hW2] at hR2 hb3 ⊢
 have hlt := hR2.lt
 clear hW2 hW hr0 hk hsz hbW hb2 g0 g1 g2 g3 f0 f1 f2 f3 x0
 have x1 := unhide HX W2 hb3
 have hst := unhide HB W2 hb3
 go_wp2_with fail
 refine hst.mono ?_
 rintro e w3 ⟨rfl, hb4⟩
 clear hst
 have hb5 : Below w.heap.size w w3 := hb3.trans (hb4.mono hb3.size)
 have hR3 : RowIs w3 w1.heap.size 112 _ := (hb4.block _ hlt).trans hR2
 obtain ⟨W4, hW4, hr4, hk4, hsz4, hbW4⟩ := alloc_name w3 [.string ⟨#[]⟩, .bool false, .int .i64 0, .int .i64 0] 112
 have hR4 := hk4 _ _ _ hR3
 have hb6 : Below w.heap.size w W4 := hb5.trans (hbW4.mono hb5.size)
 have hlt3 := hR3.lt
 have g0 := hr4.cell 0; have g1 := hr4.cell 1; have g2 := hr4.cell 2; have g3 := hr4.cell 3
 have f0 := hr4.frozen 0; have f1 := hr4.frozen 1; have f2 := hr4.frozen 2; have f3 := hr4.frozen 3
 go_upto_region 3 with fail
 have hR5 := set4' hr4 (.string v0) (.bool v1) (.int .i64 v2) (.int .i64 v3)
 have hb7 := below_set4' hb6 hb5.size (.string v0) (.bool v1) (.int .i64 v2) (.int .i64 v3)
 have hne : w3.heap.size ≠ w1.heap.size := by omega
 have hR6 : RowIs ((((W4.setCell ⟨w3.heap.size, 0, none⟩ (.string v0)).setCell ⟨w3.heap.size, 1, none⟩ (.bool v1)).setCell ⟨w3.heap.size, 2, none⟩ (.int .i64 v2)).setCell ⟨w3.heap.size, 3, none⟩ (.int .i64 v3)) w1.heap.size 112 [.string v0, .bool v1, .int .i64 v2, .int .i64 v3] :=
  (((hR4.setOther _ _ hne).setOther _ _ hne).setOther _ _ hne).setOther _ _ hne
 obtain ⟨W5, hW5⟩ : ∃ W5, W5 = ((((W4.setCell ⟨w3.heap.size, 0, none⟩ (.string v0)).setCell ⟨w3.heap.size, 1, none⟩ (.bool v1)).setCell ⟨w3.heap.size, 2, none⟩ (.int .i64 v2)).setCell ⟨w3.heap.size, 3, none⟩ (.int .i64 v3)) := ⟨_, rfl⟩
 rw [← hW5] at hR5 hb7 hR6 ⊢
 clear hW5 hW4 hr4 hk4 hsz4 hbW4 hb6 g0 g1 g2 g3 f0 f1 f2 f3 x1 hR4 hR3 hR2 hne hlt hlt3
 have a0 := hR5.cell 0; have a1 := hR5.cell 1; have a2 := hR5.cell 2; have a3 := hR5.cell 3
 have c0 := hR6.cell 0; have c1 := hR6.cell 1; have c2 := hR6.cell 2; have c3 := hR6.cell 3
 have hq := eql51 v0 v1 v2 v3
 go_wp2_with (go_at_call 16; refine (num_code _ _).mono ?_; rintro e w2 ⟨rfl, rfl⟩)
 go_ret
 exact ⟨rfl, hb7⟩
theorem conv_sl {W : World} {a : Option Addr} {m c : Nat} {s : ByteArray} (h : Sl W 5 1 (.slice a m c) m (bytesV s)) (hm : m = s.size) : (convert 59 9 (.slice a m c)).run Tryz.prog W = .ok (.string s) W := by
 rcases h.2 with ⟨e, h0⟩ | ⟨g, cap, R, e, hr, hle, hcap, hl, ht⟩
 ·simp only [Value.slice.injEq] at e
  obtain ⟨rfl, rfl, rfl⟩ := e
  rw [Go.Lib.run_convert_nil_bytes W 59 9 5 0 Tryz.underlying59 Tryz.underlying5 Tryz.underlying9]
  congr 2
  apply ByteArray.ext
  exact (Array.size_eq_zero_iff.1 hm.symm).symm
 ·simp only [Value.slice.injEq] at e
  obtain ⟨rfl, -, rfl⟩ := e
  subst hm
  refine Go.Lib.run_convert_whole W 59 5 9 Tryz.underlying59 Tryz.underlying5 Tryz.underlying9 g 0 s (fun i hi => ?_) c
  rw [Nat.zero_add, hr.cell]
  have h1 : (R.take (s.size * 1))[i]? = (bytesV s)[i]? := by rw [ht]
  rw [List.getElem?_take_of_lt (by omega)] at h1
  rw [h1]
  unfold bytesV
  rw [List.getElem?_map, Array.getElem?_toList, Array.getElem?_eq_getElem hi]
  rfl
def ReadLaw (w : World) (e : Ending) (w' : World) : Prop := (∃ a n c, e = .returned (.tuple #[.slice a n c, .bool true])) ∧ Below w.heap.size w w'
theorem read_law (w : World) (vb tb rb xb : Nat) (kp ep fs : Value) (L : List (ByteArray × Int)) (F : List ByteArray) (hx : BothW w xb vb rb kp ep fs) (hm : Md w vb tb rb L F L F) (k kk a b : Int) (ha : a ≤ 9223372036854775807) (hb : b ≤ 9223372036854775807) (s t u : ByteArray) (hs : s.size ≤ 2000000) :
  Calls Tryz.prog 51 #[.pointer (some ⟨xb, 0, none⟩), .agg (opL k kk a b s t u).toArray] w (ReadLaw w) := by
 have hjf := hm.jf
 have hal : Below w.heap.size w (w.alloc (.cells (opL k kk a b s t u).toArray 51)) := (Below.refl _ _).alloc (Nat.le_refl _) _
 have hk0 := K1.begin hx hm (opL k kk a b s t u)
 have HA : Hid (∀ W, Below w.heap.size w W → Calls Tryz.prog 55 #[.pointer (some ⟨vb, 0, none⟩), .string s, .int .i64 a, .int .i64 b] W fun e w' => (∃ x m c, e = .returned (.tuple #[.slice x m c, .int .i64 (readR L F s a b).2]) ∧ m = (readR L F s a b).1.size ∧ Sl w' 5 1 (.slice x m c) m (bytesV (readR L F s a b).1)) ∧ Below W.heap.size W w') := fun W hbW =>
  readJ (hm.below hbW) s (by omega) a b ha hb
 have HB : Hid (∀ W, Below w.heap.size w W → Calls Tryz.prog 112 #[.pointer (some ⟨rb, 0, none⟩), .string s, .int .i64 a, .int .i64 b] W fun e w' => e = .returned (.tuple #[.string (readR L F s a b).1, .int .i64 (readR L F s a b).2]) ∧ Below W.heap.size W w') := fun W hbW => by
  obtain ⟨G, I, C, ρ, vl, vf, hv, hps, hrf, hrl, hn⟩ := hm.below hbW
  exact read_ref W rb vl vf L F hrf.toRefW hjf.fv s (by omega) a b ha hb
 have hlt := RowIs.lt hx
 obtain ⟨R, hR⟩ : ∃ R, R = readR L F s a b := ⟨_, rfl⟩
 rw [← hR] at HA HB
 clear hR hx hm hjf
 go_enter Tryz.func51, Tryz.ntmps51
 obtain ⟨W, hW, -, -, hsz, -⟩ := alloc_name w (opL k kk a b s t u) 51
 rw [hW] at hk0 hal
 have o2 := hk0.o.cell 2
 have o3 := hk0.o.cell 3
 have o4 := hk0.o.cell 4
 have x0 := hk0.c0
 have x1 := hk0.c1
 have HSZ := hide hsz
 have HAL := hide hal
 clear hk0 hal hsz
 go_upto_region 1 with fail
 clear hW
 go_region_held3 (fun W => W.cell? ⟨xb, 0, none⟩ = some (.pointer (some ⟨vb, 0, none⟩)) ∧ W.cell? ⟨w.heap.size, 4, none⟩ = some (.string s) ∧ W.cell? ⟨w.heap.size, 2, none⟩ = some (.int .i64 a) ∧ W.cell? ⟨w.heap.size, 3, none⟩ = some (.int .i64 b)) (go_keep)
  (first | (go_at_call 55; refine (unhide HA _ (unhide HAL).drew).mono ?_; rintro e w1 ⟨⟨x, m, c, rfl, hmm, hS⟩, hb1⟩; have hb1' : Below W.heap.size W w1 := (Below.refl _ _).drew.trans hb1; have HS := hide hS; have HM := hide hmm; have y2 := (hb1'.cell (p := ⟨w.heap.size, 2, none⟩) (by rw [unhide HSZ]; simp)).trans o2; have y3 := (hb1'.cell (p := ⟨w.heap.size, 3, none⟩) (by rw [unhide HSZ]; simp)).trans o3; have y4 := (hb1'.cell (p := ⟨w.heap.size, 4, none⟩) (by rw [unhide HSZ]; simp)).trans o4; have z0 := (hb1'.cell (p := ⟨xb, 0, none⟩) (by rw [unhide HSZ]; show xb < _; omega)).trans x0; have z1 := (hb1'.cell (p := ⟨xb, 1, none⟩) (by rw [unhide HSZ]; show xb < _; omega)).trans x1; have hb2 : Below w.heap.size w w1 := (unhide HAL).trans (hb1'.mono (by rw [unhide HSZ]; omega)); have HB2 := hide hb2; have hsz1 : w.heap.size + 1 ≤ w1.heap.size := (by rw [← unhide HSZ]; exact hb1'.size); have HW1 := hide hsz1; clear hsz1 hS hmm hb1 hb1' hb2))
 clear x0 x1 o2 o3 o4
 go_upto_region 2 with fail
 go_region_held3 (fun W => W.cell? ⟨xb, 1, none⟩ = some (.pointer (some ⟨rb, 0, none⟩)) ∧ W.cell? ⟨w.heap.size, 4, none⟩ = some (.string s) ∧ W.cell? ⟨w.heap.size, 2, none⟩ = some (.int .i64 a) ∧ W.cell? ⟨w.heap.size, 3, none⟩ = some (.int .i64 b)) (go_keep)
  (first | (go_at_call 112; refine (unhide HB _ (unhide HB2).drew).mono ?_; rintro e w2 ⟨rfl, hb3⟩; have hb3' : Below w1.heap.size w1 w2 := (Below.refl _ _).drew.trans hb3; have hcv := conv_sl ((unhide HS).kept (fun k hk _ => hb3'.block k hk)) (unhide HM); have hb4 : Below w.heap.size w w2 := (unhide HB2).trans (hb3'.mono (unhide HB2).size); have HB4 := hide hb4; have q1 := (hb3'.cell (p := ⟨xb, 1, none⟩) (by have := unhide HW1; show xb < _; omega)).trans z1; have q2 := (hb3'.cell (p := ⟨w.heap.size, 2, none⟩) (by have := unhide HW1; show w.heap.size < _; omega)).trans y2; have q3 := (hb3'.cell (p := ⟨w.heap.size, 3, none⟩) (by have := unhide HW1; show w.heap.size < _; omega)).trans y3; have q4 := (hb3'.cell (p := ⟨w.heap.size, 4, none⟩) (by have := unhide HW1; show w.heap.size < _; omega)).trans y4; clear hb3 hb3' hb4))
 clear z0 z1 y2 y3 y4
 go_wp2_with (go_at_call 16; refine (num_code _ _).mono ?_; rintro e w4 ⟨rfl, rfl⟩)
 go_ret2
 exact ⟨⟨_, _, _, rfl⟩, unhide HB4⟩
theorem step7 (w : World) (vb tb rb xb : Nat) (kp ep fs : Value) (L : List (ByteArray × Int)) (F : List ByteArray) (hx : BothW w xb vb rb kp ep fs) (hm : Md w vb tb rb L F L F) (kk a b : Int) (s t u : ByteArray) (ha : a ≤ 9223372036854775807) (hb : b ≤ 9223372036854775807) (hs : s.size ≤ 1048576) :
  Calls Tryz.prog 36 #[.pointer (some ⟨xb, 0, none⟩), .agg (opL 7 kk a b s t u).toArray] w (StepPost w vb tb rb xb kp ep fs L F) := by
 have hk0 := K1.begin hx hm (opL 7 kk a b s t u)
 have HA : Hid (∀ W, K1 w W vb tb rb xb kp ep fs w.heap.size (opL 7 kk a b s t u) L F L F → Calls Tryz.prog 51 #[.pointer (some ⟨xb, 0, none⟩), .agg (opL 7 kk a b s t u).toArray] W (ReadLaw W)) := fun W hk =>
  read_law W vb tb rb xb kp ep fs L F hk.x hk.md 7 kk a b ha hb s t u (by omega)
 clear hx hm
 go_enter Tryz.func36, Tryz.ntmps36
 obtain ⟨W, hW, -, -, -, -⟩ := alloc_name w (opL 7 kk a b s t u) 51
 rw [hW] at hk0
 have o0 := hk0.o.cell 0; have o1 := hk0.o.cell 1; have o2 := hk0.o.cell 2; have o3 := hk0.o.cell 3; have o4 := hk0.o.cell 4; have o5 := hk0.o.cell 5; have o6 := hk0.o.cell 6
 have HK := hide hk0
 clear hk0
 go_upto_region 1 with fail
 clear hW
 go_upto_region 16 with fail
 go_wp2_with (go_at_call 51; refine (unhide HA _ (unhide HK)).mono ?_; rintro e w1 ⟨⟨xa, xn, xc, rfl⟩, hb1⟩)
 go_ret
 exact ((unhide HK).below hb1).post
theorem step9 (w : World) (vb tb rb xb : Nat) (kp ep fs : Value) (L : List (ByteArray × Int)) (F : List ByteArray) (hx : BothW w xb vb rb kp ep fs) (hm : Md w vb tb rb L F L F) (kk a b : Int) (s t u : ByteArray) (hs : s.size ≤ 1048576) :
  Calls Tryz.prog 36 #[.pointer (some ⟨xb, 0, none⟩), .agg (opL 9 kk a b s t u).toArray] w (StepPost w vb tb rb xb kp ep fs L F) := by
 have hk0 := K1.begin hx hm (opL 9 kk a b s t u)
 have HA : Hid (∀ W, K1 w W vb tb rb xb kp ep fs w.heap.size (opL 9 kk a b s t u) L F L F → Calls Tryz.prog 50 #[.pointer (some ⟨xb, 0, none⟩), .string s] W fun e w' => e = .returned (.bool true) ∧ Below W.heap.size W w') := fun W hk =>
  stat_law W vb tb rb xb kp ep fs L F hk.x hk.md s (by omega)
 clear hx hm
 go_enter Tryz.func36, Tryz.ntmps36
 obtain ⟨W, hW, -, -, -, -⟩ := alloc_name w (opL 9 kk a b s t u) 51
 rw [hW] at hk0
 have o0 := hk0.o.cell 0; have o4 := hk0.o.cell 4
 have HK := hide hk0
 clear hk0
 go_upto_region 1 with fail
 clear hW
 go_wp2_with (go_at_call 50; refine (unhide HA _ (unhide HK)).mono ?_; rintro e w1 ⟨rfl, hb1⟩)
 go_ret
 exact ((unhide HK).below hb1).post
theorem step10 (w : World) (vb tb rb xb : Nat) (kp ep fs : Value) (L : List (ByteArray × Int)) (F : List ByteArray) (hx : BothW w xb vb rb kp ep fs) (hm : Md w vb tb rb L F L F) (kk a b : Int) (s t u : ByteArray) :
  Calls Tryz.prog 36 #[.pointer (some ⟨xb, 0, none⟩), .agg (opL 10 kk a b s t u).toArray] w (StepPost w vb tb rb xb kp ep fs L F) := by
 have hk0 := K1.begin hx hm (opL 10 kk a b s t u)
 have HA : Hid (∀ W, K1 w W vb tb rb xb kp ep fs w.heap.size (opL 10 kk a b s t u) L F L F → Calls Tryz.prog 34 #[.pointer (some ⟨vb, 0, none⟩)] W fun e w' => e = .returned (.int .i64 (usageR L F : Nat)) ∧ K1 w w' vb tb rb xb kp ep fs w.heap.size (opL 10 kk a b s t u) L F L F) := fun W hk =>
  (usageJ hk.md).mono (fun e w' ⟨h1, h2⟩ => ⟨h1, hk.below h2⟩)
 have HB : Hid (∀ W, K1 w W vb tb rb xb kp ep fs w.heap.size (opL 10 kk a b s t u) L F L F → Calls Tryz.prog 52 #[.pointer (some ⟨rb, 0, none⟩)] W fun e w' => e = .returned (.int .i64 (usageR L F : Nat)) ∧ w' = W) := fun W hk => by
  obtain ⟨G, I, C, ρ, vl, vf, hv, hps, hrf, hrl, hn⟩ := hk.md
  exact usage_ref W rb vl vf L F hrf.toRefW.c
 obtain ⟨R, hR⟩ : ∃ R, R = usageR L F := ⟨_, rfl⟩
 rw [← hR] at HA HB
 clear hR hx hm
 go_enter Tryz.func36, Tryz.ntmps36
 obtain ⟨W, hW, -, -, -, -⟩ := alloc_name w (opL 10 kk a b s t u) 51
 rw [hW] at hk0
 have o0 := hk0.o.cell 0
 have x0 := hk0.c0; have x1 := hk0.c1
 have HK := hide hk0
 clear hk0
 go_upto_region 1 with fail
 clear hW
 go_upto_region 22 with fail
 go_region_held3 (fun W => W.cell? ⟨xb, 0, none⟩ = some (.pointer (some ⟨vb, 0, none⟩)) ∧ W.cell? ⟨xb, 1, none⟩ = some (.pointer (some ⟨rb, 0, none⟩))) (go_keep)
  (first | (go_at_call 34; refine (unhide HA _ ((unhide HK).below (Below.refl _ _).drew)).mono ?_; rintro e w1 ⟨rfl, hk⟩; have m0 := hk.c0; have m1 := hk.c1; have HK1 := hide hk; clear hk) | (go_at_call 52; refine (unhide HB _ (unhide HK1)).mono ?_; rintro e w3 ⟨rfl, rfl⟩))
 all_goals
  go_wp2
  go_ret
  exact (unhide HK1).post
theorem step0 (w : World) (vb tb rb xb : Nat) (kp ep fs : Value) (L : List (ByteArray × Int)) (F : List ByteArray) (hx : BothW w xb vb rb kp ep fs) (hm : Md w vb tb rb L F L F) (kk a b : Int) (s t u : ByteArray) (k : Int) (hk1 : k ≤ 0 ∨ 10 < k) :
  Calls Tryz.prog 36 #[.pointer (some ⟨xb, 0, none⟩), .agg (opL k kk a b s t u).toArray] w (StepPost w vb tb rb xb kp ep fs L F) := by
 have hk0 := K1.begin hx hm (opL k kk a b s t u)
 clear hx hm
 have e1 : (k == 1) = false := by simp; omega
 have e2 : (k == 2) = false := by simp; omega
 have e3 : (k == 3) = false := by simp; omega
 have e4 : (k == 4) = false := by simp; omega
 have e5 : (k == 5) = false := by simp; omega
 have e6 : (k == 6) = false := by simp; omega
 have e7 : (k == 7) = false := by simp; omega
 have e8 : (k == 8) = false := by simp; omega
 have e9 : (k == 9) = false := by simp; omega
 have e10 : (k == 10) = false := by simp; omega
 clear hk1
 go_enter Tryz.func36, Tryz.ntmps36
 obtain ⟨W, hW, -, -, -, -⟩ := alloc_name w (opL k kk a b s t u) 51
 rw [hW] at hk0
 have o0 := hk0.o.cell 0
 have HK := hide hk0
 clear hk0
 go_upto_region 1 with fail
 clear hW
 go_wp2
 go_ret
 exact (unhide HK).post
def MdN (w : World) (vb tb rb : Nat) (L : List (ByteArray × Int)) (F : List ByteArray) (L' : List (ByteArray × Int)) (F' : List ByteArray) (B : Nat) : Prop :=
 ∃ G I C ρ vl vf, VolW w vb tb ∧ PS w tb G I C ∧ RefL w tb rb vl vf L F ∧ Rl G I C ρ L' F' ∧ cD G [] + I.length ≤ 60 ∧ ∀ x ∈ I, ∀ g, x.2.a = some g → g.block ≠ B
section
variable {w w' : World} {vb tb rb B : Nat} {L L' L1 : List (ByteArray × Int)} {F F' F1 : List ByteArray} {G G' : Gh} {I I' : List (Int × VF)} {C C' : Int → ByteArray} {ρ ρ' : Int → Nat} {vl vf : Value}
theorem MdN.md (h : MdN w vb tb rb L F L' F' B) : Md w vb tb rb L F L' F' := by
 obtain ⟨G, I, C, ρ, vl, vf, hv, hps, hrf, hrl, hn, _⟩ := h
 exact ⟨G, I, C, ρ, vl, vf, hv, hps, hrf, hrl, hn⟩
theorem MdN.prog (hv : VolW w vb tb) (hrf : RefL w tb rb vl vf L F) (hf : Fr (ProgT tb w) w w') (hps : PS w' tb G' I' C') (hrl : Rl G' I' C' ρ' L' F') (hn : cD G' [] + I'.length ≤ 60) (hN : ∀ x ∈ I', ∀ g, x.2.a = some g → g.block ≠ B) : Fr (JT tb w) w w' ∧ MdN w' vb tb rb L F L' F' B := by
 obtain ⟨h1, _⟩ := Md.prog hv hrf hf hps hrl hn
 refine ⟨h1, G', I', C', ρ', vl, vf, (by obtain ⟨d, s, hv⟩ := hv; exact ⟨d, s, RowIs.jt hv h1 (by decide)⟩), hps, ?_, hrl, hn, hN⟩
 refine ⟨hrf.fr hf (fun k hk ⟨⟨t, R, hR, ht⟩, _⟩ => ?_), hrf.lo⟩
 obtain ⟨t', R', hR', ht'⟩ := refOwn_type hrf.toRefW hk
 have := hR.type hR'
 subst this
 rcases ht' with rfl | rfl | rfl <;> revert ht <;> decide
theorem MdN.ref (h : MdN w vb tb rb L F L' F' B) {f : FuncId} {args : Array Value} {v : Value} (hc : ∀ vl vf, RefW w rb vl vf L F → Calls Tryz.prog f args w fun e w' => e = .returned v ∧ RefPost w rb vl vf w' L1 F1) :
  Calls Tryz.prog f args w fun e w' => e = .returned v ∧ Fr (JT tb w) w w' ∧ MdN w' vb tb rb L1 F1 L' F' B := by
 obtain ⟨G, I, C, ρ, vl, vf, hv, hps, hrf, hrl, hn, hN⟩ := h
 refine (hc vl vf hrf.toRefW).mono (fun e w' hq => ⟨hq.1, ?_⟩)
 obtain ⟨vl', vf', h1, hf, h3⟩ := hq.2
 have hty : ∀ k t R, RefOwn rb vl vf k → RowIs w k t R → t = 89 ∨ t = 103 ∨ t = 9 := fun k t R hk hR => by
  obtain ⟨t', R', hR', ht'⟩ := refOwn_type hrf.toRefW hk
  have := hR.type hR'
  subst this
  exact ht'
 have hj := (Md.ref hv hps hrf hrl hn hq.2).1
 refine ⟨hj, G, I, C, ρ, vl', vf', (by obtain ⟨d, s, hv⟩ := hv; exact ⟨d, s, RowIs.jt hv hj (by decide)⟩), ?_, ⟨h1, fun k hk => (h3 k hk).elim (hrf.lo k) (fun h => by have := hrf.hd.lt; have := hrf.lo rb (.inl rfl); omega)⟩, hrl, hn, hN⟩
 refine hps.fr hf (fun hk => ?_) (fun k t R hk hR => ?_)
 ·obtain ⟨t, R, hR, ht⟩ := refOwn_type hrf.toRefW hk
  obtain ⟨rd, V, E, vi, h⟩ := hps
  have := h.pk.2 t R hR
  subst this
  revert ht; decide
 ·rcases hty k t R hk hR with rfl | rfl | rfl <;> decide
theorem Md.fresh (h : Md w vb tb rb L F L' F') (hB : w.heap.size ≤ B) : MdN w vb tb rb L F L' F' B := by
 obtain ⟨G, I, C, ρ, vl, vf, hv, hps, hrf, hrl, hn⟩ := h
 refine ⟨G, I, C, ρ, vl, vf, hv, hps, hrf, hrl, hn, fun x hx g hg => ?_⟩
 obtain ⟨rd, V, E, vi, h⟩ := hps
 rcases (h.dat x hx).2 with ⟨e, _⟩ | ⟨g', cap, R, e, hr, _⟩
 ·simp only [Value.slice.injEq] at e; rw [hg] at e; exact absurd e.1 (by simp)
 ·simp only [Value.slice.injEq] at e
  rw [hg] at e
  have e1 : g = ⟨g', 0, none⟩ := Option.some.inj e.1
  have := hr.lt
  rw [e1]
  show g' ≠ B
  omega
theorem MdN.below (h : MdN w vb tb rb L F L' F' B) (hb : Below w.heap.size w w') : MdN w' vb tb rb L F L' F' B := by
 obtain ⟨G, I, C, ρ, vl, vf, hv, ⟨rd, V, E, vi, h⟩, hrf, hrl, hn, hN⟩ := h
 exact ⟨G, I, C, ρ, vl, vf, (by obtain ⟨d, s, hv⟩ := hv; exact ⟨d, s, RowIs.jt (tb := tb) hv (Fr.of_below hb) (by decide)⟩), ⟨rd, V, E, vi, h.below hb (Nat.le_refl _)⟩, ⟨hrf.fr (X := fun _ => False) (Fr.of_below hb) (fun _ _ => id), hrf.lo⟩, hrl, hn, hN⟩
theorem MdN.setB (h : MdN w vb tb rb L F L' F' B) {R : List Value} (hr : RowIs w B 5 R) (j : Nat) (v : Value) : MdN (w.setCell ⟨B, j, none⟩ v) vb tb rb L F L' F' B := by
 obtain ⟨G, I, C, ρ, vl, vf, hv, ⟨rd, V, E, vi, h⟩, hrf, hrl, hn, hN⟩ := h
 have hf : Fr (fun k => k = B) w (w.setCell ⟨B, j, none⟩ v) := (Fr.refl _ _).set _ _ rfl
 refine ⟨G, I, C, ρ, vl, vf, VolW.fr hv hf (fun e => ?_), ⟨rd, V, E, vi, h.pk.fr hf (fun e => ?_), h.t.fr hf (fun e => ?_), h.d.fr hf (fun k t R' e hR => ?_), h.i.fr hf (fun g hg e => ?_), h.si, fun x hx => (h.dat x hx).fr hf (fun g hg e => ?_), h.lo⟩, ⟨hrf.fr hf (fun k hk e => ?_), hrf.lo⟩, hrl, hn, hN⟩
 ·subst e; obtain ⟨R', hv'⟩ := hv.row; have := hr.type hv'; revert this; decide
 ·subst e; have := h.pk.2 _ _ hr; revert this; decide
 ·subst e; have := hr.type h.t; revert this; decide
 ·subst e; have := hr.type hR; subst this; decide
 ·subst e; obtain ⟨R', hR'⟩ := h.i.type hg; have := hr.type hR'; revert this; decide
 ·subst e
  cases ha : x.2.a with
  | none => rw [ha] at hg; simp [Value.ownBlock] at hg
  | some y =>
   rw [ha] at hg
   refine hN x hx y ha ?_
   simpa [Value.ownBlock] using hg
 ·subst e
  obtain ⟨t, R', hR', ht⟩ := refOwn_type hrf.toRefW hk
  have := hr.type hR'
  subst this
  revert ht; decide
end
section
variable {w : World} {vb tb rb : Nat} {L : List (ByteArray × Int)} {F : List ByteArray}
theorem writeJN {B : Nat} (h : MdN w vb tb rb L F L F B) (hB : B < w.heap.size) (p : ByteArray) (hp : p.size ≤ 2000000) (i : Int) (d : ByteArray) (hds : d.size ≤ 2000000) (ad : Option Addr) (cd : Nat) (hd : Sl w 5 1 (.slice ad d.size cd) d.size (bytesV d)) :
  Calls Tryz.prog 59 #[.pointer (some ⟨vb, 0, none⟩), .string p, .int .i64 i, .slice ad d.size cd] w fun e w' => e = .returned (.int .i64 (writeR L F p i d).1) ∧ Fr (JT tb w) w w' ∧ MdN w' vb tb rb L F (writeR L F p i d).2.1 (writeR L F p i d).2.2 B := by
 obtain ⟨G, I, C, ρ, vl, vf, hv, hps, hrf, hrl, hn, hN⟩ := h
 have hlG := hrl.lG
 have hlI := hrl.lI
 have hC := hrl.C_le
 have hll : ∀ x ∈ I, x.2.l ≤ 2000000 := fun x hx => by rw [hrl.l_eq x hx]; have := hC x hx; omega
 refine (writeV w vb tb hv p i _ (WrPost w tb G I C p i d) (fun e w' hq => ?_) (writeT_code w tb G I C hps hrl.ok (by omega) (by omega) hrl.pos hrl.flOk hll hC p hp i d hds ad cd hd)).mono ?_
 ·rcases hq with ⟨_, he, _⟩ | ⟨_, ⟨u, r, a, c, _, _, _, _, _, I', _, ⟨he, _⟩ | ⟨he, _⟩⟩ | ⟨_, _, f, I1, I2, a, c, _, _, _, _, _, _, ⟨he, _⟩ | ⟨he, _⟩⟩⟩
  ·exact ⟨_, he⟩
  ·exact ⟨_, he⟩
  ·exact ⟨_, he⟩
  ·exact ⟨_, he⟩
  ·exact ⟨_, he⟩
 intro e w' hq
 obtain ⟨e1, e2⟩ := hrl.writeE p i d
 rcases hq with ⟨hne, rfl, hf, hps'⟩ | ⟨hz, ⟨u, r, a, c, hat, hu, hin, hna, hf, I', hio, hc⟩ | ⟨hat, hf, f, I1, I2, a, c, hna, hfl, hfn, hl1, hm1, hio, hc⟩⟩
 ·obtain ⟨e3, e4⟩ := e1 hne
  rw [e4]
  exact ⟨by rw [e3], MdN.prog hv hrf hf hps' hrl hn hN⟩
 ·have hfit := wrE_fits hz
  have hr2 := hrl.filled hin (s := ovR (C u.f) i d) (ovR_le hfit (hC _ hin)) hio
  have hus := hr2.num.usage
  rw [← use_eq] at hus
  rw [(e2 hz).1 u hat hu]
  unfold writeEnd
  rw [← hus]
  rcases hc with ⟨rfl, hgt, I'', hps', hl, hm⟩ | ⟨rfl, hle, hps'⟩
  ·rw [if_pos hgt]
   refine ⟨rfl, MdN.prog hv hrf hf hps' (hrl.congrI hl hm hps'.ndI (fun _ _ => rfl)) (by omega) (fun x hx => hN x ((hm x).1 hx))⟩
  ·rw [if_neg (by omega)]
   refine ⟨rfl, MdN.prog hv hrf hf hps' hr2 (by rw [hio.1]; exact hn) (fun x hx => ?_)⟩
   rcases (hio.2 x).1 hx with rfl | ⟨hx, _⟩
   ·intro g hg
    rcases hna with e | e
    ·exact hN _ hin g (e ▸ hg)
    ·have := e g hg; omega
   ·exact hN x hx
 ·have hfit := wrE_fits hz
  obtain ⟨e4, a1, a2, a3, a4⟩ := (e2 hz).2 hat
  have hs0 := ovR_le (s := ⟨#[]⟩) hfit (by simp [ByteArray.size])
  have hus : ∀ C2 : Int → ByteArray, C2 f = ovR ⟨#[]⟩ i d → (∀ x ∈ I, C2 x.1 = C x.1) → useU (I2.map (·.2.l)) = usageR (L ++ [(p, (F.length : Int))]) (F ++ [ovR ⟨#[]⟩ i d]) := fun C2 h1 h2 => by
   rw [use_eq]; exact (hrl.made a1 a2 hat a3 a4 hfn hl1 hm1 hs0 hio h1 h2).num.usage
  have hus2 := hus (fun k => if k = (f : Int) then ovR ⟨#[]⟩ i d else C k) (by simp) (fun x hx => by simp [hfn x hx])
  rw [e4]
  unfold writeEnd
  rw [← hus2]
  rcases hc with ⟨rfl, hgt, I3, C3, hps', hl, hm, hC3⟩ | ⟨rfl, hle, C2, hps', hc2, hcx⟩
  ·rw [if_pos hgt]
   refine ⟨rfl, MdN.prog hv hrf hf hps' (hrl.congrI hl hm hps'.ndI hC3) (by omega) (fun x hx => hN x ((hm x).1 hx))⟩
  ·rw [if_neg (by omega)]
   have hr2 := hrl.made a1 a2 hat a3 a4 hfn hl1 hm1 hs0 hio hc2 hcx
   refine ⟨rfl, MdN.prog hv hrf hf hps' hr2 ?_ (fun x hx => ?_)⟩
   ·unfold mayB at a4
    have hm' := of_decide_eq_true a4
    rw [cD_root hr2.ok, List.countP_append, hio.1, hl1]
    rw [cD_root hrl.ok] at hm'
    simp
    omega
   ·rcases (hio.2 x).1 hx with rfl | ⟨hx, hxf⟩
    ·intro g hg
     rcases hna with e | e
     ·simp only at hg; rw [e] at hg; cases hg
     ·have := e g hg; omega
    ·rcases (hm1 x).1 hx with rfl | hx
     ·exact absurd rfl hxf
     ·exact hN x hx
end
abbrev v77 : Value := .int .u8 77
def rowJ (u : ByteArray) (j : Nat) : List Value := bytesV u ++ (List.replicate j v77 ++ List.replicate (8 - j) (.int .u8 0))
theorem rowJ_length (u : ByteArray) {j : Nat} (h : j ≤ 8) : (rowJ u j).length = u.size + 8 := by
 unfold rowJ
 simp [bytesV_length]
 omega
theorem rowJ_set (u : ByteArray) {j : Nat} (h : j < 8) : (rowJ u j).set (u.size + j) v77 = rowJ u (j + 1) := by
 unfold rowJ
 rw [List.set_append_right _ _ (by rw [bytesV_length]; omega), bytesV_length, Nat.add_sub_cancel_left, List.set_append_right _ _ (by simp), List.length_replicate, Nat.sub_self,
  show 8 - j = (8 - (j + 1)) + 1 by omega, List.replicate_succ, List.set_cons_zero, List.replicate_succ', List.append_assoc]
 rfl
def rowK (u : ByteArray) (j : Nat) : List Value := List.replicate j v77 ++ (rowJ u 8).drop j
theorem rowK_length (u : ByteArray) {j : Nat} (h : j ≤ u.size + 8) : (rowK u j).length = u.size + 8 := by
 unfold rowK
 rw [List.length_append, List.length_replicate, List.length_drop, rowJ_length u (Nat.le_refl _)]
 omega
theorem rowK_set (u : ByteArray) {j : Nat} (h : j < u.size + 8) : (rowK u j).set j v77 = rowK u (j + 1) := by
 unfold rowK
 have hl := rowJ_length u (Nat.le_refl 8)
 rw [List.set_append_right _ _ (by simp), List.length_replicate, Nat.sub_self, List.drop_eq_getElem_cons (by omega), List.set_cons_zero, List.replicate_succ', List.append_assoc]
 rfl
theorem rowK_get (u : ByteArray) {j : Nat} (h1 : u.size ≤ j) (h : j < u.size + 8) : (rowK u j)[j]? = some v77 := by
 unfold rowK
 rw [List.getElem?_append_right (by simp), List.length_replicate, Nat.sub_self, List.getElem?_drop, Nat.add_zero]
 unfold rowJ
 rw [List.getElem?_append_right (by rw [bytesV_length]; exact h1), bytesV_length, List.getElem?_append_left (by simp; omega), List.getElem?_replicate, if_pos (by omega)]
theorem rowJ_sl {W : World} {B N : Nat} {u : ByteArray} (h : RowIs W B 5 (rowJ u 8)) (hu : u.size ≤ 1048576) (hN : N = u.size + 8) : Sl W 5 1 (.slice (some ⟨B, 0, none⟩) u.size N) u.size (bytesV u) := by
 subst hN
 refine ⟨by rw [bytesV_length]; omega, .inr ⟨B, u.size + 8, _, rfl, h, by omega, by unfold maxLen; omega, by rw [rowJ_length u (Nat.le_refl _)]; omega, ?_⟩⟩
 unfold rowJ
 rw [Nat.mul_one, List.take_append_of_le_length (by rw [bytesV_length]; omega), List.take_of_length_le (by rw [bytesV_length]; omega)]
theorem K1.setB {w W : World} {vb tb rb xb ob B : Nat} {kp ep fs : Value} {O : List Value} {L L' : List (ByteArray × Int)} {F F' : List ByteArray} (h : K1 w W vb tb rb xb kp ep fs ob O L F L' F') (hn : MdN W vb tb rb L F L' F' B) {R : List Value} (hr : RowIs W B 5 R) (hB : w.heap.size ≤ B) (j : Nat) (v : Value) : K1 w (W.setCell ⟨B, j, none⟩ v) vb tb rb xb kp ep fs ob O L F L' F' := by
 refine ⟨h.fr.ext ((Below.refl _ _).setCell (p := ⟨B, j, none⟩) hB v), (hn.setB hr j v).md, RowIs.setOther h.x _ _ (fun e => ?_), h.o.setOther _ _ (fun e => ?_)⟩
 ·simp only at e; subst e; have := hr.type h.x; revert this; decide
 ·simp only at e; subst e; have := hr.type h.o; revert this; decide
theorem write_law (w : World) (vb tb rb xb : Nat) (kp ep fs : Value) (L : List (ByteArray × Int)) (F : List ByteArray) (hx : BothW w xb vb rb kp ep fs) (hm : Md w vb tb rb L F L F) (hF : F.length + 1 ≤ 2000000) (k kk a b : Int) (s t u : ByteArray) (hs : s.size ≤ 1048576) (hu : u.size ≤ 1048576) :
  Calls Tryz.prog 37 #[.pointer (some ⟨xb, 0, none⟩), .agg (opL k kk a b s t u).toArray] w (StepPost w vb tb rb xb kp ep fs (writeR L F s a u).2.1 (writeR L F s a u).2.2) := by
 obtain ⟨i0, hi0, hz0, hz1, hz2⟩ := info_parts info5
 have hjf := hm.jf
 have hk0 := K1.begin hx hm (opL k kk a b s t u)
 obtain ⟨W, hW, -, -, hsz, -⟩ := alloc_name w (opL k kk a b s t u) 51
 rw [hW] at hk0
 obtain ⟨B, hBB⟩ : ∃ B, B = W.heap.size := ⟨_, rfl⟩
 have HA : Hid (∀ W' ad cd, K1 w W' vb tb rb xb kp ep fs w.heap.size (opL k kk a b s t u) L F L F → MdN W' vb tb rb L F L F B → B < W'.heap.size → Sl W' 5 1 (.slice ad u.size cd) u.size (bytesV u) → Calls Tryz.prog 59 #[.pointer (some ⟨vb, 0, none⟩), .string s, .int .i64 a, .slice ad u.size cd] W' fun e w' => e = .returned (.int .i64 (writeR L F s a u).1) ∧ K1 w w' vb tb rb xb kp ep fs w.heap.size (opL k kk a b s t u) L F (writeR L F s a u).2.1 (writeR L F s a u).2.2 ∧ Fr (JT tb W') W' w' ∧ MdN w' vb tb rb L F (writeR L F s a u).2.1 (writeR L F s a u).2.2 B) := fun W' ad cd hk hn hlt hd =>
  (writeJN hn hlt s (by omega) a u (by omega) ad cd hd).mono (fun e w' ⟨h1, h2, h3⟩ => ⟨h1, hk.next' h2 h3.md, h2, h3⟩)
 have HB : Hid (∀ W', K1 w W' vb tb rb xb kp ep fs w.heap.size (opL k kk a b s t u) L F (writeR L F s a u).2.1 (writeR L F s a u).2.2 → MdN W' vb tb rb L F (writeR L F s a u).2.1 (writeR L F s a u).2.2 B → Calls Tryz.prog 47 #[.pointer (some ⟨rb, 0, none⟩), .string s, .int .i64 a, .string u] W' fun e w' => e = .returned (.int .i64 (writeR L F s a u).1) ∧ K1 w w' vb tb rb xb kp ep fs w.heap.size (opL k kk a b s t u) (writeR L F s a u).2.1 (writeR L F s a u).2.2 (writeR L F s a u).2.1 (writeR L F s a u).2.2 ∧ Fr (JT tb W') W' w' ∧ MdN w' vb tb rb (writeR L F s a u).2.1 (writeR L F s a u).2.2 (writeR L F s a u).2.1 (writeR L F s a u).2.2 B) := fun W' hk hn =>
  (hn.ref (fun vl vf hr => write_ref W' rb vl vf L F hr hjf.fv (by have := hjf.len; omega) hF s (by omega) a u (by omega))).mono (fun e w' ⟨h1, h2, h3⟩ => ⟨h1, hk.next h2 h3.md, h2, h3⟩)
 obtain ⟨R, hR⟩ : ∃ R, R = writeR L F s a u := ⟨_, rfl⟩
 rw [← hR] at HA HB ⊢
 clear hR hx hm hjf
 obtain ⟨N, hN⟩ : ∃ N, N = u.size + 8 := ⟨_, rfl⟩
 have hcopy : Hid (∀ W1 : World, W1.ownsRow 0 5 1 (.slice (some ⟨W.heap.size, 0, none⟩) N N) N (madeCells (Value.int .u8 0).cells (N * 1)).toList → W.grownBy W1 none → ∃ W', (Builtin.copy_ #[59, 9] 3 #[.slice (some ⟨W.heap.size, 0, none⟩) N N, .string u]).run Tryz.prog W1 = .ok (goInt u.size) W' ∧ Hid (RowIs W' W.heap.size 5 (rowJ u 0)) ∧ Hid (Below W.heap.size W W')) := by
  subst hN
  intro W1 hown hgr
  have hS := Sl.of_owns hown
  have hb := below_of_grown hgr
  have e1 : (madeCells (Value.int .u8 0).cells ((u.size + 8) * 1)).toList = List.replicate (u.size + 8) (.int .u8 0) := by rw [Nat.mul_one]; exact toList_madeCells_one (.int .u8 0) _
  rw [e1] at hS
  rcases hS.2 with ⟨e, _⟩ | ⟨g, cap, Q, e, hr, h1, h2, h3, h4⟩
  ·cases e
  ·simp only [Value.slice.injEq, Option.some.injEq, Addr.mk.injEq] at e
   obtain ⟨⟨rfl, -, -⟩, -, rfl⟩ := e
   rw [List.take_of_length_le (by omega)] at h4
   subst h4
   refine ⟨_, Lib.run_copy_row_string W1 59 9 3 5 W.heap.size 0 _ _ u _ 5 Tryz.underlying59 size5 hr (by omega) (by simp), ?_, below_setRow hb (Nat.le_refl _) _⟩
   have := setRow_heap W1 W.heap.size _ (List.take 0 (List.replicate (u.size + 8) (Value.int .u8 0)).toArray.toList ++ Lib.byteCells u.data.toList ++ List.drop (0 + u.size) (List.replicate (u.size + 8) (Value.int .u8 0)).toArray.toList).toArray 5 _ hr
   show RowIs _ _ _ _
   unfold RowIs
   rw [this]
   congr 3
   unfold rowJ bytesV Lib.byteCells
   simp
 have o2 := hk0.o.cell 2
 have o4 := hk0.o.cell 4
 have o6 := hk0.o.cell 6
 have x0 := hk0.c0
 have x1 := hk0.c1
 have HK := hide hk0
 have HSZ := hide hsz
 have HBB := hide hBB
 clear hk0 hsz hBB
 go_enter Tryz.func37, Tryz.ntmps37
 go_upto_region 1 with fail
 clear hW
 have hw8 : IntKind.i64.wrap ((u.size : Int) + 8) = (N : Int) := by rw [IntKind.wrap_i64]; omega
 have HN := hide hN
 have hNb : N ≤ 1048584 := by omega
 clear hN
 go_upto_region 2 with fail
 go_wp2_with (first | (at_make; refine wpList_make_full _ rfl _ _ 59 rfl 0 5 i0 (.int .u8 0) 1 Tryz.underlying59 hi0 hz0 hz1 _ _ _ _ N rfl rfl rfl rfl (by rw [hz2]; omega) (by unfold maxLen; omega) (Nat.zero_le _) ?_; intro w1 hown hgr; obtain ⟨W1, hr1, HP1, HP2⟩ := unhide hcopy w1 hown hgr; have o6' : w1.cell? ⟨w.heap.size, 6, none⟩ = some (.string u) := ((below_of_grown hgr).cell (p := ⟨w.heap.size, 6, none⟩) (by rw [unhide HSZ]; simp)).trans o6; clear hown hgr) | (at_builtin; refine wpList_copy_run _ rfl _ _ 59 9 rfl _ _ rfl rfl hr1 ?_))
 clear hr1 o6' hw8
 go_loopw [7] (fun i wr => ∃ q : Nat, u.size ≤ q ∧ q ≤ N ∧ i = .int .i64 q ∧ Hid (RowIs wr W.heap.size 5 (rowJ u (q - u.size))) ∧ Hid (Below W.heap.size W wr)) (fun i _ => N - (intOf i).toNat)
 case atStart => exact ⟨u.size, Nat.le_refl _, by have := unhide HN; omega, rfl, by rw [Nat.sub_self]; exact HP1, HP2⟩
 case round =>
  obtain ⟨q, hq1, hq2, rfl, HR, HBw⟩ := hrel
  by_cases hlt : q < N
  ·obtain ⟨xq, hcq⟩ : ∃ xq, wr.cell? ⟨W.heap.size, q, none⟩ = some xq := ⟨_, ((unhide HR).cell q).trans (List.getElem?_eq_getElem (by rw [rowJ_length u (by have := unhide HN; omega)]; have := unhide HN; omega))⟩
   have hfq := (unhide HR).frozen q
   have HR2 : Hid (RowIs (wr.setCell ⟨W.heap.size, q, none⟩ v77) W.heap.size 5 (rowJ u (q + 1 - u.size))) := by
    have h1 := (unhide HR).set q v77
    have h2 := rowJ_set u (j := q - u.size) (by have := unhide HN; omega)
    rw [show u.size + (q - u.size) = q by omega, show q - u.size + 1 = q + 1 - u.size by omega] at h2
    rw [h2] at h1
    exact h1
   have HB2 : Hid (Below W.heap.size W (wr.setCell ⟨W.heap.size, q, none⟩ v77)) := (unhide HBw).setCell (p := ⟨W.heap.size, q, none⟩) (Nat.le_refl _) _
   go_wp2
   go_roundw
   case rel => first | exact ⟨q + 1, by omega, by omega, by go_num, HR2, HB2⟩ | ((repeat apply Exists.intro); exact ⟨⟨q + 1, by omega, by omega, by go_num, HR2, HB2⟩, rfl⟩)
   case measure => simp [intOf]; omega
  ·obtain rfl : q = N := by omega
   have hk3 := (unhide HK).below (unhide HBw)
   have hr3 : RowIs wr W.heap.size 5 (rowJ u 8) := by have h1 := unhide HR; rw [show q - u.size = 8 by have := unhide HN; omega] at h1; exact h1
   have hn3 : MdN wr vb tb rb L F L F B := ((unhide HK).md.fresh (Nat.le_of_eq (unhide HBB).symm)).below (unhide HBw)
   have o2 := hk3.o.cell 2
   have o4 := hk3.o.cell 4
   have o6 := hk3.o.cell 6
   have x0 := hk3.c0
   have x1 := hk3.c1
   have HK3 := hide hk3
   have HR3 := hide hr3
   have HN3 := hide hn3
   clear hk3 hr3 hn3 hlt HR
   go_upto_region 8 with fail
   go_region_held3 (fun W => W.cell? ⟨xb, 0, none⟩ = some (.pointer (some ⟨vb, 0, none⟩)) ∧ W.cell? ⟨w.heap.size, 4, none⟩ = some (.string s) ∧ W.cell? ⟨w.heap.size, 2, none⟩ = some (.int .i64 a)) (go_keep)
    (first | (go_at_call 59; refine (unhide HA _ _ _ ((unhide HK3).below (Below.refl _ _).drew) ((unhide HN3).below (Below.refl _ _).drew) (by rw [unhide HBB]; exact (unhide HR3).lt) (rowJ_sl (W := wr.drew) (unhide HR3) hu (unhide HN))).mono ?_; rintro e w2 ⟨rfl, hk, hf, hn⟩; have m0 := hk.c0; have m1 := hk.c1; have m2 := hk.o.cell 2; have m4 := hk.o.cell 4; have m6 := hk.o.cell 6; have HR4 : Hid (RowIs w2 W.heap.size 5 (rowJ u 8)) := RowIs.jt (W := wr.drew) (unhide HR3) hf (by decide); have HK4 := hide hk; have HN4 := hide hn; clear hk hf hn))
   clear o2 o4 o6 x0 x1
   go_upto_region 9 with fail
   go_region_held3 (fun W => W.cell? ⟨xb, 1, none⟩ = some (.pointer (some ⟨rb, 0, none⟩)) ∧ W.cell? ⟨w.heap.size, 4, none⟩ = some (.string s) ∧ W.cell? ⟨w.heap.size, 2, none⟩ = some (.int .i64 a) ∧ W.cell? ⟨w.heap.size, 6, none⟩ = some (.string u)) (go_keep)
    (first | (go_at_call 47; refine (unhide HB _ ((unhide HK4).below (Below.refl _ _).drew) ((unhide HN4).below (Below.refl _ _).drew)).mono ?_; rintro e w3 ⟨rfl, hk, hf, hn⟩; have n1 := hk.c1; have n2 := hk.o.cell 2; have n4 := hk.o.cell 4; have n6 := hk.o.cell 6; have HR5 : Hid (RowIs w3 W.heap.size 5 (rowJ u 8)) := RowIs.jt (W := w2.drew) (unhide HR4) hf (by decide); have HK5 := hide hk; have HN5 := hide hn; clear hk hf hn))
   clear m0 m1 m2 m4 m6 n1 n2 n4
   have hcv := conv_sl (rowJ_sl (W := w3) (unhide HR5) hu (unhide HN)) rfl
   have hcvd := conv_sl (rowJ_sl (W := w3.drew) (unhide HR5) hu (unhide HN)) rfl
   go_upto_region 10 with fail
   go_region_held3 (fun Y => Y.cell? ⟨w.heap.size, 6, none⟩ = some (.string u) ∧ (convert 59 9 (.slice (some ⟨W.heap.size, 0, none⟩) u.size q)).run Tryz.prog Y = .ok (.string u) Y) (go_keep) (first | fail)
   clear n6 hcv hcvd
   have HR6 : Hid (RowIs w3.drew W.heap.size 5 (rowK u 0)) := unhide HR5
   have HK6 : Hid (K1 w w3.drew vb tb rb xb kp ep fs w.heap.size (opL k kk a b s t u) R.2.1 R.2.2 R.2.1 R.2.2) := (unhide HK5).below (Below.refl _ _).drew
   have HN6 : Hid (MdN w3.drew vb tb rb R.2.1 R.2.2 R.2.1 R.2.2 B) := (unhide HN5).below (Below.refl _ _).drew
   go_wp2_with fail
   go_loopw [11, 10] (fun i bb wq => ∃ q1 : Nat, q1 ≤ q ∧ i = .int .i64 q1 ∧ bb = .bool true ∧ Hid (RowIs wq W.heap.size 5 (rowK u q1)) ∧ Hid (K1 w wq vb tb rb xb kp ep fs w.heap.size (opL k kk a b s t u) R.2.1 R.2.2 R.2.1 R.2.2) ∧ Hid (MdN wq vb tb rb R.2.1 R.2.2 R.2.1 R.2.2 B)) (fun i _ _ => q - (intOf i).toNat)
   case atStart => exact ⟨0, Nat.zero_le _, rfl, rfl, HR6, HK6, HN6⟩
   case round =>
    obtain ⟨q1, hq3, rfl, rfl, HRq, HKq, HNq⟩ := hrel
    by_cases hlt : q1 < q
    ·have HR7 : Hid (RowIs (wr.setCell ⟨W.heap.size, q1, none⟩ v77) W.heap.size 5 (rowK u (q1 + 1))) := by
      have h1 := (unhide HRq).set q1 v77
      rw [rowK_set u (by have := unhide HN; omega)] at h1
      exact h1
     have hnq : MdN wr vb tb rb R.2.1 R.2.2 R.2.1 R.2.2 W.heap.size := by have h1 := unhide HNq; rw [unhide HBB] at h1; exact h1
     have HK7 : Hid (K1 w (wr.setCell ⟨W.heap.size, q1, none⟩ v77) vb tb rb xb kp ep fs w.heap.size (opL k kk a b s t u) R.2.1 R.2.2 R.2.1 R.2.2) := (unhide HKq).setB hnq (unhide HRq) (by rw [unhide HSZ]; omega) q1 v77
     have HN7 : Hid (MdN (wr.setCell ⟨W.heap.size, q1, none⟩ v77) vb tb rb R.2.1 R.2.2 R.2.1 R.2.2 B) := by
      show MdN _ _ _ _ _ _ _ _ _
      rw [unhide HBB]; exact hnq.setB (unhide HRq) q1 v77
     have hfq := (unhide HRq).frozen q1
     clear hnq
     by_cases hlu : q1 < u.size
     ·obtain ⟨xq, hcq⟩ : ∃ xq, wr.cell? ⟨W.heap.size, q1, none⟩ = some xq := ⟨_, ((unhide HRq).cell q1).trans (List.getElem?_eq_getElem (by rw [rowK_length u (by have := unhide HN; omega)]; have := unhide HN; omega))⟩
      go_wp2
      go_roundw
      case rel => first | exact ⟨q1 + 1, by omega, by go_num, rfl, HR7, HK7, HN7⟩ | ((repeat apply Exists.intro); exact ⟨⟨q1 + 1, by omega, by go_num, rfl, HR7, HK7, HN7⟩, rfl⟩)
      case measure => simp [intOf]; omega
     ·have hcq : wr.cell? ⟨W.heap.size, q1, none⟩ = some (.int .u8 77) := ((unhide HRq).cell q1).trans (rowK_get u (by omega) (by have := unhide HN; omega))
      go_wp2
      go_roundw
      case rel => first | exact ⟨q1 + 1, by omega, by go_num, rfl, HR7, HK7, HN7⟩ | ((repeat apply Exists.intro); exact ⟨⟨q1 + 1, by omega, by go_num, rfl, HR7, HK7, HN7⟩, rfl⟩)
      case measure => simp [intOf]; omega
    ·obtain rfl : q1 = q := by omega
     go_wp2_with (go_at_call 16; refine (num_code _ _).mono ?_; rintro e w4 ⟨rfl, rfl⟩)
     go_ret
     exact (unhide HKq).post
theorem step2 (w : World) (vb tb rb xb : Nat) (kp ep fs : Value) (L : List (ByteArray × Int)) (F : List ByteArray) (hx : BothW w xb vb rb kp ep fs) (hm : Md w vb tb rb L F L F) (kk a b : Int) (s t u : ByteArray) (hF : F.length + 1 ≤ 2000000) (hs : s.size ≤ 1048576) (hu : u.size ≤ 1048576) :
  Calls Tryz.prog 36 #[.pointer (some ⟨xb, 0, none⟩), .agg (opL 2 kk a b s t u).toArray] w (StepPost w vb tb rb xb kp ep fs (writeR L F s a u).2.1 (writeR L F s a u).2.2) := by
 have hk0 := K1.begin hx hm (opL 2 kk a b s t u)
 have HA : Hid (∀ W, K1 w W vb tb rb xb kp ep fs w.heap.size (opL 2 kk a b s t u) L F L F → Calls Tryz.prog 37 #[.pointer (some ⟨xb, 0, none⟩), .agg (opL 2 kk a b s t u).toArray] W fun e w' => e = .returned (.bool true) ∧ StepPost w vb tb rb xb kp ep fs (writeR L F s a u).2.1 (writeR L F s a u).2.2 (.returned (.bool true)) w') := fun W hk =>
  (write_law W vb tb rb xb kp ep fs L F hk.x hk.md hF 2 kk a b s t u hs hu).mono (fun e w' ⟨h1, h2, h3, h4⟩ => ⟨h1, rfl, hk.fr.jTrans h2, h3, h4⟩)
 clear hx hm
 go_enter Tryz.func36, Tryz.ntmps36
 obtain ⟨W, hW, -, -, -, -⟩ := alloc_name w (opL 2 kk a b s t u) 51
 rw [hW] at hk0
 have o0 := hk0.o.cell 0; have o1 := hk0.o.cell 1; have o2 := hk0.o.cell 2; have o3 := hk0.o.cell 3; have o4 := hk0.o.cell 4; have o5 := hk0.o.cell 5; have o6 := hk0.o.cell 6
 have HK := hide hk0
 clear hk0
 go_upto_region 1 with fail
 clear hW
 go_upto_region 6 with fail
 go_wp2_with (go_at_call 37; refine (unhide HA _ (unhide HK)).mono ?_; rintro e w1 ⟨rfl, hq⟩)
 go_ret
 exact hq
end Go.Proofs.YtaieidcohdhgpaaGreatDoor
