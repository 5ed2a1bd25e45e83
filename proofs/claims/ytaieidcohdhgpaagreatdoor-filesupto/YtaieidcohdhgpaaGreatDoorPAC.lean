/- Files. -/
import Derived.Test.YtaieidcohdhgpaaGreatDoorPAB
namespace Go.Proofs.YtaieidcohdhgpaaGreatDoor
open Go.RowKit
set_option maxHeartbeats 1000000
set_option maxRecDepth 100000
theorem RowIs.set {w : World} {g : Nat} {e : TypeId} {L : List Value} (h : RowIs w g e L) (j : Nat) (u : Value) : RowIs (w.setCell ⟨g, j, none⟩ u) g e (L.set j u) := by
 unfold RowIs at h ⊢
 simp only [World.setCell, Array.getElem?_modify, if_true, h, Option.map_some]
 simp
theorem lenS (w : World) (hb ho : Nat) (v : Value) (n : Nat) (xs : List Value) (hc : w.cell? ⟨hb, ho, none⟩ = some v) (hS : Sl w 310 3 v n xs) :
  Calls Tryz.prog 178 #[.pointer (some ⟨hb, ho, none⟩)] w fun e w' => e = .returned (.int .i64 n) ∧ w' = w := by
 have hv : ∃ a m c, v = .slice a m c ∧ m = n := by
  rcases hS.2 with ⟨rfl, rfl⟩ | ⟨g', cap, L, rfl, hr, _⟩
  ·exact ⟨_, _, _, rfl, rfl⟩
  ·exact ⟨_, _, _, rfl, rfl⟩
 obtain ⟨a, m, c, rfl, rfl⟩ := hv
 clear hS
 go_enter Tryz.func178, Tryz.ntmps178
 go_wp2
 go_ret
 exact ⟨rfl, rfl⟩
theorem delS_spec {es : List (ByteArray × VS)} {key : ByteArray} {i : Nat} (hs : SrtS es) (h : AtS es key i true) :
  SrtS (es.take i ++ es.drop (i + 1)) ∧ (es.take i ++ es.drop (i + 1)).length + 1 = es.length ∧ ∀ x, x ∈ es.take i ++ es.drop (i + 1) ↔ x ∈ es ∧ x.1 ≠ key := by
 obtain ⟨r, hr⟩ := h.here
 have hi : i < es.length := (List.getElem?_eq_some_iff.1 hr).1
 have hl : (es.take i).length = i := by rw [List.length_take]; omega
 have hg : ∀ k, (es.take i ++ es.drop (i + 1))[k]? = if k < i then es[k]? else es[k + 1]? := fun k => by
  by_cases h1 : k < i
  ·rw [if_pos h1, List.getElem?_append_left (by omega), List.getElem?_take, if_pos h1]
  ·rw [if_neg h1, List.getElem?_append_right (by omega), hl, List.getElem?_drop]
   congr 1; omega
 refine ⟨fun j k x y hjk hx hy => ?_, by simp; omega, fun x => ?_⟩
 ·rw [hg] at hx hy
  by_cases j1 : j < i
  ·rw [if_pos j1] at hx
   by_cases k1 : k < i
   ·rw [if_pos k1] at hy; exact hs j k x y hjk hx hy
   ·rw [if_neg k1] at hy; exact hs j (k + 1) x y (by omega) hx hy
  ·rw [if_neg j1] at hx
   rw [if_neg (by omega)] at hy
   exact hs (j + 1) (k + 1) x y (by omega) hx hy
 ·constructor
  ·intro hx
   obtain ⟨k, hk⟩ := List.getElem?_of_mem hx
   rw [hg] at hk
   by_cases h1 : k < i
   ·rw [if_pos h1] at hk
    refine ⟨List.mem_of_getElem? hk, fun e => ?_⟩
    have := hs k i x _ h1 hk hr
    rw [e, ltS_irrefl] at this; cases this
   ·rw [if_neg h1] at hk
    refine ⟨List.mem_of_getElem? hk, fun e => ?_⟩
    have := hs i (k + 1) _ x (by omega) hr hk
    rw [e, ltS_irrefl] at this; cases this
  ·rintro ⟨hx, hne⟩
   obtain ⟨k, hk⟩ := List.getElem?_of_mem hx
   rcases Nat.lt_trichotomy k i with h1 | h1 | h1
   ·exact List.mem_of_getElem? (i := k) (by rw [hg, if_pos h1]; exact hk)
   ·subst h1; rw [hr] at hk; cases hk; exact absurd rfl hne
   ·exact List.mem_of_getElem? (i := k - 1) (by rw [hg, if_neg (by omega), show k - 1 + 1 = k by omega]; exact hk)
theorem dropS (w : World) (hb ho : Nat) (v : Value) (es : List (ByteArray × VS)) (key : ByteArray) (r : VS) (hc : w.cell? ⟨hb, ho, none⟩ = some v) (hf : w.frozen? ⟨hb, ho, none⟩ = false) (hne : v.ownBlock ≠ some hb) (hS : Sl w 310 3 v es.length (cellsS es)) (hn : es.length ≤ 10000) (hs : SrtS es) (hin : (key, r) ∈ es) :
  Calls Tryz.prog 233 #[.pointer (some ⟨hb, ho, none⟩), .string key] w fun e w' => e = .returned (.tuple #[]) ∧ ∃ v' es', w'.cell? ⟨hb, ho, none⟩ = some v' ∧ Sl w' 310 3 v' es'.length (cellsS es') ∧
   SrtS es' ∧ es'.length + 1 = es.length ∧ (∀ x, x ∈ es' ↔ x ∈ es ∧ x.1 ≠ key) ∧ NewOr w v v' ∧ MapFr w w' hb ho v v' := by
 have hblt : hb < w.heap.size := World.block_lt_of_cell? _ _ hc
 have hfi := findS w hb ho v es key hc hS hn hs
 go_enter Tryz.func233, Tryz.ntmps233
 go_wp2_with fail
 refine hfi.mono ?_
 rintro e w1 ⟨i, b, rfl, hA, hfull⟩
 have hb0 : b = true := by
  cases b with
  | true => rfl
  | false => exact absurd rfl (AtS.not hs hA _ hin)
 subst hb0
 have hi : i < es.length := by obtain ⟨r', hr'⟩ := hA.here; exact (List.getElem?_eq_some_iff.1 hr').1
 have q0 : w1.cell? ⟨hb, ho, none⟩ = some v := (hfull.cell (p := ⟨hb, ho, none⟩) hblt).trans hc
 have hS1 : Sl w1 310 3 v es.length (cellsS es) := hS.kept (fun k hk _ => hfull.block k hk)
 have hdel : Calls Tryz.prog 268 #[v, .int .i64 i, .int .i64 ((i : Int) + 1)] w1 fun e w' => ∃ a' m' c' v', e = .returned (.slice a' m' c') ∧ v' = .slice a' m' c' ∧
   (w'.cell? ⟨hb, ho, none⟩ = some v ∧ w'.frozen? ⟨hb, ho, none⟩ = false) ∧ Hid ((w'.setCell ⟨hb, ho, none⟩ v').cell? ⟨hb, ho, none⟩ = some v' ∧ Sl (w'.setCell ⟨hb, ho, none⟩ v') 310 3 v' (es.length - 1) (cellsS (es.take i ++ es.drop (i + 1))) ∧ MapFr w (w'.setCell ⟨hb, ho, none⟩ v') hb ho v v' ∧ NewOr w v v') := by
  refine (delES w1 v es i hS1 hi hn).mono ?_
  rintro e w' ⟨v', rfl, hS', hg, hnew⟩
  have hbl : ∀ k, k < w.heap.size → v.ownBlock ≠ some k → w'.heap[k]? = w.heap[k]? := fun k hk hne' => by
   rw [hg.block k (by have := hfull.size; omega) (fun e => hne' e.symm), hfull.block k hk]
  have hnew' : NewOr w v v' := fun g hg' => (hnew g hg').imp id (fun h => by have := hfull.size; omega)
  obtain ⟨m1, m2, m3⟩ := mapFin (ho := ho) hc hne hS' hnew' (hg.os.trans hfull.os) (hg.tape.trans hfull.tape) (hg.output.trans hfull.output) (Nat.le_trans hfull.size hg.size) hbl
  obtain ⟨a', m', c', e'⟩ := hS'.shape
  exact ⟨a', m', c', v', by rw [e'], e', ⟨(World.cell?_of_block (w := w) (a := ⟨hb, ho, none⟩) (hbl hb hblt hne)).trans hc, (World.frozen?_of_block (w := w) (a := ⟨hb, ho, none⟩) (hbl hb hblt hne)).trans hf⟩, m1, m2, m3, hnew'⟩
 have hsp := hide (delS_spec hs hA)
 have hlen : (es.take i ++ es.drop (i + 1)).length = es.length - 1 := by have := (unhide hsp).2.1; omega
 have HL := hide hlen
 have HDEL := hide hdel
 clear hlen hA hS hS1 hs hin hfi hfull hdel
 go_wp2_with (go_at_call 268; refine (unhide HDEL).mono ?_; rintro e w2 ⟨a', m', c', v', rfl, rfl, ⟨hc2, hf2⟩, HF⟩)
 go_end0
 obtain ⟨m1, m2, m3, m4⟩ := unhide HF
 exact ⟨rfl, _, _, m1, by rw [unhide HL]; exact m2, (unhide hsp).1, (unhide hsp).2.1, (unhide hsp).2.2, m4, m3⟩
theorem lenI (w : World) (hb ho : Nat) (v : Value) (n : Nat) (xs : List Value) (hc : w.cell? ⟨hb, ho, none⟩ = some v) (hS : Sl w 293 3 v n xs) :
  Calls Tryz.prog 144 #[.pointer (some ⟨hb, ho, none⟩)] w fun e w' => e = .returned (.int .i64 n) ∧ w' = w := by
 have hv : ∃ a m c, v = .slice a m c ∧ m = n := by
  rcases hS.2 with ⟨rfl, rfl⟩ | ⟨g', cap, L, rfl, hr, _⟩
  ·exact ⟨_, _, _, rfl, rfl⟩
  ·exact ⟨_, _, _, rfl, rfl⟩
 obtain ⟨a, m, c, rfl, rfl⟩ := hv
 clear hS
 go_enter Tryz.func144, Tryz.ntmps144
 go_wp2
 go_ret
 exact ⟨rfl, rfl⟩
theorem delI_spec {es : List (Int × VF)} {key : Int} {i : Nat} (hs : SrtI es) (h : AtI es key i true) :
  SrtI (es.take i ++ es.drop (i + 1)) ∧ (es.take i ++ es.drop (i + 1)).length + 1 = es.length ∧ ∀ x, x ∈ es.take i ++ es.drop (i + 1) ↔ x ∈ es ∧ x.1 ≠ key := by
 obtain ⟨r, hr⟩ := h.here
 have hi : i < es.length := (List.getElem?_eq_some_iff.1 hr).1
 have hl : (es.take i).length = i := by rw [List.length_take]; omega
 have hg : ∀ k, (es.take i ++ es.drop (i + 1))[k]? = if k < i then es[k]? else es[k + 1]? := fun k => by
  by_cases h1 : k < i
  ·rw [if_pos h1, List.getElem?_append_left (by omega), List.getElem?_take, if_pos h1]
  ·rw [if_neg h1, List.getElem?_append_right (by omega), hl, List.getElem?_drop]
   congr 1; omega
 refine ⟨fun j k x y hjk hx hy => ?_, by simp; omega, fun x => ?_⟩
 ·rw [hg] at hx hy
  by_cases j1 : j < i
  ·rw [if_pos j1] at hx
   by_cases k1 : k < i
   ·rw [if_pos k1] at hy; exact hs j k x y hjk hx hy
   ·rw [if_neg k1] at hy; exact hs j (k + 1) x y (by omega) hx hy
  ·rw [if_neg j1] at hx
   rw [if_neg (by omega)] at hy
   exact hs (j + 1) (k + 1) x y (by omega) hx hy
 ·constructor
  ·intro hx
   obtain ⟨k, hk⟩ := List.getElem?_of_mem hx
   rw [hg] at hk
   by_cases h1 : k < i
   ·rw [if_pos h1] at hk
    refine ⟨List.mem_of_getElem? hk, fun e => ?_⟩
    have := hs k i x _ h1 hk hr
    rw [e, ltI_irrefl] at this; cases this
   ·rw [if_neg h1] at hk
    refine ⟨List.mem_of_getElem? hk, fun e => ?_⟩
    have := hs i (k + 1) _ x (by omega) hr hk
    rw [e, ltI_irrefl] at this; cases this
  ·rintro ⟨hx, hne⟩
   obtain ⟨k, hk⟩ := List.getElem?_of_mem hx
   rcases Nat.lt_trichotomy k i with h1 | h1 | h1
   ·exact List.mem_of_getElem? (i := k) (by rw [hg, if_pos h1]; exact hk)
   ·subst h1; rw [hr] at hk; cases hk; exact absurd rfl hne
   ·exact List.mem_of_getElem? (i := k - 1) (by rw [hg, if_neg (by omega), show k - 1 + 1 = k by omega]; exact hk)
theorem dropI (w : World) (hb ho : Nat) (v : Value) (es : List (Int × VF)) (key : Int) (r : VF) (hc : w.cell? ⟨hb, ho, none⟩ = some v) (hf : w.frozen? ⟨hb, ho, none⟩ = false) (hne : v.ownBlock ≠ some hb) (hS : Sl w 293 3 v es.length (cellsI es)) (hn : es.length ≤ 10000) (hs : SrtI es) (hin : (key, r) ∈ es) :
  Calls Tryz.prog 234 #[.pointer (some ⟨hb, ho, none⟩), .int .i64 key] w fun e w' => e = .returned (.tuple #[]) ∧ ∃ v' es', w'.cell? ⟨hb, ho, none⟩ = some v' ∧ Sl w' 293 3 v' es'.length (cellsI es') ∧
   SrtI es' ∧ es'.length + 1 = es.length ∧ (∀ x, x ∈ es' ↔ x ∈ es ∧ x.1 ≠ key) ∧ NewOr w v v' ∧ MapFr w w' hb ho v v' := by
 have hblt : hb < w.heap.size := World.block_lt_of_cell? _ _ hc
 have hfi := findI w hb ho v es key hc hS hn hs
 go_enter Tryz.func234, Tryz.ntmps234
 go_wp2_with fail
 refine hfi.mono ?_
 rintro e w1 ⟨i, b, rfl, hA, hfull⟩
 have hb0 : b = true := by
  cases b with
  | true => rfl
  | false => exact absurd rfl (AtI.not hs hA _ hin)
 subst hb0
 have hi : i < es.length := by obtain ⟨r', hr'⟩ := hA.here; exact (List.getElem?_eq_some_iff.1 hr').1
 have q0 : w1.cell? ⟨hb, ho, none⟩ = some v := (hfull.cell (p := ⟨hb, ho, none⟩) hblt).trans hc
 have hS1 : Sl w1 293 3 v es.length (cellsI es) := hS.kept (fun k hk _ => hfull.block k hk)
 have hdel : Calls Tryz.prog 269 #[v, .int .i64 i, .int .i64 ((i : Int) + 1)] w1 fun e w' => ∃ a' m' c' v', e = .returned (.slice a' m' c') ∧ v' = .slice a' m' c' ∧
   (w'.cell? ⟨hb, ho, none⟩ = some v ∧ w'.frozen? ⟨hb, ho, none⟩ = false) ∧ Hid ((w'.setCell ⟨hb, ho, none⟩ v').cell? ⟨hb, ho, none⟩ = some v' ∧ Sl (w'.setCell ⟨hb, ho, none⟩ v') 293 3 v' (es.length - 1) (cellsI (es.take i ++ es.drop (i + 1))) ∧ MapFr w (w'.setCell ⟨hb, ho, none⟩ v') hb ho v v' ∧ NewOr w v v') := by
  refine (delEI w1 v es i hS1 hi hn).mono ?_
  rintro e w' ⟨v', rfl, hS', hg, hnew⟩
  have hbl : ∀ k, k < w.heap.size → v.ownBlock ≠ some k → w'.heap[k]? = w.heap[k]? := fun k hk hne' => by
   rw [hg.block k (by have := hfull.size; omega) (fun e => hne' e.symm), hfull.block k hk]
  have hnew' : NewOr w v v' := fun g hg' => (hnew g hg').imp id (fun h => by have := hfull.size; omega)
  obtain ⟨m1, m2, m3⟩ := mapFin (ho := ho) hc hne hS' hnew' (hg.os.trans hfull.os) (hg.tape.trans hfull.tape) (hg.output.trans hfull.output) (Nat.le_trans hfull.size hg.size) hbl
  obtain ⟨a', m', c', e'⟩ := hS'.shape
  exact ⟨a', m', c', v', by rw [e'], e', ⟨(World.cell?_of_block (w := w) (a := ⟨hb, ho, none⟩) (hbl hb hblt hne)).trans hc, (World.frozen?_of_block (w := w) (a := ⟨hb, ho, none⟩) (hbl hb hblt hne)).trans hf⟩, m1, m2, m3, hnew'⟩
 have hsp := hide (delI_spec hs hA)
 have hlen : (es.take i ++ es.drop (i + 1)).length = es.length - 1 := by have := (unhide hsp).2.1; omega
 have HL := hide hlen
 have HDEL := hide hdel
 clear hlen hA hS hS1 hs hin hfi hfull hdel
 go_wp2_with (go_at_call 269; refine (unhide HDEL).mono ?_; rintro e w2 ⟨a', m', c', v', rfl, rfl, ⟨hc2, hf2⟩, HF⟩)
 go_end0
 obtain ⟨m1, m2, m3, m4⟩ := unhide HF
 exact ⟨rfl, _, _, m1, by rw [unhide HL]; exact m2, (unhide hsp).1, (unhide hsp).2.1, (unhide hsp).2.2, m4, m3⟩
theorem repI_spec {es : List (Int × VF)} {key : Int} {i : Nat} (val : VF) (hs : SrtI es) (h : AtI es key i true) :
  SrtI (es.set i (key, val)) ∧ (es.set i (key, val)).length = es.length ∧ ∀ x, x ∈ es.set i (key, val) ↔ x = (key, val) ∨ x ∈ es ∧ x.1 ≠ key := by
 obtain ⟨r, hr⟩ := h.here
 have hi : i < es.length := (List.getElem?_eq_some_iff.1 hr).1
 have hg : ∀ k, (es.set i (key, val))[k]? = if k = i then some (key, val) else es[k]? := fun k => by
  rw [List.getElem?_set]
  by_cases e : i = k
  ·subst e; simp [hi]
  ·rw [if_neg e, if_neg (fun h => e h.symm)]
 have hkey : ∀ (k : Nat) (x : Int × VF), (es.set i (key, val))[k]? = some x → ∃ y : Int × VF, es[k]? = some y ∧ y.1 = x.1 := fun k x hx => by
  rw [hg] at hx
  by_cases e : k = i
  ·rw [if_pos e] at hx; cases hx; exact ⟨(key, r), by rw [e]; exact hr, rfl⟩
  ·rw [if_neg e] at hx; exact ⟨x, hx, rfl⟩
 refine ⟨fun j k x y hjk hx hy => ?_, by simp, fun x => ?_⟩
 ·obtain ⟨x', h1, h2⟩ := hkey j x hx
  obtain ⟨y', h3, h4⟩ := hkey k y hy
  rw [← h2, ← h4]; exact hs j k x' y' hjk h1 h3
 ·constructor
  ·intro hx
   obtain ⟨k, hk⟩ := List.getElem?_of_mem hx
   rw [hg] at hk
   by_cases e : k = i
   ·rw [if_pos e] at hk; cases hk; exact .inl rfl
   ·rw [if_neg e] at hk
    refine .inr ⟨List.mem_of_getElem? hk, fun e' => ?_⟩
    rcases Nat.lt_or_gt_of_ne e with h1 | h1
    ·have := hs k i x _ h1 hk hr
     rw [e', ltI_irrefl] at this; cases this
    ·have := hs i k _ x h1 hr hk
     rw [e', ltI_irrefl] at this; cases this
  ·rintro (rfl | ⟨hx, hne⟩)
   ·exact List.mem_of_getElem? (i := i) (by rw [hg, if_pos rfl])
   ·obtain ⟨k, hk⟩ := List.getElem?_of_mem hx
    refine List.mem_of_getElem? (i := k) ?_
    rw [hg, if_neg (fun e => ?_)]
    ·exact hk
    ·subst e; rw [hr] at hk; cases hk; exact hne rfl
theorem cellsI_set (es : List (Int × VF)) (i : Nat) (key : Int) (r0 r : VF) (h : es[i]? = some (key, r0)) : ((cellsI es).set (i * 3 + 1) (.slice r.a r.l r.c)).set (i * 3 + 2) (.int .i64 r.f) = cellsI (es.set i (key, r)) := by
 induction es generalizing i with
 | nil => simp at h
 | cons a l ih =>
  cases i with
  | zero => simp at h; subst h; simp [cellsI, clI]
  | succ i =>
   simp at h
   have := ih i h
   simp only [cellsI, List.flatMap_cons, List.set_cons_succ] at this ⊢
   rw [← this]
   rw [List.set_append_right _ _ (by simp [clI]; omega), List.set_append_right _ _ (by simp [clI]; omega)]
   simp only [clI, List.length_cons, List.length_nil]
   rw [show (i + 1) * 3 + 1 - (0 + 1 + 1 + 1) = i * 3 + 1 by omega, show (i + 1) * 3 + 2 - (0 + 1 + 1 + 1) = i * 3 + 2 by omega]
theorem putOverI (w : World) (hb ho : Nat) (v : Value) (es : List (Int × VF)) (key : Int) (r0 r : VF) (hc : w.cell? ⟨hb, ho, none⟩ = some v) (hne : v.ownBlock ≠ some hb) (hS : Sl w 293 3 v es.length (cellsI es)) (hn : es.length ≤ 10000) (hs : SrtI es) (hin : (key, r0) ∈ es) :
  Calls Tryz.prog 228 #[.pointer (some ⟨hb, ho, none⟩), .int .i64 key, .agg #[.slice r.a r.l r.c, .int .i64 r.f]] w fun e w' => e = .returned (.tuple #[]) ∧ ∃ es', w'.cell? ⟨hb, ho, none⟩ = some v ∧ Sl w' 293 3 v es'.length (cellsI es') ∧
   SrtI es' ∧ es'.length = es.length ∧ (∀ x, x ∈ es' ↔ x = (key, r) ∨ x ∈ es ∧ x.1 ≠ key) ∧ w.grownBy w' v.ownBlock := by
 have hblt : hb < w.heap.size := World.block_lt_of_cell? _ _ hc
 have hal : ∀ o, Below w.heap.size w (w.alloc o) := fun o => (Below.refl _ _).alloc (Nat.le_refl _) o
 have hfi := fun o => findI (w.alloc o) hb ho v es key (((hal o).cell (p := ⟨hb, ho, none⟩) hblt).trans hc) (Sl.of_owns (hS.owns.alloc o)) hn hs
 go_enter Tryz.func228, Tryz.ntmps228
 go_wp2_with fail
 refine (hfi _).mono ?_
 rintro e w1 ⟨i, b, rfl, hA, hB⟩
 have hb0 : b = true := by
  cases b with
  | true => rfl
  | false => exact absurd rfl (AtI.not hs hA _ hin)
 subst hb0
 obtain ⟨r1, hr1⟩ := hA.here
 have hi : i < es.length := (List.getElem?_eq_some_iff.1 hr1).1
 have hB1 : Below (w.heap.size + 1) (w.alloc (.cells #[.slice r.a r.l r.c, .int .i64 r.f] 217)) w1 := by simpa using hB
 have hfull : Below w.heap.size w w1 := (hal _).trans (hB1.mono (by omega))
 have q0 : w1.cell? ⟨hb, ho, none⟩ = some v := (hfull.cell (p := ⟨hb, ho, none⟩) hblt).trans hc
 have z : ∀ j, w1.cell? ⟨w.heap.size, j, none⟩ = (#[.slice r.a r.l r.c, .int .i64 r.f] : Array Value)[j]? := fun j => (hB1.cell (p := ⟨w.heap.size, j, none⟩) (by simp)).trans (World.cell?_alloc_at _ _ _ _ rfl)
 have z0 : w1.cell? ⟨w.heap.size, 0, none⟩ = some (.slice r.a r.l r.c) := z 0
 have z1 : w1.cell? ⟨w.heap.size, 1, none⟩ = some (.int .i64 r.f) := z 1
 have hS1 : Sl w1 293 3 v es.length (cellsI es) := hS.kept (fun k hk _ => hfull.block k hk)
 rcases hS1.2 with ⟨rfl, h0⟩ | ⟨g, cap, L, rfl, hR, hcc, hcm, hL, hT⟩
 ·omega
 ·have hcell : ∀ j u, (cellsI es)[j]? = some u → w1.cell? ⟨g, j, none⟩ = some u := fun j u hu => by
   rw [hR.cell]
   rw [← hT, List.getElem?_take] at hu
   split at hu
   ·exact hu
   ·cases hu
  have q := cellsI_at es i _ hr1
  have q1 := hcell _ _ q.2.1
  have q2 := hcell _ _ q.2.2
  have f1 := hR.frozen (i * 3 + 1)
  have f2 := hR.frozen (i * 3 + 2)
  have hgw : g < w.heap.size := hS.lt rfl
  have hne' : hb ≠ g := fun e => hne (by simp [Value.ownBlock, e])
  have fin : ∀ W : World, W.heap = ((w1.setCell ⟨g, i * 3 + 1, none⟩ (.slice r.a r.l r.c)).setCell ⟨g, i * 3 + 2, none⟩ (.int .i64 r.f)).heap → W.os = w1.os → W.tape = w1.tape → W.output = w1.output →
    ∃ es', W.cell? ⟨hb, ho, none⟩ = some (.slice (some ⟨g, 0, none⟩) es.length cap) ∧ Sl W 293 3 (.slice (some ⟨g, 0, none⟩) es.length cap) es'.length (cellsI es') ∧ SrtI es' ∧ es'.length = es.length ∧ (∀ x, x ∈ es' ↔ x = (key, r) ∨ x ∈ es ∧ x.1 ≠ key) ∧ w.grownBy W (some g) := fun W hW h1 h2 h3 => by
   obtain ⟨p1, p2, p3⟩ := repI_spec r hs hA
   have hbk : ∀ k, k ≠ g → W.heap[k]? = w1.heap[k]? := fun k hk => by
    rw [hW, Below.heap_setCell _ _ _ _ hk, Below.heap_setCell _ _ _ _ hk]
   refine ⟨es.set i (key, r), ?_, ⟨cellsI_length _, .inr ⟨g, cap, (L.set (i * 3 + 1) (.slice r.a r.l r.c)).set (i * 3 + 2) (.int .i64 r.f), ?_, ?_, ?_, hcm, ?_, ?_⟩⟩, p1, p2, p3, ?_⟩
   ·exact (World.cell?_of_block (w := w1) (a := ⟨hb, ho, none⟩) (hbk hb hne')).trans q0
   ·rw [p2]
   ·unfold RowIs; rw [hW]; exact (hR.set _ _).set _ _
   ·rw [p2]; exact hcc
   ·simpa using hL
   ·rw [p2, ← cellsI_set es i key r1 r hr1, ← hT, List.take_set, List.take_set]
   ·refine ⟨h1.trans hfull.os, h2.trans hfull.tape, h3.trans hfull.output, ?_, fun k hk hkg => ?_⟩
    ·rw [hW]; simpa [World.setCell] using hfull.size
    ·rw [hbk k (fun e => hkg (by rw [e])), hfull.block k hk]
  have FIN := hide fin
  have hsz : w.heap.size < w1.heap.size := by have := hB1.size; simp at this; omega
  have hgs : ¬ (g = w.heap.size) := by omega
  have hgs' : ¬ (w.heap.size = g) := by omega
  clear hal hfi hB hB1 hA hS hS1 hR hL hT hcell q z hs hin fin hfull
  go_wp2
  go_region
  all_goals (
   go_wp2
   refine bodyPost_ret (results_none rfl _ _ _) rfl ?_
   exact ⟨rfl, unhide FIN _ rfl rfl rfl rfl⟩)
def okBi (n : Int) : Bool := decide ((97 ≤ n ∧ n ≤ 122) ∨ (48 ≤ n ∧ n ≤ 57) ∨ n = 46 ∨ n = 95 ∨ n = 45)
def okB (c : UInt8) : Bool := okBi (c.toNat : Int)
def okName (s : ByteArray) : Bool := !s.toList.isEmpty && !(s.toList == [46]) && !(s.toList == [46, 46]) && decide (s.size ≤ 12) && s.data.toList.all okB
theorem okBi_iff (n : Int) : okBi n = true ↔ ((97 ≤ n ∧ n ≤ 122) ∨ (48 ≤ n ∧ n ≤ 57) ∨ n = 46 ∨ n = 95 ∨ n = 45) := by simp [okBi]
theorem isNameByte_any (n : Int) (w : World) : Calls Tryz.prog 292 #[.int .u8 n] w fun e w' => e = .returned (.bool (okBi n)) ∧ w' = w := by
 obtain ⟨b, hb⟩ : ∃ b, b = okBi n := ⟨_, rfl⟩
 have hb' := okBi_iff n
 rw [← hb] at hb' ⊢
 have HB := hide hb'; clear hb' hb
 by_cases h1 : 97 ≤ n ∧ n ≤ 122
 ·obtain ⟨h1, h2⟩ := h1
  obtain rfl : b = true := (unhide HB).2 (by omega)
  clear HB
  go_enter Tryz.func292, Tryz.ntmps292
  go_wp2
  go_ret
  exact ⟨rfl, rfl⟩
 ·by_cases h2 : 48 ≤ n ∧ n ≤ 57
  ·obtain ⟨h2, h3⟩ := h2
   obtain rfl : b = true := (unhide HB).2 (by omega)
   clear HB h1
   go_enter Tryz.func292, Tryz.ntmps292
   go_wp2
   go_ret
   exact ⟨rfl, rfl⟩
  ·by_cases h3 : n = 46 ∨ n = 95 ∨ n = 45
   ·obtain rfl : b = true := (unhide HB).2 (by omega)
    clear HB h1 h2
    rcases h3 with rfl | rfl | rfl
    all_goals
     go_enter Tryz.func292, Tryz.ntmps292
     go_wp2
     go_ret
     exact ⟨rfl, rfl⟩
   ·obtain rfl : b = false := by
     cases b with
     | false => rfl
     | true => have := (unhide HB).1 rfl; omega
    clear HB
    have q1 : (n == 46) = false := by rw [beq_eq_false_iff_ne]; omega
    have q2 : (n == 95) = false := by rw [beq_eq_false_iff_ne]; omega
    have q3 : (n == 45) = false := by rw [beq_eq_false_iff_ne]; omega
    clear h3
    go_enter Tryz.func292, Tryz.ntmps292
    go_wp2
    all_goals first | omega | (go_ret; exact ⟨rfl, rfl⟩)
theorem all_take_succ (s : ByteArray) (k : Nat) (h : k < s.size) (hk : (s.data.toList.take k).all okB = true) : (s.data.toList.take (k + 1)).all okB = okB s[k] := by
 have e : s.data.toList.take (k + 1) = s.data.toList.take k ++ [s[k]] := by
  rw [List.take_succ_eq_append_getElem (by simpa using h)]; rfl
 rw [e, List.all_append, hk]; simp
theorem all_false (s : ByteArray) (k : Nat) (h : k < s.size) (hk : okB s[k] = false) : s.data.toList.all okB = false := by
 rw [List.all_eq_false]
 exact ⟨s[k], by have : s[k] = s.data.toList[k]'(by simpa using h) := rfl
                 rw [this]; exact List.getElem_mem _, by rw [hk]; simp⟩
theorem isName_code (s : ByteArray) (w : World) (hs : s.size ≤ maxLen) : Calls Tryz.prog 263 #[.string s] w fun e w' => e = .returned (.bool (okName s)) ∧ w' = w := by
 unfold maxLen at hs
 obtain ⟨b, hb⟩ : ∃ b, b = okName s := ⟨_, rfl⟩
 rw [← hb]
 cases h1 : s.toList.isEmpty with
 | true =>
  obtain rfl : b = false := by rw [hb]; simp [okName, h1]
  clear hb
  go_enter Tryz.func263, Tryz.ntmps263
  go_wp2
  go_ret
  exact ⟨rfl, rfl⟩
 | false =>
 cases h2 : (s.toList == [46]) with
 | true =>
  obtain rfl : b = false := by rw [hb]; simp only [okName, h1, h2]; rfl
  clear hb
  go_enter Tryz.func263, Tryz.ntmps263
  go_wp2
  go_ret
  exact ⟨rfl, rfl⟩
 | false =>
 cases h3 : (s.toList == [46, 46]) with
 | true =>
  obtain rfl : b = false := by rw [hb]; simp only [okName, h1, h2, h3]; rfl
  clear hb
  go_enter Tryz.func263, Tryz.ntmps263
  go_wp2
  go_ret
  exact ⟨rfl, rfl⟩
 | false =>
 by_cases h4 : s.size ≤ 12
 ·have hb2 : b = s.data.toList.all okB := by rw [hb]; simp only [okName, h1, h2, h3, h4]; simp
  have HB := hide hb2
  clear hb hb2
  go_enter Tryz.func263, Tryz.ntmps263
  go_wp2
  go_loop [21] (fun i => ∃ k : Nat, k ≤ s.size ∧ i = .int .i64 k ∧ Hid ((s.data.toList.take k).all okB = true)) (fun i => s.size - (intOf i).toNat)
  case atStart => exact ⟨0, Nat.zero_le _, rfl, rfl⟩
  case round =>
   obtain ⟨k, hk, rfl, hall⟩ := hrel
   by_cases hlt : k < s.size
   ·cases hq : okB s[k] with
    | true =>
     have hs1 := all_take_succ s k hlt (unhide hall)
     rw [hq] at hs1
     have HS1 := hide hs1
     have hq' : okBi (s[k].toNat : Int) = true := hq
     clear hs1 hq
     go_wp2_with (go_at_call 292; refine (isNameByte_any _ _).mono ?_; rintro e w' ⟨rfl, rfl⟩)
     go_round
     case rel => exact ⟨k + 1, by omega, by go_num, HS1⟩
     case measure => simp [intOf]; omega
    | false =>
     have hf := all_false s k hlt hq
     have hq' : okBi (s[k].toNat : Int) = false := hq
     rw [hf] at HB
     obtain rfl := unhide HB
     clear hf hq
     go_wp2_with (go_at_call 292; refine (isNameByte_any _ _).mono ?_; rintro e w' ⟨rfl, rfl⟩)
     go_ret
     exact ⟨rfl, rfl⟩
   ·obtain rfl : k = s.size := by omega
    have : s.data.toList.take s.size = s.data.toList := List.take_of_length_le (Nat.le_of_eq Array.length_toList)
    have hall' := unhide hall
    rw [this] at hall'
    rw [hall'] at HB
    obtain rfl := unhide HB
    clear hall hall'
    go_wp2
    go_ret
    exact ⟨rfl, rfl⟩
 ·obtain rfl : b = false := by rw [hb]; simp only [okName, h4]; simp
  clear hb
  go_enter Tryz.func263, Tryz.ntmps263
  go_wp2
  go_ret
  exact ⟨rfl, rfl⟩
theorem empty_iff (s : ByteArray) : s.toList.isEmpty = decide (s.size < 1) := by
 rw [ByteArray.toList_eq]
 have : s.data.toList.length = s.size := Array.length_toList
 cases h : s.data.toList with
 | nil => rw [h] at this; exact (decide_eq_true (by rw [← this]; exact Nat.one_pos)).symm
 | cons a l => rw [h, List.length_cons] at this; exact (decide_eq_false (by omega)).symm
theorem isName_ref (s : ByteArray) (w : World) (hs : s.size ≤ maxLen) : Calls Tryz.prog 162 #[.string s] w fun e w' => e = .returned (.bool (okName s)) ∧ w' = w := by
 unfold maxLen at hs
 obtain ⟨b, hb⟩ : ∃ b, b = okName s := ⟨_, rfl⟩
 have he := empty_iff s
 rw [← hb]
 by_cases h1 : s.size < 1
 ·obtain rfl : b = false := by rw [hb]; simp [okName, he, h1]
  clear hb he
  go_enter Tryz.func162, Tryz.ntmps162
  go_wp2
  go_ret
  exact ⟨rfl, rfl⟩
 have he' : s.toList.isEmpty = false := by rw [he]; exact decide_eq_false h1
 by_cases h5 : 12 < s.size
 ·have h4 : ¬ s.size ≤ 12 := by omega
  obtain rfl : b = false := by rw [hb]; simp only [okName, h4]; simp
  clear hb he he' h4
  go_enter Tryz.func162, Tryz.ntmps162
  go_wp2
  go_ret
  exact ⟨rfl, rfl⟩
 have h4 : s.size ≤ 12 := by omega
 clear h5
 cases h2 : (s.toList == [46]) with
 | true =>
  obtain rfl : b = false := by rw [hb]; simp only [okName, he', h2]; rfl
  clear hb he he'
  go_enter Tryz.func162, Tryz.ntmps162
  go_wp2
  go_ret
  exact ⟨rfl, rfl⟩
 | false =>
 cases h3 : (s.toList == [46, 46]) with
 | true =>
  obtain rfl : b = false := by rw [hb]; simp only [okName, he', h2, h3]; rfl
  clear hb he he'
  go_enter Tryz.func162, Tryz.ntmps162
  go_wp2
  go_ret
  exact ⟨rfl, rfl⟩
 | false =>
  have hb2 : b = s.data.toList.all okB := by rw [hb]; simp only [okName, he', h2, h3, h4]; simp
  have HB := hide hb2
  clear hb hb2 he he'
  go_enter Tryz.func162, Tryz.ntmps162
  go_wp2
  go_loop [3] (fun i => ∃ k : Nat, k ≤ s.size ∧ i = .int .i64 k ∧ Hid ((s.data.toList.take k).all okB = true)) (fun i => s.size - (intOf i).toNat)
  case atStart => exact ⟨0, Nat.zero_le _, rfl, rfl⟩
  case round =>
   obtain ⟨k, hk, rfl, hall⟩ := hrel
   by_cases hlt : k < s.size
   ·have hiff := okBi_iff (s[k].toNat : Int)
    cases hq : okB s[k] with
    | true =>
     have hs1 := all_take_succ s k hlt (unhide hall)
     rw [hq] at hs1
     have HS1 := hide hs1
     have hq' := hiff.1 hq
     clear hs1 hq hiff
     by_cases c1 : 97 ≤ (s[k].toNat : Int) ∧ (s[k].toNat : Int) ≤ 122
     ·obtain ⟨c1, c2⟩ := c1
      clear hq'
      go_wp2
      go_round
      case rel => exact ⟨k + 1, by omega, by go_num, HS1⟩
      case measure => simp [intOf]; omega
     by_cases c2 : 48 ≤ (s[k].toNat : Int) ∧ (s[k].toNat : Int) ≤ 57
     ·obtain ⟨c2, c3⟩ := c2
      clear hq' c1
      go_wp2
      go_round
      case rel => exact ⟨k + 1, by omega, by go_num, HS1⟩
      case measure => simp [intOf]; omega
     have c3 : (s[k].toNat : Int) = 46 ∨ (s[k].toNat : Int) = 95 ∨ (s[k].toNat : Int) = 45 := by omega
     clear hq' c1 c2
     rcases c3 with c3 | c3 | c3
     all_goals
      go_wp2
      go_round
      case rel => exact ⟨k + 1, by omega, by go_num, HS1⟩
      case measure => simp [intOf]; omega
    | false =>
     have hf := all_false s k hlt hq
     have hq' : ¬ ((97 ≤ (s[k].toNat : Int) ∧ (s[k].toNat : Int) ≤ 122) ∨ (48 ≤ (s[k].toNat : Int) ∧ (s[k].toNat : Int) ≤ 57) ∨ (s[k].toNat : Int) = 46 ∨ (s[k].toNat : Int) = 95 ∨ (s[k].toNat : Int) = 45) := fun h => by
      have := hiff.2 h
      unfold okB at hq; rw [this] at hq; cases hq
     rw [hf] at HB
     obtain rfl := unhide HB
     clear hf hq hiff
     have q1 : ((s[k].toNat : Int) != 46) = true := by rw [bne_iff_ne]; omega
     have q2 : ((s[k].toNat : Int) != 95) = true := by rw [bne_iff_ne]; omega
     have q3 : ((s[k].toNat : Int) != 45) = true := by rw [bne_iff_ne]; omega
     have HQ := hide hq'
     clear hq'
     go_wp2
     all_goals first | (exact absurd (unhide HQ) (by omega)) | (go_ret; exact ⟨rfl, rfl⟩)
   ·obtain rfl : k = s.size := by omega
    have : s.data.toList.take s.size = s.data.toList := List.take_of_length_le (Nat.le_of_eq Array.length_toList)
    have hall' := unhide hall
    rw [this] at hall'
    rw [hall'] at HB
    obtain rfl := unhide HB
    clear hall hall'
    go_wp2
    go_ret
    exact ⟨rfl, rfl⟩
end Go.Proofs.YtaieidcohdhgpaaGreatDoor
