/- Files. -/
import Derived.Test.YtaieidcohdhgpaaGreatDoorPAU
namespace Go.Proofs.YtaieidcohdhgpaaGreatDoor
open Go.RowKit
set_option maxHeartbeats 1000000
set_option maxRecDepth 100000
theorem splIns2 (L xs news : List Value) (i n : Nat) (hL : (n + 1) * 2 ≤ L.length) (hxs : L.take (n * 2) = xs) (hi : i < n) (hnl : news.length = 2) :
  (spl (spl L ((i + 1) * 2) (xs.drop (i * 2))) (i * 2) news).take ((n + 1) * 2) = xs.take (i * 2) ++ news ++ xs.drop (i * 2) := by
 have hxl : xs.length = n * 2 := by rw [← hxs, List.length_take]; omega
 have hdl : (xs.drop (i * 2)).length = (n - i) * 2 := by rw [List.length_drop, hxl]; omega
 have h1 : (spl L ((i + 1) * 2) (xs.drop (i * 2))).take (i * 2) = xs.take (i * 2) := by
  unfold spl
  rw [List.append_assoc, List.take_append_of_le_length (by rw [List.length_take]; omega), List.take_take, Nat.min_eq_left (by omega), ← hxs, List.take_take, Nat.min_eq_left (by omega)]
 have h2 : (spl L ((i + 1) * 2) (xs.drop (i * 2))).drop (i * 2 + news.length) = xs.drop (i * 2) ++ L.drop ((i + 1) * 2 + (xs.drop (i * 2)).length) := by
  unfold spl
  rw [List.append_assoc, hnl, show i * 2 + 2 = (L.take ((i + 1) * 2)).length by rw [List.length_take]; omega, List.drop_left]
 rw [spl, h1, h2, ← List.append_assoc]
 exact List.take_left' (by simp only [List.length_append, List.length_take, hdl, hnl, hxl]; omega)
theorem splGrow2 (Z xs news : List Value) (i n : Nat) (hxl : xs.length = n * 2) (hi : i < n) (_hZ : (n + 1) * 2 ≤ (xs.take (i * 2) ++ Z).length) (hnl : news.length = 2) :
  (spl (spl (xs.take (i * 2) ++ Z) (i * 2) news) ((i + 1) * 2) (xs.drop (i * 2))).take ((n + 1) * 2) = xs.take (i * 2) ++ news ++ xs.drop (i * 2) := by
 have hdl : (xs.drop (i * 2)).length = (n - i) * 2 := by rw [List.length_drop, hxl]; omega
 have htl : (xs.take (i * 2)).length = i * 2 := by rw [List.length_take]; omega
 have h1 : (spl (xs.take (i * 2) ++ Z) (i * 2) news).take ((i + 1) * 2) = xs.take (i * 2) ++ news := by
  unfold spl
  rw [List.take_left' htl]
  exact List.take_left' (by simp only [List.length_append, htl, hnl]; omega)
 rw [spl, h1]
 exact List.take_left' (by simp only [List.length_append, htl, hdl, hnl]; omega)
theorem mapFin2 {w w2 : World} {hb ho : Nat} {v v' : Value} {e : TypeId} {n : Nat} {xs : List Value} (hc : w.cell? ⟨hb, ho, none⟩ = some v) (hne : v.ownBlock ≠ some hb) (hS : Sl w2 e 2 v' n xs) (hnew : NewOr w v v')
  (hos : w2.os = w.os) (htape : w2.tape = w.tape) (hout : w2.output = w.output) (hsz : w.heap.size ≤ w2.heap.size) (hbl : ∀ k, k < w.heap.size → v.ownBlock ≠ some k → w2.heap[k]? = w.heap[k]?) :
  (w2.setCell ⟨hb, ho, none⟩ v').cell? ⟨hb, ho, none⟩ = some v' ∧ Sl (w2.setCell ⟨hb, ho, none⟩ v') e 2 v' n xs ∧ MapFr w (w2.setCell ⟨hb, ho, none⟩ v') hb ho v v' := by
 have hlt : hb < w.heap.size := World.block_lt_of_cell? _ _ hc
 have hh : w2.heap[hb]? = w.heap[hb]? := hbl hb hlt hne
 have hc2 : w2.cell? ⟨hb, ho, none⟩ = some v := (World.cell?_of_block (w := w) (a := ⟨hb, ho, none⟩) hh).trans hc
 refine ⟨World.cell?_setCell_same _ _ _ hc2, hS.setCell _ _ (fun e => ?_), hos, htape, hout, by simpa [World.setCell] using hsz, fun k hk h1 h2 => ?_, ?_⟩
 ·rcases hnew hb e with h | h
  ·exact hne h
  ·omega
 ·rw [Below.heap_setCell _ _ _ _ h1]; exact hbl k hk h2
 ·simp only [World.setCell, Array.getElem?_modify, if_true]
  rw [hh]
theorem insER (w : World) (v : Value) (es : List (Int × Int)) (i : Nat) (x : Int × Int) (vb : Nat) (hS : Sl w 350 2 v es.length (cellsR es)) (hi : i ≤ es.length) (hn : es.length ≤ 10000)
  (hnews : RowIs w vb 350 (clR x)) (hne : v.ownBlock ≠ some vb) :
  Calls Tryz.prog 274 #[v, .int .i64 i, .slice (some ⟨vb, 0, none⟩) 1 1] w fun e w' => ∃ v', e = .returned v' ∧ Sl w' 350 2 v' (es.length + 1) (cellsR (es.take i ++ x :: es.drop i)) ∧ w.grownBy w' v.ownBlock ∧ NewOr w v v' := by
 have h1 : ∀ u ∈ clR x, u.oneCell' = true := fun u hu => cellsR_one [x] u (by simpa [cellsR] using hu)
 have hcl : cellsR (es.take i ++ x :: es.drop i) = (cellsR es).take (i * 2) ++ clR x ++ (cellsR es).drop (i * 2) := by
  rw [cellsR_take, cellsR_drop, cellsR_append, List.append_assoc]; rfl
 have hxl := cellsR_length es
 rcases Nat.lt_or_ge i es.length with hlt | hge
 ·rcases hS.2 with ⟨rfl, h0⟩ | ⟨g, cap, L, rfl, hR, hc, hcm, hL, hT⟩
  ·omega
  ·have hne' : vb ≠ g := fun e => hne (by simp [Value.ownBlock, e])
   have hlen : ((cellsR es).take (i * 2) ++ clR x ++ (cellsR es).drop (i * 2)).length = (es.length + 1) * 2 := by
    simp only [List.length_append, List.length_take, List.length_drop, hxl]; simp [clR]; omega
   rcases Nat.lt_or_ge cap (es.length + 1) with hg | hr
   ·refine (insGrowR w g es.length cap (cellsR es) L i vb (clR x) hR hL hT hlt hc hg hn hnews rfl (cellsR_one es) h1).mono ?_
    rintro e w' ⟨G, Z, rfl, h2, h3, h4, h5, h6⟩
    refine ⟨_, rfl, ⟨by rw [hcl]; exact hlen, .inr ⟨_, G, _, rfl, h5, h2, h3, ?_, ?_⟩⟩, ⟨h6.os, h6.tape, h6.output, h6.size, fun k hk _ => h6.block k hk (by simp; omega)⟩, fun k hk => .inr (by simp [Value.ownBlock] at hk; omega)⟩
    ·rw [spl_length, spl_length, h4]
     ·rw [h4]; simp [clR]; omega
     ·rw [spl_length (by rw [h4]; simp [clR]; omega), h4, List.length_drop, hxl]; omega
    ·rw [hcl]; exact splGrow2 Z (cellsR es) (clR x) i es.length hxl hlt (by rw [h4]; omega) rfl
   ·refine (insMidR w g es.length cap (cellsR es) L i vb (clR x) hR hL hT hlt hr hcm hn hnews rfl (cellsR_one es) h1 hne').mono ?_
    rintro e w' ⟨rfl, h5, h6⟩
    refine ⟨_, rfl, ⟨by rw [hcl]; exact hlen, .inr ⟨_, cap, _, rfl, h5, hr, hcm, ?_, ?_⟩⟩, h6, fun k hk => .inl hk⟩
    ·rw [spl_length, spl_length, hL]
     ·rw [List.length_drop, hxl, hL]; omega
     ·rw [spl_length (by rw [List.length_drop, hxl, hL]; omega), hL]; simp [clR]; omega
    ·rw [hcl]; exact splIns2 L (cellsR es) (clR x) i es.length (by rw [hL]; omega) hT hlt rfl
 ·obtain rfl : i = es.length := by omega
  refine (insEndR w v es.length (cellsR es) vb (clR x) hS hn hnews rfl h1).mono ?_
  rintro e w' ⟨v', rfl, h2, h3, h4⟩
  refine ⟨v', rfl, ?_, h3, h4⟩
  rw [hcl, List.take_of_length_le (by omega), List.drop_eq_nil_of_le (by omega), List.append_nil]
  exact h2
theorem findR (w : World) (hb ho : Nat) (v : Value) (es : List (Int × Int)) (key : Int) (hc : w.cell? ⟨hb, ho, none⟩ = some v) (hS : Sl w 350 2 v es.length (cellsR es)) (hn : es.length ≤ 10000) (hs : SrtR es) :
  Calls Tryz.prog 273 #[.pointer (some ⟨hb, ho, none⟩), .int .u64 key] w fun e w' => ∃ (i : Nat) (b : Bool), e = .returned (.tuple #[.int .i64 i, .bool b]) ∧ AtR es key i b ∧ Below w.heap.size w w' := by
 have hr := srchR v es key w hS hn hs
 clear hS hn hs
 go_enter Tryz.func273, Tryz.ntmps273
 go_wp2_with fail
 refine hr.mono ?_
 rintro e w' ⟨i, b, rfl, hA, hb⟩
 have HA := hide hA
 clear hA
 go_wp2
 go_ret2
 exact ⟨i, b, rfl, unhide HA, hb⟩
def FoundR (es : List (Int × Int)) (key : Int) (r : Int) (b : Bool) : Prop := (b = true ∧ (key, r) ∈ es) ∨ (b = false ∧ r = 0 ∧ ∀ x ∈ es, x.1 ≠ key)
theorem AtR.here {es : List (Int × Int)} {key : Int} {i : Nat} (h : AtR es key i true) : ∃ r, es[i]? = some (key, r) := by
 obtain ⟨x, h1, h2⟩ := h.2.2.2.1 rfl
 exact ⟨x.2, by rw [h1, ← h2]⟩
theorem AtR.not {es : List (Int × Int)} {key : Int} {i : Nat} (hs : SrtR es) (h : AtR es key i false) : ∀ x ∈ es, x.1 ≠ key := by
 intro x hx e
 obtain ⟨k, hk⟩ := List.getElem?_of_mem hx
 rcases Nat.lt_or_ge k i with hki | hki
 ·have := h.2.1 k x hki hk
  rw [e, ltI_irrefl] at this; cases this
 ·rcases Nat.lt_or_ge i k with h2 | h2
  ·have hil : i < es.length := by have := (List.getElem?_eq_some_iff.1 hk).1; omega
   have h3 := hs i k _ x h2 (List.getElem?_eq_getElem hil) hk
   have h4 := h.2.2.1 i _ (Nat.le_refl _) (List.getElem?_eq_getElem hil)
   rw [e] at h3; rw [h3] at h4; cases h4
  ·obtain rfl : k = i := by omega
   have := h.2.2.2.2 ⟨x, hk, e⟩
   cases this
theorem getR (w : World) (hb ho : Nat) (v : Value) (es : List (Int × Int)) (key : Int) (hc : w.cell? ⟨hb, ho, none⟩ = some v) (hS : Sl w 350 2 v es.length (cellsR es)) (hn : es.length ≤ 10000) (hs : SrtR es) :
  Calls Tryz.prog 300 #[.pointer (some ⟨hb, ho, none⟩), .int .u64 key] w fun e w' => ∃ (r : Int) (b : Bool), e = .returned (.tuple #[.int .i64 r, .bool b]) ∧ FoundR es key r b ∧ Below w.heap.size w w' := by
 have hblt : hb < w.heap.size := World.block_lt_of_cell? _ _ hc
 have hf := findR w hb ho v es key hc hS hn hs
 go_enter Tryz.func300, Tryz.ntmps300
 go_wp2_with fail
 refine hf.mono ?_
 rintro e w1 ⟨i, b, rfl, hA, hB⟩
 clear hf
 cases b with
 | false =>
  have HN := hide (AtR.not hs hA)
  clear hA hS
  go_wp2
  go_ret2
  exact ⟨0, false, rfl, .inr ⟨rfl, rfl, unhide HN⟩, hB⟩
 | true =>
  obtain ⟨r, hr⟩ := hA.here
  rcases hS.2 with ⟨rfl, h0⟩ | ⟨g, cap, L, rfl, hR, hcc, hcm, hL, hT⟩
  ·have := (List.getElem?_eq_some_iff.1 hr).1; omega
  ·have hcell : ∀ j u, (cellsR es)[j]? = some u → w1.cell? ⟨g, j, none⟩ = some u := fun j u hu => by
    rw [hB.cell (p := ⟨g, j, none⟩) hR.lt, hR.cell]
    rw [← hT, List.getElem?_take] at hu
    split at hu
    ·exact hu
    ·cases hu
   have q := cellsR_at es i _ hr
   have q0 := (hB.cell (p := ⟨hb, ho, none⟩) hblt).trans hc
   have q1 := hcell _ _ q.2
   have hi : i < es.length := (List.getElem?_eq_some_iff.1 hr).1
   have HM := hide (List.mem_of_getElem? hr)
   clear q hcell hR hL hT hS hA hr hc
   go_wp2
   go_ret2
   exact ⟨r, true, rfl, .inl ⟨rfl, unhide HM⟩, hB⟩
theorem insR_spec {es : List (Int × Int)} {key : Int} {i : Nat} (val : Int) (hs : SrtR es) (h : AtR es key i false) :
  SrtR (es.take i ++ (key, val) :: es.drop i) ∧ (es.take i ++ (key, val) :: es.drop i).length = es.length + 1 ∧ ∀ x, x ∈ es.take i ++ (key, val) :: es.drop i ↔ x = (key, val) ∨ x ∈ es := by
 have hi := h.1
 have hnot := AtR.not hs h
 have hgt : ∀ k x, i ≤ k → es[k]? = some x → ltI key x.1 = true := fun k x hk hx => by
  have h1 := h.2.2.1 k x hk hx
  have h2 := hnot x (List.mem_of_getElem? hx)
  exact ltI_total h1 h2
 have hl : (es.take i).length = i := by rw [List.length_take]; omega
 have hg : ∀ k, (es.take i ++ (key, val) :: es.drop i)[k]? = if k < i then es[k]? else if k = i then some (key, val) else es[k - 1]? := fun k => by
  by_cases h1 : k < i
  ·rw [if_pos h1, List.getElem?_append_left (by omega), List.getElem?_take, if_pos h1]
  ·rw [if_neg h1, List.getElem?_append_right (by omega), hl]
   by_cases h2 : k = i
   ·rw [if_pos h2]; simp [h2]
   ·rw [if_neg h2, show k - i = (k - i - 1) + 1 by omega, List.getElem?_cons_succ, List.getElem?_drop]
    congr 1; omega
 refine ⟨fun j k x y hjk hx hy => ?_, ?_, fun x => ?_⟩
 ·rw [hg] at hx hy
  by_cases j1 : j < i
  ·rw [if_pos j1] at hx
   by_cases k1 : k < i
   ·rw [if_pos k1] at hy; exact hs j k x y hjk hx hy
   ·rw [if_neg k1] at hy
    by_cases k2 : k = i
    ·rw [if_pos k2] at hy; cases hy; exact h.2.1 j x j1 hx
    ·rw [if_neg k2] at hy; exact hs j (k - 1) x y (by omega) hx hy
  ·rw [if_neg j1] at hx
   have k1 : ¬ k < i := by omega
   have k2 : ¬ k = i := by omega
   rw [if_neg k1, if_neg k2] at hy
   by_cases j2 : j = i
   ·rw [if_pos j2] at hx; cases hx; exact hgt (k - 1) y (by omega) hy
   ·rw [if_neg j2] at hx; exact hs (j - 1) (k - 1) x y (by omega) hx hy
 ·simp; omega
 ·have : es = es.take i ++ es.drop i := (List.take_append_drop i es).symm
  constructor
  ·intro hx
   simp only [List.mem_append, List.mem_cons] at hx
   rcases hx with h1 | h1 | h1
   ·exact .inr (List.mem_of_mem_take h1)
   ·exact .inl h1
   ·exact .inr (List.mem_of_mem_drop h1)
  ·intro hx
   simp only [List.mem_append, List.mem_cons]
   rcases hx with h1 | h1
   ·exact .inr (.inl h1)
   ·rw [this, List.mem_append] at h1
    rcases h1 with h1 | h1
    ·exact .inl h1
    ·exact .inr (.inr h1)
theorem putNewR (w : World) (hb ho : Nat) (v : Value) (es : List (Int × Int)) (key : Int) (r : Int) (hc : w.cell? ⟨hb, ho, none⟩ = some v) (hf : w.frozen? ⟨hb, ho, none⟩ = false) (hne : v.ownBlock ≠ some hb) (hS : Sl w 350 2 v es.length (cellsR es)) (hn : es.length ≤ 10000) (hs : SrtR es) (hno : ∀ x ∈ es, x.1 ≠ key) :
  Calls Tryz.prog 243 #[.pointer (some ⟨hb, ho, none⟩), .int .u64 key, .int .i64 r] w fun e w' => e = .returned (.tuple #[]) ∧ ∃ v' es', w'.cell? ⟨hb, ho, none⟩ = some v' ∧ Sl w' 350 2 v' es'.length (cellsR es') ∧
   SrtR es' ∧ es'.length = es.length + 1 ∧ (∀ x, x ∈ es' ↔ x = (key, r) ∨ x ∈ es) ∧ NewOr w v v' ∧ MapFr w w' hb ho v v' := by
 have hblt : hb < w.heap.size := World.block_lt_of_cell? _ _ hc
 have hfi := findR w hb ho v es key hc hS hn hs
 go_enter Tryz.func243, Tryz.ntmps243
 go_wp2_with fail
 refine hfi.mono ?_
 rintro e w1 ⟨i, b, rfl, hA, hfull⟩
 have hb0 : b = false := by
  cases b with
  | false => rfl
  | true => obtain ⟨r', hr'⟩ := hA.here; exact absurd rfl (hno _ (List.mem_of_getElem? hr'))
 subst hb0
 have q0 : w1.cell? ⟨hb, ho, none⟩ = some v := (hfull.cell (p := ⟨hb, ho, none⟩) hblt).trans hc
 have hsz : w.heap.size ≤ w1.heap.size := hfull.size
 have hS1 : Sl w1 350 2 v es.length (cellsR es) := hS.kept (fun k hk _ => hfull.block k hk)
 have hins : ∀ W : World, W.heap = (w1.alloc (.cells #[.int .u64 key, .int .i64 r] 350)).heap → W.os = w1.os → W.tape = w1.tape → W.output = w1.output → Calls Tryz.prog 274 #[v, .int .i64 i, .slice (some ⟨w1.heap.size, 0, none⟩) 1 1] W fun e w' => ∃ a' m' c' v', e = .returned (.slice a' m' c') ∧ v' = .slice a' m' c' ∧
   (w'.cell? ⟨hb, ho, none⟩ = some v ∧ w'.frozen? ⟨hb, ho, none⟩ = false) ∧ Hid ((w'.setCell ⟨hb, ho, none⟩ v').cell? ⟨hb, ho, none⟩ = some v' ∧ Sl (w'.setCell ⟨hb, ho, none⟩ v') 350 2 v' (es.length + 1) (cellsR (es.take i ++ (key, r) :: es.drop i)) ∧ MapFr w (w'.setCell ⟨hb, ho, none⟩ v') hb ho v v' ∧ NewOr w v v') := fun W hW h1 h2 h3 => by
  have hSW : Sl W 350 2 v es.length (cellsR es) := (Sl.of_owns (hS1.owns.alloc _)).heap hW
  have hR : RowIs W w1.heap.size 350 (clR (key, r)) := by unfold RowIs; rw [hW]; exact heap_alloc_new w1 _
  refine (insER W v es i (key, r) w1.heap.size hSW hA.1 hn hR (fun e => by have := hS1.lt e; omega)).mono ?_
  rintro e w' ⟨v', rfl, hS', hg, hnew⟩
  have hWs : w.heap.size ≤ W.heap.size := by rw [hW]; simp; omega
  have hbl : ∀ k, k < w.heap.size → v.ownBlock ≠ some k → w'.heap[k]? = w.heap[k]? := fun k hk hne' => by
   rw [hg.block k (by omega) (fun e => hne' e.symm), hW, Below.heap_alloc _ _ _ (by omega), hfull.block k hk]
  have hnew' : NewOr w v v' := fun g hg' => (hnew g hg').imp id (fun h => by omega)
  obtain ⟨m1, m2, m3⟩ := mapFin2 (ho := ho) hc hne hS' hnew' (hg.os.trans (h1.trans hfull.os)) (hg.tape.trans (h2.trans hfull.tape)) (hg.output.trans (h3.trans hfull.output)) (Nat.le_trans hWs hg.size) hbl
  obtain ⟨a', m', c', e'⟩ := hS'.shape
  exact ⟨a', m', c', v', by rw [e'], e', ⟨(World.cell?_of_block (w := w) (a := ⟨hb, ho, none⟩) (hbl hb hblt hne)).trans hc, (World.frozen?_of_block (w := w) (a := ⟨hb, ho, none⟩) (hbl hb hblt hne)).trans hf⟩, m1, m2, m3, hnew'⟩
 have hsp := hide (insR_spec r hs hA)
 have hlen : (es.take i ++ (key, r) :: es.drop i).length = es.length + 1 := (unhide hsp).2.1
 have HL := hide hlen
 have HINS := hide hins
 clear hlen hA hS hS1 hs hno hfi hfull hins
 go_wp2_with (go_at_call 274; refine (unhide HINS _ (by exact rfl) (by exact rfl) (by exact rfl) (by exact rfl)).mono ?_; rintro e w2 ⟨a', m', c', v', rfl, rfl, ⟨hc2, hf2⟩, HF⟩)
 all_goals (
  go_end0
  obtain ⟨m1, m2, m3, m4⟩ := unhide HF
  exact ⟨rfl, _, _, m1, by rw [unhide HL]; exact m2, (unhide hsp).1, unhide HL, (unhide hsp).2.2, m4, m3⟩)
end Go.Proofs.YtaieidcohdhgpaaGreatDoor
