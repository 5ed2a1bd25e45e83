/- Files. -/
import Derived.Test.YtaieidcohdhgpaaGreatDoorPAC
import Derived.Test.YtaieidcohdhgpaaGreatDoorPAD
namespace Go.Proofs.YtaieidcohdhgpaaGreatDoor
open Go.RowKit
set_option maxHeartbeats 1000000
set_option maxRecDepth 100000
theorem ib_hit : ∀ (l : List UInt8) (i : Nat), (∀ j, j < i → l[j]? ≠ some 47) → l[i]? = some 47 → Lib.indexByte l 47 = i
 | [], i, _, h => by simp at h
 | a :: l, 0, _, h => by simp at h; simp [Lib.indexByte, h]
 | a :: l, i + 1, h, h1 => by
  have h0 : a ≠ 47 := fun e => h 0 (by omega) (by simp [e])
  have := ib_hit l i (fun j hj => by have := h (j + 1) (by omega); simpa using this) (by simpa using h1)
  simp [Lib.indexByte, h0, this]
theorem ib_miss : ∀ (l : List UInt8), (∀ j : Nat, l[j]? ≠ some 47) → Lib.indexByte l 47 = -1
 | [], _ => by simp [Lib.indexByte]
 | a :: l, h => by
  have h0 : a ≠ 47 := fun e => h 0 (by simp [e])
  have := ib_miss l (fun j => by have := h (j + 1); simpa using this)
  simp [Lib.indexByte, h0, this]
def pc (s : ByteArray) : List ByteArray := Lib.splitB ⟨#[47]⟩ 0 (Lib.countB s ⟨#[47]⟩) s
theorem indexB_one (s : ByteArray) : Lib.indexB s ⟨#[47]⟩ = Lib.indexByte s.data.toList 47 := Lib.index_one _ _
theorem pc_miss (s : ByteArray) (h : ∀ j : Nat, s.data.toList[j]? ≠ some 47) : pc s = [s] :=
 Lib.splitB_miss _ _ _ _ ((indexB_one s).trans (ib_miss _ h))
theorem pc_hit (s : ByteArray) (i : Nat) (h : ∀ j, j < i → s.data.toList[j]? ≠ some 47) (h1 : s.data.toList[i]? = some 47) : pc s = s.extract 0 i :: pc (s.extract (i + 1) s.size) := by
 have hi := (indexB_one s).trans (ib_hit _ i h h1)
 unfold pc
 rw [Lib.countB_hit s ⟨#[47]⟩ i (Nat.le_refl 1) hi, Nat.add_comm 1, Lib.splitB_hit _ _ _ _ i hi]
 rfl
theorem tail_data (p : ByteArray) (f : Nat) : (p.extract f p.size).data.toList = p.data.toList.drop f := Lib.extract_to_end p f
theorem pc_step (p : ByteArray) (f i : Nat) (hf : f ≤ i) (h : ∀ j, f ≤ j → j < i → p.data.toList[j]? ≠ some 47) (h1 : p.data.toList[i]? = some 47) :
  pc (p.extract f p.size) = p.extract f i :: pc (p.extract (i + 1) p.size) := by
 have hlt : i < p.size := (List.getElem?_eq_some_iff.1 h1).1
 rw [pc_hit (p.extract f p.size) (i - f) (fun j hj => by rw [tail_data, List.getElem?_drop]; exact h (f + j) (by omega) (by omega)) (by rw [tail_data, List.getElem?_drop, show f + (i - f) = i by omega]; exact h1)]
 have e1 : (p.extract f p.size).extract 0 (i - f) = p.extract f i := by
  apply WideShapes.bytes_inj
  rw [Lib.extract_data, Lib.extract_data, Lib.extract_data]
  simp
  rw [List.take_take, Nat.min_eq_left (by have : p.size = p.data.size := rfl; omega)]
 have e2 : (p.extract f p.size).extract (i - f + 1) (p.extract f p.size).size = p.extract (i + 1) p.size := by
  apply WideShapes.bytes_inj
  rw [tail_data, tail_data, tail_data, List.drop_drop]
  congr 1; omega
 rw [e1, e2]
theorem pc_last (p : ByteArray) (f : Nat) (h : ∀ j, f ≤ j → p.data.toList[j]? ≠ some 47) : pc (p.extract f p.size) = [p.extract f p.size] :=
 pc_miss _ (fun j => by rw [tail_data, List.getElem?_drop]; exact h _ (by omega))
def names (p : ByteArray) : List ByteArray := if p.toList == [47] then [] else pc (p.extract 1 p.size)
def nmOk (p : ByteArray) : Bool := p.toList == [47] || (p.data.toList[0]? == some 47 && decide ((pc (p.extract 1 p.size)).length ≤ 6) && (pc (p.extract 1 p.size)).all okName)
theorem info9 : (Tryz.prog.info? 9).map (fun i => (i.zero, i.size, i.bytes)) = some (some (.string ⟨#[]⟩), 1, 16) := by kernel_rfl
theorem byte_at (p : ByteArray) (k : Nat) (h : k < p.size) : p.data.toList[k]? = some p[k] := by
 rw [List.getElem?_eq_getElem (by simpa using h)]; rfl
theorem slash_iff (p : ByteArray) (k : Nat) (h : k < p.size) : ((p[k].toNat : Int) != 47) = true ↔ p.data.toList[k]? ≠ some 47 := by
 rw [byte_at p k h, bne_iff_ne]
 constructor
 ·intro h1 h2; rw [Option.some.injEq] at h2; rw [h2] at h1; exact h1 rfl
 ·intro h1 h2; exact h1 (by rw [Option.some.injEq]; exact UInt8.toNat_inj.1 (by have : p[k].toNat = 47 := by omega
                                                                                rw [this]; rfl))
theorem pc_bound (p : ByteArray) : (pc p).length ≤ p.size + 1 := by
 have := Lib.splitB_length_le ⟨#[47]⟩ 0 (Lib.countB p ⟨#[47]⟩) p
 have h2 := Lib.countB_le ⟨#[47]⟩ (Nat.le_refl 1) p.size p (Nat.le_refl _)
 unfold pc; omega
theorem names_ref (p : ByteArray) (w : World) (hp : p.size ≤ 2000000) :
  Calls Tryz.prog 103 #[.string p] w fun e w' => ∃ a n c, e = .returned (.tuple #[.slice a n c, .bool (nmOk p)]) ∧ (nmOk p = true → n = (names p).length) ∧ Below w.heap.size w w' := by
 obtain ⟨b, hb⟩ : ∃ b, b = nmOk p := ⟨_, rfl⟩
 rw [← hb]
 cases h0 : (p.toList == [47]) with
 | true =>
  obtain rfl : b = true := by rw [hb]; simp [nmOk, h0]
  have hnm : (names p).length = 0 := by simp [names, h0]
  have HN := hide hnm
  clear hb hnm
  go_enter Tryz.func103, Tryz.ntmps103
  go_wp2
  go_ret2
  exact ⟨none, 0, 0, rfl, fun _ => (unhide HN).symm, Below.refl _ _⟩
 | false =>
 have he := empty_iff p
 by_cases h1 : p.size < 1
 ·have he' : p.toList.isEmpty = true := by rw [he]; exact decide_eq_true h1
  obtain rfl : b = false := by
   rw [hb]; unfold nmOk; rw [h0]
   have : p.data.toList[0]? = none := by rw [List.getElem?_eq_none]; have : p.data.toList.length = p.size := Array.length_toList; omega
   rw [this]; rfl
  clear hb he
  go_enter Tryz.func103, Tryz.ntmps103
  go_wp2
  go_ret2
  exact ⟨none, 0, 0, rfl, fun h => (by cases h), Below.refl _ _⟩
 have he' : p.toList.isEmpty = false := by rw [he]; exact decide_eq_false h1
 have hp0 : 0 < p.size := by omega
 clear he
 have hsl := slash_iff p 0 hp0
 cases h2 : ((p[0].toNat : Int) != 47) with
 | true =>
  have hne := hsl.1 h2
  obtain rfl : b = false := by
   rw [hb]; unfold nmOk; rw [h0]
   have : (p.data.toList[0]? == some 47) = false := by simpa using hne
   rw [this]; rfl
  clear hb hsl hne
  go_enter Tryz.func103, Tryz.ntmps103
  go_wp2
  go_ret2
  exact ⟨none, 0, 0, rfl, fun h => (by cases h), Below.refl _ _⟩
 | false =>
 have h47 : p.data.toList[0]? = some 47 := by
  by_cases h : p.data.toList[0]? = some 47
  ·exact h
  ·have := hsl.2 h; rw [h2] at this; cases this
 have hb2 : b = (decide ((pc (p.extract 1 p.size)).length ≤ 6) && (pc (p.extract 1 p.size)).all okName) := by rw [hb]; simp [nmOk, h0, h47]
 have hnm : names p = pc (p.extract 1 p.size) := by simp [names, h0]
 have HB := hide hb2
 have HN := hide hnm
 obtain ⟨i0, hi0, hz0, hz1, hz2⟩ := info_parts info9
 have hpb := pc_bound (p.extract 1 p.size)
 have hps : (p.extract 1 p.size).size ≤ p.size := by simp [ByteArray.size_extract]
 have HPB := hide (show (pc (p.extract 1 p.size)).length ≤ 2000001 by omega)
 clear hb hb2 hnm hsl h47 hpb hps
 go_enter Tryz.func103, Tryz.ntmps103
 go_wp2_with fail
 go_loopw [4, 5, 6] (fun v f i wr => ∃ (a : Option Addr) (n c fr k : Nat) (l : List ByteArray), v = .slice a n c ∧ f = .int .i64 fr ∧ i = .int .i64 k ∧ 1 ≤ fr ∧ fr ≤ k ∧ k ≤ p.size + 1 ∧ n = l.length ∧
   Hid (Sl wr 9 1 (.slice a n c) l.length (l.map .string)) ∧ Hid (k ≤ p.size → pc (p.extract 1 p.size) = l ++ pc (p.extract fr p.size)) ∧ Hid (k = p.size + 1 → pc (p.extract 1 p.size) = l) ∧ Hid (∀ g, (Value.slice a n c).ownBlock = some g → w.heap.size ≤ g) ∧ Hid (l.all okName = true) ∧ Hid (∀ j, fr ≤ j → j < k → p.data.toList[j]? ≠ some 47) ∧ Below w.heap.size w wr) (fun _ _ i _ => p.size + 1 - (intOf i).toNat)
 case atStart => exact ⟨none, 0, 0, 1, 1, [], rfl, rfl, rfl, Nat.le_refl _, Nat.le_refl _, by omega, rfl, ⟨rfl, .inl ⟨rfl, rfl⟩⟩, fun _ => rfl, fun h => by omega, fun g h => by simp [Value.ownBlock] at h, rfl, fun j h1 h2 => by omega, Below.refl _ _⟩
 case round =>
  obtain ⟨a, n, c, fr, k, l, rfl, rfl, rfl, hf1, hfk, hk, hn, hS, hpc, hpe, hown, hall, hno, hB⟩ := hrel
  by_cases hke : k = p.size + 1
  ·have hn' := unhide hpe hke
   have hb3 : b = decide ((n : Int) ≤ 6) := by
    rw [unhide HB, hn', unhide hall, hn]; simp; omega
   have hnl : n = (names p).length := by rw [unhide HN, hn', hn]
   have HNL := hide hnl
   have HB3 := hide hb3
   clear hb3 hnl hn hn' HB hS hpc hpe hall hno
   subst hke
   have hd : ¬ ((p.size : Int) + 1 ≤ p.size) := by omega
   have e3 := unhide HB3
   subst e3
   go_wp2
   go_ret2
   exact ⟨a, n, ⟨c, rfl⟩, fun _ => unhide HNL, hB⟩
  have hk' : k ≤ p.size := by omega
  have hpk := unhide hpc hk'
  -- not yet at a piece's end
  by_cases hin : k < p.size ∧ p.data.toList[k]? ≠ some 47
  ·obtain ⟨hlt, hne⟩ := hin
   have hq := (slash_iff p k hlt).2 hne
   have HNE := hide hne
   have HN0 := hide hn
   clear hne hn hke
   go_wp2
   go_roundw
   case rel => exact ⟨a, n, c, fr, k + 1, l, rfl, rfl, by go_num, hf1, by omega, by omega, unhide HN0, hS, fun _ => hpk, fun h => by omega, hown, hall, fun j h1 h2 => by
    rcases Nat.lt_or_ge j k with h | h
    ·exact unhide hno j h1 h
    ·obtain rfl : j = k := by omega
     exact unhide HNE, hB⟩
   case measure => simp [intOf]; omega
  ·obtain ⟨rest, hrest, hr1, hr2⟩ : ∃ rest, pc (p.extract fr p.size) = p.extract fr k :: rest ∧ (k + 1 ≤ p.size → rest = pc (p.extract (k + 1) p.size)) ∧ (k + 1 = p.size + 1 → rest = []) := by
    by_cases hlt : k < p.size
    ·have h47 : p.data.toList[k]? = some 47 := by
      by_cases h : p.data.toList[k]? = some 47
      ·exact h
      ·exact absurd ⟨hlt, h⟩ hin
     exact ⟨_, pc_step p fr k hfk (unhide hno) h47, fun _ => rfl, fun h => by omega⟩
    ·obtain rfl : k = p.size := by omega
     exact ⟨[], pc_last p fr (fun j h1 h2 => by
      rcases Nat.lt_or_ge j p.size with h | h
      ·exact unhide hno j h1 h h2
      ·rw [List.getElem?_eq_none (by have : p.data.toList.length = p.size := Array.length_toList; omega)] at h2; cases h2), fun h => by omega, fun _ => rfl⟩
   have hdec : (¬ k < p.size) ∨ (k < p.size ∧ ∃ h : k < p.size, ((p[k].toNat : Int) != 47) = false) := by
    by_cases hlt : k < p.size
    ·refine .inr ⟨hlt, hlt, ?_⟩
     cases h : ((p[k].toNat : Int) != 47) with
     | false => rfl
     | true => exact absurd ⟨hlt, (slash_iff p k hlt).1 h⟩ hin
    ·exact .inl hlt
   have hfull : pc (p.extract 1 p.size) = (l ++ [p.extract fr k]) ++ rest := by rw [hpk, hrest, List.append_assoc]; rfl
   have hsz : (p.extract fr k).size ≤ maxLen := by unfold maxLen; simp [ByteArray.size_extract]; omega
   have hll : l.length + 1 ≤ 2000001 := by
    have := unhide HPB
    rw [hfull] at this; simp at this; omega
   have HF := hide hfull
   have HIN := hide hin
   have hR1 := hide hr1
   have hR2 := hide hr2
   have HNN := hide hn
   clear hrest hr1 hr2 hin hpk hfull hn hke
   obtain ⟨a', n', c', w1, hr, hH⟩ : ∃ a' n' c' w', (Builtin.append_ #[84, 84] 84 #[.slice a n c, .slice (some ⟨wr.heap.size, 0, none⟩) 1 1]).run Tryz.prog (wr.alloc (.cells #[.string (p.extract fr k)] 9)) = .ok (.slice a' n' c') w' ∧ Hid (n' = (l ++ [p.extract fr k]).length ∧ Sl w' 9 1 (.slice a' n' c') (l ++ [p.extract fr k]).length ((l ++ [p.extract fr k]).map .string) ∧ Below w.heap.size w w' ∧ ∀ g, (Value.slice a' n' c').ownBlock = some g → w.heap.size ≤ g) := by
    have hS1 : Sl (wr.alloc (.cells #[.string (p.extract fr k)] 9)) 9 1 (.slice a n c) l.length (l.map .string) := Sl.of_owns ((unhide hS).owns.alloc _)
    have hal : Below wr.heap.size wr (wr.alloc (.cells #[.string (p.extract fr k)] 9)) := (Below.refl _ _).alloc (Nat.le_refl _) _
    obtain ⟨v', w', h1, h2, h3, h4⟩ := append_new (P := Tryz.prog) (wr.alloc (.cells #[.string (p.extract fr k)] 9)) 84 84 9 i0 _ 1 16 Tryz.underlying84 hi0 hz0 hz1 hz2 rfl (by decide) (.slice a n c) l.length (l.map .string) hS1 ⟨wr.heap.size, 0, none⟩ 1 1 [.string (p.extract fr k)] rfl
     (fun j u hu => by
      rw [Addr.add_lit, Nat.zero_add, World.cell?_alloc_at _ _ _ _ rfl]
      simpa using hu) (by simp [Value.oneCell']) (by unfold maxLen; omega) (by omega)
    obtain ⟨a', n', c', rfl⟩ := h2.shape
    have hn' : n' = l.length + 1 := by
     rcases h2.2 with ⟨h, h'⟩ | ⟨g, cap, L, h, _⟩
     ·omega
     ·cases h; rfl
    refine ⟨a', n', c', w', h1, by simpa using hn', by simpa using h2, ?_⟩
    refine ⟨⟨h3.os.trans hB.os, h3.tape.trans hB.tape, h3.output.trans hB.output, Nat.le_trans hB.size (Nat.le_trans hal.size h3.size), fun i hi => ?_⟩, fun g hg => ?_⟩
    rotate_left
    ·rcases h4 g hg with h | h
     ·exact unhide hown g h
     ·have := hal.size; have := hB.size; omega
    have hiw : i < wr.heap.size := Nat.lt_of_lt_of_le hi hB.size
    rw [h3.block i (Nat.lt_of_lt_of_le hiw hal.size) (fun e => ?_), hal.block i hiw, hB.block i hi]
    have := unhide hown i e.symm
    omega
   cases hok : okName (p.extract fr k) with
   | false =>
    obtain rfl : b = false := by rw [unhide HB, unhide HF]; simp [hok]
    clear hr HB
    rcases hdec with hdec | ⟨hlt, _, hq⟩
    ·go_wp2_with (go_at_call 162; refine (isName_ref _ _ hsz).mono ?_; rintro e w' ⟨rfl, rfl⟩)
     go_ret2
     exact ⟨none, 0, 0, rfl, fun h => (by cases h), hB⟩
    ·go_wp2_with (go_at_call 162; refine (isName_ref _ _ hsz).mono ?_; rintro e w' ⟨rfl, rfl⟩)
     go_ret2
     exact ⟨none, 0, 0, rfl, fun h => (by cases h), hB⟩
   | true =>
    rcases hdec with hdec | ⟨hlt, _, hq⟩
    ·go_wp2_with (first | (go_at_call 162; refine (isName_ref _ _ hsz).mono ?_; rintro e w' ⟨rfl, rfl⟩) | (at_builtin; refine Lib.wpList_append_run _ rfl _ _ 84 84 rfl _ _ rfl rfl _ _ hr ?_))
     go_roundw
     case rel => exact ⟨a', n', c', k + 1, k + 1, l ++ [p.extract fr k], rfl, by go_num, by go_num, by omega, Nat.le_refl _, by omega, (unhide hH).1, (unhide hH).2.1, fun h => by rw [unhide HF, unhide hR1 h], fun h => by rw [unhide HF, unhide hR2 h, List.append_nil], (unhide hH).2.2.2, by show List.all _ _ = true; rw [List.all_append, unhide hall]; simp [hok], fun j h1 h2 => by omega, (unhide hH).2.2.1⟩
     case measure => simp [intOf]; omega
    ·go_wp2_with (first | (go_at_call 162; refine (isName_ref _ _ hsz).mono ?_; rintro e w' ⟨rfl, rfl⟩) | (at_builtin; refine Lib.wpList_append_run _ rfl _ _ 84 84 rfl _ _ rfl rfl _ _ hr ?_))
     go_roundw
     case rel => exact ⟨a', n', c', k + 1, k + 1, l ++ [p.extract fr k], rfl, by go_num, by go_num, by omega, Nat.le_refl _, by omega, (unhide hH).1, (unhide hH).2.1, fun h => by rw [unhide HF, unhide hR1 h], fun h => by rw [unhide HF, unhide hR2 h, List.append_nil], (unhide hH).2.2.2, by show List.all _ _ = true; rw [List.all_append, unhide hall]; simp [hok], fun j h1 h2 => by omega, (unhide hH).2.2.1⟩
     case measure => simp [intOf]; omega
theorem slash_or (l : List UInt8) : (∀ j : Nat, l[j]? ≠ some 47) ∨ ∃ i : Nat, (∀ j, j < i → l[j]? ≠ some 47) ∧ l[i]? = some 47 := by
 induction l with
 | nil => exact .inl (by simp)
 | cons a l ih =>
  by_cases h : a = 47
  ·exact .inr ⟨0, fun j hj => absurd hj (Nat.not_lt_zero _), by simp [h]⟩
  ·rcases ih with ih | ⟨i, h1, h2⟩
   ·exact .inl (fun j => by cases j with
     | zero => simp [h]
     | succ j => simpa using ih j)
   ·exact .inr ⟨i + 1, fun j hj => by
     cases j with
     | zero => simp [h]
     | succ j => simpa using h1 j (by omega), by simpa using h2⟩
theorem le_sum_nat (l : List Nat) (x : Nat) (h : x ∈ l) : x ≤ l.sum := by
 induction l with
 | nil => cases h
 | cons a l ih =>
  rw [List.sum_cons]
  rcases List.mem_cons.1 h with rfl | h
  ·omega
  ·have := ih h; omega
theorem pc_sum : ∀ (k : Nat) (s : ByteArray), s.size ≤ k → ((pc s).map (fun x => x.size + 1)).sum = s.size + 1 := by
 intro k
 induction k with
 | zero =>
  intro s hs
  have h0 : s.data.toList = [] := List.eq_nil_of_length_eq_zero (by have : s.data.toList.length = s.size := Array.length_toList; omega)
  rw [pc_miss s (fun j => by rw [h0]; simp)]; simp
 | succ k ih =>
  intro s hs
  rcases slash_or s.data.toList with h | ⟨i, h1, h2⟩
  ·rw [pc_miss s h]; simp
  ·have hi : i < s.size := (List.getElem?_eq_some_iff.1 h2).1
   rw [pc_hit s i h1 h2, List.map_cons, List.sum_cons, ih _ (by simp [ByteArray.size_extract]; omega)]
   simp [ByteArray.size_extract]; omega
theorem sum_le (l : List ByteArray) (h : l.all okName = true) : (l.map (fun x => x.size + 1)).sum ≤ l.length * 13 := by
 induction l with
 | nil => simp
 | cons a l ih =>
  simp only [List.all_cons, Bool.and_eq_true] at h
  have := ih h.2
  have ha : a.size ≤ 12 := by
   have h1 := h.1
   simp only [okName, Bool.and_eq_true, decide_eq_true_eq] at h1
   exact h1.1.2
  simp only [List.map_cons, List.sum_cons, List.length_cons]; omega
theorem nmOk_size (p : ByteArray) (h : nmOk p = true) : p.size ≤ 78 := by
 unfold nmOk at h
 rw [Bool.or_eq_true] at h
 rcases h with h | h
 ·have h1 : p.toList = [47] := by simpa using h
  rw [ByteArray.toList_eq] at h1
  have : p.data.toList.length = p.size := Array.length_toList
  rw [h1] at this; simp at this; omega
 ·simp only [Bool.and_eq_true, decide_eq_true_eq] at h
  have h1 := pc_sum _ (p.extract 1 p.size) (Nat.le_refl _)
  have h2 := sum_le _ h.2
  have h3 : (p.extract 1 p.size).size = p.size - 1 := by simp [ByteArray.size_extract]
  have := h.1.2
  omega
theorem hasSlash (p : ByteArray) : Lib.hasPrefix p.data.toList [47] = (p.data.toList[0]? == some 47) := by
 cases h : p.data.toList with
 | nil => rfl
 | cons a l => rw [Bool.eq_iff_iff]; simp [Lib.hasPrefix, List.isPrefixOf]; exact eq_comm
def NmPost (p : ByteArray) (w : World) (e : Ending) (w' : World) : Prop :=
 ((nmOk p = false ∧ e = .returned (.tuple #[.slice none 0 0, .bool false])) ∨
  (nmOk p = true ∧ ∃ a c, e = .returned (.tuple #[.slice a (names p).length c, .bool true]) ∧ Sl w' 9 1 (.slice a (names p).length c) (names p).length ((names p).map .string))) ∧ Below w.heap.size w w'
theorem names_code (p : ByteArray) (m : Int) (w : World) (hp : p.size ≤ 2000000) (hm : w.cell? ⟨0, 0, none⟩ = some (.int .i64 m)) : Calls Tryz.prog 224 #[.string p] w (NmPost p w) := by
 obtain ⟨b, hb⟩ : ∃ b, b = nmOk p := ⟨_, rfl⟩
 cases h0 : (p.toList == [47]) with
 | true =>
  have hnm : names p = [] := by simp [names, h0]
  have hok : nmOk p = true := by simp [nmOk, h0]
  have HF := hide (show NmPost p w (.returned (.tuple #[.slice none 0 0, .bool true])) w from ⟨.inr ⟨hok, none, 0, by rw [hnm]; rfl, by rw [hnm]; exact ⟨rfl, .inl ⟨rfl, rfl⟩⟩⟩, Below.refl _ _⟩)
  clear hb hnm hok
  go_enter Tryz.func224, Tryz.ntmps224
  go_wp2
  go_ret2
  exact unhide HF
 | false =>
 by_cases h78 : 78 < p.size
 ·have hok : nmOk p = false := by
   cases h : nmOk p with
   | false => rfl
   | true => have := nmOk_size p h; omega
  have HF := hide (show NmPost p w (.returned (.tuple #[.slice none 0 0, .bool false])) w from ⟨.inl ⟨hok, rfl⟩, Below.refl _ _⟩)
  clear hb hok
  go_enter Tryz.func224, Tryz.ntmps224
  go_wp2
  go_ret2
  exact unhide HF
 cases h1 : (p.data.toList[0]? == some 47) with
 | false =>
  have hok : nmOk p = false := by simp only [nmOk, h0, h1]; rfl
  have HF := hide (show NmPost p w (.returned (.tuple #[.slice none 0 0, .bool false])) w from ⟨.inl ⟨hok, rfl⟩, Below.refl _ _⟩)
  have hpre := hasSlash p
  rw [h1] at hpre
  clear hb hok h1
  go_enter Tryz.func224, Tryz.ntmps224
  go_wp2_with (go_at_call 194; refine (Tryz.strings_HasPrefix _ _ _).mono ?_; rintro e w' ⟨rfl, rfl⟩)
  go_ret2
  exact unhide HF
 | true =>
  have hpre := hasSlash p
  rw [h1] at hpre
  have hp1 : 1 ≤ p.size := by
   have : p.data.toList[0]? = some 47 := by simpa using h1
   have h2 := (List.getElem?_eq_some_iff.1 this).1
   have h3 : p.data.toList.length = p.size := Array.length_toList
   omega
  have hnm : names p = pc (p.extract 1 p.size) := by simp [names, h0]
  have hok : nmOk p = (decide ((pc (p.extract 1 p.size)).length ≤ 6) && (pc (p.extract 1 p.size)).all okName) := by simp only [nmOk, h0, h1]; simp
  have hcl : (pc (p.extract 1 p.size)).length = Lib.countB (p.extract 1 p.size) ⟨#[47]⟩ + 1 := Lib.splitB_all ⟨#[47]⟩ (Nat.le_refl 1) 0 _ _ rfl
  have hsp := Tryz.strings_Split (p.extract 1 p.size) ⟨#[47]⟩ m w (by simp [ByteArray.size_extract]; omega) hm (Nat.le_refl 1)
  rw [← hcl] at hsp
  change Calls Tryz.prog 262 #[.string (p.extract 1 p.size), .string ⟨#[47]⟩] w fun e w' => e = .returned (.slice (some ⟨w.heap.size, 0, none⟩) (pc (p.extract 1 p.size)).length (pc (p.extract 1 p.size)).length) ∧ w' = w.alloc (.cells ((pc (p.extract 1 p.size)).map Value.string).toArray 9) at hsp
  have hbd := pc_bound (p.extract 1 p.size)
  have hbs : (p.extract 1 p.size).size ≤ 2000000 := by simp [ByteArray.size_extract]; omega
  have hsizes : ∀ x ∈ pc (p.extract 1 p.size), x.size ≤ 2000001 := fun x hx => by
   have h1 := pc_sum _ (p.extract 1 p.size) (Nat.le_refl _)
   have h2 : x.size + 1 ≤ ((pc (p.extract 1 p.size)).map (fun x => x.size + 1)).sum := le_sum_nat _ _ (List.mem_map.2 ⟨x, hx, rfl⟩)
   omega
  obtain ⟨P, hP⟩ : ∃ P, P = pc (p.extract 1 p.size) := ⟨_, rfl⟩
  have hS0 : Sl (w.alloc (.cells (P.map Value.string).toArray 9)) 9 1 (.slice (some ⟨w.heap.size, 0, none⟩) P.length P.length) P.length (P.map .string) :=
   ⟨by simp, .inr ⟨_, P.length, P.map .string, rfl, heap_alloc_new w _, Nat.le_refl _, by unfold maxLen; rw [hP]; omega, by simp, by rw [Nat.mul_one]; exact List.take_of_length_le (by simp)⟩⟩
  have hal : Below w.heap.size w (w.alloc (.cells (P.map Value.string).toArray 9)) := (Below.refl _ _).alloc (Nat.le_refl _) _
  rw [← hP] at hnm hok hsp hbd hsizes
  have HT : Hid (P.length ≤ 6 → P.all okName = true → NmPost p w (.returned (.tuple #[.slice (some ⟨w.heap.size, 0, none⟩) P.length P.length, .bool true])) (w.alloc (.cells (P.map Value.string).toArray 9))) := fun h1 h2 =>
   ⟨.inr ⟨by rw [hok, h2]; simp [h1], some ⟨w.heap.size, 0, none⟩, P.length, by rw [hnm], by rw [hnm]; exact hS0⟩, hal⟩
  have HFL : Hid ((¬ P.length ≤ 6) ∨ P.all okName = false → NmPost p w (.returned (.tuple #[.slice none 0 0, .bool false])) (w.alloc (.cells (P.map Value.string).toArray 9))) := fun h =>
   ⟨.inl ⟨by rw [hok]; rcases h with h | h <;> simp [h], rfl⟩, hal⟩
  have hc : ∀ k, (w.alloc (.cells (P.map Value.string).toArray 9)).cell? ⟨w.heap.size, k, none⟩ = (P[k]?).map Value.string := fun k => by
   rw [World.cell?_alloc_at _ _ _ _ rfl]; simp
  have HC := hide hc
  have HSZ := hide hsizes
  have hPl : P.length ≤ 2000001 := by omega
  clear hb hok hcl hbd hbs hP hS0 hal hnm hc hsizes h1
  by_cases h6 : 6 < P.length
  ·go_enter Tryz.func224, Tryz.ntmps224
   go_wp2_with (first | (go_at_call 194; refine (Tryz.strings_HasPrefix _ _ _).mono ?_; rintro e w' ⟨rfl, hw⟩; rw [hw]; clear hw) | (go_at_call 262; refine hsp.mono ?_; rintro e w' ⟨rfl, rfl⟩))
   go_ret2
   exact unhide HFL (.inl (by omega))
  ·go_enter Tryz.func224, Tryz.ntmps224
   go_wp2_with (first | (go_at_call 194; refine (Tryz.strings_HasPrefix _ _ _).mono ?_; rintro e w' ⟨rfl, hw⟩; rw [hw]; clear hw) | (go_at_call 262; refine hsp.mono ?_; rintro e w' ⟨rfl, rfl⟩))
   go_loop [25, 6] (fun i _ => ∃ k : Nat, k ≤ P.length ∧ i = .int .i64 k ∧ Hid ((P.take k).all okName = true)) (fun i _ => P.length - (intOf i).toNat)
   case atStart => exact ⟨0, Nat.zero_le _, rfl, rfl⟩
   case round =>
    obtain ⟨k, hk, rfl, hall⟩ := hrel
    by_cases hlt : k < P.length
    ·have hx : P[k]? = some P[k] := List.getElem?_eq_getElem hlt
     have q : (w.alloc (.cells (P.map Value.string).toArray 9)).cell? ⟨w.heap.size, k, none⟩ = some (.string P[k]) := by rw [unhide HC, hx]; rfl
     have hsz : P[k].size ≤ maxLen := by unfold maxLen; have := unhide HSZ P[k] (List.getElem_mem _); omega
     cases hokk : okName P[k] with
     | false =>
      have hf : P.all okName = false := by rw [List.all_eq_false]; exact ⟨P[k], List.getElem_mem _, by simp [hokk]⟩
      have HX := hide (unhide HFL (.inr hf))
      clear hf hx
      go_wp2_with (go_at_call 263; refine (isName_code _ _ hsz).mono ?_; rintro e w' ⟨rfl, rfl⟩)
      go_ret2
      exact unhide HX
     | true =>
      have hs1 : (P.take (k + 1)).all okName = true := by
       rw [List.take_succ_eq_append_getElem hlt, List.all_append, unhide hall]; simp [hokk]
      have HS1 := hide hs1
      clear hs1 hx
      go_wp2_with (go_at_call 263; refine (isName_code _ _ hsz).mono ?_; rintro e w' ⟨rfl, rfl⟩)
      go_round
      case rel => exact ⟨k + 1, by omega, by go_num, HS1⟩
      case measure => simp [intOf]; omega
    ·obtain rfl : k = P.length := by omega
     have ha := unhide hall
     rw [List.take_length] at ha
     have HX := hide (unhide HT (by omega) ha)
     clear ha hall
     go_wp2
     go_ret2
     exact unhide HX
def clL (x : ByteArray × Int) : List Value := [.string x.1, .int .i64 x.2]
def cellsL (es : List (ByteArray × Int)) : List Value := es.flatMap clL
theorem cellsL_length (es : List (ByteArray × Int)) : (cellsL es).length = es.length * 2 := by
 induction es with
 | nil => rfl
 | cons a l ih => simp [cellsL, clL] at ih ⊢; omega
theorem cellsL_append (a b : List (ByteArray × Int)) : cellsL (a ++ b) = cellsL a ++ cellsL b := by simp [cellsL]
theorem cellsL_one (es : List (ByteArray × Int)) : ∀ u ∈ cellsL es, u.oneCell' = true := by
 intro u hu
 simp only [cellsL, List.mem_flatMap, clL, List.mem_cons, List.mem_nil_iff, or_false] at hu
 obtain ⟨x, _, rfl | rfl⟩ := hu <;> simp [Value.oneCell']
theorem cellsL_at (es : List (ByteArray × Int)) (k : Nat) (x : ByteArray × Int) (h : es[k]? = some x) : (cellsL es)[k * 2]? = some (.string x.1) ∧ (cellsL es)[k * 2 + 1]? = some (.int .i64 x.2) := by
 induction es generalizing k with
 | nil => simp at h
 | cons a l ih =>
  cases k with
  | zero => simp at h; subst h; simp [cellsL, clL]
  | succ k =>
   simp at h
   have := ih k h
   simp only [cellsL, List.flatMap_cons] at this ⊢
   have e : ∀ r, (clL a ++ List.flatMap clL l)[(k + 1) * 2 + r]? = (List.flatMap clL l)[k * 2 + r]? := fun r => by
    rw [List.getElem?_append_right (by simp [clL]; omega)]; congr 1; simp [clL]; omega
   have e0 := e 0
   simp only [Nat.add_zero] at e0
   rw [e0, e 1]; exact this
def RdL (w : World) (a : Option Addr) (L : List (ByteArray × Int)) : Prop := ∀ (k : Nat) (x : ByteArray × Int), L[k]? = some x → ∃ g, a = some ⟨g, 0, none⟩ ∧ w.cell? ⟨g, k * 2, none⟩ = some (.string x.1) ∧ w.cell? ⟨g, k * 2 + 1, none⟩ = some (.int .i64 x.2)
theorem Sl.rdL {w : World} {v : Value} {L : List (ByteArray × Int)} (h : Sl w 103 2 v L.length (cellsL L)) : ∃ a c, v = .slice a L.length c ∧ RdL w a L := by
 rcases h.2 with ⟨rfl, h0⟩ | ⟨g, cap, R, rfl, hR, hc, hcm, hL, hT⟩
 ·have : L = [] := List.eq_nil_of_length_eq_zero h0
  subst this
  exact ⟨none, 0, rfl, fun k x h => by simp at h⟩
 ·refine ⟨_, cap, rfl, fun k x hx => ⟨g, rfl, ?_, ?_⟩⟩
  ·have := (cellsL_at L k x hx).1
   rw [hR.cell]; rw [← hT, List.getElem?_take] at this
   split at this
   ·exact this
   ·cases this
  ·have := (cellsL_at L k x hx).2
   rw [hR.cell]; rw [← hT, List.getElem?_take] at this
   split at this
   ·exact this
   ·cases this
def FindIs (L : List (ByteArray × Int)) (p : ByteArray) (r : Int) : Prop :=
 (r = -1 ∧ ∀ (k : Nat) x, L[k]? = some x → x.1 ≠ p) ∨ (∃ (k : Nat) (x : ByteArray × Int), r = k ∧ L[k]? = some x ∧ x.1 = p ∧ ∀ (j : Nat) y, j < k → L[j]? = some y → y.1 ≠ p)
theorem find_ref (w : World) (rb : Nat) (v : Value) (L : List (ByteArray × Int)) (p : ByteArray) (hc : w.cell? ⟨rb, 0, none⟩ = some v) (hS : Sl w 103 2 v L.length (cellsL L)) (hn : L.length ≤ 2000000) :
  Calls Tryz.prog 101 #[.pointer (some ⟨rb, 0, none⟩), .string p] w fun e w' => ∃ r, (e = .returned (.int .i64 r) ∧ FindIs L p r) ∧ w' = w := by
 obtain ⟨a, c, rfl, hrd⟩ := hS.rdL
 have HR := hide hrd
 clear hS hrd
 go_enter Tryz.func101, Tryz.ntmps101
 go_wp2
 go_loop [5] (fun i => ∃ k : Nat, k ≤ L.length ∧ i = .int .i64 k ∧ Hid (∀ (j : Nat) y, j < k → L[j]? = some y → y.1 ≠ p)) (fun i => L.length - (intOf i).toNat)
 case atStart => exact ⟨0, Nat.zero_le _, rfl, fun j y h => absurd h (Nat.not_lt_zero _)⟩
 case round =>
  obtain ⟨k, hk, rfl, hno⟩ := hrel
  by_cases hlt : k < L.length
  ·obtain ⟨g, rfl, q0, q1⟩ := unhide HR k _ (List.getElem?_eq_getElem hlt)
   cases hq : (L[k].1.toList == p.toList) with
   | true =>
    have he : L[k].1 = p := toList_inj (by simpa using hq)
    have HF := hide (show FindIs L p (k : Int) from .inr ⟨k, _, rfl, List.getElem?_eq_getElem hlt, he, unhide hno⟩)
    clear he
    go_wp2
    go_ret
    exact ⟨⟨_, rfl, unhide HF⟩, rfl⟩
   | false =>
    have he : L[k].1 ≠ p := fun e => by rw [e] at hq; simp at hq
    have HS : Hid (∀ (j : Nat) y, j < k + 1 → L[j]? = some y → y.1 ≠ p) := fun j y h hy => by
     rcases Nat.lt_or_ge j k with h' | h'
     ·exact unhide hno j y h' hy
     ·obtain rfl : j = k := by omega
      rw [List.getElem?_eq_getElem hlt] at hy; cases hy; exact he
    clear he
    go_wp2
    go_round
    case rel => exact ⟨k + 1, by omega, by go_num, HS⟩
    case measure => simp [intOf]; omega
  ·obtain rfl : k = L.length := by omega
   have HF := hide (show FindIs L p (-1) from .inl ⟨rfl, fun j y hy => unhide hno j y (List.getElem?_eq_some_iff.1 hy).1 hy⟩)
   go_wp2
   go_ret
   exact ⟨⟨_, rfl, unhide HF⟩, rfl⟩
def lastSl : List UInt8 → Option Nat
 | [] => none
 | c :: l => match lastSl l with
  | some k => some (k + 1)
  | none => if c = 47 then some 0 else none
theorem lastSl_none : ∀ {l : List UInt8}, lastSl l = none → ∀ j : Nat, l[j]? ≠ some 47
 | [], _, j => by simp
 | c :: l, h, j => by
  unfold lastSl at h
  cases hl : lastSl l with
  | some k => rw [hl] at h; cases h
  | none =>
   rw [hl] at h
   cases j with
   | zero => simp; intro e; simp [e] at h
   | succ j => simpa using lastSl_none hl j
theorem lastSl_some : ∀ {l : List UInt8} {k : Nat}, lastSl l = some k → l[k]? = some 47 ∧ ∀ j, k < j → l[j]? ≠ some 47
 | [], k, h => by cases h
 | c :: l, k, h => by
  unfold lastSl at h
  cases hl : lastSl l with
  | some k' =>
   rw [hl] at h
   obtain rfl : k = k' + 1 := by simpa using h.symm
   have := lastSl_some hl
   refine ⟨by simpa using this.1, fun j hj => ?_⟩
   cases j with
   | zero => omega
   | succ j => simpa using this.2 j (by omega)
  | none =>
   rw [hl] at h
   by_cases e : c = 47
   ·rw [if_pos e] at h
    obtain rfl : k = 0 := by simpa using h.symm
    refine ⟨by simp [e], fun j hj => ?_⟩
    cases j with
    | zero => omega
    | succ j => simpa using lastSl_none hl j
   ·rw [if_neg e] at h; cases h
def dirOf (p : ByteArray) : ByteArray := p.extract 0 ((lastSl p.data.toList).getD 0)
def HasSl (p : ByteArray) : Prop := ∃ k, lastSl p.data.toList = some k
theorem dir_ref (p : ByteArray) (w : World) (hp : p.size ≤ 2000000) (h : HasSl p) : Calls Tryz.prog 148 #[.string p] w fun e w' => e = .returned (.string (dirOf p)) ∧ w' = w := by
 obtain ⟨k, hk⟩ := h
 obtain ⟨h1, h2⟩ := lastSl_some hk
 have hd : dirOf p = p.extract 0 k := by simp [dirOf, hk]
 have hkl : k < p.size := by
  have h2 := (List.getElem?_eq_some_iff.1 h1).1
  have h3 : p.data.toList.length = p.size := Array.length_toList
  omega
 rw [hd]
 have H1 := hide h1
 have H2 := hide h2
 clear h1 h2 hk hd
 go_enter Tryz.func148, Tryz.ntmps148
 go_wp2
 go_loop [3] (fun i => ∃ n : Nat, k ≤ n ∧ n < p.size ∧ i = .int .i64 n) (fun i => (intOf i).toNat)
 case atStart => exact ⟨p.size - 1, by omega, by omega, by congr 1; omega⟩
 case round =>
  obtain ⟨n, hkn, hn, rfl⟩ := hrel
  by_cases he : n = k
  ·subst he
   have hq : ((p[n].toNat : Int) != 47) = false := by
    cases h : ((p[n].toNat : Int) != 47) with
    | false => rfl
    | true => exact absurd (unhide H1) ((slash_iff p n hn).1 h)
   go_wp2
   go_ret
   exact ⟨rfl, rfl⟩
  ·have hq : ((p[n].toNat : Int) != 47) = true := (slash_iff p n hn).2 (unhide H2 n (by omega))
   go_wp2
   go_round
   case rel => exact ⟨n - 1, by omega, by omega, by congr 1; omega⟩
   case measure => simp [intOf]; omega
def cntT (q : ByteArray × Int → Bool) (L : List (ByteArray × Int)) (k : Nat) : Nat := (L.take k).countP q
theorem cntT_succ (q : ByteArray × Int → Bool) (L : List (ByteArray × Int)) (k : Nat) (h : k < L.length) : cntT q L (k + 1) = cntT q L k + if q L[k] = true then 1 else 0 := by
 unfold cntT
 rw [List.take_succ_eq_append_getElem h, List.countP_append, List.countP_singleton]
theorem cntT_le (q : ByteArray × Int → Bool) (L : List (ByteArray × Int)) (k : Nat) : cntT q L k ≤ k := by
 unfold cntT
 exact Nat.le_trans List.countP_le_length (List.length_take_le _ _)
theorem cntT_all (q : ByteArray × Int → Bool) (L : List (ByteArray × Int)) : cntT q L L.length = L.countP q := by simp [cntT]
def qDir (d : ByteArray) (x : ByteArray × Int) : Bool := (dirOf x.1).toList == d.toList
def qFile (f : Int) (x : ByteArray × Int) : Bool := x.2 == f
theorem within_ref (w : World) (rb : Nat) (v : Value) (L : List (ByteArray × Int)) (d : ByteArray) (hc : w.cell? ⟨rb, 0, none⟩ = some v) (hS : Sl w 103 2 v L.length (cellsL L)) (hn : L.length ≤ 2000000)
  (hok : ∀ x ∈ L, x.1.size ≤ 2000000 ∧ HasSl x.1) :
  Calls Tryz.prog 149 #[.pointer (some ⟨rb, 0, none⟩), .string d] w fun e w' => e = .returned (.int .i64 (L.countP (qDir d) : Nat)) ∧ w' = w := by
 obtain ⟨a, c, rfl, hrd⟩ := hS.rdL
 have HR := hide hrd
 have HO := hide hok
 have HA := hide (cntT_all (qDir d) L)
 clear hS hrd hok
 go_enter Tryz.func149, Tryz.ntmps149
 go_wp2
 go_loop [5, 6] (fun n i => ∃ k : Nat, k ≤ L.length ∧ i = .int .i64 k ∧ n = .int .i64 (cntT (qDir d) L k : Nat)) (fun _ i => L.length - (intOf i).toNat)
 case atStart => exact ⟨0, Nat.zero_le _, rfl, rfl⟩
 case round =>
  obtain ⟨k, hk, rfl, rfl⟩ := hrel
  have hle := cntT_le (qDir d) L k
  by_cases hlt : k < L.length
  ·obtain ⟨g, rfl, q0, q1⟩ := unhide HR k _ (List.getElem?_eq_getElem hlt)
   obtain ⟨hsz, hsl⟩ := unhide HO L[k] (List.getElem_mem _)
   have HSC := hide (cntT_succ (qDir d) L k hlt)
   cases hq : ((dirOf L[k].1).toList == d.toList) with
   | true =>
    have HS : Hid (cntT (qDir d) L (k + 1) = cntT (qDir d) L k + 1) := by show _ = _; rw [unhide HSC, if_pos (show qDir d L[k] = true from hq)]
    go_wp2_with (go_at_call 148; refine (dir_ref _ _ hsz hsl).mono ?_; rintro e w' ⟨rfl, rfl⟩)
    go_round
    case rel => exact ⟨k + 1, by omega, by go_num, by rw [unhide HS]; go_num⟩
    case measure => simp [intOf]; omega
   | false =>
    have HS : Hid (cntT (qDir d) L (k + 1) = cntT (qDir d) L k) := by show _ = _; rw [unhide HSC, if_neg (show ¬ qDir d L[k] = true by unfold qDir; rw [hq]; simp)]; rfl
    go_wp2_with (go_at_call 148; refine (dir_ref _ _ hsz hsl).mono ?_; rintro e w' ⟨rfl, rfl⟩)
    go_round
    case rel => exact ⟨k + 1, by omega, by go_num, by rw [unhide HS]⟩
    case measure => simp [intOf]; omega
  ·obtain rfl : k = L.length := by omega
   go_wp2
   go_ret
   exact ⟨by rw [← unhide HA]; rfl, rfl⟩
theorem links_ref (w : World) (rb : Nat) (v : Value) (L : List (ByteArray × Int)) (f : Int) (hc : w.cell? ⟨rb, 0, none⟩ = some v) (hS : Sl w 103 2 v L.length (cellsL L)) (hn : L.length ≤ 2000000) :
  Calls Tryz.prog 113 #[.pointer (some ⟨rb, 0, none⟩), .int .i64 f] w fun e w' => e = .returned (.int .i64 (L.countP (qFile f) : Nat)) ∧ w' = w := by
 obtain ⟨a, c, rfl, hrd⟩ := hS.rdL
 have HR := hide hrd
 have HA := hide (cntT_all (qFile f) L)
 clear hS hrd
 go_enter Tryz.func113, Tryz.ntmps113
 go_wp2
 go_loop [5, 6] (fun n i => ∃ k : Nat, k ≤ L.length ∧ i = .int .i64 k ∧ n = .int .i64 (cntT (qFile f) L k : Nat)) (fun _ i => L.length - (intOf i).toNat)
 case atStart => exact ⟨0, Nat.zero_le _, rfl, rfl⟩
 case round =>
  obtain ⟨k, hk, rfl, rfl⟩ := hrel
  have hle := cntT_le (qFile f) L k
  by_cases hlt : k < L.length
  ·obtain ⟨g, rfl, q0, q1⟩ := unhide HR k _ (List.getElem?_eq_getElem hlt)
   have HSC := hide (cntT_succ (qFile f) L k hlt)
   cases hq : (L[k].2 == f) with
   | true =>
    have HS : Hid (cntT (qFile f) L (k + 1) = cntT (qFile f) L k + 1) := by show _ = _; rw [unhide HSC, if_pos (show qFile f L[k] = true from hq)]
    go_wp2
    go_round
    case rel => exact ⟨k + 1, by omega, by go_num, by rw [unhide HS]; go_num⟩
    case measure => simp [intOf]; omega
   | false =>
    have HS : Hid (cntT (qFile f) L (k + 1) = cntT (qFile f) L k) := by show _ = _; rw [unhide HSC, if_neg (show ¬ qFile f L[k] = true by unfold qFile; rw [hq]; simp)]; rfl
    go_wp2
    go_round
    case rel => exact ⟨k + 1, by omega, by go_num, by rw [unhide HS]⟩
    case measure => simp [intOf]; omega
  ·obtain rfl : k = L.length := by omega
   go_wp2
   go_ret
   exact ⟨by rw [← unhide HA]; rfl, rfl⟩
def look (L : List (ByteArray × Int)) (p : ByteArray) : Option Int := (L.find? (fun x => decide (x.1 = p))).map (·.2)
theorem look_of_find {L : List (ByteArray × Int)} {p : ByteArray} {r : Int} (h : FindIs L p r) : (r = -1 ∧ look L p = none) ∨ (∃ (k : Nat) (x : ByteArray × Int), r = k ∧ L[k]? = some x ∧ x.1 = p ∧ look L p = some x.2) := by
 rcases h with ⟨rfl, h⟩ | ⟨k, x, rfl, h1, h2, h3⟩
 ·refine .inl ⟨rfl, ?_⟩
  unfold look
  rw [List.find?_eq_none.2 (fun x hx => by
   obtain ⟨k, hk⟩ := List.getElem?_of_mem hx
   simpa using h k x hk)]
  rfl
 ·refine .inr ⟨k, x, rfl, h1, h2, ?_⟩
  unfold look
  rw [List.find?_eq_some_iff_getElem.2 ⟨by simpa using h2, k, (List.getElem?_eq_some_iff.1 h1).1, (List.getElem?_eq_some_iff.1 h1).2, fun j hj => by
   have := h3 j _ hj (List.getElem?_eq_getElem (by have := (List.getElem?_eq_some_iff.1 h1).1; omega))
   simpa using this⟩]
  rfl
def prefs (p : ByteArray) : Nat → Nat → List ByteArray
 | 0, _ => []
 | n + 1, i => if p.data.toList[i]? = some 47 then p.extract 0 i :: prefs p n (i + 1) else prefs p n (i + 1)
def aheadP (L : List (ByteArray × Int)) : List ByteArray → Int
 | [] => 0
 | q :: r => match look L q with
  | none => 3
  | some f => if 0 ≤ f then 4 else aheadP L r
theorem ahead_ref (w : World) (rb : Nat) (v : Value) (L : List (ByteArray × Int)) (p : ByteArray) (hc : w.cell? ⟨rb, 0, none⟩ = some v) (hS : Sl w 103 2 v L.length (cellsL L)) (hn : L.length ≤ 2000000) (hp : p.size ≤ 2000000) :
  Calls Tryz.prog 104 #[.pointer (some ⟨rb, 0, none⟩), .string p] w fun e w' => e = .returned (.int .i64 (aheadP L (prefs p (p.size - 1) 1))) ∧ w' = w := by
 have hfind := fun q => find_ref w rb v L q hc hS hn
 obtain ⟨a, c, rfl, hrd⟩ := hS.rdL
 have HR := hide hrd
 have HF := hide hfind
 clear hS hrd hfind
 obtain ⟨r, hr⟩ : ∃ r, r = aheadP L (prefs p (p.size - 1) 1) := ⟨_, rfl⟩
 rw [← hr]
 have HRR := hide hr
 clear hr
 go_enter Tryz.func104, Tryz.ntmps104
 go_wp2
 go_loopw [5] (fun i wr => ∃ k : Nat, 1 ≤ k ∧ (k ≤ p.size ∨ k = 1) ∧ i = .int .i64 k ∧ Hid (r = aheadP L (prefs p (p.size - k) k)) ∧ wr = w) (fun i _ => p.size - (intOf i).toNat)
 case atStart => exact ⟨1, Nat.le_refl _, .inr rfl, rfl, unhide HRR, rfl⟩
 case round =>
  obtain ⟨k, hk1, hk, rfl, hrk, rfl⟩ := hrel
  by_cases hlt : k < p.size
  ·have hsplit : prefs p (p.size - k) k = if p.data.toList[k]? = some 47 then p.extract 0 k :: prefs p (p.size - (k + 1)) (k + 1) else prefs p (p.size - (k + 1)) (k + 1) := by
    rw [show p.size - k = (p.size - (k + 1)) + 1 by omega]; rfl
   by_cases hsl : p.data.toList[k]? = some 47
   ·have hq : ((p[k].toNat : Int) != 47) = false := by
     cases h : ((p[k].toNat : Int) != 47) with
     | false => rfl
     | true => exact absurd hsl ((slash_iff p k hlt).1 h)
    rw [if_pos hsl] at hsplit
    have HSP := hide hsplit
    clear hsplit hsl
    go_wp2_with fail
    refine (unhide HF _).mono ?_
    rintro e w' ⟨f, ⟨rfl, hfi⟩, hw⟩
    rw [hw]; clear hw
    rcases look_of_find hfi with ⟨rfl, hl⟩ | ⟨j, x, rfl, hj, hx, hl⟩
    ·obtain rfl : r = 3 := by rw [unhide hrk, unhide HSP]; simp [aheadP, hl]
     clear hrk HSP HRR
     go_wp2
     go_ret
     exact ⟨rfl, rfl⟩
    ·obtain ⟨g, rfl, q0, q1⟩ := unhide HR j x hj
     have hjl := (List.getElem?_eq_some_iff.1 hj).1
     by_cases hf : 0 ≤ x.2
     ·obtain rfl : r = 4 := by rw [unhide hrk, unhide HSP]; simp [aheadP, hl, hf]
      clear hrk HSP HRR hl hx hj hfi
      go_wp2
      go_ret
      exact ⟨rfl, rfl⟩
     ·have hnx : r = aheadP L (prefs p (p.size - (k + 1)) (k + 1)) := by rw [unhide hrk, unhide HSP]; simp [aheadP, hl, hf]
      have HNX := hide hnx
      clear hrk HSP HRR hl hx hj hfi hnx
      go_wp2
      go_roundw
      case rel => exact ⟨k + 1, by omega, .inl (by omega), by go_num, HNX, trivial⟩
      case measure => simp [intOf]; omega
   ·have hq : ((p[k].toNat : Int) != 47) = true := (slash_iff p k hlt).2 hsl
    rw [if_neg hsl] at hsplit
    have HNX : Hid (r = aheadP L (prefs p (p.size - (k + 1)) (k + 1))) := by show _ = _; rw [unhide hrk, hsplit]
    clear hsplit hsl
    go_wp2
    go_roundw
    case rel => exact ⟨k + 1, by omega, .inl (by omega), by go_num, HNX, trivial⟩
    case measure => simp [intOf]; omega
  ·have h0 : p.size - k = 0 := by omega
   obtain rfl : r = 0 := by rw [unhide hrk, h0]; rfl
   clear hrk HRR
   go_wp2
   go_ret
   exact ⟨rfl, rfl⟩
def RdF (w : World) (a : Option Addr) (F : List ByteArray) : Prop := ∀ (k : Nat) (x : ByteArray), F[k]? = some x → ∃ g, a = some ⟨g, 0, none⟩ ∧ w.cell? ⟨g, k, none⟩ = some (.string x)
theorem Sl.rdF {w : World} {v : Value} {F : List ByteArray} (h : Sl w 9 1 v F.length (F.map .string)) : ∃ a c, v = .slice a F.length c ∧ RdF w a F := by
 rcases h.2 with ⟨rfl, h0⟩ | ⟨g, cap, R, rfl, hR, hc, hcm, hL, hT⟩
 ·have : F = [] := List.eq_nil_of_length_eq_zero h0
  subst this
  exact ⟨none, 0, rfl, fun k x h => by simp at h⟩
 ·refine ⟨_, cap, rfl, fun k x hx => ⟨g, rfl, ?_⟩⟩
  have : (F.map Value.string)[k]? = some (.string x) := by simp [hx]
  rw [hR.cell]; rw [← hT, List.getElem?_take] at this
  split at this
  ·exact this
  ·cases this
structure RefC (w : World) (rb : Nat) (vl vf : Value) (L : List (ByteArray × Int)) (F : List ByteArray) : Prop where
 c0 : w.cell? ⟨rb, 0, none⟩ = some vl
 c1 : w.cell? ⟨rb, 1, none⟩ = some vf
 sl : Sl w 103 2 vl L.length (cellsL L)
 sf : Sl w 9 1 vf F.length (F.map .string)
 nl : L.length ≤ 2000000
 nf : F.length ≤ 2000000
 ok : ∀ x ∈ L, x.1.size ≤ 2000000 ∧ HasSl x.1
 okf : ∀ s ∈ F, s.size ≤ 2000000
def qD (x : ByteArray × Int) : Bool := decide (x.2 < 0)
def liveT (L : List (ByteArray × Int)) (k : Nat) : Nat := (List.range k).countP (fun f : Nat => decide (0 < L.countP (qFile (f : Int))))
theorem liveT_succ (L : List (ByteArray × Int)) (k : Nat) : liveT L (k + 1) = liveT L k + if 0 < L.countP (qFile k) then 1 else 0 := by
 unfold liveT
 rw [List.range_succ, List.countP_append, List.countP_singleton]
 by_cases h : 0 < L.countP (qFile (k : Int)) <;> simp [h]
theorem liveT_le (L : List (ByteArray × Int)) (k : Nat) : liveT L k ≤ k := by
 unfold liveT
 exact Nat.le_trans List.countP_le_length (by simp)
def nodesR (L : List (ByteArray × Int)) (F : List ByteArray) : Nat := 1 + L.countP qD + liveT L F.length
theorem nodes_ref (w : World) (rb : Nat) (vl vf : Value) (L : List (ByteArray × Int)) (F : List ByteArray) (h : RefC w rb vl vf L F) :
  Calls Tryz.prog 152 #[.pointer (some ⟨rb, 0, none⟩)] w fun e w' => e = .returned (.int .i64 (nodesR L F : Nat)) ∧ w' = w := by
 have hl := fun f => links_ref w rb vl L f h.c0 h.sl h.nl
 obtain ⟨a, c, rfl, hrd⟩ := h.sl.rdL
 obtain ⟨a2, c2, rfl, _⟩ := h.sf.rdF
 have hc0 := h.c0
 have hc1 := h.c1
 have hnl := h.nl
 have hnf := h.nf
 have HR := hide hrd
 have HA := hide (cntT_all qD L)
 have HL := hide hl
 obtain ⟨r, hr⟩ : ∃ r, r = nodesR L F := ⟨_, rfl⟩
 rw [← hr]
 have HRR := hide hr
 clear h hrd hl hr
 go_enter Tryz.func152, Tryz.ntmps152
 go_wp2
 go_loop [3, 4] (fun n i => ∃ k : Nat, k ≤ L.length ∧ i = .int .i64 k ∧ n = .int .i64 ((cntT qD L k + 1 : Nat) : Int)) (fun _ i => L.length - (intOf i).toNat)
 case atStart => exact ⟨0, Nat.zero_le _, rfl, rfl⟩
 case round =>
  obtain ⟨k, hk, rfl, rfl⟩ := hrel
  have hle := cntT_le qD L k
  by_cases hlt : k < L.length
  ·obtain ⟨g, rfl, q0, q1⟩ := unhide HR k _ (List.getElem?_eq_getElem hlt)
   have HSC := hide (cntT_succ qD L k hlt)
   by_cases hq : L[k].2 < 0
   ·have HS : Hid (cntT qD L (k + 1) = cntT qD L k + 1) := by show _ = _; rw [unhide HSC, if_pos (show qD L[k] = true by simp [qD, hq])]
    go_wp2
    go_round
    case rel => exact ⟨k + 1, by omega, by go_num, by rw [unhide HS]; go_num⟩
    case measure => simp [intOf]; omega
   ·have HS : Hid (cntT qD L (k + 1) = cntT qD L k) := by show _ = _; rw [unhide HSC, if_neg (show ¬ qD L[k] = true by simp [qD]; omega)]; rfl
    go_wp2
    go_round
    case rel => exact ⟨k + 1, by omega, by go_num, by rw [unhide HS]⟩
    case measure => simp [intOf]; omega
  ·obtain rfl : k = L.length := by omega
   go_wp2_with fail
   go_loopw [3, 5] (fun n i wr => ∃ k : Nat, k ≤ F.length ∧ i = .int .i64 k ∧ n = .int .i64 ((1 + L.countP qD + liveT L k : Nat) : Int) ∧ wr = w) (fun _ i _ => F.length - (intOf i).toNat)
   case atStart => exact ⟨0, Nat.zero_le _, rfl, by rw [unhide HA]; congr 1; simp [liveT]; omega, rfl⟩
   case round =>
    obtain ⟨j, hj, rfl, rfl, rfl⟩ := hrel
    have hle2 := liveT_le L j
    have hcl : L.countP qD ≤ L.length := List.countP_le_length
    by_cases hjlt : j < F.length
    ·have HSC := hide (liveT_succ L j)
     have hcf : L.countP (qFile j) ≤ L.length := List.countP_le_length
     by_cases hq : 0 < L.countP (qFile j)
     ·have HS : Hid (liveT L (j + 1) = liveT L j + 1) := by show _ = _; rw [unhide HSC, if_pos hq]
      go_wp2_with (go_at_call 113; refine (unhide HL _).mono ?_; rintro e w' ⟨rfl, hw⟩; rw [hw]; clear hw)
      go_roundw
      case rel => exact ⟨j + 1, by omega, by go_num, by rw [unhide HS]; go_num, trivial⟩
      case measure => simp [intOf]; omega
     ·have HS : Hid (liveT L (j + 1) = liveT L j) := by show _ = _; rw [unhide HSC, if_neg hq]; rfl
      go_wp2_with (go_at_call 113; refine (unhide HL _).mono ?_; rintro e w' ⟨rfl, hw⟩; rw [hw]; clear hw)
      go_roundw
      case rel => exact ⟨j + 1, by omega, by go_num, by rw [unhide HS]; go_num, trivial⟩
      case measure => simp [intOf]; omega
    ·obtain rfl : j = F.length := by omega
     go_wp2
     go_ret
     exact ⟨by rw [unhide HRR]; rfl, rfl⟩
def useT (L : List (ByteArray × Int)) (F : List ByteArray) : Nat → Nat
 | 0 => 0
 | k + 1 => useT L F k + if 0 < L.countP (qFile (k : Int)) then ((F[k]?.getD ⟨#[]⟩).size + 63) / 64 else 0
theorem useT_yes {L : List (ByteArray × Int)} {F : List ByteArray} {j : Nat} {x : ByteArray} (h : 0 < L.countP (qFile (j : Int))) (hx : F[j]? = some x) : useT L F (j + 1) = useT L F j + (x.size + 63) / 64 := by
 rw [useT, if_pos h, hx]; rfl
theorem useT_no {L : List (ByteArray × Int)} {F : List ByteArray} {j : Nat} (h : ¬ 0 < L.countP (qFile (j : Int))) : useT L F (j + 1) = useT L F j := by
 rw [useT, if_neg h]; rfl
theorem useT_le (L : List (ByteArray × Int)) (F : List ByteArray) (h : ∀ s ∈ F, s.size ≤ 2000000) (k : Nat) : useT L F k ≤ k * 40000 := by
 induction k with
 | zero => simp [useT]
 | succ k ih =>
  unfold useT
  have : ((F[k]?.getD ⟨#[]⟩).size + 63) / 64 ≤ 40000 := by
   cases hk : F[k]? with
   | none => exact (by decide : ((⟨#[]⟩ : ByteArray).size + 63) / 64 ≤ 40000)
   | some x =>
    have := h x (List.mem_of_getElem? hk)
    simp only [Option.getD_some]; omega
  split <;> omega
def usageR (L : List (ByteArray × Int)) (F : List ByteArray) : Nat := useT L F F.length
theorem usage_ref (w : World) (rb : Nat) (vl vf : Value) (L : List (ByteArray × Int)) (F : List ByteArray) (h : RefC w rb vl vf L F) :
  Calls Tryz.prog 52 #[.pointer (some ⟨rb, 0, none⟩)] w fun e w' => e = .returned (.int .i64 (usageR L F : Nat)) ∧ w' = w := by
 have hl := fun f => links_ref w rb vl L f h.c0 h.sl h.nl
 obtain ⟨a2, c2, rfl, hrf⟩ := h.sf.rdF
 have hc1 := h.c1
 have hnl := h.nl
 have hnf := h.nf
 have HL := hide hl
 have HRF := hide hrf
 have HOK := hide h.okf
 obtain ⟨r, hr⟩ : ∃ r, r = usageR L F := ⟨_, rfl⟩
 rw [← hr]
 have HRR := hide hr
 clear h hl hr hrf
 go_enter Tryz.func52, Tryz.ntmps52
 go_wp2_with fail
 go_loopw [3, 4] (fun n i wr => ∃ k : Nat, k ≤ F.length ∧ i = .int .i64 k ∧ n = .int .i64 ((useT L F k : Nat) : Int) ∧ wr = w) (fun _ i _ => F.length - (intOf i).toNat)
 case atStart => exact ⟨0, Nat.zero_le _, rfl, rfl, rfl⟩
 case round =>
  obtain ⟨j, hj, rfl, rfl, rfl⟩ := hrel
  have hle2 := useT_le L F (unhide HOK) j
  by_cases hjlt : j < F.length
  ·have hcf : L.countP (qFile j) ≤ L.length := List.countP_le_length
   have hx : F[j]? = some F[j] := List.getElem?_eq_getElem hjlt
   by_cases hq : 0 < L.countP (qFile j)
   ·have HS : Hid (useT L F (j + 1) = useT L F j + (F[j].size + 63) / 64) := useT_yes hq hx
    obtain ⟨g, rfl, q0⟩ := unhide HRF j _ hx
    have hsz := unhide HOK F[j] (List.getElem_mem _)
    clear hx
    go_wp2_with (go_at_call 113; refine (unhide HL _).mono ?_; rintro e w' ⟨rfl, hw⟩; rw [hw]; clear hw)
    go_roundw
    case rel => exact ⟨j + 1, by omega, by go_num, by rw [unhide HS]; go_num, trivial⟩
    case measure => simp [intOf]; omega
   ·have HS : Hid (useT L F (j + 1) = useT L F j) := useT_no hq
    clear hx
    go_wp2_with (go_at_call 113; refine (unhide HL _).mono ?_; rintro e w' ⟨rfl, hw⟩; rw [hw]; clear hw)
    go_roundw
    case rel => exact ⟨j + 1, by omega, by go_num, by rw [unhide HS], trivial⟩
    case measure => simp [intOf]; omega
  ·obtain rfl : j = F.length := by omega
   go_wp2
   go_ret
   exact ⟨by rw [unhide HRR]; rfl, rfl⟩
def roomR (L : List (ByteArray × Int)) (F : List ByteArray) (p : ByteArray) (n : Nat) : Bool := decide (L.countP (qDir (dirOf p)) < 20 ∧ L.length < 100 ∧ nodesR L F + n ≤ 60)
theorem room_ref (w : World) (rb : Nat) (vl vf : Value) (L : List (ByteArray × Int)) (F : List ByteArray) (h : RefC w rb vl vf L F) (p : ByteArray) (hp : p.size ≤ 2000000) (hsl : HasSl p) (n : Nat) (hn : n ≤ 1) :
  Calls Tryz.prog 102 #[.pointer (some ⟨rb, 0, none⟩), .string p, .int .i64 n] w fun e w' => e = .returned (.bool (roomR L F p n)) ∧ w' = w := by
 have hdir := dir_ref p w hp hsl
 have hwi := within_ref w rb vl L (dirOf p) h.c0 h.sl h.nl h.ok
 have hno := nodes_ref w rb vl vf L F h
 obtain ⟨a, c, rfl, hrd⟩ := h.sl.rdL
 have hc0 := h.c0
 have hnl := h.nl
 have hnf := h.nf
 have hcl : L.countP (qDir (dirOf p)) ≤ L.length := List.countP_le_length
 have hnd : nodesR L F ≤ 4000001 := by
  have h1 : L.countP qD ≤ L.length := List.countP_le_length
  have h2 := liveT_le L F.length
  unfold nodesR; omega
 obtain ⟨r, hr⟩ : ∃ r, r = roomR L F p n := ⟨_, rfl⟩
 rw [← hr]
 unfold roomR at hr
 have HD := hide hdir
 have HW := hide hwi
 have HN := hide hno
 clear h hrd hdir hwi hno
 by_cases h1 : L.countP (qDir (dirOf p)) < 20
 ·by_cases h2 : L.length < 100
  ·by_cases h3 : nodesR L F + n ≤ 60
   ·obtain rfl : r = true := by rw [hr]; simp [h1, h2, h3]
    clear hr
    go_enter Tryz.func102, Tryz.ntmps102
    go_wp2_with (first | (go_at_call 148; refine (unhide HD).mono ?_; rintro e w' ⟨rfl, hw⟩; rw [hw]; clear hw) | (go_at_call 149; refine (unhide HW).mono ?_; rintro e w' ⟨rfl, hw⟩; rw [hw]; clear hw) | (go_at_call 152; refine (unhide HN).mono ?_; rintro e w' ⟨rfl, hw⟩; rw [hw]; clear hw))
    go_ret
    exact ⟨by simp; omega, rfl⟩
   ·obtain rfl : r = false := by rw [hr]; simp [h3]
    clear hr
    go_enter Tryz.func102, Tryz.ntmps102
    go_wp2_with (first | (go_at_call 148; refine (unhide HD).mono ?_; rintro e w' ⟨rfl, hw⟩; rw [hw]; clear hw) | (go_at_call 149; refine (unhide HW).mono ?_; rintro e w' ⟨rfl, hw⟩; rw [hw]; clear hw) | (go_at_call 152; refine (unhide HN).mono ?_; rintro e w' ⟨rfl, hw⟩; rw [hw]; clear hw))
    go_ret
    exact ⟨by simp; omega, rfl⟩
  ·obtain rfl : r = false := by rw [hr]; simp [h2]
   clear hr
   go_enter Tryz.func102, Tryz.ntmps102
   go_wp2_with (first | (go_at_call 148; refine (unhide HD).mono ?_; rintro e w' ⟨rfl, hw⟩; rw [hw]; clear hw) | (go_at_call 149; refine (unhide HW).mono ?_; rintro e w' ⟨rfl, hw⟩; rw [hw]; clear hw) | (go_at_call 152; refine (unhide HN).mono ?_; rintro e w' ⟨rfl, hw⟩; rw [hw]; clear hw))
   go_ret
   exact ⟨by simp, rfl⟩
 ·obtain rfl : r = false := by rw [hr]; simp [h1]
  clear hr
  go_enter Tryz.func102, Tryz.ntmps102
  go_wp2_with (first | (go_at_call 148; refine (unhide HD).mono ?_; rintro e w' ⟨rfl, hw⟩; rw [hw]; clear hw) | (go_at_call 149; refine (unhide HW).mono ?_; rintro e w' ⟨rfl, hw⟩; rw [hw]; clear hw) | (go_at_call 152; refine (unhide HN).mono ?_; rintro e w' ⟨rfl, hw⟩; rw [hw]; clear hw))
  go_ret
  exact ⟨by simp, rfl⟩
end Go.Proofs.YtaieidcohdhgpaaGreatDoor
