/- Files. -/
import Derived.Test.YtaieidcohdhgpaaGreatDoorPAQ
import Derived.Test.YtaieidcohdhgpaaGreatDoorPAH
import Derived.Test.YtaieidcohdhgpaaGreatDoorPAI
import Derived.Defers
namespace Go.Proofs.YtaieidcohdhgpaaGreatDoor
open Go.RowKit
set_option maxHeartbeats 1000000
set_option maxRecDepth 100000
theorem bytesV_length (s : ByteArray) : (bytesV s).length = s.size := by unfold bytesV; rw [List.length_map]; exact Array.length_toList
theorem bytesV_one (s : ByteArray) : ∀ u ∈ bytesV s, u.oneCell' = true := fun u hu => by
 unfold bytesV at hu
 obtain ⟨b, _, rfl⟩ := List.mem_map.1 hu
 rfl
def RdB (w : World) (a : Option Addr) (l c : Nat) (s : ByteArray) : Prop := l = s.size ∧ (a = none → c = 0) ∧ ∀ j v, (bytesV s)[j]? = some v → ∃ x, a = some x ∧ w.cell? (x.add j) = some v
theorem RdB.below {w w' : World} {a : Option Addr} {l c : Nat} {s : ByteArray} (h : RdB w a l c s) (hb : Below w.heap.size w w') : RdB w' a l c s :=
 ⟨h.1, h.2.1, fun j v hv => by
  obtain ⟨x, e, hc⟩ := h.2.2 j v hv
  exact ⟨x, e, (hb.cell (p := x.add j) (World.block_lt_of_cell? _ _ hc)).trans hc⟩⟩
theorem Sl.rdB {w : World} {a : Option Addr} {l c : Nat} {s : ByteArray} (h : Sl w 5 1 (.slice a l c) l (bytesV s)) : RdB w a l c s := by
 refine ⟨by have := h.1; rw [bytesV_length] at this; omega, fun e => ?_, fun j v hv => ?_⟩
 ·subst e
  rcases h.2 with ⟨e, _⟩ | ⟨g, cap, L, e, _⟩
  ·cases e; rfl
  ·cases e
 ·rcases h.2 with ⟨e, h0⟩ | ⟨g, cap, L, e, hR, _, _, _, hT⟩
  ·have h1 := h.1; rw [h0] at h1
   have : bytesV s = [] := List.eq_nil_of_length_eq_zero (by simpa using h1)
   rw [this] at hv; simp at hv
  ·cases e
   refine ⟨_, rfl, ?_⟩
   rw [Addr.add_lit, Nat.zero_add, hR.cell]
   rw [← hT, List.getElem?_take] at hv
   split at hv
   ·exact hv
   ·cases hv
theorem size5 : (Tryz.prog.info? 5).map (·.size) = some 1 := by kernel_rfl
theorem copy_nil (w : World) (g n c : Nat) : (Builtin.copy_ #[59, 59] 3 #[.slice (some ⟨g, 0, none⟩) n c, .slice none 0 0]).run Tryz.prog w = .ok (goInt 0) w := by
 obtain ⟨i0, hi0, hz0, hz1, hz2⟩ := info_parts info5
 simp [Builtin.copy_, run_underlying Tryz.underlying59, Builtin.lenOf, sizeOf, typeInfo, hi0, Builtin.firstCells, storeCells]
theorem bytesV_append (a b : ByteArray) : bytesV (a ++ b) = bytesV a ++ bytesV b := by unfold bytesV; rw [ByteArray.data_append, Array.toList_append, List.map_append]
theorem bytesV_extract (s : ByteArray) (i j : Nat) : bytesV (s.extract i j) = ((bytesV s).drop i).take (j - i) := by
 unfold bytesV; rw [Lib.extract_data]; simp [List.map_drop, List.map_take]
theorem bytesV_zeros (n : Nat) : bytesV ⟨(List.replicate n 0).toArray⟩ = List.replicate n (.int .u8 0) := by unfold bytesV; simp
theorem resized_code (w : World) (a : Option Addr) (l c : Nat) (s : ByteArray) (h : RdB w a l c s) (_hs : s.size ≤ 2000000) (n : Nat) (hn : n ≤ 2000000) :
  Calls Tryz.prog 176 #[.slice a l c, .int .i64 n] w fun e w' => ∃ x, e = .returned (.slice (some ⟨x, 0, none⟩) n n) ∧ w.heap.size ≤ x ∧ Sl w' 5 1 (.slice (some ⟨x, 0, none⟩) n n) n (bytesV (longR s n)) ∧ Below w.heap.size w w' := by
 obtain ⟨i0, hi0, hz0, hz1, hz2⟩ := info_parts info5
 have hcopy : ∀ W : World, W.ownsRow 0 5 1 (.slice (some ⟨w.heap.size, 0, none⟩) n n) n (madeCells (Value.int .u8 0).cells (n * 1)).toList → w.grownBy W none → ∃ W' k, (Builtin.copy_ #[59, 59] 3 #[.slice (some ⟨w.heap.size, 0, none⟩) n n, .slice a l c]).run Tryz.prog W = .ok (goInt k) W' ∧ Hid (Sl W' 5 1 (.slice (some ⟨w.heap.size, 0, none⟩) n n) n (bytesV (longR s n)) ∧ Below w.heap.size w W') := by
  intro W hW hg
  have hS := Sl.of_owns hW
  have hb := below_of_grown hg
  have e1 : (madeCells (Value.int .u8 0).cells (n * 1)).toList = List.replicate n (.int .u8 0) := by rw [Nat.mul_one]; exact toList_madeCells_one (.int .u8 0) n
  rw [e1] at hS
  have hrd := h.below hb
  cases a with
  | none =>
   have hs0 : s.size = 0 := by
    rcases Nat.eq_zero_or_pos s.size with e | e
    ·exact e
    ·obtain ⟨x, hx, _⟩ := h.2.2 0 ((bytesV s)[0]'(by rw [bytesV_length]; exact e)) (List.getElem?_eq_getElem _)
     cases hx
   have hl0 : l = 0 := by rw [h.1, hs0]
   have hc0 := h.2.1 rfl
   subst hl0 hc0
   refine ⟨W, 0, copy_nil W _ _ _, ?_, hb⟩
   have : bytesV (longR s n) = List.replicate n (.int .u8 0) := by
    have hse : s = ⟨#[]⟩ := by
     apply WideShapes.bytes_inj
     have : s.data.toList.length = 0 := by rw [← hs0]; exact Array.length_toList
     rw [List.eq_nil_of_length_eq_zero this]
    unfold longR
    by_cases hn0 : n ≤ s.size
    ·rw [if_pos hn0]
     have : n = 0 := by omega
     subst this
     rw [bytesV_extract]; simp
    ·rw [if_neg hn0, bytesV_append, bytesV_zeros, hs0, hse]
     simp [bytesV]
   rw [this]; exact hS
  | some x =>
   rcases hS.2 with ⟨e, _⟩ | ⟨g, cap, L, e, hR, h1, h2, h3, h4⟩
   ·cases e
   ·cases e
    have hL : L = List.replicate n (.int .u8 0) := by
     rw [← h4, List.take_of_length_le (by omega)]
    have hlen : ((bytesV s).take (Nat.min l n)).length = Nat.min l n * 1 := by
     rw [List.length_take, bytesV_length, h.1, Nat.mul_one]
     exact Nat.min_eq_left (Nat.min_le_left _ _)
    obtain ⟨W', q1, q2, q3⟩ := run_copy_spl (P := Tryz.prog) W 59 59 3 5 1 w.heap.size 0 n n x l c L 5 ((bytesV s).take (Nat.min l n)) Tryz.underlying59 size5 hR hlen
     (fun j v hv => by
      rw [List.getElem?_take] at hv
      split at hv
      ·obtain ⟨y, e, hy⟩ := hrd.2.2 j v hv; cases e; exact hy
      ·cases hv) (by rw [hlen, h3]; have : Nat.min l n ≤ n := Nat.min_le_right _ _; omega) (fun v hv => bytesV_one s v (List.mem_of_mem_take hv))
    refine ⟨W', _, q1, ?_, ?_⟩
    ·have hfin : spl L 0 ((bytesV s).take (Nat.min l n)) = bytesV (longR s n) := by
      unfold spl
      rw [hlen, hL, List.take_zero, List.nil_append, Nat.zero_add, Nat.mul_one, List.drop_replicate]
      unfold longR
      by_cases hns : n ≤ s.size
      ·have hm : Nat.min l n = n := by rw [h.1]; exact Nat.min_eq_right hns
       rw [if_pos hns, bytesV_extract, hm]; simp
      ·have hm : Nat.min l n = s.size := by rw [h.1]; exact Nat.min_eq_left (by omega)
       rw [if_neg hns, bytesV_append, bytesV_zeros, hm, List.take_of_length_le (by rw [bytesV_length]; exact Nat.le_refl _)]
     rw [hfin] at q2
     refine ⟨by rw [bytesV_length, longR_size]; omega, .inr ⟨w.heap.size, n, _, rfl, q2, Nat.le_refl _, h2, by rw [bytesV_length, longR_size]; omega, by rw [List.take_of_length_le (by rw [bytesV_length, longR_size]; omega)]⟩⟩
    ·exact hb.grown q3 hb.size (fun k e => by cases e; exact Nat.le_refl _)
 have HC := hide hcopy
 clear hcopy
 go_enter Tryz.func176, Tryz.ntmps176
 go_wp2_with (first | (at_make; refine wpList_make_full _ rfl _ _ 59 rfl 0 5 i0 (.int .u8 0) 1 Tryz.underlying59 hi0 hz0 hz1 _ _ _ _ n rfl rfl rfl rfl (by rw [hz2]; omega) (by unfold maxLen; omega) (Nat.zero_le _) ?_; intro w1 hown hgr; obtain ⟨W', k, hr1, HP⟩ := unhide HC w1 hown hgr) | (at_builtin; refine wpList_copy_run _ rfl _ _ 59 59 rfl _ _ rfl rfl hr1 ?_))
 go_ret
 obtain ⟨p1, p2⟩ := unhide (unhide HP)
 exact ⟨w.heap.size, rfl, Nat.le_refl _, p1, p2⟩
theorem longR_list (s : ByteArray) (n : Nat) : bytesV (longR s n) = (bytesV s ++ List.replicate n (Value.int .u8 0)).take n := by
 unfold longR
 by_cases h : n ≤ s.size
 ·rw [if_pos h, bytesV_extract, List.take_append_of_le_length (by rw [bytesV_length]; exact h)]; simp
 ·rw [if_neg h, bytesV_append, bytesV_zeros, List.take_append, List.take_of_length_le (by rw [bytesV_length]; omega), bytesV_length, List.take_replicate, Nat.min_eq_left (by omega)]
theorem over_list (s d : ByteArray) (i M : Nat) (hM : M = max s.size (i + d.size)) : spl (bytesV (longR s M)) i (bytesV d) = bytesV (wrR s i d) := by
 unfold spl wrR
 rw [bytesV_append, bytesV_append, longR_list, longR_list, bytesV_length]
 have h1 : ((bytesV s ++ List.replicate M (Value.int .u8 0)).take M).take i = (bytesV s ++ List.replicate i (Value.int .u8 0)).take i := by
  rw [List.take_take, Nat.min_eq_left (by omega)]
  rw [List.take_append, List.take_append, List.take_replicate, List.take_replicate]
  congr 2
  omega
 rw [h1]
 congr 1
 by_cases hlt : i + d.size < s.size
 ·rw [if_pos hlt]
  have hMs : M = s.size := by omega
  rw [hMs, List.take_append_of_le_length (by rw [bytesV_length]; exact Nat.le_refl _), List.take_of_length_le (by rw [bytesV_length]; exact Nat.le_refl _), bytesV_extract]
  rw [List.take_of_length_le (by rw [List.length_drop, bytesV_length]; exact Nat.le_refl _)]
 ·rw [if_neg hlt]
  have hMs : M = i + d.size := by omega
  rw [hMs, List.drop_take]
  simp [bytesV]
theorem wrR_size' (s : ByteArray) (m : Nat) (d : ByteArray) : (wrR s m d).size = max (m + d.size) s.size := wrR_size s m d
theorem overlaid_code (w : World) (a : Option Addr) (l c : Nat) (s : ByteArray) (h : RdB w a l c s) (hs : s.size ≤ 1280) (i : Nat) (ad : Option Addr) (ld cd : Nat) (d : ByteArray) (hd : RdB w ad ld cd d) (hi : i + d.size ≤ 1280) :
  Calls Tryz.prog 187 #[.slice a l c, .int .i64 i, .slice ad ld cd] w fun e w' => ((d.size = 0 ∧ e = .returned (.slice a l c)) ∨ (0 < d.size ∧ ∃ x m, e = .returned (.slice (some ⟨x, 0, none⟩) m m) ∧ w.heap.size ≤ x ∧ Sl w' 5 1 (.slice (some ⟨x, 0, none⟩) m m) m (bytesV (wrR s i d)))) ∧ Below w.heap.size w w' := by
 obtain ⟨hls, hcs, hrs0⟩ := h
 obtain ⟨hld, hcd, hrd⟩ := hd
 subst hls hld
 have HRS : Hid (RdB w a s.size c s) := ⟨rfl, hcs, hrs0⟩
 have HRD : Hid (RdB w ad d.size cd d) := ⟨rfl, hcd, hrd⟩
 clear hrs0 hrd
 by_cases h0 : d.size = 0
 ·have h0' : ((d.size : Int) == 0) = true := by rw [h0]; rfl
  have H0 := hide h0
  clear h0
  go_enter Tryz.func187, Tryz.ntmps187
  go_wp2
  go_ret
  exact ⟨.inl ⟨unhide H0, rfl⟩, Below.refl _ _⟩
 ·have h0' : ((d.size : Int) == 0) = false := by simpa using h0
  obtain ⟨M, hM⟩ : ∃ M, M = max s.size (i + d.size) := ⟨_, rfl⟩
  have HM := hide hM
  have HMI : Hid (max (s.size : Int) ((i : Int) + (d.size : Int)) = (M : Int)) := by show _ = _; omega
  have hrs := resized_code w a s.size c s (unhide HRS) (by omega) M (by omega)
  have HRES := hide hrs
  have hiM : i < M := by omega
  have hM2 : M ≤ 2000000 := by omega
  clear hrs hM
  go_enter Tryz.func187, Tryz.ntmps187
  go_wp2_with fail
  rw [unhide HMI]
  refine (unhide HRES).mono ?_
  rintro e w1 ⟨x, rfl, hxw, hS, hb⟩
  have hcopy : ∃ W' k, (Builtin.copy_ #[59, 59] 3 #[.slice (some ⟨x, i, none⟩) (M - i) (M - i), .slice ad d.size cd]).run Tryz.prog w1 = .ok (goInt k) W' ∧ Hid (Sl W' 5 1 (.slice (some ⟨x, 0, none⟩) M M) M (bytesV (wrR s i d)) ∧ Below w.heap.size w W') := by
   have hrd := (unhide HRD).below hb
   cases ad with
   | none =>
    exfalso
    have hpos : 0 < d.size := by omega
    obtain ⟨y, hy, _⟩ := hrd.2.2 0 ((bytesV d)[0]'(by rw [bytesV_length]; exact hpos)) (List.getElem?_eq_getElem _)
    cases hy
   | some y =>
    rcases hS.2 with ⟨e, _⟩ | ⟨g, cap, L, e, hR, h1, h2, h3, h4⟩
    ·cases e
    ·cases e
     have hL : L = bytesV (longR s M) := by rw [← h4, List.take_of_length_le (by omega)]
     have hmin : Nat.min d.size (M - i) = d.size := Nat.min_eq_left (by have := unhide HM; omega)
     obtain ⟨W', q1, q2, q3⟩ := run_copy_spl (P := Tryz.prog) w1 59 59 3 5 1 x i (M - i) (M - i) y d.size cd L 5 (bytesV d) Tryz.underlying59 size5 hR (by rw [bytesV_length, hmin, Nat.mul_one])
      (fun j v hv => by obtain ⟨z, e, hz⟩ := hrd.2.2 j v hv; cases e; exact hz) (by rw [bytesV_length, h3]; have := unhide HM; omega) (bytesV_one d)
     refine ⟨W', _, q1, ?_, hb.grown q3 hb.size (fun k e => by cases e; exact hxw)⟩
     rw [hL, over_list s d i M (unhide HM)] at q2
     have hsz : (bytesV (wrR s i d)).length = M := by rw [bytesV_length, wrR_size', unhide HM]; omega
     exact ⟨by rw [hsz]; omega, .inr ⟨x, M, _, rfl, q2, Nat.le_refl _, h2, by rw [hsz]; omega, by rw [List.take_of_length_le (by rw [hsz]; omega)]⟩⟩
  obtain ⟨W', k, hr1, HP⟩ := hcopy
  have H0 := hide h0
  clear hS hb HRES HM h0
  go_wp2_with (first | (at_builtin; refine wpList_copy_run _ rfl _ _ 59 59 rfl _ _ rfl rfl hr1 ?_))
  go_ret
  obtain ⟨p1, p2⟩ := unhide (unhide HP)
  exact ⟨.inr ⟨Nat.pos_of_ne_zero (unhide H0), x, M, rfl, hxw, p1⟩, p2⟩
def rdE (G : Gh) (p : ByteArray) (i n : Int) : Int := fileE G p (decide (0 ≤ i ∧ 0 ≤ n))
def RdPost (w : World) (G : Gh) (C : Int → ByteArray) (p : ByteArray) (i n : Int) (e : Ending) (w' : World) : Prop :=
 ((rdE G p i n ≠ 0 ∧ e = .returned (.tuple #[.slice none 0 0, .int .i64 (rdE G p i n)])) ∨
  (rdE G p i n = 0 ∧ ∃ u, atG G (names p) = some u ∧ u.p = none ∧ ∃ x m, e = .returned (.tuple #[.slice (some ⟨x, 0, none⟩) m m, .int .i64 0]) ∧ w.heap.size ≤ x ∧ Sl w' 5 1 (.slice (some ⟨x, 0, none⟩) m m) m (bytesV (cutR (C u.f) i n)))) ∧ Below w.heap.size w w'
theorem fileE_fits {G : Gh} {p : ByteArray} {b : Bool} (h : fileE G p b = 0) : b = true := by
 cases b with
 | true => rfl
 | false =>
  exfalso
  have hl : locE G p false ≠ 0 := by unfold locE; split <;> simp
  unfold fileE at h
  rw [if_pos hl] at h
  exact hl h
theorem readT_code (w : World) (tb rd : Nat) (V : Nat → Value) (E : Nat → List (ByteArray × VS)) (vi : Value) (G : Gh) (I : List (Int × VF)) (C : Int → ByteArray) (h : TW w tb rd V E vi G I C) (hG : GOk G) (hGl : G.length ≤ 10000) (hIl : I.length ≤ 10000) (hFl : FlOk G I) (hC : ∀ x ∈ I, (C x.1).size ≤ 1280) (p : ByteArray) (hp : p.size ≤ 2000000) (i n : Int) (hi : i ≤ 9223372036854775807) (hn : n ≤ 9223372036854775807) :
  Calls Tryz.prog 119 #[.pointer (some ⟨tb, 0, none⟩), .string p, .int .i64 i, .int .i64 n] w (RdPost w G C p i n) := by
 have hloc := locFile_code w tb rd V E vi G I C h hG hGl p hp (decide (0 ≤ i ∧ 0 ≤ n))
 have HH := hide h
 have HFL := hide hFl
 have HC := hide hC
 have HLOC := hide hloc
 clear h hFl hC hloc
 have hgo : ∀ b : Bool, b = decide (0 ≤ i ∧ 0 ≤ n) → Hid (b = decide (0 ≤ i ∧ 0 ≤ n)) := fun _ h => h
 by_cases hi0 : 0 ≤ i
 ·by_cases hn0 : 0 ≤ n
  ·have hb := hgo true (decide_eq_true ⟨hi0, hn0⟩).symm
   rw [← unhide hb] at HLOC
   go_enter Tryz.func119, Tryz.ntmps119
   go_wp2_with fail
   refine (unhide HLOC).mono ?_
   rintro e w1 ⟨hpost, hb1⟩
   have HRD : Hid (rdE G p i n = fileE G p true) := by show _ = _; unfold rdE; rw [← unhide hb]
   clear HLOC
   rcases hpost with ⟨hne, rfl⟩ | ⟨he, hok, u, hat, hu, rfl⟩
   ·have hne' : (fileE G p true != 0) = true := by simpa using hne
    have HNE := hide hne
    clear hne
    go_wp2
    go_ret2
    exact ⟨.inl ⟨by rw [unhide HRD]; exact unhide HNE, by rw [unhide HRD]; rfl⟩, hb1⟩
   ·obtain ⟨r, hin, hr0, hr1⟩ := FlOk.mono (unhide HFL) hat hu
    have h1 := (unhide HH).below hb1 (Nat.le_refl _)
    have hget := getI_code w1 tb rd V E vi G I C h1 hIl u.f r hin
    have HE := hide he
    have HAT := hide hat
    have HU := hide hu
    have HIN := hide hin
    clear he hok hat hu hin h1 hr0 hr1
    go_wp2_with fail
    refine hget.mono ?_
    rintro e w2 ⟨rfl, hb2⟩
    have hbw : Below w.heap.size w w2 := hb1.trans (hb2.mono hb1.size)
    have h2 := (unhide HH).below hbw (Nat.le_refl _)
    have hdat := h2.dat _ (unhide HIN)
    have hsz := unhide HC _ (unhide HIN)
    simp only at hdat hsz
    obtain ⟨s, hs⟩ : ∃ s, s = C u.f := ⟨_, rfl⟩
    rw [← hs] at hdat hsz
    have HS := hide hs
    clear hs h2 hget
    obtain ⟨ra, rl, rc, rf⟩ := r
    simp only at hdat
    have hlen : rl = s.size := by have := hdat.1; rw [bytesV_length] at this; omega
    subst hlen
    obtain ⟨k, hk⟩ : ∃ k : Nat, (k : Int) = min i (s.size : Int) := ⟨(min i (s.size : Int)).toNat, by omega⟩
    have HK : Hid (min i (s.size : Int) = (k : Int)) := hk.symm
    have hks : k ≤ s.size := by omega
    obtain ⟨m, hm⟩ : ∃ m : Nat, (m : Int) = min n ((s.size - k : Nat) : Int) := ⟨(min n ((s.size - k : Nat) : Int)).toNat, by omega⟩
    have HM : Hid (min n ((s.size : Int) - (k : Int)) = (m : Int)) := by show _ = _; omega
    have HCUT : Hid (cutR s i n = longR (s.extract k s.size) m) := by
     show _ = _
     have e1 : min i.toNat s.size = k := by omega
     have e2 : min n.toNat (s.size - k) = m := by omega
     unfold cutR longR
     rw [e1, e2, if_pos (by simp [ByteArray.size_extract]; omega)]
     apply bytes_eq
     rw [Lib.extract_data, Lib.extract_data, Lib.extract_data]
     simp
     rw [List.take_take]
     congr 1
     have : s.size = s.data.size := rfl
     omega
    clear hk hm
    go_upto_region 5 with fail
    obtain ⟨W, hW, hx, hkW, hszW, hbW⟩ := alloc_name w2 [.slice ra s.size rc, .int .i64 rf] 217
    have hbb : Below w.heap.size w W := hbw.trans (hbW.mono hbw.size)
    have hdatW : Sl W 5 1 (.slice ra s.size rc) s.size (bytesV s) := hdat.kept (fun k hk _ => hbW.block k hk)
    rw [hW]
    have a0 := hx.cell 0; have a1 := hx.cell 1
    clear hW hkW hszW hbW hdat hbw hb1 hb2 hx
    have HFIN : Hid (∀ (av : Option Addr) (cv : Nat), RdB W av (s.size - k) cv (s.extract k s.size) → Calls Tryz.prog 176 #[.slice av (s.size - k) cv, .int .i64 (m : Int)] W fun e w' => ∃ x, e = .returned (.slice (some ⟨x, 0, none⟩) m m) ∧ Hid (RdPost w G C p i n (.returned (.tuple #[.slice (some ⟨x, 0, none⟩) m m, .int .i64 0])) w')) := by
     intro av cv hrd
     refine (resized_code W av (s.size - k) cv _ hrd (by simp [ByteArray.size_extract]; omega) m (by have := unhide HM; omega)).mono ?_
     rintro e w' ⟨x, rfl, hxw, hSx, hbx⟩
     refine ⟨x, rfl, .inr ⟨(unhide HRD).trans (unhide HE), u, unhide HAT, unhide HU, x, m, rfl, Nat.le_trans hbb.size hxw, ?_⟩, hbb.trans (hbx.mono hbb.size)⟩
     rw [← unhide HS, unhide HCUT]; exact hSx
    have HM2 : Hid (min n ((s.size - k : Nat) : Int) = (m : Int)) := by have := unhide HM; show _ = _; omega
    have hkk := unhide HK
    rcases hdatW.2 with ⟨e, h0⟩ | ⟨g, cap, L, e, hR, h1, h2, h3, h4⟩
    ·simp only [Value.slice.injEq] at e
     obtain ⟨rfl, e2, rfl⟩ := e
     have hrd0 : RdB W none (s.size - k) 0 (s.extract k s.size) := ⟨by simp [ByteArray.size_extract], fun _ => rfl, fun j v hv => by
      have : (bytesV (s.extract k s.size)).length = 0 := by rw [bytesV_length]; simp [ByteArray.size_extract]; omega
      rw [List.eq_nil_of_length_eq_zero this] at hv; simp at hv⟩
     have hc := unhide HFIN none 0 hrd0
     obtain rfl : k = 0 := by omega
     have HM3 : Hid (min n 0 = (m : Int)) := by have := unhide HM2; show _ = _; omega
     have e3 : s.size - 0 = 0 := by omega
     rw [e3] at hc
     have HCALL := hide hc
     clear hc hrd0 HFIN hdatW
     go_wp2_with fail
     rw [unhide HM3]
     refine (unhide HCALL).mono ?_
     rintro e w' ⟨x, rfl, hfin⟩
     go_wp2
     go_ret2
     exact unhide (unhide hfin)
    ·simp only [Value.slice.injEq] at e
     obtain ⟨rfl, _, rfl⟩ := e
     have hcells : ∀ j v, (bytesV s)[j]? = some v → W.cell? ⟨g, j, none⟩ = some v := fun j v hv => by
      rw [hR.cell]
      rw [← h4, List.getElem?_take] at hv
      split at hv
      ·exact hv
      ·cases hv
     have hrd1 : ∀ cv, RdB W (some ⟨g, k, none⟩) (s.size - k) cv (s.extract k s.size) := fun cv => ⟨by simp [ByteArray.size_extract], fun e => (by cases e), fun j v hv => by
      refine ⟨_, rfl, ?_⟩
      rw [Addr.add_lit]
      refine hcells _ _ ?_
      rw [bytesV_extract, List.getElem?_take] at hv
      split at hv
      ·rwa [List.getElem?_drop] at hv
      ·cases hv⟩
     have hrd2 : rc = k → RdB W (some ⟨g, 0, none⟩) (s.size - k) 0 (s.extract k s.size) := fun e => ⟨by simp [ByteArray.size_extract], fun e => (by cases e), fun j v hv => by
      have : (bytesV (s.extract k s.size)).length = 0 := by rw [bytesV_length]; simp [ByteArray.size_extract]; omega
      rw [List.eq_nil_of_length_eq_zero this] at hv; simp at hv⟩
     have HF1 : Hid (∀ cv, _) := fun cv => unhide HFIN _ _ (hrd1 cv)
     have HF2 : Hid (rc = k → _) := fun e => unhide HFIN _ _ (hrd2 e)
     clear hrd1 hrd2 hcells HFIN hdatW hR h3 h4
     by_cases hrk : rc = k
     ·have hcall := unhide HF2 hrk
      have e3 : s.size - k = 0 := by omega
      rw [e3] at hcall
      have HM3 : Hid (min n 0 = (m : Int)) := by have := unhide HM2; show _ = _; omega
      have HCALL := hide hcall
      subst hrk
      clear hcall HF1 HF2
      go_wp2_with fail
      all_goals
       rw [unhide HM3]
       refine (unhide HCALL).mono ?_
       rintro e w' ⟨x, rfl, hfin⟩
       go_wp2
       go_ret2
       exact unhide (unhide hfin)
     ·have hrk' : k < rc := by omega
      have hcall := unhide HF1 (rc - k)
      have HCALL := hide hcall
      clear hcall HF1 HF2
      go_wp2_with fail
      all_goals
       rw [unhide HM2]
       refine (unhide HCALL).mono ?_
       rintro e w' ⟨x, rfl, hfin⟩
       go_wp2
       go_ret2
       exact unhide (unhide hfin)
  ·have hb := hgo false (decide_eq_false (fun h => hn0 h.2)).symm
   rw [← unhide hb] at HLOC
   have hne : fileE G p false ≠ 0 := fun e => by have := fileE_fits e; cases this
   have hne' : (fileE G p false != 0) = true := by simpa using hne
   have HRD : Hid (rdE G p i n = fileE G p false) := by show _ = _; unfold rdE; rw [← unhide hb]
   have HNE := hide hne
   clear hne
   go_enter Tryz.func119, Tryz.ntmps119
   go_wp2_with fail
   refine (unhide HLOC).mono ?_
   rintro e w1 ⟨hpost, hb1⟩
   rcases hpost with ⟨_, rfl⟩ | ⟨he, _⟩
   ·clear HLOC
    go_wp2
    go_ret2
    exact ⟨.inl ⟨by rw [unhide HRD]; exact unhide HNE, by rw [unhide HRD]; rfl⟩, hb1⟩
   ·exact absurd he (unhide HNE)
 ·have hb := hgo false (decide_eq_false (fun h => hi0 h.1)).symm
  rw [← unhide hb] at HLOC
  have hne : fileE G p false ≠ 0 := fun e => by have := fileE_fits e; cases this
  have hne' : (fileE G p false != 0) = true := by simpa using hne
  have HRD : Hid (rdE G p i n = fileE G p false) := by show _ = _; unfold rdE; rw [← unhide hb]
  have HNE := hide hne
  clear hne
  go_enter Tryz.func119, Tryz.ntmps119
  go_wp2_with fail
  refine (unhide HLOC).mono ?_
  rintro e w1 ⟨hpost, hb1⟩
  rcases hpost with ⟨_, rfl⟩ | ⟨he, _⟩
  ·clear HLOC
   go_wp2
   go_ret2
   exact ⟨.inl ⟨by rw [unhide HRD]; exact unhide HNE, by rw [unhide HRD]; rfl⟩, hb1⟩
  ·exact absurd he (unhide HNE)
theorem putOver_at2 (w : World) (tb rd : Nat) (V : Nat → Value) (E : Nat → List (ByteArray × VS)) (vi : Value) (G : Gh) (I : List (Int × VF)) (C : Int → ByteArray) (h : TW w tb rd V E vi G I C) (hIl : I.length ≤ 10000) (n : Int) (r0 r : VF) (hin : (n, r0) ∈ I) (s : ByteArray) (hdat : Sl w 5 1 (.slice r.a r.l r.c) r.l (bytesV s)) :
  Calls Tryz.prog 228 #[.pointer (some ⟨tb, 1, none⟩), .int .i64 n, .agg #[.slice r.a r.l r.c, .int .i64 r.f]] w fun e w' => e = .returned (.tuple #[]) ∧ (∃ I', TW w' tb rd V E vi G I' (fun k => if k = n then s else C k) ∧ IOver I I' n r) ∧ Fr (ProgT tb w) w w' ∧ ∀ k t R, RowIs w k t R → t ≠ 214 → t ≠ 293 → RowIs w' k t R := by
 refine (putOver_code w tb rd V E vi G I C h hIl n r0 r hin s hdat).mono ?_
 rintro e w' ⟨rfl, ⟨I', q1, q2, q3⟩, q4⟩
 refine ⟨rfl, ⟨I', q1, q2, q3⟩, Fr.progI h q4, fun k t R hR h1 h2 => hR.fr q4 (fun e => ?_)⟩
 rcases e with rfl | e
 ·exact h1 (hR.type h.t)
 ·obtain ⟨R', hR'⟩ := h.i.type e
  exact h2 (hR.type hR')
theorem fill1_code (B6 B3 B4 B7 : Nat) (u : FrameMode) (w : World) (tb rd : Nat) (V : Nat → Value) (E : Nat → List (ByteArray × VS)) (vi : Value) (G : Gh) (I : List (Int × VF)) (C : Int → ByteArray) (h : TW w tb rd V E vi G I C) (hIl : I.length ≤ 10000) (n : Int) (r0 r : VF) (hin : (n, r0) ∈ I) (s : ByteArray) (hdat : Sl w 5 1 (.slice r.a r.l r.c) r.l (bytesV s)) (ans : Int)
  (h6 : RowIs w B6 26 [.int .i64 ans]) (h3 : RowIs w B3 37 [.pointer (some ⟨tb, 0, none⟩)]) (h4 : RowIs w B4 3 [.int .i64 n]) (h7 : RowIs w B7 217 [.slice r.a r.l r.c, .int .i64 r.f]) :
  CallsD Tryz.prog 230 #[.pointer (some ⟨B6, 0, none⟩), .pointer (some ⟨B3, 0, none⟩), .pointer (some ⟨B4, 0, none⟩), .pointer (some ⟨B7, 0, none⟩)] u w fun e u' w' => u' = u ∧ (e = .returned (.tuple #[]) ∧ RowIs w' B6 26 [.int .i64 ans] ∧ Fr (ProgT tb w) w w' ∧ ((ans = 0 ∧ w' = w) ∨ (ans ≠ 0 ∧ ∃ I', TW w' tb rd V E vi G I' (fun k => if k = n then s else C k) ∧ IOver I I' n r))) := by
 have a0 := h6.cell 0
 by_cases ha : ans = 0
 ·have ha' : (ans != 0) = false := by simpa using ha
  go_enter_d Tryz.func230, Tryz.ntmps230
  go_wp2
  go_end0
  exact ⟨rfl, h6, Fr.refl _ _, .inl ⟨ha, rfl⟩⟩
 ·have ha' : (ans != 0) = true := by simpa using ha
  have HPUT : Hid (∀ W, Below w.heap.size w W → _) := fun W hb => putOver_at2 W tb rd V E vi G I C (h.below hb (Nat.le_refl _)) hIl n r0 r hin s (hdat.kept (fun k hk _ => hb.block k hk))
  have b0 := h3.cell 0; have c0 := h4.cell 0; have d0 := h7.cell 0; have d1 := h7.cell 1
  have HA := hide ha
  have H6 := hide h6
  have H3 := hide h3
  have H4 := hide h4
  have H7 := hide h7
  clear h hdat ha h6 h3 h4 h7
  go_enter_d Tryz.func230, Tryz.ntmps230
  go_wp2_with fail
  go_region_held3 (fun W => W.cell? ⟨B3, 0, none⟩ = some (.pointer (some ⟨tb, 0, none⟩)) ∧ W.cell? ⟨B4, 0, none⟩ = some (.int .i64 n) ∧ W.cell? ⟨B7, 0, none⟩ = some (.slice r.a r.l r.c) ∧ W.cell? ⟨B7, 1, none⟩ = some (.int .i64 r.f)) (go_keep)
   (first | (go_at_call 228; refine (unhide HPUT _ (Below.refl _ w).drew).mono ?_; rintro e w'' ⟨rfl, q1, q2, q3⟩; have m0 := (q3 _ _ _ (unhide H3) (by decide) (by decide)).cell 0; have m1 := (q3 _ _ _ (unhide H4) (by decide) (by decide)).cell 0; have m2 := (q3 _ _ _ (unhide H7) (by decide) (by decide)).cell 0; have m3 := (q3 _ _ _ (unhide H7) (by decide) (by decide)).cell 1))
  all_goals
   go_wp2
   go_end0
   exact ⟨rfl, q3 _ _ _ (unhide H6) (by decide) (by decide), Fr.prog (Below.refl _ w).drew q2, .inr ⟨unhide HA, q1⟩⟩
theorem TW.setOther {w : World} {tb rd : Nat} {V : Nat → Value} {E : Nat → List (ByteArray × VS)} {vi : Value} {G : Gh} {I : List (Int × VF)} {C : Int → ByteArray} (h : TW w tb rd V E vi G I C) {b : Nat} {t : TypeId} {R : List Value} (hr : RowIs w b t R) (hb : b ≠ 0) (ht : t ≠ 214 ∧ t ≠ 229 ∧ t ≠ 310 ∧ t ≠ 293 ∧ t ≠ 5) (j : Nat) (u : Value) : TW (w.setCell ⟨b, j, none⟩ u) tb rd V E vi G I C :=
 h.fr (X := fun k => k = b) ((Fr.refl _ _).set ⟨b, j, none⟩ u rfl) (fun e => hb e.symm) (fun k t' R' e hR => by subst e; rw [hR.type hr]; exact ht)
theorem Sl.prog {tb : Nat} {w w' : World} {v : Value} {n : Nat} {xs : List Value} (h : Sl w 5 1 v n xs) (hf : Fr (ProgT tb w) w w') : Sl w' 5 1 v n xs :=
 h.fr hf (fun g hg ⟨⟨t, R, hR, ht⟩, _⟩ => by
  obtain ⟨R', hR'⟩ := h.type hg
  have := hR'.type hR
  subst this
  revert ht; decide)
theorem Fr.ext {X : Nat → Prop} {w w1 w2 : World} (h : Fr X w w1) (hb : Below w.heap.size w1 w2) : Fr X w w2 :=
 ⟨hb.os.trans h.os, hb.tape.trans h.tape, hb.output.trans h.output, Nat.le_trans h.size hb.size, fun k hk hX => (hb.block k hk).trans (h.block k hk hX)⟩
def FillPost (w : World) (tb rd : Nat) (V : Nat → Value) (E : Nat → List (ByteArray × VS)) (vi : Value) (G : Gh) (I : List (Int × VF)) (C : Int → ByteArray) (n : Int) (r : VF) (s : ByteArray) (e : Ending) (w' : World) : Prop :=
 Fr (ProgT tb w) w w' ∧ ∃ I', IOver I I' n r ∧
  ((e = .returned (.int .i64 9) ∧ 160 < useU (I'.map (·.2.l)) ∧ ∃ I'', TW w' tb rd V E vi G I'' C ∧ I''.length = I.length ∧ ∀ x, x ∈ I'' ↔ x ∈ I) ∨
   (e = .returned (.int .i64 0) ∧ useU (I'.map (·.2.l)) ≤ 160 ∧ TW w' tb rd V E vi G I' (fun k => if k = n then s else C k)))
theorem SrtI.nd {I : List (Int × VF)} (h : SrtI I) : (I.map (·.1)).Nodup := by
 unfold List.Nodup
 rw [List.pairwise_iff_getElem]
 intro i j hi hj hij e
 have hj' : j < I.length := by simpa using hj
 rw [List.getElem_map, List.getElem_map] at e
 have := h i j I[i] I[j] hij (List.getElem?_eq_getElem _) (List.getElem?_eq_getElem _)
 have := of_decide_eq_true this
 omega
theorem fill_code (w : World) (tb rd : Nat) (V : Nat → Value) (E : Nat → List (ByteArray × VS)) (vi : Value) (G : Gh) (I : List (Int × VF)) (C : Int → ByteArray) (h : TW w tb rd V E vi G I C) (hIl : I.length ≤ 10000) (hll : ∀ x ∈ I, x.2.l ≤ 2000000) (n : Int) (r0 : VF) (hin : (n, r0) ∈ I) (da : Option Addr) (dl dc : Nat) (hdl : dl ≤ 2000000) (s : ByteArray) (hdat : Sl w 5 1 (.slice da dl dc) dl (bytesV s)) :
  Calls Tryz.prog 189 #[.pointer (some ⟨tb, 0, none⟩), .int .i64 n, .slice da dl dc] w (FillPost w tb rd V E vi G I C n ⟨da, dl, dc, r0.f⟩ s) := by
 have hmf : ∀ (fn : Fn) (first cap : Array Value) (w : World), (Instr.makeFunc fn first cap).run Tryz.prog w = .ok (.func fn first cap) w := fun _ _ _ _ => rfl
 have HH := hide h
 have HDAT := hide hdat
 have HIN := hide hin
 have HLL := hide hll
 clear h hdat hin hll
 go_enter_defers Tryz.func189, Tryz.ntmps189
 go_wp2_with fail
 obtain ⟨W1, hW1, hx1, hk1, hsz1, hb1⟩ := alloc_name w [.pointer (some ⟨tb, 0, none⟩)] 37
 obtain ⟨W2, hW2, hx2, hk2, hsz2, hb2⟩ := alloc_name W1 [.int .i64 n] 3
 obtain ⟨W3, hW3, hx3, hk3, hsz3, hb3⟩ := alloc_name W2 [.int .i64 0] 26
 rw [hW1, hW2, hW3]
 have y1 := hk3 _ _ _ (hk2 _ _ _ hx1)
 have y2 := hk3 _ _ _ hx2
 have hbw : Below w.heap.size w W3 := (hb1.trans (hb2.mono (by omega))).trans (hb3.mono (by omega))
 rw [hsz1] at y2
 rw [hsz2, hsz1] at hx3
 have hsW3 : W3.heap.size = w.heap.size + 3 := by omega
 clear hW1 hW2 hW3 hk1 hk2 hk3 hb1 hb2 hb3 hx1 hx2 hsz1 hsz2 hsz3
 have HGET : Hid (∀ W, Below w.heap.size w W → _) := fun W hb => getI_code W tb rd V E vi G I C ((unhide HH).below hb (Nat.le_refl _)) hIl n r0 (unhide HIN)
 have a0 := y1.cell 0; have a1 := y2.cell 0
 have hbd := hbw.drew
 have HS3 := hide hsW3
 have hlt3 : w.heap.size + 1 + 1 < W3.heap.size := by omega
 have hne0 : ¬ W3.heap.size = w.heap.size := by omega
 have hne1 : ¬ W3.heap.size = w.heap.size + 1 := by omega
 have hne2 : ¬ w.heap.size = W3.heap.size := by omega
 have hne3 : ¬ w.heap.size + 1 = W3.heap.size := by omega
 clear hsW3
 go_region_held3 (fun W => W.cell? ⟨w.heap.size, 0, none⟩ = some (.pointer (some ⟨tb, 0, none⟩)) ∧ W.cell? ⟨w.heap.size + 1, 0, none⟩ = some (.int .i64 n)) (go_keep)
  (first | (go_at_call 175; refine (unhide HGET _ (by first | exact hbw.drew | exact hbd.alloc hbd.size _ | exact (hbw.alloc hbw.size _).drew)).mono ?_; rintro e w' ⟨rfl, hbg⟩; have hb3 : Below W3.heap.size W3 w' := (by first | exact ((Below.refl _ W3).drew).trans (hbg.mono (by simp)) | exact (((Below.refl _ W3).alloc (Nat.le_refl _) _).drew).trans (hbg.mono (by simp)) | exact (((Below.refl _ W3).drew).alloc (by simp) _).trans (hbg.mono (by simp))); have m0 := (hb3.cell (p := ⟨w.heap.size, 0, none⟩) (by rw [unhide HS3]; simp)).trans a0; have m1 := (hb3.cell (p := ⟨w.heap.size + 1, 0, none⟩) (by rw [unhide HS3]; simp)).trans a1; (try (have z : RowIs w' W3.heap.size 217 [.slice none 0 0, .int .i64 0] := (hbg.block W3.heap.size (by simp)).trans (row_new W3 [.slice none 0 0, .int .i64 0] 217); have z0 := z.cell 0; have z1 := z.cell 1; have zf0 := z.frozen 0; have zf1 := z.frozen 1))))
 case' refine_2.refine_3.refine_3.refine_3.refine_3.refine_1.refine_2.refine_3.refine_3.refine_3.refine_1.refine_2.refine_1.refine_2.refine_3 =>
  obtain ⟨W4, hW4, hx7, hk4, hsz4, hb4⟩ := alloc_name w' [.slice r0.a r0.l r0.c, .int .i64 r0.f] 217
  rw [hW4]
  have hB4 : Below W3.heap.size W3 W4 := hb3.trans (hb4.mono hb3.size)
  have h7lt : W3.heap.size ≤ w'.heap.size := hb3.size
  obtain ⟨B7, hB7⟩ : ∃ b, b = w'.heap.size := ⟨_, rfl⟩
  rw [← hB7] at hx7 h7lt ⊢
  clear hW4 hk4 hsz4 hb4 hB7
 case' refine_2.refine_3.refine_3.refine_3.refine_3.refine_2.refine_1.refine_2.refine_1.refine_2.refine_3.refine_3.refine_3.refine_1.refine_2.refine_3 =>
  have hx7 : RowIs ((w'.setCell ⟨W3.heap.size, 0, none⟩ (.slice r0.a r0.l r0.c)).setCell ⟨W3.heap.size, 1, none⟩ (.int .i64 r0.f)) W3.heap.size 217 [.slice r0.a r0.l r0.c, .int .i64 r0.f] := by
   have := (z.set 0 (.slice r0.a r0.l r0.c)).set 1 (.int .i64 r0.f)
   simpa using this
  have hB4 : Below W3.heap.size W3 ((w'.setCell ⟨W3.heap.size, 0, none⟩ (.slice r0.a r0.l r0.c)).setCell ⟨W3.heap.size, 1, none⟩ (.int .i64 r0.f)) := (hb3.setCell (p := ⟨W3.heap.size, 0, none⟩) (Nat.le_refl _) _).setCell (p := ⟨W3.heap.size, 1, none⟩) (Nat.le_refl _) _
  obtain ⟨W4, hW4⟩ : ∃ W4, (w'.setCell ⟨W3.heap.size, 0, none⟩ (.slice r0.a r0.l r0.c)).setCell ⟨W3.heap.size, 1, none⟩ (.int .i64 r0.f) = W4 := ⟨_, rfl⟩
  rw [hW4] at hx7 hB4 ⊢
  have h7lt : W3.heap.size ≤ W3.heap.size := Nat.le_refl _
  obtain ⟨B7, hB7⟩ : ∃ b, b = W3.heap.size := ⟨_, rfl⟩
  have h7lt : W3.heap.size ≤ B7 := by omega
  rw [← hB7] at hx7
  rw [show (Value.pointer (some { block := W3.heap.size, off := 0 })) = Value.pointer (some { block := B7, off := 0 }) by rw [hB7]]
  clear hW4 hB7
 all_goals
  have y3 : RowIs W4 w.heap.size 37 _ := (hB4.block _ y1.lt).trans y1
  have y4 : RowIs W4 (w.heap.size + 1) 3 _ := (hB4.block _ y2.lt).trans y2
  have y6 : RowIs W4 (w.heap.size + 1 + 1) 26 _ := (hB4.block _ hx3.lt).trans hx3
  have hbw4 : Below w.heap.size w W4 := hbw.trans (hB4.mono hbw.size)
  clear hx3 y1 y2 hbw hB4 a0 a1 HGET hbd hne0 hne1 hne2 hne3 hbg hb3 m0 m1
  have HPUT : Hid (∀ W, Below W4.heap.size W4 W → _) := fun W hb => putOver_at2 W tb rd V E vi G I C (((unhide HH).below hbw4 (Nat.le_refl _)).below hb (Nat.le_refl _)) hIl n r0 ⟨da, dl, dc, r0.f⟩ (unhide HIN) s (((unhide HDAT).kept (fun k hk _ => hbw4.block k hk)).kept (fun k hk _ => hb.block k hk))
  have b0 := y3.cell 0; have b1 := y4.cell 0; have b2 := hx7.cell 1
  have Y3 := hide y3
  have Y4 := hide y4
  have Y6 := hide y6
  have Y7 := hide hx7
  clear y3 y4 y6 hx7
  go_wp2_with fail
  go_region_held3 (fun W => W.cell? ⟨w.heap.size, 0, none⟩ = some (.pointer (some ⟨tb, 0, none⟩)) ∧ W.cell? ⟨w.heap.size + 1, 0, none⟩ = some (.int .i64 n) ∧ W.cell? ⟨B7, 1, none⟩ = some (.int .i64 r0.f)) (go_keep)
   (first | (go_at_call 228; refine (unhide HPUT _ (Below.refl _ W4).drew).mono ?_; rintro e w5 ⟨rfl, q1, q2, q3⟩; have m0 := (q3 _ _ _ (unhide Y3) (by decide) (by decide)).cell 0; have m1 := (q3 _ _ _ (unhide Y4) (by decide) (by decide)).cell 0; have m2 := (q3 _ _ _ (unhide Y7) (by decide) (by decide)).cell 1))
  obtain ⟨I', h5, hio⟩ := q1
  have hio' := hio
  have hll5 : ∀ x ∈ I', x.2.l ≤ 2000000 := fun x hx => by
   rcases (hio.2 x).1 hx with rfl | ⟨hx', _⟩
   ·exact hdl
   ·exact unhide HLL x hx'
  have huse := usage_code w5 tb _ vi I' h5.t h5.i (by rw [hio.1]; exact hIl) hll5
  have z3 : RowIs w5 w.heap.size 37 _ := q3 _ _ _ (unhide Y3) (by decide) (by decide)
  have z4 : RowIs w5 (w.heap.size + 1) 3 _ := q3 _ _ _ (unhide Y4) (by decide) (by decide)
  have z6 : RowIs w5 (w.heap.size + 1 + 1) 26 _ := q3 _ _ _ (unhide Y6) (by decide) (by decide)
  have z7 : RowIs w5 B7 217 _ := q3 _ _ _ (unhide Y7) (by decide) (by decide)
  have HF5 : Hid (Fr (ProgT tb w) w w5) := Fr.prog hbw4.drew q2
  have hule := useU_le (I'.map (·.2.l)) (fun m hm => by obtain ⟨y, hy, e⟩ := List.mem_map.1 hm; rw [← e]; exact hll5 y hy)
  rw [List.length_map] at hule
  have hul2 : useU (I'.map (·.2.l)) ≤ 400000000 := Nat.le_trans hule (by rw [hio.1]; omega)
  obtain ⟨U, hU⟩ : ∃ U, U = useU (I'.map (·.2.l)) := ⟨_, rfl⟩
  rw [← hU] at huse hul2
  have HU := hide hU
  have HIO := hide hio
  have H5 := hide h5
  have HLLI := hide hll5
  clear q2 q3 hule hU hio hio' h5 m2 hll5
  go_wp2_with fail
  refine huse.mono ?_
  rintro e w6 ⟨rfl, hb6⟩
  have t3 : RowIs w6 w.heap.size 37 _ := (hb6.block _ z3.lt).trans z3
  have t4 : RowIs w6 (w.heap.size + 1) 3 _ := (hb6.block _ z4.lt).trans z4
  have t6 : RowIs w6 (w.heap.size + 1 + 1) 26 _ := (hb6.block _ z6.lt).trans z6
  have t7 : RowIs w6 B7 217 _ := (hb6.block _ z7.lt).trans z7
  have c6 := t6.cell 0
  have f6 := t6.frozen 0
  clear huse
  by_cases hgt : 160 < U
  ·have hgt' : (160 : Int) < (U : Int) := by omega
   go_wp2
   have d6 := t6.set 0 (.int .i64 9)
   have hws : w.heap.size ≠ w.heap.size + 1 + 1 := by omega
   have d3 := t3.setOther ⟨w.heap.size + 1 + 1, 0, none⟩ (.int .i64 9) (by show w.heap.size + 1 + 1 ≠ w.heap.size; omega)
   have d4 := t4.setOther ⟨w.heap.size + 1 + 1, 0, none⟩ (.int .i64 9) (by show w.heap.size + 1 + 1 ≠ w.heap.size + 1; omega)
   have d7 := t7.setOther ⟨w.heap.size + 1 + 1, 0, none⟩ (.int .i64 9) (by show w.heap.size + 1 + 1 ≠ B7; omega)
   have hT6 := ((unhide H5).below hb6 (Nat.le_refl _)).setOther t6 (by omega) (by decide) 0 (.int .i64 9)
   have hdo := (((unhide HH).dat _ (unhide HIN)).prog (unhide HF5)).kept (fun k hk _ => hb6.block k hk)
   have hdo2 := hdo.setCell ⟨w.heap.size + 1 + 1, 0, none⟩ (.int .i64 9) (fun e => by obtain ⟨R, hR⟩ := hdo.type e; have := hR.type t6; revert this; decide)
   refine leaves_cons (f := 230) (args := #[.pointer (some ⟨w.heap.size + 1 + 1, 0, none⟩), .pointer (some ⟨w.heap.size, 0, none⟩), .pointer (some ⟨w.heap.size + 1, 0, none⟩), .pointer (some ⟨B7, 0, none⟩)]) (by simp) (by simp [go_sem]) ?_
   refine (fill1_code _ _ _ _ .returning _ tb rd V E vi G I' _ hT6 (by rw [(unhide HIO).1]; exact hIl) n ⟨da, dl, dc, r0.f⟩ r0 (((unhide HIO).2 _).2 (.inl rfl)) (C n) hdo2 9 (by simpa using d6) d3 d4 d7).mono ?_
   rintro e u' w7 ⟨rfl, rfl, hrow, hfr, hcase⟩
   have hc := hrow.cell 0
   refine ⟨.int .i64 9, by simp [results, Tryz.results189, go_sem, hc], ?_⟩
   rcases hcase with ⟨h0, _⟩ | ⟨_, I'', hT7, hio7⟩
   ·exact absurd h0 (by decide)
   ·have hC : (fun k => if k = n then C n else (fun k => if k = n then s else C k) k) = C := by
     funext k
     by_cases hk : k = n
     ·simp [hk]
     ·simp [hk]
    rw [hC] at hT7
    refine ⟨((unhide HF5).ext ((hb6.mono (unhide HF5).size).setCell (p := ⟨w.heap.size + 1 + 1, 0, none⟩) (by show w.heap.size ≤ w.heap.size + 1 + 1; omega) (.int .i64 9))).progTrans hfr, I', unhide HIO, .inl ⟨rfl, by rw [← unhide HU]; exact hgt, I'', hT7, hio7.1.trans (unhide HIO).1, fun x => ?_⟩⟩
    rw [hio7.2 x, (unhide HIO).2 x]
    constructor
    ·rintro (rfl | ⟨rfl | ⟨hx, _⟩, hne⟩)
     ·exact unhide HIN
     ·exact absurd rfl hne
     ·exact hx
    ·intro hx
     by_cases hk : x.1 = n
     ·left
      have : x = (n, x.2) := by rw [← hk]
      rw [this] at hx ⊢
      rw [nodup_fst (unhide HH).si.nd hx (unhide HIN)]
     ·exact .inr ⟨.inr ⟨hx, hk⟩, hk⟩
  ·have hgt' : ¬ (160 : Int) < (U : Int) := by omega
   go_wp2
   have d6 := t6.set 0 (.int .i64 0)
   have d3 := t3.setOther ⟨w.heap.size + 1 + 1, 0, none⟩ (.int .i64 0) (by show w.heap.size + 1 + 1 ≠ w.heap.size; omega)
   have d4 := t4.setOther ⟨w.heap.size + 1 + 1, 0, none⟩ (.int .i64 0) (by show w.heap.size + 1 + 1 ≠ w.heap.size + 1; omega)
   have d7 := t7.setOther ⟨w.heap.size + 1 + 1, 0, none⟩ (.int .i64 0) (by show w.heap.size + 1 + 1 ≠ B7; omega)
   have hT6 := ((unhide H5).below hb6 (Nat.le_refl _)).setOther t6 (by omega) (by decide) 0 (.int .i64 0)
   have hdo := (((unhide HH).dat _ (unhide HIN)).prog (unhide HF5)).kept (fun k hk _ => hb6.block k hk)
   have hdo2 := hdo.setCell ⟨w.heap.size + 1 + 1, 0, none⟩ (.int .i64 0) (fun e => by obtain ⟨R, hR⟩ := hdo.type e; have := hR.type t6; revert this; decide)
   refine leaves_cons (f := 230) (args := #[.pointer (some ⟨w.heap.size + 1 + 1, 0, none⟩), .pointer (some ⟨w.heap.size, 0, none⟩), .pointer (some ⟨w.heap.size + 1, 0, none⟩), .pointer (some ⟨B7, 0, none⟩)]) (by simp) (by simp [go_sem]) ?_
   refine (fill1_code _ _ _ _ .returning _ tb rd V E vi G I' _ hT6 (by rw [(unhide HIO).1]; exact hIl) n ⟨da, dl, dc, r0.f⟩ r0 (((unhide HIO).2 _).2 (.inl rfl)) (C n) hdo2 0 (by simpa using d6) d3 d4 d7).mono ?_
   rintro e u' w7 ⟨rfl, rfl, hrow, hfr, hcase⟩
   have hc := hrow.cell 0
   refine ⟨.int .i64 0, by simp [results, Tryz.results189, go_sem, hc], ?_⟩
   rcases hcase with ⟨_, hw7⟩ | ⟨h0, _⟩
   ·rw [hw7]
    exact ⟨(unhide HF5).ext ((hb6.mono (unhide HF5).size).setCell (p := ⟨w.heap.size + 1 + 1, 0, none⟩) (by show w.heap.size ≤ w.heap.size + 1 + 1; omega) (.int .i64 0)), I', unhide HIO, .inr ⟨rfl, by rw [← unhide HU]; omega, hT6⟩⟩
   ·exact absurd rfl h0
def FilledPost (w : World) (tb : Nat) (G : Gh) (I : List (Int × VF)) (C : Int → ByteArray) (n : Int) (r : VF) (s : ByteArray) (e : Ending) (w' : World) : Prop :=
 Fr (ProgT tb w) w w' ∧ ∃ I', IOver I I' n r ∧
  ((e = .returned (.int .i64 9) ∧ 160 < useU (I'.map (·.2.l)) ∧ ∃ I'', PS w' tb G I'' C ∧ I''.length = I.length ∧ ∀ x, x ∈ I'' ↔ x ∈ I) ∨
   (e = .returned (.int .i64 0) ∧ useU (I'.map (·.2.l)) ≤ 160 ∧ PS w' tb G I' (fun k => if k = n then s else C k)))
theorem FillPost.ps {w w0 : World} {tb rd : Nat} {V : Nat → Value} {E : Nat → List (ByteArray × VS)} {vi : Value} {G : Gh} {I : List (Int × VF)} {C : Int → ByteArray} {n : Int} {r : VF} {s : ByteArray} {e : Ending} {w' : World} (h : FillPost w tb rd V E vi G I C n r s e w') (hb : Below w0.heap.size w0 w) : FilledPost w0 tb G I C n r s e w' := by
 obtain ⟨h1, I', h2, h3⟩ := h
 refine ⟨Fr.prog hb h1, I', h2, ?_⟩
 rcases h3 with ⟨e1, e2, I'', e3, e4, e5⟩ | ⟨e1, e2, e3⟩
 ·exact .inl ⟨e1, e2, I'', ⟨rd, V, E, vi, e3⟩, e4, e5⟩
 ·exact .inr ⟨e1, e2, rd, V, E, vi, e3⟩
def ctE (G : Gh) (p : ByteArray) (n : Int) : Int := fileE G p (decide (0 ≤ n ∧ n ≤ 1280))
def CtPost (w : World) (tb : Nat) (G : Gh) (I : List (Int × VF)) (C : Int → ByteArray) (p : ByteArray) (n : Int) (e : Ending) (w' : World) : Prop :=
 (ctE G p n ≠ 0 ∧ e = .returned (.int .i64 (ctE G p n)) ∧ Fr (ProgT tb w) w w' ∧ PS w' tb G I C) ∨
 (ctE G p n = 0 ∧ ∃ u r a c, atG G (names p) = some u ∧ u.p = none ∧ (u.f, r) ∈ I ∧ FilledPost w tb G I C u.f ⟨a, n.toNat, c, r.f⟩ (longR (C u.f) n.toNat) e w')
theorem cutT_code (w : World) (tb : Nat) (G : Gh) (I : List (Int × VF)) (C : Int → ByteArray) (h : PS w tb G I C) (hG : GOk G) (hGl : G.length ≤ 10000) (hIl : I.length ≤ 10000) (hFl : FlOk G I) (hll : ∀ x ∈ I, x.2.l ≤ 2000000) (hC : ∀ x ∈ I, (C x.1).size ≤ 1280) (p : ByteArray) (hp : p.size ≤ 2000000) (n : Int) :
  Calls Tryz.prog 124 #[.pointer (some ⟨tb, 0, none⟩), .string p, .int .i64 n] w (CtPost w tb G I C p n) := by
 obtain ⟨rd, V, E, vi, h⟩ := h
 have hloc := locFile_code w tb rd V E vi G I C h hG hGl p hp (decide (0 ≤ n ∧ n ≤ 1280))
 have HH := hide h
 have HFL := hide hFl
 have HC := hide hC
 have HLL := hide hll
 have HLOC := hide hloc
 have HBAD : Hid (∀ b, b = decide (0 ≤ n ∧ n ≤ 1280) → ∀ W, Below w.heap.size w W → fileE G p b ≠ 0 → CtPost w tb G I C p n (.returned (.int .i64 (fileE G p b))) W) := fun b hb W hbW hne => by
  subst hb
  exact .inl ⟨hne, rfl, Fr.of_below hbW, rd, V, E, vi, h.below hbW (Nat.le_refl _)⟩
 clear h hFl hC hloc hll
 by_cases hfit : 0 ≤ n ∧ n ≤ 1280
 ·have hb := decide_eq_true hfit
  rw [hb] at HLOC
  have hn0 := hfit.1
  have hn1 := hfit.2
  have HB := hide hb
  clear hfit hb
  go_enter Tryz.func124, Tryz.ntmps124
  go_wp2_with fail
  refine (unhide HLOC).mono ?_
  rintro e w1 ⟨hpost, hb1⟩
  clear HLOC
  rcases hpost with ⟨hne, rfl⟩ | ⟨he, hok, u, hat, hu, rfl⟩
  ·have hne' : (fileE G p true != 0) = true := by simpa using hne
   have HFIN := hide (unhide HBAD true (unhide HB).symm w1 hb1 hne)
   clear hne
   go_wp2
   go_ret
   exact unhide HFIN
  ·obtain ⟨r, hin, hr0, hr1⟩ := FlOk.mono (unhide HFL) hat hu
   have hget := getI_code w1 tb rd V E vi G I C ((unhide HH).below hb1 (Nat.le_refl _)) hIl u.f r hin
   have HE := hide he
   have HAT := hide hat
   have HU := hide hu
   have HIN := hide hin
   clear he hok hat hu hin hr0 hr1
   go_wp2_with fail
   refine hget.mono ?_
   rintro e w2 ⟨rfl, hb2⟩
   have hbw : Below w.heap.size w w2 := hb1.trans (hb2.mono hb1.size)
   go_upto_region 5 with fail
   obtain ⟨W, hW, hx, hkW, hszW, hbW⟩ := alloc_name w2 [.slice r.a r.l r.c, .int .i64 r.f] 217
   have hbb : Below w.heap.size w W := hbw.trans (hbW.mono hbw.size)
   rw [hW]
   have a0 := hx.cell 0; have a1 := hx.cell 1
   have hTW := (unhide HH).below hbb (Nat.le_refl _)
   obtain ⟨m, hm⟩ : ∃ m : Nat, n = (m : Int) := ⟨n.toNat, by omega⟩
   have hdat := hTW.dat _ (unhide HIN)
   have hrs := resized_code W r.a r.l r.c (C u.f) hdat.rdB (Nat.le_trans (unhide HC _ (unhide HIN)) (by omega)) m (by omega)
   subst hm
   have HRS := hide hrs
   have HTW := hide hTW
   clear hW hkW hszW hbW hx hget hb1 hb2 hbw hdat hrs hTW
   go_wp2_with fail
   refine (unhide HRS).mono ?_
   rintro e w3 ⟨x, rfl, hxw, hSx, hb3⟩
   have hfill := fill_code w3 tb rd V E vi G I C ((unhide HTW).below hb3 (Nat.le_refl _)) hIl (unhide HLL) u.f r (unhide HIN) (some ⟨x, 0, none⟩) m m (by omega) (longR (C u.f) m) hSx
   have HF := hide hfill
   have hb4 : Below w.heap.size w w3 := hbb.trans (hb3.mono hbb.size)
   clear hfill HRS
   go_wp2_with fail
   refine (unhide HF).mono ?_
   rintro e w4 hpost
   have hps := hpost.ps hb4
   have HFIN : Hid (CtPost w tb G I C p (m : Int) e w4) := .inr ⟨by unfold ctE; rw [unhide HB]; exact unhide HE, u, r, some ⟨x, 0, none⟩, m, unhide HAT, unhide HU, unhide HIN, hps⟩
   have hee : e = .returned (.int .i64 9) ∨ e = .returned (.int .i64 0) := by
    obtain ⟨_, I', _, ⟨e1, _⟩ | ⟨e1, _⟩⟩ := hpost
    ·exact .inl e1
    ·exact .inr e1
   clear hpost hps HF
   rcases hee with rfl | rfl
   ·go_wp2
    go_ret
    exact unhide HFIN
   ·go_wp2
    go_ret
    exact unhide HFIN
 ·have hb := decide_eq_false hfit
  rw [hb] at HLOC
  have hne : fileE G p false ≠ 0 := fun e => by have := fileE_fits e; cases this
  have hne' : (fileE G p false != 0) = true := by simpa using hne
  have HNE := hide hne
  have HB := hide hb
  clear hne hb
  by_cases hn0 : 0 ≤ n
  ·have hn1 : ¬ n ≤ 1280 := fun h => hfit ⟨hn0, h⟩
   clear hfit
   go_enter Tryz.func124, Tryz.ntmps124
   go_wp2_with fail
   refine (unhide HLOC).mono ?_
   rintro e w1 ⟨hpost, hb1⟩
   rcases hpost with ⟨_, rfl⟩ | ⟨he, _⟩
   ·have HFIN := hide (unhide HBAD false (unhide HB).symm w1 hb1 (unhide HNE))
    clear HLOC
    go_wp2
    go_ret
    exact unhide HFIN
   ·exact absurd he (unhide HNE)
  ·clear hfit
   go_enter Tryz.func124, Tryz.ntmps124
   go_wp2_with fail
   refine (unhide HLOC).mono ?_
   rintro e w1 ⟨hpost, hb1⟩
   rcases hpost with ⟨_, rfl⟩ | ⟨he, _⟩
   ·have HFIN := hide (unhide HBAD false (unhide HB).symm w1 hb1 (unhide HNE))
    clear HLOC
    go_wp2
    go_ret
    exact unhide HFIN
   ·exact absurd he (unhide HNE)
def dirV (name : ByteArray) (n : Nat) : Value := .agg #[.string name, .bool true, .int .i64 (n : Int), .int .i64 1]
def filV (name : ByteArray) (n : Nat) (l : Int) : Value := .agg #[.string name, .bool false, .int .i64 (n : Int), .int .i64 l]
theorem set4' {w : World} {b : Nat} {t : TypeId} {a0 a1 a2 a3 : Value} (h : RowIs w b t [a0, a1, a2, a3]) (u0 u1 u2 u3 : Value) : RowIs ((((w.setCell ⟨b, 0, none⟩ u0).setCell ⟨b, 1, none⟩ u1).setCell ⟨b, 2, none⟩ u2).setCell ⟨b, 3, none⟩ u3) b t [u0, u1, u2, u3] := by
 have := (((h.set 0 u0).set 1 u1).set 2 u2).set 3 u3
 simpa using this
theorem below_set4' {w w1 : World} {B b : Nat} (h : Below B w w1) (hb : B ≤ b) (u0 u1 u2 u3 : Value) : Below B w ((((w1.setCell ⟨b, 0, none⟩ u0).setCell ⟨b, 1, none⟩ u1).setCell ⟨b, 2, none⟩ u2).setCell ⟨b, 3, none⟩ u3) :=
 (((h.setCell (p := ⟨b, 0, none⟩) hb _).setCell (p := ⟨b, 1, none⟩) hb _).setCell (p := ⟨b, 2, none⟩) hb _).setCell (p := ⟨b, 3, none⟩) hb _
theorem tellD_code (w : World) (tb rd : Nat) (V : Nat → Value) (E : Nat → List (ByteArray × VS)) (vi : Value) (G : Gh) (I : List (Int × VF)) (C : Int → ByteArray) (h : TW w tb rd V E vi G I C) (hG : GOk G) (hGl : G.length ≤ 10000) (name : ByteArray) (hn : name.size ≤ 2000000) (ns : List ByteArray) (b : Nat) (hd : IsDir G rd ns b) :
  Calls Tryz.prog 180 #[.pointer (some ⟨tb, 0, none⟩), .string name, .agg #[.pointer (some ⟨b, 0, none⟩), .int .i64 0]] w fun e w' => e = .returned (dirV name (G.countP (qIn ns))) ∧ Below w.heap.size w w' := by
 have HH := hide h
 have hcnt := h.d.len hG hd
 have hlen := fun (W : World) (hb : Below w.heap.size w W) => lenS W b 0 (V b) (E b).length (cellsS (E b)) ((h.d.below hb (Nat.le_refl _)).row ns b hd |>.cell 0) ((h.d.below hb (Nat.le_refl _)).sl ns b hd)
 rw [hcnt] at hlen
 have hcl : G.countP (qIn ns) ≤ 10000 := Nat.le_trans List.countP_le_length hGl
 obtain ⟨c, hc⟩ : ∃ c, c = G.countP (qIn ns) := ⟨_, rfl⟩
 rw [← hc] at hlen hcl ⊢
 have HLEN := hide hlen
 clear hlen hc hcnt h
 go_enter Tryz.func180, Tryz.ntmps180
 go_wp2_with fail
 obtain ⟨W1, hW1, hx1, hk1, hsz1, hb1⟩ := alloc_name w [.pointer (some ⟨b, 0, none⟩), .int .i64 0] 260
 obtain ⟨W2, hW2, hx2, hk2, hsz2, hb2⟩ := alloc_name W1 [.string ⟨#[]⟩, .bool false, .int .i64 0, .int .i64 0] 112
 have hbw : Below w.heap.size w W2 := hb1.trans (hb2.mono (by omega))
 have y1 := hk2 _ _ _ hx1
 rw [hsz1] at hx2
 rw [hW1, hW2]
 clear hW1 hW2 hk1 hk2 hb1 hb2 hx1
 refine (clone_code _ _ hn).mono ?_
 rintro e w3 ⟨rfl, hb3⟩
 have z1 : RowIs w3 w.heap.size 260 _ := (hb3.block _ y1.lt).trans y1
 have z2 : RowIs w3 (w.heap.size + 1) 112 _ := (hb3.block _ hx2.lt).trans hx2
 have hbw3 : Below w.heap.size w w3 := hbw.trans (hb3.mono hbw.size)
 have a0 := z1.cell 0; have a1 := z1.cell 1
 have b0 := z2.cell 0; have b1 := z2.cell 1; have b2 := z2.cell 2; have b3 := z2.cell 3
 have f0 := z2.frozen 0; have f1 := z2.frozen 1; have f2 := z2.frozen 2; have f3 := z2.frozen 3
 clear y1 hx2 hbw hb3 hsz1 hsz2
 go_wp2_with (first | (go_at_call 178; refine (unhide HLEN _ hbw3).mono ?_; rintro e w' ⟨rfl, hw⟩; rw [hw]; clear hw))
 have hR := set4' z2 (.string name) (.bool true) (.int .i64 (c : Int)) (.int .i64 1)
 have r0 := hR.cell 0; have r1 := hR.cell 1; have r2 := hR.cell 2; have r3 := hR.cell 3
 exact bodyPost_ret (v := dirV name c) (by simp [results, Tryz.results180, go_sem, r0, r1, r2, r3, dirV]) rfl ⟨rfl, below_set4' hbw3 (Nat.le_succ _) _ _ _ _⟩
theorem tellF_code (w : World) (tb rd : Nat) (V : Nat → Value) (E : Nat → List (ByteArray × VS)) (vi : Value) (G : Gh) (I : List (Int × VF)) (C : Int → ByteArray) (h : TW w tb rd V E vi G I C) (hIl : I.length ≤ 10000) (name : ByteArray) (hn : name.size ≤ 2000000) (n : Int) (r : VF) (hin : (n, r) ∈ I) :
  Calls Tryz.prog 180 #[.pointer (some ⟨tb, 0, none⟩), .string name, .agg #[.pointer none, .int .i64 n]] w fun e w' => e = .returned (filV name r.l r.f) ∧ Below w.heap.size w w' := by
 have HGET : Hid (∀ W, Below w.heap.size w W → _) := fun W hb => getI_code W tb rd V E vi G I C (h.below hb (Nat.le_refl _)) hIl n r hin
 clear h hin
 go_enter Tryz.func180, Tryz.ntmps180
 go_wp2_with fail
 obtain ⟨W1, hW1, hx1, hk1, hsz1, hb1⟩ := alloc_name w [.pointer none, .int .i64 n] 260
 obtain ⟨W2, hW2, hx2, hk2, hsz2, hb2⟩ := alloc_name W1 [.string ⟨#[]⟩, .bool false, .int .i64 0, .int .i64 0] 112
 have hbw : Below w.heap.size w W2 := hb1.trans (hb2.mono (by omega))
 have y1 := hk2 _ _ _ hx1
 rw [hsz1] at hx2
 rw [hW1, hW2]
 clear hW1 hW2 hk1 hk2 hb1 hb2 hx1
 refine (clone_code _ _ hn).mono ?_
 rintro e W3 ⟨rfl, hb3⟩
 have z1 : RowIs W3 w.heap.size 260 _ := (hb3.block _ y1.lt).trans y1
 have z2 : RowIs W3 (w.heap.size + 1) 112 _ := (hb3.block _ hx2.lt).trans hx2
 have hbw3 : Below w.heap.size w W3 := hbw.trans (hb3.mono hbw.size)
 have a0 := z1.cell 0; have a1 := z1.cell 1
 have hlt3 : w.heap.size + 1 < W3.heap.size := z2.lt
 have hne0 : ¬ W3.heap.size = w.heap.size := by omega
 have hne2 : ¬ w.heap.size = W3.heap.size := by omega
 have hbd := hbw3.drew
 clear y1 hx2 hbw hb3 hsz1 hsz2
 go_upto_region 4 with fail
 go_region_held3 (fun W => W.cell? ⟨w.heap.size, 1, none⟩ = some (.int .i64 n)) (go_keep)
  (first | (go_at_call 175; refine (unhide HGET _ (by first | exact hbw3.drew | exact hbd.alloc hbd.size _ | exact (hbw3.alloc hbw3.size _).drew)).mono ?_; rintro e w' ⟨rfl, hbg⟩; have hb3 : Below W3.heap.size W3 w' := (by first | exact ((Below.refl _ W3).drew).trans (hbg.mono (by simp)) | exact (((Below.refl _ W3).alloc (Nat.le_refl _) _).drew).trans (hbg.mono (by simp))); have m0 := (hb3.cell (p := ⟨w.heap.size, 1, none⟩) (by show w.heap.size < W3.heap.size; omega)).trans a1; (try (have z : RowIs w' W3.heap.size 217 [.slice none 0 0, .int .i64 0] := (hbg.block W3.heap.size (by simp)).trans (row_new W3 [.slice none 0 0, .int .i64 0] 217); have z0 := z.cell 0; have z1 := z.cell 1; have zf0 := z.frozen 0; have zf1 := z.frozen 1))))
 case' refine_2.refine_3.refine_3.refine_3.refine_3.refine_3.refine_1.refine_2.refine_3.refine_3.refine_3.refine_1.refine_2.refine_1.refine_2.refine_3 =>
  obtain ⟨W4, hW4, hx7, hk4, hsz4, hb4⟩ := alloc_name w' [.slice r.a r.l r.c, .int .i64 r.f] 217
  rw [hW4]
  have hB4 : Below W3.heap.size W3 W4 := hb3.trans (hb4.mono hb3.size)
  have h7lt : W3.heap.size ≤ w'.heap.size := hb3.size
  obtain ⟨B7, hB7⟩ : ∃ b, b = w'.heap.size := ⟨_, rfl⟩
  rw [← hB7] at hx7 h7lt ⊢
  clear hW4 hk4 hsz4 hb4 hB7
 case' refine_2.refine_3.refine_3.refine_3.refine_3.refine_3.refine_2.refine_1.refine_2.refine_1.refine_2.refine_3.refine_3.refine_3.refine_1.refine_2.refine_3 =>
  have hx7 : RowIs ((w'.setCell ⟨W3.heap.size, 0, none⟩ (.slice r.a r.l r.c)).setCell ⟨W3.heap.size, 1, none⟩ (.int .i64 r.f)) W3.heap.size 217 [.slice r.a r.l r.c, .int .i64 r.f] := by
   have := (z.set 0 (.slice r.a r.l r.c)).set 1 (.int .i64 r.f)
   simpa using this
  have hB4 : Below W3.heap.size W3 ((w'.setCell ⟨W3.heap.size, 0, none⟩ (.slice r.a r.l r.c)).setCell ⟨W3.heap.size, 1, none⟩ (.int .i64 r.f)) := (hb3.setCell (p := ⟨W3.heap.size, 0, none⟩) (Nat.le_refl _) _).setCell (p := ⟨W3.heap.size, 1, none⟩) (Nat.le_refl _) _
  obtain ⟨W4, hW4⟩ : ∃ W4, (w'.setCell ⟨W3.heap.size, 0, none⟩ (.slice r.a r.l r.c)).setCell ⟨W3.heap.size, 1, none⟩ (.int .i64 r.f) = W4 := ⟨_, rfl⟩
  rw [hW4] at hx7 hB4 ⊢
  obtain ⟨B7, hB7⟩ : ∃ b, b = W3.heap.size := ⟨_, rfl⟩
  have h7lt : W3.heap.size ≤ B7 := by omega
  rw [← hB7] at hx7
  rw [show (Value.pointer (some { block := W3.heap.size, off := 0 })) = Value.pointer (some { block := B7, off := 0 }) by rw [hB7]]
  clear hW4 hB7
 all_goals
  have y2 : RowIs W4 (w.heap.size + 1) 112 _ := (hB4.block _ hlt3).trans z2
  have hbw4 : Below w.heap.size w W4 := hbw3.trans (hB4.mono hbw3.size)
  have b0 := y2.cell 0; have b1 := y2.cell 1; have b2 := y2.cell 2; have b3 := y2.cell 3
  have f0 := y2.frozen 0; have f1 := y2.frozen 1; have f2 := y2.frozen 2; have f3 := y2.frozen 3
  have c0 := hx7.cell 0; have c1 := hx7.cell 1
  clear hne0 hne2 hbd hbg hb3 m0 hB4 HGET hx7
  go_wp2
  have hR := set4' y2 (.string name) (.bool false) (.int .i64 (r.l : Int)) (.int .i64 r.f)
  have r0 := hR.cell 0; have r1 := hR.cell 1; have r2 := hR.cell 2; have r3 := hR.cell 3
  exact bodyPost_ret (v := filV name r.l r.f) (by simp [results, Tryz.results180, go_sem, r0, r1, r2, r3, filV]) rfl ⟨rfl, below_set4' hbw4 (Nat.le_succ _) _ _ _ _⟩
def tellV (G : Gh) (I : List (Int × VF)) (ns : List ByteArray) (name : ByteArray) (u : VS) (v : Value) : Prop :=
 (u.p.isSome = true ∧ v = dirV name (G.countP (qIn ns))) ∨ (u.p = none ∧ ∃ r, (u.f, r) ∈ I ∧ v = filV name r.l r.f)
theorem tell_code (w : World) (tb rd : Nat) (V : Nat → Value) (E : Nat → List (ByteArray × VS)) (vi : Value) (G : Gh) (I : List (Int × VF)) (C : Int → ByteArray) (h : TW w tb rd V E vi G I C) (hG : GOk G) (hGl : G.length ≤ 10000) (hIl : I.length ≤ 10000) (hFl : FlOk G I) (name : ByteArray) (hn : name.size ≤ 2000000) (ns : List ByteArray) (u : VS)
  (hu : (∃ b, u = ⟨some ⟨b, 0, none⟩, 0⟩ ∧ IsDir G rd ns b) ∨ (u.p = none ∧ ∃ x ∈ G, x.2 = u)) :
  Calls Tryz.prog 180 #[.pointer (some ⟨tb, 0, none⟩), .string name, .agg #[.pointer u.p, .int .i64 u.f]] w fun e w' => ∃ v, e = .returned v ∧ tellV G I ns name u v ∧ Below w.heap.size w w' := by
 rcases hu with ⟨b, rfl, hd⟩ | ⟨hp, x, hx, rfl⟩
 ·refine (tellD_code w tb rd V E vi G I C h hG hGl name hn ns b hd).mono ?_
  rintro e w' ⟨rfl, hb⟩
  exact ⟨_, rfl, .inl ⟨rfl, rfl⟩, hb⟩
 ·obtain ⟨r, hin, _, _⟩ := hFl x hx hp
  rw [hp]
  refine (tellF_code w tb rd V E vi G I C h hIl name hn x.2.f r hin).mono ?_
  rintro e w' ⟨rfl, hb⟩
  exact ⟨_, rfl, .inr ⟨hp, r, hin, rfl⟩, hb⟩
theorem tellV_shape {G : Gh} {I : List (Int × VF)} {ns : List ByteArray} {name : ByteArray} {u : VS} {v : Value} (h : tellV G I ns name u v) : ∃ b c d, v = .agg #[.string name, .bool b, .int .i64 c, .int .i64 d] := by
 rcases h with ⟨_, rfl⟩ | ⟨_, r, _, rfl⟩
 ·exact ⟨_, _, _, rfl⟩
 ·exact ⟨_, _, _, rfl⟩
def StPost (w : World) (G : Gh) (I : List (Int × VF)) (p : ByteArray) (e : Ending) (w' : World) : Prop :=
 ((thE G p ≠ 0 ∧ e = .returned (.tuple #[noEntry, .int .i64 (thE G p)])) ∨
  (thE G p = 0 ∧ ∃ v, ((names p = [] ∧ v = dirV ⟨#[]⟩ (G.countP (qIn []))) ∨ ∃ ds n u, names p = ds ++ [n] ∧ atG G (names p) = some u ∧ tellV G I (names p) n u v) ∧ e = .returned (.tuple #[v, .int .i64 0]))) ∧ Below w.heap.size w w'
theorem statT_code (w : World) (tb rd : Nat) (V : Nat → Value) (E : Nat → List (ByteArray × VS)) (vi : Value) (G : Gh) (I : List (Int × VF)) (C : Int → ByteArray) (h : TW w tb rd V E vi G I C) (hG : GOk G) (hGl : G.length ≤ 10000) (hIl : I.length ≤ 10000) (hFl : FlOk G I) (p : ByteArray) (hp : p.size ≤ 2000000) :
  Calls Tryz.prog 121 #[.pointer (some ⟨tb, 0, none⟩), .string p] w (StPost w G I p) := by
 have hal : ∀ o, Below w.heap.size w (w.alloc o) := fun o => (Below.refl _ _).alloc (Nat.le_refl _) o
 have hth := fun o => there_code (w.alloc o) tb rd V E vi G I C (h.below (hal o) (Nat.le_refl _)) hG hGl p hp
 have HR0 := hide (row_new w [.string ⟨#[]⟩, .bool false, .int .i64 0, .int .i64 0] 112)
 have HH := hide h
 have HFL := hide hFl
 clear h hFl
 go_enter Tryz.func121, Tryz.ntmps121
 go_wp2_with fail
 refine (hth _).mono ?_
 rintro e w1 ⟨hpost, hb1⟩
 have hb : Below w.heap.size w w1 := (hal _).trans (hb1.mono (by simp))
 have hr1 : RowIs w1 w.heap.size 112 _ := (hb1.block _ (by simp)).trans (unhide HR0)
 have hlt : w.heap.size < w1.heap.size := hr1.lt
 clear hth hal hb1 HR0
 rcases hpost with ⟨hne, rfl⟩ | ⟨he, hok, d, n, u, hsp, rfl⟩
 ·have HNE := hide hne
  have hne' : (thE G p != 0) = true := by simpa using hne
  clear hne
  unfold noSpot spotV
  go_upto_if 15 with fail
  obtain ⟨W, hW, hx, hk, hsz, hbW⟩ := alloc_name w1 zeroL 262
  have hy := hk _ _ _ hr1
  have hb2 : Below w.heap.size w W := hb.trans (hbW.mono hb.size)
  rw [hW]
  clear hW hr1 hb hk hbW
  have b0 := hy.cell 0; have b1 := hy.cell 1; have b2 := hy.cell 2; have b3 := hy.cell 3
  have g0 := hy.frozen 0; have g1 := hy.frozen 1; have g2 := hy.frozen 2; have g3 := hy.frozen 3
  go_wp2
  have hR := set4' hy (.string ⟨#[]⟩) (.bool false) (.int .i64 0) (.int .i64 0)
  have r0 := hR.cell 0; have r1 := hR.cell 1; have r2 := hR.cell 2; have r3 := hR.cell 3
  exact bodyPost_ret (v := .tuple #[noEntry, .int .i64 (thE G p)]) (by simp [results, Tryz.results121, go_sem, r0, r1, r2, r3, noEntry]) rfl
   ⟨.inl ⟨unhide HNE, rfl⟩, below_set4' hb2 (Nat.le_refl _) _ _ _ _⟩
 ·have HSP := hide hsp
  have HE := hide he
  have hcs := spot_cases (unhide HH).d hsp
  have hname : n.size ≤ 2000000 := by
   rcases hsp with ⟨_, _, rfl, _⟩ | ⟨ds, db, h1, _⟩
   ·exact Nat.zero_le _
   ·exact name_size hok h1
  clear hsp he hok
  unfold spotV
  go_upto_if 15 with fail
  obtain ⟨W, hW, hx, hk, hsz, hbW⟩ := alloc_name w1 (spotL d n true u) 262
  have hy := hk _ _ _ hr1
  have hb2 : Below w.heap.size w W := hb.trans (hbW.mono hb.size)
  rw [hW]
  clear hW hr1 hb hk hbW
  have a0 := hx.cell 0; have a1 := hx.cell 1; have a2 := hx.cell 2; have a3 := hx.cell 3; have a4 := hx.cell 4
  have htell := tell_code W tb rd V E vi G I C ((unhide HH).below hb2 (Nat.le_refl _)) hG hGl hIl (unhide HFL) n hname (names p) u (by
   rcases hcs with ⟨h1, _⟩ | ⟨_, _, h2, h3⟩ | ⟨_, b, h2, h3, _⟩
   ·cases h1
   ·exact .inr ⟨h3, _, atG_mem h2, rfl⟩
   ·exact .inl ⟨b, h2, h3⟩)
  have HT := hide htell
  clear htell hcs
  go_wp2_with fail
  refine (unhide HT).mono ?_
  rintro e w3 ⟨v, rfl, htv, hb3⟩
  obtain ⟨vb, vc, vd, rfl⟩ := tellV_shape htv
  have hy3 : RowIs w3 w.heap.size 112 _ := (hb3.block _ hy.lt).trans hy
  have hb4 : Below w.heap.size w w3 := hb2.trans (hb3.mono hb2.size)
  have b0 := hy3.cell 0; have b1 := hy3.cell 1; have b2 := hy3.cell 2; have b3 := hy3.cell 3
  have g0 := hy3.frozen 0; have g1 := hy3.frozen 1; have g2 := hy3.frozen 2; have g3 := hy3.frozen 3
  have HTV := hide htv
  clear htv HT hy hx
  go_wp2
  have hR := set4' hy3 (.string n) (.bool vb) (.int .i64 vc) (.int .i64 vd)
  have r0 := hR.cell 0; have r1 := hR.cell 1; have r2 := hR.cell 2; have r3 := hR.cell 3
  refine bodyPost_ret (v := .tuple #[.agg #[.string n, .bool vb, .int .i64 vc, .int .i64 vd], .int .i64 0]) (by simp [results, Tryz.results121, go_sem, r0, r1, r2, r3]) rfl
   ⟨.inr ⟨unhide HE, _, ?_, rfl⟩, below_set4' hb4 (Nat.le_refl _) _ _ _ _⟩
  rcases unhide HSP with ⟨h1, _, h3, _, h5⟩ | ⟨ds, db, h1, _⟩
  ·refine .inl ⟨h1, ?_⟩
   rcases unhide HTV with ⟨_, e⟩ | ⟨hp, _⟩
   ·rw [e, h1, h3]
   ·rw [h5] at hp; cases hp
  ·have hne : names p ≠ [] := by rw [h1]; simp
   obtain ⟨ds', db', h1', _, _, h4⟩ := (unhide HSP).in hne
   exact .inr ⟨ds', n, u, h1', h4, unhide HTV⟩
end Go.Proofs.YtaieidcohdhgpaaGreatDoor
