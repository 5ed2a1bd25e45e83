/- Files. -/
import Derived.Test.YtaieidcohdhgpaaGreatDoorPAF
import Derived.Deep.DeepCutAuto
import Derived.Deep.RegionHeld3
namespace Go.Proofs.YtaieidcohdhgpaaGreatDoor
open Go.RowKit
set_option maxHeartbeats 1000000
set_option maxRecDepth 100000
theorem below_of_grown {w w' : World} (h : w.grownBy w' none) : Below w.heap.size w w' := ⟨h.os, h.tape, h.output, h.size, fun k hk => h.block k hk (by simp)⟩
def cutR (s : ByteArray) (at_ n : Int) : ByteArray := s.extract (min at_.toNat s.size) (min at_.toNat s.size + min n.toNat (s.size - min at_.toNat s.size))
def readR (L : List (ByteArray × Int)) (F : List ByteArray) (p : ByteArray) (at_ n : Int) : ByteArray × Int :=
 if nmOk p = false then (⟨#[]⟩, 1) else
 if at_ < 0 ∨ n < 0 then (⟨#[]⟩, 2) else
 if aheadR L p ≠ 0 then (⟨#[]⟩, aheadR L p) else
 if (p.toList == [47]) = true then (⟨#[]⟩, 5) else
 match look L p with
 | none => (⟨#[]⟩, 3)
 | some f => if f < 0 then (⟨#[]⟩, 5) else (cutR (F[f.toNat]?.getD ⟨#[]⟩) at_ n, 0)
theorem read_ref (w : World) (rb : Nat) (vl vf : Value) (L : List (ByteArray × Int)) (F : List ByteArray) (h : RefW w rb vl vf L F) (hfv : ∀ x ∈ L, x.2 < F.length) (p : ByteArray) (hp : p.size ≤ 2000000) (at_ n : Int) (ha : at_ ≤ 9223372036854775807) (hn : n ≤ 9223372036854775807) :
  Calls Tryz.prog 112 #[.pointer (some ⟨rb, 0, none⟩), .string p, .int .i64 at_, .int .i64 n] w fun e w' => e = .returned (.tuple #[.string (readR L F p at_ n).1, .int .i64 (readR L F p at_ n).2]) ∧ Below w.heap.size w w' := by
 obtain ⟨R, hR⟩ : ∃ R, R = readR L F p at_ n := ⟨_, rfl⟩
 rw [← hR]
 unfold readR at hR
 have HW := hide h
 have HFV := hide hfv
 obtain ⟨av, cv, rfl, hrd⟩ := h.sl.rdL
 obtain ⟨af, cf, rfl, hrf⟩ := h.sf.rdF
 have HRD := hide hrd
 have HRF := hide hrf
 clear h hrd hrf hfv
 go_enter Tryz.func112, Tryz.ntmps112
 go_wp2_with fail
 refine (names_ref p _ hp).mono ?_
 rintro e w2 ⟨a2, n2, c2, rfl, _, hb⟩
 cases hob : nmOk p with
 | false =>
  have hR2 : R = (⟨#[]⟩, 1) := by rw [hR, hob]; rfl
  have H1 := hide hR2
  clear hR hR2
  go_wp2
  go_ret2
  exact ⟨by rw [unhide H1]; rfl, hb⟩
 | true =>
 rw [hob, if_neg (by simp)] at hR
 by_cases hneg : at_ < 0
 ·have hR3 := hR
  have hR2 : R = (⟨#[]⟩, 2) := by rw [hR3, if_pos (.inl hneg)]
  have H1 := hide hR2
  clear hR hR2
  clear hR3; go_wp2
  go_ret2
  exact ⟨by rw [unhide H1]; rfl, hb⟩
 by_cases hneg2 : n < 0
 ·have hR3 := hR
  have hR2 : R = (⟨#[]⟩, 2) := by rw [hR3, if_pos (.inr hneg2)]
  have H1 := hide hR2
  clear hR hR2
  clear hR3; go_wp2
  go_ret2
  exact ⟨by rw [unhide H1]; rfl, hb⟩
 rw [if_neg (by omega)] at hR
 obtain ⟨e1, he1⟩ : ∃ e1, e1 = aheadR L p := ⟨_, rfl⟩
 have hah : Calls Tryz.prog 104 #[.pointer (some ⟨rb, 0, none⟩), .string p] w2 fun e w'' => e = .returned (.int .i64 (aheadR L p)) ∧ w'' = w2 := ((unhide HW).at hb).ahead p hp
 rw [← he1] at hR hah
 by_cases h0 : e1 ≠ 0
 ·have hbb : (e1 != 0) = true := by rw [bne_iff_ne]; exact h0
  rw [if_pos h0] at hR
  clear h0 he1
  have hR2 : R = (⟨#[]⟩, e1) := by rw [hR]
  have H1 := hide hR2
  clear hR hR2
  go_wp2_with (go_at_call 104; refine hah.mono ?_; rintro e w' ⟨rfl, hw⟩; rw [hw]; clear hw)
  go_ret2
  exact ⟨by rw [unhide H1]; rfl, hb⟩
 rw [if_neg h0] at hR
 obtain rfl : e1 = 0 := by omega
 go_wp2_with (go_at_call 104; refine hah.mono ?_; rintro e w' ⟨rfl, hw⟩; rw [hw]; clear hw)
 have hfd := ((unhide HW).at hb).find p
 refine hfd.mono ?_
 rintro e w' ⟨r, ⟨rfl, hfi⟩, hw⟩
 rw [hw]; clear hw hfd
 have hcw := ((unhide HW).at hb).c.c0
 have hcw1 := ((unhide HW).at hb).c.c1
 clear hah he1 h0
 cases h1 : (p.toList == [47]) with
 | true =>
  have h1' : (p.toList != [47]) = false := by simp only [bne, h1]; rfl
  rw [if_pos h1] at hR
  clear hfi
  have hR2 : R = (⟨#[]⟩, 5) := by rw [hR]
  have H1 := hide hR2
  clear hR hR2
  go_wp2
  go_ret2
  exact ⟨by rw [unhide H1]; rfl, hb⟩
 | false =>
 rw [if_neg (by rw [h1]; simp)] at hR
 have h1' : (p.toList != [47]) = true := by simp only [bne, h1]; rfl
 rcases hfi with ⟨rfl, hno⟩ | ⟨k, x, rfl, hk', hx, hfst⟩
 ·have hl : look L p = none := (look_of_find (.inl ⟨rfl, hno⟩)).elim (fun h => h.2) (fun ⟨_, _, h, _⟩ => by omega)
  rw [hl] at hR
  clear hl hno
  have hR2 : R = (⟨#[]⟩, 3) := by rw [hR]
  have H1 := hide hR2
  clear hR hR2
  go_wp2
  go_ret2
  exact ⟨by rw [unhide H1]; rfl, hb⟩
 rw [FindIs.look hk' hx hfst] at hR
 have hkl := (List.getElem?_eq_some_iff.1 hk').1
 have hfl := unhide HFV x (List.mem_of_getElem? hk')
 obtain ⟨g, rfl, q0, q1⟩ := (unhide HRD) k x hk'
 have hg : g < w.heap.size := (unhide HW).sl.lt rfl
 have q1' := (hb.cell (p := ⟨g, k * 2 + 1, none⟩) hg).trans q1
 clear hfst hx hk' q0 q1
 by_cases hx0 : x.2 < 0
 ·have hR3 : R = (⟨#[]⟩, 5) := by rw [hR]; simp [hx0]
  have hR2 : R = (⟨#[]⟩, 5) := by exact hR3
  have H1 := hide hR2
  clear hR hR2
  clear hR3; go_wp2
  go_ret2
  exact ⟨by rw [unhide H1]; rfl, hb⟩
 simp only [if_neg hx0] at hR
 obtain ⟨f, hf⟩ : ∃ f : Nat, x.2 = (f : Int) := ⟨x.2.toNat, by omega⟩
 rw [hf] at hR q1' hfl
 have hfl' : f < F.length := by omega
 have hFf : F[f]? = some F[f] := List.getElem?_eq_getElem hfl'
 obtain ⟨gf, rfl, s0⟩ := (unhide HRF) f _ hFf
 have hgf : gf < w.heap.size := (unhide HW).sf.lt rfl
 have s0' := (hb.cell (p := ⟨gf, f, none⟩) hgf).trans s0
 have hsz : F[f].size ≤ 2000000 := (unhide HW).okf _ (List.getElem_mem _)
 rw [Int.toNat_natCast, hFf] at hR
 have hR3 : R = (cutR F[f] at_ n, 0) := hR
 have hnf := (unhide HW).nf
 clear hFf s0 hR
 obtain ⟨s, hs⟩ : ∃ s, s = F[f] := ⟨_, rfl⟩
 rw [← hs] at hR3 s0' hsz
 obtain ⟨i, rfl⟩ : ∃ i : Nat, at_ = i := ⟨at_.toNat, by omega⟩
 obtain ⟨j, rfl⟩ : ∃ j : Nat, n = j := ⟨n.toNat, by omega⟩
 unfold cutR at hR3
 rw [Int.toNat_natCast, Int.toNat_natCast] at hR3
 have hx0' : (0 : Int) ≤ (f : Int) := by omega
 clear hs hf hx0 hneg hneg2
 have HR3 := hide hR3
 clear hR3
 have hbd : Below w.heap.size w w2.drew := hb.drew
 by_cases c1 : s.size < i
 ·have hR4 : R = (ByteArray.empty, 0) := by rw [unhide HR3, Nat.min_eq_right (by omega), Nat.sub_self, Nat.min_zero, Nat.add_zero]; simp
  have H4 := hide hR4
  clear hR4 HR3
  by_cases c2 : 0 < j
  ·go_wp2_with fail
   go_region
   all_goals
    go_wp2
    go_ret2
    exact ⟨by rw [unhide H4]; rfl, hbd⟩
  ·obtain rfl : j = 0 := by omega
   go_wp2_with fail
   go_region
   all_goals
    go_wp2
    go_ret2
    exact ⟨by rw [unhide H4]; rfl, hbd⟩
 ·by_cases c2 : s.size - i < j
  ·have hR4 : R = (s.extract i (i + (s.size - i)), 0) := by rw [unhide HR3, Nat.min_eq_left (by omega), Nat.min_eq_right (by omega)]
   have H4 := hide hR4
   have c2' : (s.size : Int) - (i : Int) < (j : Int) := by omega
   clear hR4 HR3
   go_wp2_with fail
   go_region
   all_goals
    go_wp2
    go_ret2
    exact ⟨by rw [unhide H4]; rfl, hbd⟩
  ·have hR4 : R = (s.extract i (i + j), 0) := by rw [unhide HR3, Nat.min_eq_left (by omega), Nat.min_eq_left (by omega)]
   have H4 := hide hR4
   have c2' : ¬ (s.size : Int) - (i : Int) < (j : Int) := by omega
   clear hR4 HR3
   go_wp2_with fail
   go_region
   all_goals
    go_wp2
    go_ret2
    exact ⟨by rw [unhide H4]; rfl, hbd⟩
def longR (s : ByteArray) (n : Nat) : ByteArray := if n ≤ s.size then s.extract 0 n else s ++ ⟨(List.replicate (n - s.size) 0).toArray⟩
theorem info5 : (Tryz.prog.info? 5).map (fun i => (i.zero, i.size, i.bytes)) = some (some (.int .u8 0), 1, 1) := by kernel_rfl
theorem push_zeros : ∀ (n : Nat) (r : ByteArray), (List.replicate n (0 : Int)).foldl (fun r n => r.push (UInt8.ofNat n.toNat)) r = r ++ ⟨(List.replicate n (0 : UInt8)).toArray⟩
 | 0, r => by apply WideShapes.bytes_inj; simp [ByteArray.data_append]
 | n + 1, r => by
  rw [List.replicate_succ, List.foldl_cons, push_zeros n]
  apply WideShapes.bytes_inj
  simp [ByteArray.data_append, ByteArray.data_push, List.replicate_succ]
theorem long_ref (s : ByteArray) (n : Nat) (w : World) (hs : s.size ≤ 2000000) (hn : n ≤ 2000000) : Calls Tryz.prog 107 #[.string s, .int .i64 n] w fun e w' => e = .returned (.string (longR s n)) ∧ Below w.heap.size w w' := by
 obtain ⟨r, hr⟩ : ∃ r, r = longR s n := ⟨_, rfl⟩
 rw [← hr]
 unfold longR at hr
 by_cases h : n ≤ s.size
 ·rw [if_pos h] at hr
  subst hr
  go_enter Tryz.func107, Tryz.ntmps107
  go_wp2
  go_ret
  exact ⟨rfl, Below.refl _ _⟩
 ·rw [if_neg h] at hr
  have HR := hide hr
  clear hr
  obtain ⟨i0, hi0, hz0, hz1, hz2⟩ := info_parts info5
  obtain ⟨m, hm⟩ : ∃ m, m = n - s.size := ⟨_, rfl⟩
  have hmi : (n : Int) - (s.size : Int) = (m : Int) := by omega
  rw [← hm] at HR
  have HMI := hide hmi
  have hconv : ∀ W : World, W.ownsRow 0 5 1 (.slice (some ⟨w.heap.size, 0, none⟩) m m) m (madeCells (Value.int .u8 0).cells (m * 1)).toList → (convert 59 9 (.slice (some ⟨w.heap.size, 0, none⟩) m m)).run Tryz.prog W = .ok (.string ⟨(List.replicate m 0).toArray⟩) W := fun W hW => by
   have e1 : (madeCells (Value.int .u8 0).cells (m * 1)).toList = (List.replicate m (0 : Int)).map (Value.int .u8) := by
    rw [Nat.mul_one]
    exact (toList_madeCells_one (.int .u8 0) m).trans (by simp)
   rw [e1] at hW
   have hl := run_loadCells_list (P := Tryz.prog) W ⟨w.heap.size, 0, none⟩ ((List.replicate m (0 : Int)).map (Value.int .u8)) (hW.cells rfl)
   rw [List.length_map, List.length_replicate] at hl
   rw [run_convert_bytes_string W 59 9 5 _ _ _ Tryz.underlying59 Tryz.underlying5 Tryz.underlying9, run_bytesToString W _ m m _ hl, push_zeros]
   congr 2
  have HCV := hide hconv
  have hml : m ≤ 2000000 := by omega
  clear hconv hmi hm
  go_enter Tryz.func107, Tryz.ntmps107
  go_wp2_with (at_make; refine wpList_make_full _ rfl _ _ 59 rfl 0 5 i0 (.int .u8 0) 1 Tryz.underlying59 hi0 hz0 hz1 _ _ _ _ m rfl rfl (unhide HMI) (unhide HMI) (by rw [hz2]; omega) (by unfold maxLen; omega) (Nat.zero_le _) ?_; intro w1 hown hgr; have hcv := unhide HCV w1 hown)
  go_ret
  exact ⟨by rw [unhide HR]; rfl, below_of_grown hgr⟩
theorem appCopy (W : World) (t e : TypeId) (i : TypeInfo) (z : Value) (size bytes : Nat) (ht : Tryz.prog.underlying t = some (.slice e)) (hi : Tryz.prog.info? e = some i) (hz : i.zero = some z)
  (hsize : i.size = size) (hby : i.bytes = bytes) (hzs : z.cells.size = size) (hsz : 0 < size) (v : Value) (n : Nat) (xs : List Value) (hS : Sl W e size v n xs) (h1 : ∀ u ∈ xs, u.oneCell' = true) (hn : n ≤ maxLen) (hb : n * bytes ≤ 140737488355328) :
  ∃ a' n' c' w', (Builtin.append_ #[t, t] t #[.slice none 0 0, v]).run Tryz.prog W = .ok (.slice a' n' c') w' ∧ Sl w' e size (.slice a' n' c') n xs ∧ Below W.heap.size W w' ∧ (∀ g, (Value.slice a' n' c').ownBlock = some g → W.heap.size ≤ g) := by
 rcases hS.2 with ⟨rfl, rfl⟩ | ⟨g, cap, L, rfl, hR, h3, h4, h5, h6⟩
 ·have hx : xs = [] := List.eq_nil_of_length_eq_zero (by simpa using hS.1)
  subst hx
  obtain ⟨v', w', r1, r2, r3, r4⟩ : ∃ v' w', (Builtin.append_ #[t, t] t #[.slice none 0 0, .slice none 0 0]).run Tryz.prog W = .ok v' w' ∧ v' = .slice none 0 0 ∧ w' = W ∧ True := by
   refine ⟨.slice none 0 0, W, ?_, rfl, rfl, trivial⟩
   simp [Builtin.append_, run_underlying ht, sizeOf, typeInfo, hi, Builtin.lenOf, Builtin.firstCells]
  subst r2; subst r3
  exact ⟨none, 0, 0, w', r1, ⟨by simp, .inl ⟨rfl, rfl⟩⟩, Below.refl _ _, fun g h => by simp [Value.ownBlock] at h⟩
 ·have hc := hS.owns.cells (g := g) rfl
  obtain ⟨v', w', r1, r2, r3, r4⟩ := append_new (P := Tryz.prog) W t t e i z size bytes ht hi hz hsize hby hzs hsz (.slice none 0 0) 0 [] ⟨by simp, .inl ⟨rfl, rfl⟩⟩ ⟨g, 0, none⟩ n cap xs hS.1 hc h1 (by omega) (by rw [Nat.zero_add]; exact hb)
  obtain ⟨a', n', c', rfl⟩ := r2.shape
  refine ⟨a', n', c', w', r1, by simpa using r2, ⟨r3.os, r3.tape, r3.output, r3.size, fun k hk => r3.block k hk (by simp [Value.ownBlock])⟩, fun x hx => (r4 x hx).resolve_left (by simp [Value.ownBlock])⟩
theorem copy_ref (w : World) (rb : Nat) (vl vf : Value) (L : List (ByteArray × Int)) (F : List ByteArray) (h : RefW w rb vl vf L F) :
  Calls Tryz.prog 106 #[.pointer (some ⟨rb, 0, none⟩)] w fun e w' => e = .returned (.pointer (some ⟨w.heap.size, 0, none⟩)) ∧ ∃ vl' vf', RefW w' w.heap.size vl' vf' L F ∧ Below w.heap.size w w' ∧ ∀ k, RefOwn w.heap.size vl' vf' k → w.heap.size ≤ k := by
 obtain ⟨i0, hi0, hz0, hz1, hz2⟩ := info_parts info81
 obtain ⟨i9, hi9, hz90, hz91, hz92⟩ := info_parts info9
 have hnl := h.nl
 have hnf := h.nf
 -- the new block
 obtain ⟨W0, hW0⟩ : ∃ W0, W0 = (w.alloc (.cells #[.slice none 0 0, .slice none 0 0] 89)).drew := ⟨_, rfl⟩
 have hb0 : Below w.heap.size w W0 := by rw [hW0]; exact ((Below.refl _ _).alloc (Nat.le_refl _) _).drew
 have hx0 : RowIs W0 w.heap.size 89 [.slice none 0 0, .slice none 0 0] := by rw [hW0]; exact heap_alloc_new w _
 have hs0 : w.heap.size + 1 ≤ W0.heap.size := by rw [hW0]; show _ ≤ (w.alloc _).heap.size; simp
 obtain ⟨a1, n1, c1, w1, r1, r2, r3, r4⟩ := appCopy W0 87 103 i0 _ 2 24 Tryz.underlying87 hi0 hz0 hz1 hz2 rfl (by decide) vl L.length (cellsL L) (h.at hb0).sl (cellsL_one L) (by unfold maxLen; omega) (by omega)
 have hx1 : RowIs w1 w.heap.size 89 [.slice none 0 0, .slice none 0 0] := hx0.fr (X := fun _ => False) (Fr.of_below r3) id
 have hb1 : Below w.heap.size w w1 := hb0.trans (r3.mono hb0.size)
 obtain ⟨W2, hW2⟩ : ∃ W2, W2 = (w1.setCell ⟨w.heap.size, 0, none⟩ (.slice a1 n1 c1)).drew := ⟨_, rfl⟩
 have hb2 : Below w.heap.size w W2 := by rw [hW2]; exact (hb1.setCell (p := ⟨w.heap.size, 0, none⟩) (Nat.le_refl _) _).drew
 have hx2 : RowIs W2 w.heap.size 89 [.slice a1 n1 c1, .slice none 0 0] := by rw [hW2]; exact hx1.set 0 _
 have hne1 : (Value.slice a1 n1 c1).ownBlock ≠ some w.heap.size := fun e => by have := r4 _ e; omega
 have hS2 : Sl W2 103 2 (.slice a1 n1 c1) L.length (cellsL L) := by rw [hW2]; exact (r2.setCell ⟨w.heap.size, 0, none⟩ _ hne1)
 obtain ⟨a3, n3, c3, w3, s1, s2, s3, s4⟩ := appCopy W2 84 9 i9 _ 1 16 Tryz.underlying84 hi9 hz90 hz91 hz92 rfl (by decide) vf F.length (F.map .string) (h.at hb2).sf (by intro u hu; obtain ⟨x, _, rfl⟩ := List.mem_map.1 hu; rfl) (by unfold maxLen; omega) (by omega)
 have hx3 : RowIs w3 w.heap.size 89 [.slice a1 n1 c1, .slice none 0 0] := hx2.fr (X := fun _ => False) (Fr.of_below s3) id
 have hsz2 : W2.heap.size = w1.heap.size := by rw [hW2]; simp [World.setCell, World.drew]
 have hne3 : (Value.slice a3 n3 c3).ownBlock ≠ some w.heap.size := fun e => by have := s4 _ e; have := hb2.size; have := hx2.lt; omega
 have fin : ∃ vl' vf', RefW (w3.setCell ⟨w.heap.size, 1, none⟩ (.slice a3 n3 c3)) w.heap.size vl' vf' L F ∧ Below w.heap.size w (w3.setCell ⟨w.heap.size, 1, none⟩ (.slice a3 n3 c3)) ∧ ∀ k, RefOwn w.heap.size vl' vf' k → w.heap.size ≤ k := by
  refine ⟨.slice a1 n1 c1, .slice a3 n3 c3, ⟨hx3.set 1 _, ?_, ?_, h.nl, h.nf, h.ok, h.okf, ?_⟩, ?_, ?_⟩
  ·exact (hS2.fr (X := fun _ => False) (Fr.of_below s3) (fun _ _ => id)).setCell ⟨w.heap.size, 1, none⟩ _ hne1
  ·exact s2.setCell ⟨w.heap.size, 1, none⟩ _ hne3
  ·intro g hg e
   have := s4 g e
   have := r2.lt hg
   omega
  ·exact (hb2.trans (s3.mono hb2.size)).setCell (p := ⟨w.heap.size, 1, none⟩) (Nat.le_refl _) _
  ·rintro k (rfl | hk | hk)
   ·exact Nat.le_refl _
   ·have := r4 k hk; omega
   ·have := s4 k hk; have := hb2.size; omega
 have FIN := hide fin
 have hc0 := h.c.c0
 have hc1 := h.c.c1
 have hrb := h.hd.lt
 have y0 := hx0.cell 0
 have y1 := hx1.cell 0
 have y1f := hx1.frozen 0
 have y2 := hx2.cell 1
 have y3 := hx3.cell 1
 have y3f := hx3.frozen 1
 have t2 := (hb2.cell (p := ⟨rb, 1, none⟩) hrb).trans hc1
 subst hW0
 have hrb1 : rb < w1.heap.size := Nat.lt_of_lt_of_le hrb hb1.size
 subst hW2
 clear fin h hb0 hb1 hb2 r2 r3 r4 s2 s3 s4 hx0 hx1 hx2 hx3 hS2 hne1 hne3 hsz2
 go_enter Tryz.func106, Tryz.ntmps106
 go_wp2
 go_region_law (refine step_append_run rfl _ _ 87 87 rfl _ _ (by simp [Act.eval]) (by simp [Act.eval]) r1 ?_)
 all_goals
  go_wp2
  go_region_law (refine step_append_run rfl _ _ 84 84 rfl _ _ (by simp [Act.eval]) (by simp [Act.eval]) s1 ?_)
  all_goals
   go_wp2
   go_ret
   exact ⟨rfl, unhide FIN⟩
theorem Sl.setAt {w : World} {e : TypeId} {g n cap : Nat} {xs : List Value} (h : Sl w e 1 (.slice (some ⟨g, 0, none⟩) n cap) n xs) (f : Nat) (_hf : f < n) (u : Value) :
  Sl (w.setCell ⟨g, f, none⟩ u) e 1 (.slice (some ⟨g, 0, none⟩) n cap) n (xs.set f u) := by
 rcases h.2 with ⟨e', _⟩ | ⟨g', cap', R, e', hR, h3, h4, h5, h6⟩
 ·cases e'
 ·cases e'
  refine ⟨by rw [List.length_set]; exact h.1, .inr ⟨g, cap, R.set f u, rfl, hR.set f u, h3, h4, by simpa using h5, ?_⟩⟩
  rw [← h6, List.take_set]
theorem RefW.setF {w : World} {rb : Nat} {vl : Value} {g cap : Nat} {L : List (ByteArray × Int)} {F : List ByteArray} (h : RefW w rb vl (.slice (some ⟨g, 0, none⟩) F.length cap) L F) (f : Nat) (hf : f < F.length) (s : ByteArray) (hs : s.size ≤ 2000000) :
  RefW (w.setCell ⟨g, f, none⟩ (.string s)) rb vl (.slice (some ⟨g, 0, none⟩) F.length cap) L (F.set f s) := by
 have hne : rb ≠ g := fun e => h.nef (by rw [e]; rfl)
 have hvl : vl.ownBlock ≠ some g := fun e => h.sep g e rfl
 refine ⟨?_, h.sl.setCell _ _ hvl, ?_, h.nl, by simpa using h.nf, h.ok, ?_, h.sep⟩
 ·unfold RowIs
  rw [Below.heap_setCell _ _ _ _ (fun e => hne (by rw [e]))]
  exact h.hd
 ·rw [List.length_set, List.map_set]
  exact h.sf.setAt f hf _
 ·intro x hx
  rcases List.mem_or_eq_of_mem_set hx with hx | rfl
  ·exact h.okf x hx
  ·exact hs
theorem takeOver {w w4 : World} {rb xb : Nat} {vl vf vl' vf' : Value} {L0 L : List (ByteArray × Int)} {F0 F : List ByteArray} (h : RefW w rb vl vf L0 F0) (hb : Below w.heap.size w w4) (hx : RefW w4 xb vl' vf' L F) (hn : ∀ k, RefOwn xb vl' vf' k → w.heap.size ≤ k) :
  RefPost w rb vl vf ((w4.setCell ⟨rb, 0, none⟩ vl').setCell ⟨rb, 1, none⟩ vf') L F := by
 have hrb := h.hd.lt
 have hl : vl'.ownBlock ≠ some rb := fun e => by have := hn rb (.inr (.inl e)); omega
 have hf : vf'.ownBlock ≠ some rb := fun e => by have := hn rb (.inr (.inr e)); omega
 refine ⟨vl', vf', ⟨((h.at hb).hd.set 0 _).set 1 _, (hx.sl.setCell _ _ hl).setCell _ _ hl, (hx.sf.setCell _ _ hf).setCell _ _ hf, hx.nl, hx.nf, hx.ok, hx.okf, hx.sep⟩, ?_, ?_⟩
 ·exact Fr.set (Fr.set (Fr.of_below hb) _ _ (.inl rfl)) _ _ (.inl rfl)
 ·rintro k (rfl | hk | hk)
  ·exact .inl (.inl rfl)
  ·exact .inr (hn k (.inr (.inl hk)))
  ·exact .inr (hn k (.inr (.inr hk)))
def trimR (L : List (ByteArray × Int)) (F : List ByteArray) (p : ByteArray) (n : Int) : Int × List ByteArray :=
 if nmOk p = false then (1, F) else
 if n < 0 ∨ 1280 < n then (2, F) else
 if aheadR L p ≠ 0 then (aheadR L p, F) else
 if (p.toList == [47]) = true then (5, F) else
 match look L p with
 | none => (3, F)
 | some f => if f < 0 then (5, F) else
  if 160 < usageR L (F.set f.toNat (longR (F[f.toNat]?.getD ⟨#[]⟩) n.toNat)) then (9, F) else (0, F.set f.toNat (longR (F[f.toNat]?.getD ⟨#[]⟩) n.toNat))
theorem longR_size (s : ByteArray) (n : Nat) : (longR s n).size = n := by
 unfold longR
 split
 ·rw [ByteArray.size_extract]; omega
 ·rw [ByteArray.size_append]
  have : (ByteArray.mk (List.replicate (n - s.size) (0 : UInt8)).toArray).size = n - s.size := List.length_replicate
  omega
theorem trim_ref (w : World) (rb : Nat) (vl vf : Value) (L : List (ByteArray × Int)) (F : List ByteArray) (h : RefW w rb vl vf L F) (hfv : ∀ x ∈ L, x.2 < F.length) (p : ByteArray) (hp : p.size ≤ 2000000) (n : Int) :
  Calls Tryz.prog 87 #[.pointer (some ⟨rb, 0, none⟩), .string p, .int .i64 n] w fun e w' => e = .returned (.int .i64 (trimR L F p n).1) ∧ RefPost w rb vl vf w' L (trimR L F p n).2 := by
 obtain ⟨R, hR⟩ : ∃ R, R = trimR L F p n := ⟨_, rfl⟩
 rw [← hR]
 unfold trimR at hR
 have HW := hide h
 have HFV := hide hfv
 obtain ⟨av, cv, rfl, hrd⟩ := h.sl.rdL
 have HRD := hide hrd
 have hSame : Hid (∀ e0 w', R = (e0, F) → Below w.heap.size w w' → R.1 = e0 ∧ RefPost w rb (.slice av L.length cv) vf w' L R.2) := fun e0 w' e hb => by
  rw [e]; exact ⟨rfl, RefPost.same h hb⟩
 clear h hrd hfv
 go_enter Tryz.func87, Tryz.ntmps87
 go_wp2_with fail
 refine (names_ref p _ hp).mono ?_
 rintro e w2 ⟨a2, n2, c2, rfl, _, hb⟩
 cases hob : nmOk p with
 | false =>
  have hR2 : R = (1, F) := by rw [hR, hob]; rfl
  have H1 := hide hR2
  clear hR hR2
  go_wp2
  go_ret
  exact (unhide hSame _ _ (unhide H1) hb).elim fun a b => ⟨by rw [a] <;> rfl, b⟩
 | true =>
 rw [hob, if_neg (by simp)] at hR
 by_cases hneg : n < 0
 ·have hR2 : R = (2, F) := by rw [hR, if_pos (.inl hneg)]
  have H1 := hide hR2
  clear hR hR2
  go_wp2
  go_ret
  exact (unhide hSame _ _ (unhide H1) hb).elim fun a b => ⟨by rw [a] <;> rfl, b⟩
 by_cases hneg2 : 1280 < n
 ·have hR2 : R = (2, F) := by rw [hR, if_pos (.inr hneg2)]
  have H1 := hide hR2
  clear hR hR2
  go_wp2
  go_ret
  exact (unhide hSame _ _ (unhide H1) hb).elim fun a b => ⟨by rw [a] <;> rfl, b⟩
 rw [if_neg (by omega)] at hR
 obtain ⟨e1, he1⟩ : ∃ e1, e1 = aheadR L p := ⟨_, rfl⟩
 have hah : Calls Tryz.prog 104 #[.pointer (some ⟨rb, 0, none⟩), .string p] w2 fun e w'' => e = .returned (.int .i64 (aheadR L p)) ∧ w'' = w2 := ((unhide HW).at hb).ahead p hp
 rw [← he1] at hR hah
 by_cases h0 : e1 ≠ 0
 ·have hbb : (e1 != 0) = true := by rw [bne_iff_ne]; exact h0
  rw [if_pos h0] at hR
  clear h0 he1
  have H1 := hide hR
  clear hR
  go_wp2_with (go_at_call 104; refine hah.mono ?_; rintro e w' ⟨rfl, hw⟩; rw [hw]; clear hw)
  go_ret
  exact (unhide hSame _ _ (unhide H1) hb).elim fun a b => ⟨by rw [a] <;> rfl, b⟩
 rw [if_neg h0] at hR
 obtain rfl : e1 = 0 := by omega
 go_wp2_with (go_at_call 104; refine hah.mono ?_; rintro e w' ⟨rfl, hw⟩; rw [hw]; clear hw)
 have hfd := ((unhide HW).at hb).find p
 refine hfd.mono ?_
 rintro e w' ⟨r, ⟨rfl, hfi⟩, hw⟩
 rw [hw]; clear hw hfd
 have hcw := ((unhide HW).at hb).c.c0
 have hcw1 := ((unhide HW).at hb).c.c1
 clear hah he1 h0
 cases h1 : (p.toList == [47]) with
 | true =>
  have h1' : (p.toList != [47]) = false := by simp only [bne, h1]; rfl
  rw [if_pos h1] at hR
  clear hfi
  have H1 := hide hR
  clear hR
  go_wp2
  go_ret
  exact (unhide hSame _ _ (unhide H1) hb).elim fun a b => ⟨by rw [a] <;> rfl, b⟩
 | false =>
 rw [if_neg (by rw [h1]; simp)] at hR
 have h1' : (p.toList != [47]) = true := by simp only [bne, h1]; rfl
 rcases hfi with ⟨rfl, hno⟩ | ⟨k, x, rfl, hk', hx, hfst⟩
 ·have hl : look L p = none := (look_of_find (.inl ⟨rfl, hno⟩)).elim (fun h => h.2) (fun ⟨_, _, h, _⟩ => by omega)
  rw [hl] at hR
  clear hl hno
  have H1 := hide hR
  clear hR
  go_wp2
  go_ret
  exact (unhide hSame _ _ (unhide H1) hb).elim fun a b => ⟨by rw [a] <;> rfl, b⟩
 rw [FindIs.look hk' hx hfst] at hR
 have hkl := (List.getElem?_eq_some_iff.1 hk').1
 have hfl := unhide HFV x (List.mem_of_getElem? hk')
 obtain ⟨g, rfl, q0, q1⟩ := (unhide HRD) k x hk'
 have hg : g < w.heap.size := (unhide HW).sl.lt rfl
 have q1' := (hb.cell (p := ⟨g, k * 2 + 1, none⟩) hg).trans q1
 have HKX := hide hk'
 clear hfst hx hk' q0 q1
 by_cases hx0 : x.2 < 0
 ·have hR2 : R = (5, F) := by rw [hR]; simp [hx0]
  have H1 := hide hR2
  clear hR hR2
  go_wp2
  go_ret
  exact (unhide hSame _ _ (unhide H1) hb).elim fun a b => ⟨by rw [a] <;> rfl, b⟩
 simp only [if_neg hx0] at hR
 obtain ⟨f, hf⟩ : ∃ f : Nat, x.2 = (f : Int) := ⟨x.2.toNat, by omega⟩
 rw [hf] at hR q1' hfl
 have hfl' : f < F.length := by omega
 have hFf : F[f]? = some F[f] := List.getElem?_eq_getElem hfl'
 have hsz : F[f].size ≤ 2000000 := (unhide HW).okf _ (List.getElem_mem _)
 rw [Int.toNat_natCast, hFf] at hR
 obtain ⟨m, rfl⟩ : ∃ m : Nat, n = m := ⟨n.toNat, by omega⟩
 rw [Int.toNat_natCast] at hR
 obtain ⟨s, hs⟩ : ∃ s, s = longR F[f] m := ⟨_, rfl⟩
 have hR3 : R = if 160 < usageR L (F.set f s) then (9, F) else (0, F.set f s) := by rw [hs]; exact hR
 have hss : s.size ≤ 2000000 := by rw [hs, longR_size]; omega
 have HR3 := hide hR3
 clear hR hR3
 have hx0' : (0 : Int) ≤ (f : Int) := by omega
 have HF2 := hide hf
 clear hx0 hneg hf
 -- the copy
 have hcp : Hid (Calls Tryz.prog 106 #[.pointer (some ⟨rb, 0, none⟩)] w2 fun e w' => e = .returned (.pointer (some ⟨w2.heap.size, 0, none⟩)) ∧ ∃ vl' vf', RefW w' w2.heap.size vl' vf' L F ∧ Below w2.heap.size w2 w' ∧ ∀ k, RefOwn w2.heap.size vl' vf' k → w2.heap.size ≤ k) := copy_ref w2 rb _ vf L F ((unhide HW).at hb)
 go_wp2_with fail
 refine (unhide hcp).mono ?_
 rintro e w3 ⟨rfl, vl', vf', hx3, hb3, hn3⟩
 obtain ⟨al, cl, rfl, hrd'⟩ := hx3.sl.rdL
 obtain ⟨af, cf, rfl, hrf'⟩ := hx3.sf.rdF
 obtain ⟨g', rfl, q0', q1⟩ := hrd' k x (unhide HKX)
 obtain ⟨gf, rfl, s0⟩ := hrf' f _ hFf
 rw [unhide HF2] at q1
 have v0 := hx3.c.c0
 have v1 := hx3.c.c1
 have hnf := hx3.nf
 have hnl := hx3.nl
 have hne1 : gf ≠ w2.heap.size := fun e => hx3.nef (by rw [e]; rfl)
 have hne2 : g' ≠ gf := fun e => hx3.sep gf (by rw [e]; rfl) rfl
 have hne3 : w2.heap.size ≠ gf := fun e => hne1 e.symm
 have hne4 : gf ≠ g' := fun e => hne2 e.symm
 have HX3 := hide hx3
 have HN3 := hide hn3
 have HLG : Hid (∀ W, Calls Tryz.prog 107 #[.string F[f], .int .i64 m] W fun e w' => e = .returned (.string s) ∧ Below W.heap.size W w') := fun W => by
  rw [hs]; exact long_ref F[f] m W hsz (by omega)
 have HC : Hid (∀ w4, Below w3.drew.heap.size w3.drew w4 → RefW w4 w2.heap.size (.slice (some ⟨g', 0, none⟩) L.length cl) (.slice (some ⟨gf, 0, none⟩) F.length cf) L F ∧ w4.cell? ⟨gf, f, none⟩ = some (.string F[f]) ∧ w4.frozen? ⟨gf, f, none⟩ = false ∧ w4.cell? ⟨w2.heap.size, 0, none⟩ = some (.slice (some ⟨g', 0, none⟩) L.length cl) ∧ w4.cell? ⟨w2.heap.size, 1, none⟩ = some (.slice (some ⟨gf, 0, none⟩) F.length cf) ∧ w4.cell? ⟨g', k * 2 + 1, none⟩ = some (.int .i64 f)) := fun w4 hb4 => by
  have hb4' : Below w3.heap.size w3 w4 := ⟨hb4.os, hb4.tape, hb4.output, hb4.size, hb4.block⟩
  have h4 := hx3.at hb4'
  obtain ⟨Rr, hRr⟩ := h4.sf.type (g := gf) rfl
  exact ⟨h4, (hb4'.cell (p := ⟨gf, f, none⟩) (hx3.sf.lt rfl)).trans s0, hRr.frozen f, h4.c.c0, h4.c.c1, (hb4'.cell (p := ⟨g', k * 2 + 1, none⟩) (hx3.sl.lt rfl)).trans q1⟩
 have HS := hide hs
 clear q0' hrd' hrf' hx3 hn3 hFf hs hcp
 go_wp2_with fail
 refine wp_region_held_drew (S := fun W => W.cell? ⟨w2.heap.size, 0, none⟩ = some (.slice (some ⟨g', 0, none⟩) L.length cl) ∧ W.cell? ⟨w2.heap.size, 1, none⟩ = some (.slice (some ⟨gf, 0, none⟩) F.length cf) ∧ W.cell? ⟨g', k * 2 + 1, none⟩ = some (.int .i64 f)) (by kernel_rfl) (by go_keep) (fun hHeld => ?_)
 refine wpAnyH_take (i := 0) (v := ?_) rfl (by kernel_rfl) (by kernel_rfl) (by kernel_rfl) (fun _ _ _ h => h) (Or.inl ⟨by rfl, ?_⟩) (by assumption) ?_
 rotate_left
 ·intro w hSw; (try dsimp only at hSw); go_simp <;> with_reducible rfl
 (try simp only [pE])
 refine wpAnyH_take (i := 1) (v := ?_) rfl (by kernel_rfl) (by kernel_rfl) (by kernel_rfl) (fun _ _ _ h => h) (Or.inl ⟨by rfl, ?_⟩) (by assumption) ?_
 rotate_left
 ·intro w hSw; (try dsimp only at hSw); go_simp <;> with_reducible rfl
 (try simp only [Act.put])
 refine wpAnyH_take (i := 2) (v := ?_) rfl (by kernel_rfl) (by kernel_rfl) (by kernel_rfl) (fun _ _ _ h => h) (Or.inl ⟨by rfl, ?_⟩) (by assumption) ?_
 rotate_left
 ·intro w hSw; (try dsimp only at hSw); go_simp <;> with_reducible rfl
 (try simp only [Act.put])
 refine wpAnyH_take (i := 3) (v := ?_) rfl (by kernel_rfl) (by kernel_rfl) (by kernel_rfl) (fun _ _ _ h => h) (Or.inl ⟨by rfl, ?_⟩) (by assumption) ?_
 rotate_left
 ·intro w hSw; (try dsimp only at hSw); go_simp <;> with_reducible rfl
 (try simp only [Act.put])
 refine wpAnyH_take (i := 4) (v := ?_) rfl (by kernel_rfl) (by kernel_rfl) (by kernel_rfl) (fun _ _ _ h => h) (Or.inl ⟨by rfl, ?_⟩) (by assumption) ?_
 rotate_left
 ·intro w hSw; (try dsimp only at hSw); go_simp <;> with_reducible rfl
 (try simp only [Act.put])
 refine wpAnyH_take (i := 5) (v := ?_) rfl (by kernel_rfl) (by kernel_rfl) (by kernel_rfl) (fun _ _ _ h => h) (Or.inl ⟨by rfl, ?_⟩) (by assumption) ?_
 rotate_left
 ·intro w hSw; (try dsimp only at hSw); go_simp <;> with_reducible rfl
 (try simp only [Act.put])
 refine wpAnyH_take (i := 6) (v := ?_) rfl (by kernel_rfl) (by kernel_rfl) (by kernel_rfl) (fun _ _ _ h => h) (Or.inl ⟨by rfl, ?_⟩) (by assumption) ?_
 rotate_left
 ·intro w hSw; (try dsimp only at hSw); go_simp <;> with_reducible rfl
 (try simp only [Act.put])
 refine wpAnyH_take (i := 7) (v := ?_) rfl (by kernel_rfl) (by kernel_rfl) (by kernel_rfl) (fun _ _ _ h => h) (Or.inl ⟨by rfl, ?_⟩) (by assumption) ?_
 rotate_left
 ·intro w hSw; (try dsimp only at hSw); go_simp <;> with_reducible rfl
 (try simp only [Act.put])
 refine wpAnyH_take (i := 8) (v := ?_) rfl (by kernel_rfl) (by kernel_rfl) (by kernel_rfl) (fun _ _ _ h => h) (Or.inl ⟨by rfl, ?_⟩) (by assumption) ?_
 rotate_left
 ·intro w hSw; (try dsimp only at hSw); go_simp <;> with_reducible rfl
 (try simp only [Act.put])
 refine wpAnyH_take (i := 9) (v := ?_) rfl (by kernel_rfl) (by kernel_rfl) (by kernel_rfl) (fun _ _ _ h => h) (Or.inl ⟨by rfl, ?_⟩) (by assumption) ?_
 rotate_left
 ·intro w hSw; (try dsimp only at hSw); go_simp <;> with_reducible rfl
 (try simp only [Act.put])
 refine wpAnyH_take (i := 10) (v := ?_) rfl (by kernel_rfl) (by kernel_rfl) (by kernel_rfl) (fun _ _ _ h => h) (Or.inl ⟨by rfl, ?_⟩) (by assumption) ?_
 rotate_left
 ·intro w hSw; (try dsimp only at hSw); go_simp <;> with_reducible rfl
 (try simp only [Act.put])
 refine wpAnyH_take (i := 11) (v := ?_) rfl (by kernel_rfl) (by kernel_rfl) (by kernel_rfl) (fun _ _ _ h => h) (Or.inl ⟨by rfl, ?_⟩) (by assumption) ?_
 rotate_left
 ·intro w hSw; (try dsimp only at hSw); go_simp <;> with_reducible rfl
 (try simp only [Act.put])
 refine wpAnyH_take (i := 12) (v := ?_) rfl (by kernel_rfl) (by kernel_rfl) (by kernel_rfl) (fun _ _ _ h => h) (Or.inl ⟨by rfl, ?_⟩) (by assumption) ?_
 rotate_left
 ·intro w hSw; (try dsimp only at hSw); go_simp <;> with_reducible rfl
 (try simp only [Act.put])
 refine wpAnyH_take (i := 13) (v := ?_) rfl (by kernel_rfl) (by kernel_rfl) (by kernel_rfl) (fun _ _ _ h => h) (Or.inl ⟨by rfl, ?_⟩) (by assumption) ?_
 rotate_left
 ·intro w hSw; (try dsimp only at hSw); go_simp <;> with_reducible rfl
 (try simp only [Act.put])
 refine wpAnyH_take (i := 14) (v := ?_) rfl (by kernel_rfl) (by kernel_rfl) (by kernel_rfl) (fun _ _ _ h => h) (Or.inl ⟨by rfl, ?_⟩) (by assumption) ?_
 rotate_left
 ·intro w hSw; (try dsimp only at hSw); go_simp <;> with_reducible rfl
 (try simp only [Act.put])
 refine wpAnyH_take (i := 15) (v := ?_) rfl (by kernel_rfl) (by kernel_rfl) (by kernel_rfl) (fun _ _ _ h => h) (Or.inl ⟨by rfl, ?_⟩) (by assumption) ?_
 rotate_left
 ·intro w hSw; (try dsimp only at hSw); go_simp <;> with_reducible rfl
 (try simp only [Act.put])
 refine wpAnyH_take (i := 16) (v := ?_) rfl (by kernel_rfl) (by kernel_rfl) (by kernel_rfl) (fun _ _ _ h => h) (Or.inl ⟨by rfl, ?_⟩) (by assumption) ?_
 rotate_left
 ·intro w hSw; (try dsimp only at hSw); go_simp <;> with_reducible rfl
 (try simp only [Act.put])
 refine wpAnyH_take (i := 17) (v := ?_) rfl (by kernel_rfl) (by kernel_rfl) (by kernel_rfl) (fun _ _ _ h => h) (Or.inl ⟨by rfl, ?_⟩) (by assumption) ?_
 rotate_left
 ·intro w hSw; (try dsimp only at hSw); go_simp <;> with_reducible rfl
 (try simp only [Act.put])
 refine wpAnyH_take (i := 18) (v := ?_) rfl (by kernel_rfl) (by kernel_rfl) (by kernel_rfl) (fun _ _ _ h => h) (Or.inl ⟨by rfl, ?_⟩) (by assumption) ?_
 rotate_left
 ·intro w hSw; (try dsimp only at hSw); go_simp <;> with_reducible rfl
 (try simp only [Act.put])
 refine wpAnyH_take (i := 19) (v := ?_) rfl (by kernel_rfl) (by kernel_rfl) (by kernel_rfl) (fun _ _ _ h => h) (Or.inl ⟨by rfl, ?_⟩) (by assumption) ?_
 rotate_left
 ·intro w hSw; (try dsimp only at hSw); go_simp <;> with_reducible rfl
 (try simp only [Act.put])
 refine wpAnyH_take (i := 20) (v := ?_) rfl (by kernel_rfl) (by kernel_rfl) (by kernel_rfl) (fun _ _ _ h => h) (Or.inl ⟨by rfl, ?_⟩) (by assumption) ?_
 rotate_left
 ·intro w hSw; (try dsimp only at hSw); go_simp <;> with_reducible rfl
 (try simp only [Act.put])
 refine wpAnyH_take (i := 21) (v := ?_) rfl (by kernel_rfl) (by kernel_rfl) (by kernel_rfl) (fun _ _ _ h => h) (Or.inl ⟨by rfl, ?_⟩) (by assumption) ?_
 rotate_left
 ·intro w hSw; (try dsimp only at hSw); go_simp <;> with_reducible rfl
 (try simp only [Act.put])
 refine wpAnyH_take (i := 22) (v := ?_) rfl (by kernel_rfl) (by kernel_rfl) (by kernel_rfl) (fun _ _ _ h => h) (Or.inl ⟨by rfl, ?_⟩) (by assumption) ?_
 rotate_left
 ·intro w hSw; (try dsimp only at hSw); go_simp <;> with_reducible rfl
 (try simp only [Act.put])
 refine wpAnyH_take (i := 23) (v := ?_) rfl (by kernel_rfl) (by kernel_rfl) (by kernel_rfl) (fun _ _ _ h => h) (Or.inl ⟨by rfl, ?_⟩) (by assumption) ?_
 rotate_left
 ·intro w hSw; (try dsimp only at hSw); go_simp <;> with_reducible rfl
 (try simp only [Act.put])
 refine wpAnyH_take (i := 24) (v := ?_) rfl (by kernel_rfl) (by kernel_rfl) (by kernel_rfl) (fun _ _ _ h => h) (Or.inl ⟨by rfl, ?_⟩) (by assumption) ?_
 rotate_left
 ·intro w hSw; (try dsimp only at hSw); go_simp <;> with_reducible rfl
 (try simp only [Act.put])
 refine wpAnyH_take (i := 26) (v := ?_) rfl (by kernel_rfl) (by kernel_rfl) (by kernel_rfl) (fun _ _ _ h => h) (Or.inl ⟨by rfl, ?_⟩) (by assumption) ?_
 rotate_left
 ·intro w hSw; (try dsimp only at hSw); go_simp <;> with_reducible rfl
 (try simp only [Act.put])
 refine wpAnyH_ready (rs := [25]) (by kernel_rfl) (by simp) ?_
 refine AllReadyH.cons rfl (fun K hK => ?_) AllReadyH.nil
 go_simp
 refine hK.out _ _ (by go_keep) (fun hHeld1 => ?_)
 clear hK K hHeld
 (try simp only [pE])
 refine wpAnyH_ready (rs := [27]) (by kernel_rfl) (by simp) ?_
 refine AllReadyH.cons rfl (fun K hK => ?_) AllReadyH.nil
 go_simp
 go_at_call 107
 refine (unhide HLG _).mono ?_
 rintro e w4 ⟨rfl, hb4⟩
 obtain ⟨h4, z1, z2, z3, z4, z5⟩ := unhide HC w4 hb4
 have H4 := hide h4
 clear h4
 go_wp2_with fail
 refine hK.out _ _ (by go_keep) (fun hHeld2 => ?_)
 clear hK K hHeld1
 (try simp only [pE])
 refine wpAnyH_take (i := 28) (v := ?_) rfl (by kernel_rfl) (by kernel_rfl) (by kernel_rfl) (fun _ _ _ h => h) (Or.inl ⟨by rfl, ?_⟩) (by assumption) ?_
 rotate_left
 ·intro w hSw; (try dsimp only at hSw); go_simp <;> with_reducible rfl
 (try simp only [pE])
 refine wpAnyH_ready (rs := [29]) (by kernel_rfl) (by simp) ?_
 refine AllReadyH.cons rfl (fun K hK => ?_) AllReadyH.nil
 go_simp
 refine hK.out _ _ (by go_keep) (fun hHeld3 => ?_)
 clear hK K hHeld2
 (try simp only [pE])
 refine wpAnyH_done (by kernel_rfl) ?_ _
 have hb4' : Below w2.heap.size w2 w4 := hb3.trans (Below.mono (⟨hb4.os, hb4.tape, hb4.output, hb4.size, hb4.block⟩ : Below w3.heap.size w3 w4) hb3.size)
 obtain ⟨W5, hW5⟩ : ∃ W5, W5 = w4.setCell ⟨gf, f, none⟩ (.string s) := ⟨_, rfl⟩
 rw [← hW5]
 have h5 : RefW W5 w2.heap.size (.slice (some ⟨g', 0, none⟩) L.length cl) (.slice (some ⟨gf, 0, none⟩) F.length cf) L (F.set f s) := by rw [hW5]; exact (unhide H4).setF f hfl' s hss
 have hgf : w2.heap.size ≤ gf := unhide HN3 gf (.inr (.inr rfl))
 have hb5 : Below w2.heap.size w2 W5 := by rw [hW5]; exact hb4'.setCell (p := ⟨gf, f, none⟩) hgf _
 have hbw5 : Below w.heap.size w W5 := hb.trans (hb5.mono hb.size)
 have hus := usage_ref W5 w2.heap.size _ _ L (F.set f s) h5.c
 have hul : usageR L (F.set f s) ≤ (F.set f s).length * 40000 := useT_le L (F.set f s) h5.okf _
 rw [List.length_set] at hul
 obtain ⟨u, hu⟩ : ∃ u, u = usageR L (F.set f s) := ⟨_, rfl⟩
 rw [← hu] at hus hul
 have HR4 : Hid (R = if 160 < u then (9, F) else (0, F.set f s)) := by rw [hu]; exact unhide HR3
 have y0 := h5.c.c0
 have y1 := h5.c.c1
 have H5 := hide h5
 have x0 := ((unhide HW).at hbw5).c.c0
 have x1 := ((unhide HW).at hbw5).c.c1
 have f0 := ((unhide HW).at hbw5).hd.frozen 0
 have f1 := ((unhide HW).at hbw5).hd.frozen 1
 have hrbl := (unhide HW).hd.lt
 have hrb2 : rb < w2.heap.size := Nat.lt_of_lt_of_le hrbl hb.size
 have hnr : rb ≠ w2.heap.size := by omega
 have hnr' : w2.heap.size ≠ rb := by omega
 have HTK : Hid (RefPost w rb (.slice (some ⟨g, 0, none⟩) L.length cv) vf ((W5.setCell ⟨rb, 0, none⟩ (.slice (some ⟨g', 0, none⟩) L.length cl)).setCell ⟨rb, 1, none⟩ (.slice (some ⟨gf, 0, none⟩) F.length cf)) L (F.set f s)) :=
  takeOver (unhide HW) hbw5 h5 (fun k hk => Nat.le_trans hb.size (unhide HN3 k hk))
 clear HR3 hu h5 hHeld3 hW5 z1 z2 z3 z4 z5 v0 v1 q1 s0 hb4 hb4'
 by_cases hc : 160 < u
 ·have hR2 : R = (9, F) := by rw [unhide HR4, if_pos hc]
  have H1 := hide hR2
  clear hR2
  have hc' : (160 : Int) < (u : Int) := by omega
  go_wp2_with (go_at_call 52; refine hus.mono ?_; rintro e w' ⟨rfl, hw⟩; rw [hw]; clear hw)
  go_ret
  exact (unhide hSame _ _ (unhide H1) hbw5).elim fun a b => ⟨by rw [a] <;> rfl, b⟩
 ·have hR2 : R = (0, F.set f s) := by rw [unhide HR4, if_neg hc]
  have H1 := hide hR2
  clear hR2
  have hc' : ¬ (160 : Int) < (u : Int) := by omega
  go_wp2_with (go_at_call 52; refine hus.mono ?_; rintro e w' ⟨rfl, hw⟩; rw [hw]; clear hw)
  go_ret
  exact ⟨by rw [unhide H1] <;> rfl, by rw [unhide H1]; exact unhide HTK⟩
end Go.Proofs.YtaieidcohdhgpaaGreatDoor
