/- Files. -/
import Derived.Test.YtaieidcohdhgpaaGreatDoorPAZ
import Derived.ArgAppend
import Derived.Lib.SlBytesConst
import Derived.Test.YtaieidcohdhgpaaGreatDoorPAY
namespace Go.Proofs.YtaieidcohdhgpaaGreatDoor
open Go.RowKit
set_option maxHeartbeats 2000000
set_option maxRecDepth 100000
theorem info188 : (Tryz.prog.info? 188).map (fun i => (i.zero, i.size, i.bytes)) = some (some (blkV (zeroB 64)), 64, 64) := by kernel_rfl
theorem und186 : Tryz.prog.underlying 186 = some (.slice 188) := by kernel_rfl
theorem cellsD_one (D : List ByteArray) : ∀ u ∈ cellsD D, u.oneCell' = true := fun u hu => by
 obtain ⟨s, _, h⟩ := List.mem_flatMap.1 hu
 exact bytesV_one s u h
theorem Sl.empty (w : World) (b : Nat) (h : RowIs w b 188 []) : Sl w 188 64 (.slice (some ⟨b, 0, none⟩) 0 0) 0 [] := ⟨rfl, .inr ⟨b, 0, [], rfl, h, Nat.le_refl _, Nat.zero_le _, rfl, rfl⟩⟩
theorem eql186 (x : Addr) (n c : Nat) (w : World) : (binOp .eql 186 (.slice (some x) n c) (.slice none 0 0)).run Tryz.prog w = .ok (.bool false) w := by kernel_rfl
theorem cloneD_code (w : World) (vn : Value) (D : List ByteArray) (h : SlD w vn D) (h0 : 0 < D.length) (hl : D.length ≤ 1000000) :
  Calls Tryz.prog 141 #[vn] w fun e w' => ∃ a' l' c', e = .returned (.slice a' l' c') ∧ SlD w' (.slice a' l' c') D ∧ Below w.heap.size w w' ∧ ∀ g, Own (.slice a' l' c') g → w.heap.size ≤ g := by
 obtain ⟨g, c, L, rfl, hR, hT, hc, hcm, hL⟩ := h.row h0
 obtain ⟨i0, hi0, hz0, hz1, hz2⟩ := info_parts info188
 obtain ⟨W, hW, hx0, hkW, hszW, hbW⟩ := alloc_name w [] 188
 have hgw := hR.lt
 obtain ⟨v', w2, r1, r2, r3, r4⟩ := append_new (P := Tryz.prog) W 186 186 188 i0 _ 64 64 und186 hi0 hz0 hz1 hz2 (by show (bytesV (zeroB 64)).toArray.size = 64; simp [bytesV_length, zeroB_size]) (by decide) (.slice (some ⟨w.heap.size, 0, none⟩) 0 0) 0 [] (Sl.empty W _ hx0) ⟨g, 0, none⟩ D.length c (cellsD D) (cellsD_length h.2)
  (fun j u hu => by
   rw [Addr.add_lit, Nat.zero_add, (hkW _ _ _ hR).cell]
   rw [← hT, List.getElem?_take] at hu
   split at hu
   ·exact hu
   ·cases hu) (cellsD_one D) (by unfold maxLen; omega) (by omega)
 obtain ⟨a', l', c', rfl⟩ := r2.shape
 have hfin : Hid (SlD w2 (.slice a' l' c') D ∧ Below w.heap.size w w2 ∧ ∀ g, Own (.slice a' l' c') g → w.heap.size ≤ g) := by
  refine ⟨⟨by rw [List.nil_append, Nat.zero_add] at r2; exact r2, h.2⟩, hbW.grown r3 hbW.size (fun k e => ?_), fun k hk => ?_⟩
  ·simp [Value.ownBlock] at e; omega
  ·rcases r4 k hk with h1 | h1
   ·simp [Value.ownBlock] at h1; omega
   ·omega
 have HW := hide hW
 have HSZ := hide hszW
 clear h hR hT hL hx0 hkW hbW r2 r3 r4 hW hszW
 have hq := eql186 ⟨g, 0, none⟩ D.length c
 go_enter Tryz.func141, Tryz.ntmps141
 rw [← unhide HW] at r1
 go_wp2_with (at_builtin; refine Lib.wpList_append_run _ rfl _ _ 186 186 rfl _ _ rfl rfl _ _ r1 ?_)
 go_ret
 exact ⟨a', l', c', rfl, unhide hfin⟩
def BeginPost (w : World) (db : Nat) (vn : Value) (D : List ByteArray) (e : Ending) (w' : World) : Prop :=
 e = .returned (.tuple #[]) ∧ ∃ vf', DiskW w' db vf' vn (.slice none 0 0) (.slice none 0 0) D ∧ SlD w' vf' D ∧ Fr (fun k => k = db) w w' ∧ (∀ g, Own vf' g → w.heap.size ≤ g)
theorem begin_code (w : World) (db : Nat) (vf vn vw ve : Value) (D : List ByteArray) (h : DiskW w db vf vn vw ve D) (hne : ¬ Own vn db) :
  Calls Tryz.prog 161 #[.pointer (some ⟨db, 0, none⟩)] w (BeginPost w db vn D) := by
 have hcl := cloneD_code w vn D h.2.1 (by rw [h.2.2]; decide) (by rw [h.2.2]; decide)
 obtain ⟨a, l, c, rfl⟩ := h.2.1.1.shape
 have hlt := h.1.lt
 have HCL : Hid (Calls Tryz.prog 141 #[.slice a l c] w fun e w' => ∃ a' l' c', e = .returned (.slice a' l' c') ∧ RowIs w' db 204 [vf, .slice a l c, vw, ve] ∧ Hid (BeginPost w db (.slice a l c) D (.returned (.tuple #[])) (((w'.setCell ⟨db, 0, none⟩ (.slice a' l' c')).setCell ⟨db, 2, none⟩ (.slice none 0 0)).setCell ⟨db, 3, none⟩ (.slice none 0 0)))) := hcl.mono fun e w' ⟨a', l', c', he, h1, h2, h3⟩ => by
  have q1 : RowIs w' db 204 [vf, .slice a l c, vw, ve] := (h2.block _ hlt).trans h.1
  have q2 : SlD w' (.slice a l c) D := ⟨h.2.1.1.kept (fun k hk _ => h2.block k hk), h.2.1.2⟩
  have hne' : ¬ Own (.slice a' l' c') db := fun e => by have := h3 _ e; omega
  refine ⟨a', l', c', he, q1, rfl, .slice a' l' c', ⟨by simpa using ((q1.set 0 (.slice a' l' c')).set 2 (.slice none 0 0)).set 3 (.slice none 0 0), ⟨((q2.1.setCell ⟨db, 0, none⟩ _ hne).setCell ⟨db, 2, none⟩ _ hne).setCell ⟨db, 3, none⟩ _ hne, q2.2⟩, h.2.2⟩, ⟨((h1.1.setCell ⟨db, 0, none⟩ _ hne').setCell ⟨db, 2, none⟩ _ hne').setCell ⟨db, 3, none⟩ _ hne', h1.2⟩, ?_, h3⟩
  exact ((Fr.set (X := fun k => k = db) (Fr.of_below h2) ⟨db, 0, none⟩ _ rfl).set ⟨db, 2, none⟩ _ rfl).set ⟨db, 3, none⟩ _ rfl
 have c1 : w.cell? ⟨db, 1, none⟩ = some (.slice a l c) := (h.1.cell 1).trans rfl
 clear h hcl
 go_enter Tryz.func161, Tryz.ntmps161
 go_wp2_with (go_at_call 141; refine (unhide HCL).mono ?_; rintro e w' ⟨a', l', c', rfl, hr, HP⟩; have m0 := hr.cell 0; have f0 := hr.frozen 0; have m2 := hr.cell 2; have f2 := hr.frozen 2; have m3 := hr.cell 3; have f3 := hr.frozen 3)
 go_end0
 exact unhide HP
def NewDiskPost (w : World) (vn : Value) (D : List ByteArray) (e : Ending) (w' : World) : Prop :=
 e = .returned (.pointer (some ⟨w.heap.size, 0, none⟩)) ∧ ∃ vf', DiskW w' w.heap.size vf' vn (.slice none 0 0) (.slice none 0 0) D ∧ SlD w' vf' D ∧ Below w.heap.size w w' ∧ (∀ g, Own vf' g → w.heap.size < g)
theorem newDisk_code (w : World) (vn : Value) (D : List ByteArray) (h : SlD w vn D) (hD : D.length = 1536) :
  Calls Tryz.prog 134 #[vn] w (NewDiskPost w vn D) := by
 obtain ⟨W, hW, hx0, hkW, hszW, hbW⟩ := alloc_name w [.slice none 0 0, vn, .slice none 0 0, .slice none 0 0] 204
 have hne : ¬ Own vn w.heap.size := fun e => by have := h.1.lt e; omega
 have HB : Hid (Calls Tryz.prog 161 #[.pointer (some ⟨w.heap.size, 0, none⟩)] W fun e w' => e = .returned (.tuple #[]) ∧ Hid (NewDiskPost w vn D (.returned (.pointer (some ⟨w.heap.size, 0, none⟩))) w')) := (begin_code W w.heap.size (.slice none 0 0) vn (.slice none 0 0) (.slice none 0 0) D ⟨hx0, ⟨h.1.kept (fun k hk _ => hbW.block k hk), h.2⟩, hD⟩ hne).mono fun e w' ⟨he, vf', h1, h2, h3, h4⟩ =>
  ⟨he, rfl, vf', h1, h2, ⟨h3.os.trans hbW.os, h3.tape.trans hbW.tape, h3.output.trans hbW.output, Nat.le_trans hbW.size h3.size, fun k hk => (h3.block k (by omega) (by omega)).trans (hbW.block k hk)⟩, fun g hg => by have := h4 g hg; omega⟩
 have HW := hide hW
 obtain ⟨a, l, c, rfl⟩ := h.1.shape
 clear h hx0 hkW hszW hbW hne hW
 go_enter Tryz.func134, Tryz.ntmps134
 go_wp2_with (go_at_call 161; rw [show w.alloc (.cells #[.slice none 0 0, .slice a l c, .slice none 0 0, .slice none 0 0] 204) = W from unhide HW]; refine (unhide HB).mono ?_; rintro e w' ⟨rfl, HP⟩)
 go_ret
 exact unhide HP
theorem cellsD_zeros : ∀ n, cellsD (List.replicate n (zeroB 64)) = List.replicate (n * 64) (.int .u8 0)
 | 0 => rfl
 | n + 1 => by
  have ih := cellsD_zeros n
  unfold cellsD at ih ⊢
  rw [List.replicate_succ, List.flatMap_cons, ih, bytesV_zero, List.replicate_append_replicate]
  congr 1; omega
theorem made_zeros (n : Nat) : (madeCells (blkV (zeroB 64)).cells (n * 64)).toList = List.replicate (n * 64) (.int .u8 0) := by
 apply List.ext_getElem?
 intro j
 have hsz : (blkV (zeroB 64)).cells.size = 64 := by rw [blkV_cells]; simp [bytesV_length, zeroB_size]
 by_cases hj : j < n * 64
 ·rw [List.getElem?_replicate, if_pos hj]
  simp only [madeCells, Array.toList_map, List.getElem?_map, Array.toList_range, List.getElem?_range hj, Option.map_some]
  congr 1
  have h2 : j % (blkV (zeroB 64)).cells.size < (blkV (zeroB 64)).cells.size := Nat.mod_lt _ (by rw [hsz]; decide)
  rw [getElem!_pos (blkV (zeroB 64)).cells (j % (blkV (zeroB 64)).cells.size) h2]
  simp only [blkV_cells, List.getElem_toArray]
  have h3 := List.getElem_of_eq (bytesV_zero 64) (i := j % (bytesV (zeroB 64)).toArray.size) (by simpa [blkV_cells] using h2)
  rw [h3, List.getElem_replicate]
 ·rw [List.getElem?_eq_none (by simp [madeCells]; omega), List.getElem?_eq_none (by simp; omega)]
def zeroD : List ByteArray := List.replicate 1536 (zeroB 64)
theorem zeroD_length : zeroD.length = 1536 := List.length_replicate
theorem zeroD_size : ∀ s ∈ zeroD, s.size = 64 := fun s hs => by rw [(List.mem_replicate.1 hs).2, zeroB_size]
def DiskNew (w : World) (e : Ending) (w' : World) : Prop :=
 ∃ db vf' vn', e = .returned (.pointer (some ⟨db, 0, none⟩)) ∧ w.heap.size ≤ db ∧ DiskW w' db vf' vn' (.slice none 0 0) (.slice none 0 0) zeroD ∧ SlD w' vf' zeroD ∧ Below w.heap.size w w' ∧ (∀ g, Own vf' g → w.heap.size ≤ g ∧ g ≠ db) ∧ (∀ g, Own vn' g → w.heap.size ≤ g ∧ g ≠ db) ∧ (∀ g, Own vn' g → ¬ Own vf' g)
theorem newD_code (w : World) : Calls Tryz.prog 98 #[] w (DiskNew w) := by
 obtain ⟨i0, hi0, hz0, hz1, hz2⟩ := info_parts info188
 have HN : Hid (∀ W : World, W.ownsRow 0 188 64 (.slice (some ⟨w.heap.size, 0, none⟩) 1536 1536) 1536 (madeCells (blkV (zeroB 64)).cells (1536 * 64)).toList → w.grownBy W none → Calls Tryz.prog 134 #[.slice (some ⟨w.heap.size, 0, none⟩) 1536 1536] W fun e w' => ∃ db, e = .returned (.pointer (some ⟨db, 0, none⟩)) ∧ Hid (DiskNew w (.returned (.pointer (some ⟨db, 0, none⟩))) w')) := fun W h1 h2 => by
  have hS := Sl.of_owns h1
  rw [made_zeros 1536, ← cellsD_zeros] at hS
  have hb := below_of_grown h2
  have hlt := hS.lt (g := w.heap.size) rfl
  have hSD : SlD W (.slice (some ⟨w.heap.size, 0, none⟩) 1536 1536) zeroD := ⟨by rw [zeroD_length]; exact hS, zeroD_size⟩
  refine (newDisk_code W _ zeroD hSD zeroD_length).mono ?_
  rintro e w' ⟨rfl, vf', q1, q2, q3, q4⟩
  refine ⟨W.heap.size, rfl, W.heap.size, vf', _, rfl, hb.size, q1, q2, hb.trans (q3.mono hb.size), fun g hg => ?_, fun g hg => ?_, fun g hg hg2 => ?_⟩
  ·have := q4 g hg; have := hb.size; omega
  ·simp [Own, Value.ownBlock] at hg; omega
  ·simp [Own, Value.ownBlock] at hg; have := q4 g hg2; omega
 go_enter Tryz.func98, Tryz.ntmps98
 go_wp2_with (first | (at_make; refine wpList_make_full _ rfl _ _ 186 rfl 0 188 i0 (blkV (zeroB 64)) 64 und186 hi0 hz0 hz1 _ _ _ _ 1536 rfl rfl rfl rfl (by rw [hz2]; decide) (by unfold maxLen; decide) (Nat.zero_le _) ?_; intro w1 hown hgr; have HN1 := hide (unhide HN w1 hown hgr); clear hown hgr) | (go_at_call 134; refine (unhide HN1).mono ?_; rintro e w' ⟨db, rfl, HP⟩))
 go_ret
 exact unhide HP
def joinB (D : List ByteArray) : ByteArray := ⟨(D.flatMap (fun s => s.data.toList)).toArray⟩
theorem joinB_snoc (D : List ByteArray) (s : ByteArray) : joinB (D ++ [s]) = joinB D ++ s := by
 apply WideShapes.bytes_inj; simp [joinB]
theorem joinB_size : ∀ {D : List ByteArray}, (∀ s ∈ D, s.size = 64) → (joinB D).size = D.length * 64
 | [], _ => rfl
 | s :: D, h => by
  have ih := joinB_size (D := D) (fun x hx => h x (List.mem_cons_of_mem _ hx))
  have h1 : s.data.toList.length = 64 := by rw [Array.length_toList]; exact h s List.mem_cons_self
  have e : ∀ D, (joinB D).size = (D.flatMap (fun s => s.data.toList)).length := fun D => by show (List.toArray _).size = _; simp
  rw [e] at ih ⊢
  rw [List.flatMap_cons, List.length_append, ih, h1, List.length_cons]; omega
def JoinPost (w : World) (D : List ByteArray) (e : Ending) (w' : World) : Prop :=
 ∃ a' l' c', e = .returned (.slice a' l' c') ∧ SlB w.heap.size w' (.slice a' l' c') (joinB D) ∧ Below w.heap.size w w'
theorem joined_code (w : World) (vn : Value) (D : List ByteArray) (h : SlD w vn D) (h0 : 0 < D.length) (hl : D.length ≤ 10000) :
  Calls Tryz.prog 139 #[vn] w (JoinPost w D) := by
 have HROW := hide h
 obtain ⟨g, c, L, rfl, hR, hT, hc, hcm, hL⟩ := h.row h0
 obtain ⟨i0, hi0, hz0, hz1, hz2⟩ := info_parts info5
 have hgw := hR.lt
 clear hR hT hc hcm hL h
 obtain ⟨N, hN⟩ : ∃ N, N = D.length := ⟨_, rfl⟩
 rw [← hN] at h0 hl
 rw [← hN]
 have HNN := hide hN
 clear hN
 have hw64 : IntKind.i64.wrap ((N : Int) * 64) = ((N * 64 : Nat) : Int) := by rw [IntKind.wrap_i64]; omega
 go_enter Tryz.func139, Tryz.ntmps139
 go_wp2_with (at_make; refine wpList_make_own _ rfl _ _ 59 rfl 0 5 i0 (.int .u8 0) 1 Tryz.underlying59 hi0 hz0 hz1 _ _ _ (N * 64) rfl rfl (by omega) (by rw [hz2]; omega) (by unfold maxLen; omega) (Nat.zero_le _) ?_; intro w1 hown hgr; have HO := hide (And.intro (Sl.of_owns hown) (below_of_grown hgr)); clear hown hgr)
 go_loopw [3, 12] (fun v i wr => ∃ (k : Nat) (a' : Option Addr) (l' c' : Nat), k ≤ N ∧ i = .int .i64 k ∧ v = .slice a' l' c' ∧ Hid (SlB w.heap.size wr (.slice a' l' c') (joinB (D.take k)) ∧ Below w.heap.size w wr)) (fun _ i _ => N - (intOf i).toNat)
 case atStart => exact ⟨0, _, _, _, Nat.zero_le _, rfl, rfl, ⟨(unhide HO).1, fun g hg => by simp [Value.ownBlock] at hg; omega⟩, (unhide HO).2⟩
 case round =>
  obtain ⟨k, a', l', c', hk, rfl, rfl, HI⟩ := hrel
  by_cases hlt : k < N
  ·have hkD : k < D.length := by rw [← unhide HNN]; exact hlt
   obtain ⟨s, hsk⟩ : ∃ s, D[k]? = some s := ⟨_, List.getElem?_eq_getElem hkD⟩
   have hs64 : s.size = 64 := (unhide HROW).2 s (List.mem_of_getElem? hsk)
   obtain ⟨HB1, HB2⟩ := unhide HI
   have hSr : SlD wr (.slice (some ⟨g, 0, none⟩) N c) D := by rw [unhide HNN]; exact ⟨(unhide HROW).1.kept (fun k hk _ => HB2.block k hk), (unhide HROW).2⟩
   obtain ⟨g', hg', hl', hrange⟩ := hSr.range k s hsk
   clear hl'
   cases hg'
   obtain ⟨W, hW, hx0, hkW, hszW, hbW⟩ := alloc_name wr (bytesV (zeroB 64)) 188
   obtain ⟨W2, hW2⟩ : ∃ X, W.setRow wr.heap.size (bytesV s).toArray = X := ⟨_, rfl⟩
   have hx2 : RowIs W2 wr.heap.size 188 (bytesV s) := by rw [← hW2]; exact setRow_heap W _ _ _ 188 _ hx0
   have hb2 : Below wr.heap.size wr W2 := by rw [← hW2]; exact hbW.trans ⟨rfl, rfl, rfl, by simp, fun j hj => setRow_other W _ j _ (by omega)⟩
   have hsz2 : w.heap.size ≤ W2.heap.size := Nat.le_trans HB2.size hb2.size
   obtain ⟨a2, l2, c2, w3, hr3, hS3, hF3, hN3⟩ := appB W2 w.heap.size hsz2 _ _ (HB1.below hb2) ⟨wr.heap.size, 0, none⟩ 64 64 s hs64 (fun j u hu => by rw [Addr.add_lit, Nat.zero_add, hx2.cell]; exact hu) (by rw [joinB_size (fun x hx => (unhide HROW).2 x (List.mem_of_mem_take hx)), List.length_take]; omega)
   have HFIN : Hid (SlB w.heap.size w3 (.slice a2 l2 c2) (joinB (D.take (k + 1))) ∧ Below w.heap.size w w3) := by
    have e : D.take (k + 1) = D.take k ++ [s] := by rw [List.take_add_one, hsk]; rfl
    rw [e, joinB_snoc]
    exact ⟨hS3, HB2.trans ((hb2.mono HB2.size).trans ((HB1.below hb2).frBelow hsz2 hF3))⟩
   have HR := hide hrange
   have HX := hide hx0
   have HW := hide hW
   have HW2 := hide hW2
   have HSZ := hide hszW
   have hbs : (bytesV s).length = 64 := by rw [bytesV_length, hs64]
   have HL := hide hbs
   have hki : (k : Int) < (N : Int) := by omega
   clear hS3 hF3 hN3 hx2 hb2 hsz2 hx0 hkW hszW hbW hrange hSr HB1 HB2 hW hW2 hbs HI hsk hs64
   go_wp2_with (first | (refine wpList_load_mid rfl 188 _ rfl g (k * 64) rfl (bytesV s) _ (unhide HR) und132 rfl (by rw [size132, unhide HL]) ?_) | (refine wpList_alloc_z rfl 188 rfl zero132 ?_; rw [show wr.alloc (.cells (bytesV (zeroB 64)).toArray 188) = W from unhide HW]) | (refine wpList_store_row rfl 188 _ _ rfl wr.heap.size (bytesV s).toArray rfl rfl 188 _ (unhide HX) (by rw [size132]; simp [unhide HL]) (by simp [unhide HL, bytesV_length, zeroB_size]) (blk_one _) ?_; rw [unhide HW2]) | (at_builtin; refine Lib.wpList_append_run _ rfl _ _ 59 59 rfl _ _ rfl rfl _ _ hr3 ?_))
   go_roundw
   case rel => exact ⟨k + 1, a2, l2, c2, by omega, by go_num, rfl, unhide HFIN⟩
   case measure => simp [intOf]; omega
  ·obtain rfl : k = N := by omega
   go_wp2
   go_ret
   have h1 := unhide HI
   rw [List.take_of_length_le (Nat.le_of_eq (unhide HNN).symm)] at h1
   exact ⟨a', l', c', rfl, h1⟩
theorem image_code (w : World) (db : Nat) (vf vn vw ve : Value) (D : List ByteArray) (h : DiskW w db vf vn vw ve D) :
  Calls Tryz.prog 78 #[.pointer (some ⟨db, 0, none⟩)] w (JoinPost w D) := by
 have HJ := hide (joined_code w vn D h.2.1 (by rw [h.2.2]; decide) (by rw [h.2.2]; decide))
 have c1 := h.1.cell 1
 obtain ⟨a, l, c, rfl⟩ := h.2.1.1.shape
 clear h
 go_enter Tryz.func78, Tryz.ntmps78
 go_wp2_with (go_at_call 139; refine (unhide HJ).mono ?_; rintro e w' ⟨a', l', c', rfl, HP⟩; have HPP := hide HP; clear HP)
 go_ret
 exact ⟨a', l', c', rfl, unhide HPP⟩
theorem wrap_u64_in (x : Int) : 0 ≤ IntKind.u64.wrap x ∧ IntKind.u64.wrap x < 18446744073709551616 := by
 simp [IntKind.wrap, IntKind.bits, IntKind.signed]; omega
theorem fnvL_in (l : List UInt8) : 0 ≤ fnvL l ∧ fnvL l < 18446744073709551616 := by
 rcases List.eq_nil_or_concat l with rfl | ⟨l', b, rfl⟩
 ·decide
 ·rw [List.concat_eq_append, fnvL_snoc]; exact wrap_u64_in _
def fnvN (s : ByteArray) : Nat := (fnvL s.data.toList).toNat
theorem fnvN_eq (s : ByteArray) : fnvL s.data.toList = ((fnvN s : Nat) : Int) := by unfold fnvN; have := (fnvL_in s.data.toList).1; omega
theorem fnvN_lt (s : ByteArray) : fnvN s < 18446744073709551616 := by unfold fnvN; have := fnvL_in s.data.toList; omega
def SlA (b : Nat) (w : World) (v : Value) (s : ByteArray) : Prop := SlB b w v s ∨ ∃ x l, v = .slice (some x) l l ∧ RdB w (some x) l l s
theorem SlA.below {b : Nat} {w w' : World} {v : Value} {s : ByteArray} (h : SlA b w v s) (hb : Below w.heap.size w w') : SlA b w' v s := by
 rcases h with h | ⟨x, l, rfl, h⟩
 ·exact .inl (h.below hb)
 ·exact .inr ⟨x, l, rfl, h.below hb⟩
theorem appA (w : World) (b : Nat) (hb : b ≤ w.heap.size) (v : Value) (s : ByteArray) (h : SlA b w v s) (a : Addr) (m c : Nat) (t : ByteArray) (hm : t.size = m) (ht : ∀ j u, (bytesV t)[j]? = some u → w.cell? (a.add j) = some u) (hl : s.size + m ≤ 4000000) (hm0 : 0 < m := by omega) :
  ∃ a' n' c' w', (Builtin.append_ #[59, 59] 59 #[v, .slice (some a) m c]).run Tryz.prog w = .ok (.slice a' n' c') w' ∧ SlB b w' (.slice a' n' c') (s ++ t) ∧ Fr (Own v) w w' ∧ NewOr w v (.slice a' n' c') := by
 rcases h with h | ⟨x, l, rfl, h⟩
 ·exact appB w b hb v s h a m c t hm ht hl
 ·obtain ⟨i0, hi0, hz0, hz1, hz2⟩ := info_parts info5
  have hls := h.1
  obtain ⟨v', w2, r1, r2, r3⟩ := run_append_arg_grows (P := Tryz.prog) w 59 59 5 i0 _ 1 1 Tryz.underlying59 hi0 hz0 hz1 hz2 rfl (by decide) x l l (bytesV s) (by rw [bytesV_length]; omega)
   (fun j u hu => by obtain ⟨y, e, hy⟩ := h.2.2 j u hu; cases e; exact hy) a m c (bytesV t) (by rw [bytesV_length]; omega) ht (by omega) (by unfold maxLen; omega) (by omega)
  have hS := Sl.of_owns r2
  obtain ⟨a', n', c', rfl⟩ := hS.shape
  have hlt : ∀ g, Own (.slice a' n' c') g → w.heap.size ≤ g := fun g hg => (r2.lt g hg).1
  refine ⟨a', n', c', w2, r1, ⟨?_, fun g hg => Nat.le_trans hb (hlt g hg)⟩, ⟨r3.os, r3.tape, r3.output, r3.size, fun k hk _ => r3.block k hk (by simp)⟩, fun g hg => .inr (hlt g hg)⟩
  rw [bytesV_append, show (s ++ t).size = l + m by rw [ByteArray.size_append, hm, ← hls]]; exact hS
theorem appendNumberA_code (w : World) (b : Nat) (hb : b ≤ w.heap.size) (a : Option Addr) (l c : Nat) (s : ByteArray) (h : SlA b w (.slice a l c) s) (x : Nat) (hx : x < 18446744073709551616) (m : Nat) (hm : m ≤ 8) (hm0 : 0 < m) (hs : s.size ≤ 2000000) :
  Calls Tryz.prog 212 #[.slice a l c, .int .u64 x, .int .i64 m] w fun e w' => ∃ a' l' c', e = .returned (.slice a' l' c') ∧ SlB b w' (.slice a' l' c') (s ++ ⟨(numL x m).toArray⟩) ∧ Fr (Own (.slice a l c)) w w' ∧ NewOr w (.slice a l c) (.slice a' l' c') := by
 have H := hide h
 clear h
 go_enter Tryz.func212, Tryz.ntmps212
 go_wp2
 go_loopw [0, 1, 8] (fun v y i wr => ∃ (k y' : Nat) (a' : Option Addr) (l' c' : Nat), k ≤ m ∧ i = .int .i64 k ∧ y = .int .u64 y' ∧ v = .slice a' l' c' ∧ y' < 18446744073709551616 ∧ Hid (SlA b wr v (s ++ ⟨((numL x m).take k).toArray⟩) ∧ (0 < k → SlB b wr v (s ++ ⟨((numL x m).take k).toArray⟩))) ∧ Hid (numL y' (m - k) = (numL x m).drop k) ∧ Hid (Fr (Own (.slice a l c)) w wr ∧ NewOr w (.slice a l c) v)) (fun _ _ i _ => m - (intOf i).toNat)
 case atStart => exact ⟨0, x, a, l, c, Nat.zero_le _, rfl, rfl, rfl, hx, ⟨by show SlA _ _ _ _; rw [List.take_zero, ba_nil]; exact unhide H, fun h => absurd h (Nat.lt_irrefl 0)⟩, rfl, Fr.refl _ _, fun g hg => .inl hg⟩
 case round =>
  obtain ⟨k, y, a', l', c', hk, rfl, rfl, rfl, hy, HS, HN, HB⟩ := hrel
  by_cases hlt : k < m
  ·have hw8 : IntKind.u8.wrap (y : Int) = ((UInt8.ofNat y).toNat : Int) := wrap8 y
   have hb' := (unhide HB).1.size
   obtain ⟨W, hW, hx0, hkW, hszW, hbW⟩ := alloc_name wr [.int .u8 (IntKind.u8.wrap (y : Int))] 5
   obtain ⟨a2, l2, c2, w2, hr, hS2, hB2, hN2⟩ := appA W b (by omega) _ _ ((unhide HS).1.below hbW) ⟨wr.heap.size, 0, none⟩ 1 1 ⟨#[UInt8.ofNat y]⟩ rfl (fun j u hu => by rw [Addr.add_lit, Nat.zero_add, hx0.cell, hw8]; exact hu) (by rw [ByteArray.size_append]; show s.size + (List.toArray _).size + 1 ≤ _; simp; omega)
   have HS2 := hide hS2
   have HB2 : Hid (Fr (Own (.slice a l c)) w w2 ∧ NewOr w (.slice a l c) (.slice a2 l2 c2)) := by
    refine ⟨((unhide HB).1.then (Fr.of_below (X := Own (.slice a l c)) hbW) (fun k _ h => h)).then hB2 (fun k hk e => ((unhide HB).2 k e).elim id (fun h => by omega)), fun g hg => ?_⟩
    rcases hN2 g hg with h1 | h1
    ·exact (unhide HB).2 g h1
    ·exact .inr (by omega)
   have HW := hide hW
   clear hS2 hB2 hN2 hx0 hkW hszW hbW hW hw8
   rw [← unhide HW] at hr
   go_wp2_with (at_builtin; refine Lib.wpList_append_run _ rfl _ _ 59 59 rfl _ _ rfl rfl _ _ hr ?_)
   go_roundw
   case rel =>
    obtain ⟨h1, h2⟩ := numL_step hlt (unhide HN)
    exact ⟨k + 1, y / 256, a2, l2, c2, by omega, by go_num, by go_num, rfl, by omega, ⟨by show SlA _ _ _ _; rw [h1, ← ba_snoc]; exact .inl (unhide HS2), fun _ => by show SlB _ _ _ _; rw [h1, ← ba_snoc]; exact unhide HS2⟩, h2, HB2⟩
   case measure => simp [intOf]; omega
  ·obtain rfl : k = m := by omega
   go_wp2
   go_ret
   have h1 := (unhide HS).2 hm0
   rw [List.take_of_length_le (by rw [numL_length]; exact Nat.le_refl _)] at h1
   exact ⟨a', l', c', rfl, h1, unhide HB⟩
def siltB : ByteArray := ⟨#[115, 105, 108, 116]⟩
def numB (x m : Nat) : ByteArray := ⟨(numL x m).toArray⟩
def ckS (turn p x : Nat) : ByteArray := siltB ++ numB turn 8 ++ refB p x
def ckA (turn p x : Nat) : ByteArray := ⟨#[1]⟩ ++ longR (ckS turn p x) 63
def ckB (turn p x : Nat) : ByteArray := (ckA turn p x).extract 0 56 ++ numB (fnvN ((ckA turn p x).extract 0 56)) 8
theorem numB_size (x m : Nat) : (numB x m).size = m := numA_size x m
theorem refB_size (p x : Nat) : (refB p x).size = 10 := by show (List.toArray _).size = 10; simp [numL_length]
theorem ckS_size (turn p x : Nat) : (ckS turn p x).size = 22 := by unfold ckS; rw [ByteArray.size_append, ByteArray.size_append, numB_size, refB_size]; rfl
theorem ckA_size (turn p x : Nat) : (ckA turn p x).size = 64 := by unfold ckA; rw [ByteArray.size_append, longR_size]; rfl
theorem ckB_size (turn p x : Nat) : (ckB turn p x).size = 64 := by unfold ckB; rw [ByteArray.size_append, ByteArray.size_extract, ckA_size, numB_size]; rfl
theorem ck_spl (turn p x : Nat) : spl (bytesV (ckA turn p x)) 56 (bytesV (numB (fnvN ((ckA turn p x).extract 0 56)) 8)) = bytesV (ckB turn p x) := by
 unfold spl ckB
 rw [bytesV_append, bytesV_extract, List.drop_eq_nil_of_le (by rw [bytesV_length, bytesV_length, ckA_size, numB_size]; decide)]
 simp
theorem wpList_build2 {P : Program} {ops : Array Oper} {rest : List Oper} {o : Oper} {a : Act} {w : World} {Q : Exit → Act → World → Prop} (hgd : o.guard = none) (t : TypeId) (i j : Nat) (x y : Operand) (ho : o.op = .build t #[(i, x), (j, y)]) (u v : Value) (hx : a.eval x = u) (hy : a.eval y = v) {cs : Array Value} (hb : P.built t [(i, u), (j, v)] = some cs)
  (h : wpList P ops Q rest (a.put o.dst (.agg cs)) w) : wpList P ops Q (o :: rest) a w := by
 have e : ((#[(i, x), (j, y)] : Array (Nat × Operand)).map fun (i, x) => (i, a.eval x)).toList = [(i, u), (j, v)] := by simp [hx, hy]
 refine wpList_build hgd t _ ho ?_ ?_
 ·rw [e, hb]; rfl
 ·rw [e, hb]; exact h
def PiecePost (w : World) (turn p x : Nat) (e : Ending) (w' : World) : Prop := e = .returned (pcV (turn % 2) (ckB turn p x)) ∧ Below w.heap.size w w'
theorem piece_code (w : World) (turn p x : Nat) (ht : turn < 18446744073709551616) (hp : p < 65536) (hx : x < 18446744073709551616) :
  Calls Tryz.prog 160 #[.agg #[.int .u64 turn, .int .i64 p, .int .u64 x]] w (PiecePost w turn p x) := by
 obtain ⟨W0, hW0, hl0, hk0, hs0, hb0⟩ := alloc_name w [.int .u64 turn, .int .i64 p, .int .u64 x] 191
 obtain ⟨W1, hW1, hr1, hk1, hs1, hb1⟩ := alloc_name W0 (pcL 0 (zeroB 64)) 207
 obtain ⟨W2, hW2⟩ : ∃ X, W1.alloc (.cells (bytesV siltB).toArray 5 (4, 5)) = X := ⟨_, rfl⟩
 have hb2 : Below W1.heap.size W1 W2 := by rw [← hW2]; exact (Below.refl _ _).alloc (Nat.le_refl _) _
 have hs2 : W2.heap.size = W1.heap.size + 1 := by rw [← hW2]; simp
 have hk2 : ∀ b t' R, RowIs W1 b t' R → RowIs W2 b t' R := fun b t' R h => (hb2.block _ h.lt).trans h
 have hq2 : W2.heap[W1.heap.size]? = some (.cells (bytesV siltB).toArray 5 (4, 5)) := by rw [← hW2]; exact heap_alloc_new W1 _
 have hw2 : Below w.heap.size w W2 := hb0.trans ((hb1.mono (by omega)).trans (hb2.mono (by omega)))
 have hl2 := hk2 _ _ _ (hk1 _ _ _ hl0)
 have hr2 := hk2 _ _ _ hr1
 have hrd2 : RdB W2 (some ⟨W1.heap.size, 0, none⟩) 4 4 siltB := by
  refine ⟨rfl, fun e => (by cases e), fun j v hv => ⟨_, rfl, ?_⟩⟩
  rw [Addr.add_lit, Nat.zero_add]
  simp only [World.cell?, hq2]
  simpa using hv
 have hS2 : SlA W1.heap.size W2 (.slice (some ⟨W1.heap.size, 0, none⟩) 4 4) siltB := .inr ⟨_, _, rfl, hrd2⟩
 have HC1 : Hid (Calls Tryz.prog 212 #[.slice (some ⟨W1.heap.size, 0, none⟩) 4 4, .int .u64 turn, .int .i64 8] W2 fun e w' => ∃ a' l' c', e = .returned (.slice a' l' c') ∧ RowIs w' w.heap.size 191 [.int .u64 turn, .int .i64 p, .int .u64 x] ∧ RowIs w' W0.heap.size 207 (pcL 0 (zeroB 64)) ∧ Hid (SlB W1.heap.size w' (.slice a' l' c') (siltB ++ numB turn 8) ∧ Below W1.heap.size W2 w')) := (appendNumberA_code W2 W1.heap.size (by omega) _ _ _ siltB hS2 turn ht 8 (by omega) (by omega) (by decide)).mono fun e w' ⟨a', l', c', he, h1, h2, h3⟩ => by
  have hB : Below W1.heap.size W2 w' := ⟨h2.os, h2.tape, h2.output, h2.size, fun k hk => h2.block k (by omega) (fun e => by simp [Own, Value.ownBlock] at e; omega)⟩
  exact ⟨a', l', c', he, (hB.block _ (by omega)).trans hl2, (hB.block _ (by omega)).trans hr2, h1, hB⟩
 have HC2 : Hid (∀ X a l c, Hid (SlB W1.heap.size X (.slice a l c) (siltB ++ numB turn 8) ∧ Below W1.heap.size W2 X) → Calls Tryz.prog 214 #[.agg #[.int .i64 p, .int .u64 x], .slice a l c] X fun e w' => ∃ a' l' c', e = .returned (.slice a' l' c') ∧ Hid (SlB W1.heap.size w' (.slice a' l' c') (ckS turn p x) ∧ Below W1.heap.size W2 w')) := fun X a l c hh => by
  obtain ⟨h1, h2⟩ := unhide hh
  have := h2.size
  refine (appendTo_code X W1.heap.size (by omega) a l c _ h1 p x hp hx (by rw [ByteArray.size_append, numB_size]; decide)).mono ?_
  rintro e w' ⟨a', l', c', rfl, q1, q2, q3⟩
  exact ⟨a', l', c', rfl, q1, h2.trans (h1.frBelow (by omega) q2)⟩
 have HC3 : Hid (∀ X a l c, Hid (SlB W1.heap.size X (.slice a l c) (ckS turn p x) ∧ Below W1.heap.size W2 X) → Calls Tryz.prog 213 #[.int .u8 1, .slice a l c] X fun e w' => e = .returned (blkV (ckA turn p x)) ∧ Hid (Below W1.heap.size W2 w')) := fun X a l c hh => by
  obtain ⟨h1, h2⟩ := unhide hh
  refine (blockOf_code X a l c _ h1.rdB (by rw [ckS_size]; decide) 1).mono ?_
  rintro e w' ⟨rfl, q⟩
  exact ⟨rfl, h2.trans (q.mono (by have := h2.size; omega))⟩
 -- behind the third call
 have HM : Hid (∀ X3, Hid (Below W1.heap.size W2 X3) → ∃ X4 X5, X3.alloc (.cells (bytesV (zeroB 64)).toArray 188) = X4 ∧ RowIs X4 X3.heap.size 188 (bytesV (zeroB 64)) ∧ X4.setRow X3.heap.size (bytesV (ckA turn p x)).toArray = X5 ∧
   Hid (Calls Tryz.prog 215 #[.slice (some ⟨X3.heap.size, 0, none⟩) 56 64] X5.drew fun e w' => e = .returned (.int .u64 (fnvN ((ckA turn p x).extract 0 56) : Nat)) ∧ w' = X5.drew) ∧
   Hid (Calls Tryz.prog 212 #[.slice none 0 0, .int .u64 (fnvN ((ckA turn p x).extract 0 56) : Nat), .int .i64 8] X5.drew fun e w' => ∃ a' l' c' w8, e = .returned (.slice a' l' c') ∧ (Builtin.copy_ #[59, 59] 3 #[.slice (some ⟨X3.heap.size, 56, none⟩) 8 8, .slice a' l' c']).run Tryz.prog w' = .ok (goInt 8) w8 ∧ w8.cell? ⟨w.heap.size, 0, none⟩ = some (.int .u64 turn) ∧ Hid (RowIs w8 X3.heap.size 188 (bytesV (ckB turn p x)) ∧ RowIs w8 W0.heap.size 207 (pcL 0 (zeroB 64)) ∧ Below w.heap.size w w8))) := fun X3 hh => by
  have hB := unhide hh
  obtain ⟨X4, hX4, hx4, hk4, hs4, hb4⟩ := alloc_name X3 (bytesV (zeroB 64)) 188
  obtain ⟨X5, hX5⟩ : ∃ X, X4.setRow X3.heap.size (bytesV (ckA turn p x)).toArray = X := ⟨_, rfl⟩
  have hx5 : RowIs X5 X3.heap.size 188 (bytesV (ckA turn p x)) := by rw [← hX5]; exact setRow_heap X4 _ _ _ 188 _ hx4
  have hb5 : Below X3.heap.size X3 X5 := by rw [← hX5]; exact hb4.trans ⟨rfl, rfl, rfl, by simp, fun j hj => setRow_other X4 _ j _ (by omega)⟩
  have hs5 : X5.heap.size = X3.heap.size + 1 := by rw [← hX5]; simp [World.setRow, hs4]
  have hBs := hB.size
  have hrd : RdB X5 (some ⟨X3.heap.size, 0, none⟩) 56 64 ((ckA turn p x).extract 0 56) := by
   refine ⟨by rw [ByteArray.size_extract, ckA_size]; rfl, fun e => (by cases e), fun j v hv => ⟨_, rfl, ?_⟩⟩
   rw [Addr.add_lit, Nat.zero_add, hx5.cell]
   rw [bytesV_extract, List.drop_zero, List.getElem?_take] at hv
   split at hv
   ·exact hv
   ·cases hv
  refine ⟨X4, X5, hX4, hx4, hX5, ?_, ?_⟩
  ·have := sum_code X5.drew _ 56 64 _ (show RdB X5.drew (some ⟨X3.heap.size, 0, none⟩) 56 64 ((ckA turn p x).extract 0 56) from hrd) (by rw [ByteArray.size_extract, ckA_size]; decide)
   rw [fnvN_eq] at this
   exact this
  ·refine (appendNumber_code X5.drew X5.heap.size (Nat.le_refl _) none 0 0 ⟨#[]⟩ (SlB.nil _ _) _ (fnvN_lt _) 8 (by omega) (by decide)).mono ?_
   rintro e w' ⟨a', l', c', rfl, h1, h2, h3⟩
   have hB6 : Below X5.heap.size X5 w' := by
    have h4 := (SlB.nil X5.heap.size X5.drew).frBelow (Nat.le_refl _) h2
    exact ⟨h4.os, h4.tape, h4.output, h4.size, h4.block⟩
   have e0 : (⟨#[]⟩ : ByteArray) ++ ⟨(numL (fnvN ((ckA turn p x).extract 0 56)) 8).toArray⟩ = numB (fnvN ((ckA turn p x).extract 0 56)) 8 := by apply WideShapes.bytes_inj; simp [numB]
   rw [e0] at h1
   have hx6 : RowIs w' X3.heap.size 188 (bytesV (ckA turn p x)) := (hB6.block _ (by omega)).trans hx5
   obtain ⟨w8, r1, r2, r3⟩ := copy_row w' X3.heap.size 188 _ hx6 56 8 8 a' l' c' _ h1.rdB (by rw [numB_size]; exact Nat.le_refl _) (by rw [bytesV_length, ckA_size]; exact Nat.le_refl _)
   rw [numB_size] at r1
   rw [ck_spl] at r2
   have hsz6 := hB6.size
   have hoth : ∀ k, k < W1.heap.size → w8.heap[k]? = W2.heap[k]? := fun k hk => by
    rw [r3.block k (by omega) (by simp; omega), hB6.block k (by omega), hb5.block k (by omega), hB.block k hk]
   have hB8 : Below W1.heap.size W2 w8 := ⟨r3.os.trans (hB6.os.trans (hb5.os.trans hB.os)), r3.tape.trans (hB6.tape.trans (hb5.tape.trans hB.tape)), r3.output.trans (hB6.output.trans (hb5.output.trans hB.output)), by have := r3.size; omega, hoth⟩
   refine ⟨a', l', c', w8, rfl, r1, ?_, r2, (hoth _ (by omega)).trans hr2, hw2.trans (hB8.mono (by omega))⟩
   have : RowIs w8 w.heap.size 191 [.int .u64 turn, .int .i64 p, .int .u64 x] := (hoth _ (by omega)).trans hl2
   exact (this.cell 0).trans rfl
 obtain ⟨d207, hu207, hir207⟩ := und207
 have hcb := ckB_size turn p x
 have HCB := hide hcb
 have HZ := hide (ckA_size turn p x)
 have hmod : (turn : Int).tmod 2 = ((turn % 2 : Nat) : Int) := by rw [Int.tmod_eq_emod_of_nonneg (by omega)]; omega
 have HBLT := hide (built207 (turn % 2) (ckB turn p x) hcb)
 have HW0 := hide hW0
 have HW1 := hide hW1
 have HW2 := hide hW2
 have HN1 := hide (show W0.heap.size = w.heap.size + 1 from hs0)
 have c00 : ∀ o, (W1.alloc o).cell? ⟨w.heap.size, 0, none⟩ = some (.int .u64 turn) := fun o => (World.cell?_of_block (w := W1) (a := ⟨w.heap.size, 0, none⟩) (Below.heap_alloc _ _ _ (show w.heap.size < W1.heap.size by omega))).trans (((hk1 _ _ _ hl0).cell 0).trans rfl)
 have c0 : W2.cell? ⟨w.heap.size, 0, none⟩ = some (.int .u64 turn) := (hl2.cell 0).trans rfl
 have c1 : W2.cell? ⟨w.heap.size, 1, none⟩ = some (.int .i64 p) := (hl2.cell 1).trans rfl
 have c2 : W2.cell? ⟨w.heap.size, 2, none⟩ = some (.int .u64 x) := (hl2.cell 2).trans rfl
 clear hl0 hk0 hs0 hb0 hr1 hk1 hs1 hb1 hq2 hk2 hs2 hb2 hw2 hl2 hr2 hS2 hrd2 hW0 hW1 hW2 hcb
 have hcv := fun (w : World) (C : Array Value) (n c : Nat) => Lib.run_convert_bytes_const (P := Tryz.prog) w 59 5 C n c Tryz.underlying59 (by kernel_rfl)
 go_enter Tryz.func160, Tryz.ntmps160
 go_upto_region 1 with (refine wpList_alloc_z rfl 207 rfl zero207 ?_)
 rw [show w.alloc (.cells #[Value.int .u64 turn, .int .i64 p, .int .u64 x] 191) = W0 from unhide HW0]
 rw [show W0.alloc (.cells (pcL 0 (zeroB 64)).toArray 207) = W1 from unhide HW1]
 (try simp only [pE])
 go_upto_region 3 with (first | (go_at_call 212; rw [show W1.alloc (.cells #[.int .u8 115, .int .u8 105, .int .u8 108, .int .u8 116] 5 (4, 5)) = W2 from unhide HW2]; refine (unhide HC1).mono ?_; rintro e w1 ⟨a1, l1, c1', rfl, hl1, hr1, HQ1⟩; have m1 := hl1.cell 1; have m2 := hl1.cell 2; clear c00) | (go_at_call 214; refine (unhide HC2 _ _ _ _ HQ1).mono ?_; rintro e w2 ⟨a2, l2, c2', rfl, HQ2⟩) | (go_at_call 213; refine (unhide HC3 _ _ _ _ HQ2).mono ?_; rintro e X3 ⟨rfl, HQ3⟩; obtain ⟨X4, X5, hX4, hx4, hX5, HSUM, HNUM⟩ := unhide HM X3 HQ3; have HX4 := hide hX4; have HX5 := hide hX5; have Hx4 := hide hx4; clear hX4 hX5 hx4) | (refine wpList_alloc_z rfl 188 rfl zero132 ?_; rw [show X3.alloc (.cells (bytesV (zeroB 64)).toArray 188) = X4 from unhide HX4]) | (refine wpList_store_row rfl 188 _ _ rfl X3.heap.size (bytesV (ckA turn p x)).toArray rfl rfl 188 _ (unhide Hx4) (by rw [size132]; simp [bytesV_length, unhide HZ]) (by simp [bytesV_length, zeroB_size, unhide HZ]) (blk_one _) ?_; rw [unhide HX5]))
 refine wp_region_held_drew (S := fun _ => True) (by kernel_rfl) trivial (fun hHeld => ?_)
 refine wpAnyH_take (i := 0) (v := ?_) rfl (by kernel_rfl) (by kernel_rfl) (by kernel_rfl) (fun _ _ _ h => h) (Or.inl ⟨by rfl, ?_⟩) (by assumption) ?_
 rotate_left
 ·intro w hSw; (try dsimp only at hSw); go_simp <;> with_reducible rfl
 (try simp only [pE])
 refine wpAnyH_take (i := 1) (v := ?_) rfl (by kernel_rfl) (by kernel_rfl) (by kernel_rfl) (fun _ _ _ h => h) (Or.inl ⟨by rfl, ?_⟩) (by assumption) ?_
 rotate_left
 ·intro w hSw; (try dsimp only at hSw); go_simp <;> with_reducible rfl
 (try simp only [pE])
 refine wpAnyH_ready (rs := [2]) (by kernel_rfl) (by simp) ?_
 refine AllReadyH.cons (i := 2) rfl ?_ AllReadyH.nil
 intro K hK
 go_simp
 go_at_call 215
 refine (unhide HSUM).mono ?_
 rintro e w' ⟨rfl, hw⟩
 rw [hw]; clear hw
 go_wp2_with fail
 refine hK.out _ _ trivial (fun hH2 => ?_)
 clear hK K
 (try simp only [pE])
 refine wpAnyH_ready (rs := [3]) (by kernel_rfl) (by simp) ?_
 refine AllReadyH.cons (i := 3) rfl ?_ AllReadyH.nil
 intro K hK
 go_simp
 go_at_call 212
 refine (unhide HNUM).mono ?_
 rintro e w7 ⟨a7, l7, c7, w8, rfl, hcp, hc8, HP⟩
 go_wp2_with fail
 refine hK.out _ _ trivial (fun hH3 => ?_)
 clear hK K
 (try simp only [pE])
 refine wpAnyH_ready (rs := [4]) (by kernel_rfl) (by simp) ?_
 refine AllReadyH.cons (i := 4) rfl ?_ AllReadyH.nil
 intro K hK
 refine step_copy_run rfl _ _ 59 59 rfl _ _ rfl rfl hcp ?_
 refine hK.out _ _ trivial (fun hH4 => ?_)
 clear hK K
 (try simp only [pE])
 refine wpAnyH_done (by kernel_rfl) ?_ _
 obtain ⟨hck, hrs, hbw⟩ := unhide HP
 have HCK := hide hck
 have HRS := hide hrs
 have HBW := hide hbw
 clear hck hrs hbw HP HC1 HC2 HC3 HM HSUM HNUM hcp
 go_upto_region 4 with fail
 refine wp_region_lit ?_
 go_wp2_with (first | (refine wpList_load_row rfl 188 _ rfl X3.heap.size rfl 188 _ (0, 0) _ (unhide HCK) und132 rfl (by rw [size132]; simp [bytesV_length, unhide HCB]) ?_) | (refine wpList_build2 rfl 207 0 1 _ _ rfl (.int .i64 ((turn % 2 : Nat) : Int)) (blkV (ckB turn p x)) rfl rfl (unhide HBLT) ?_) | (refine wpList_store_row rfl 207 _ _ rfl W0.heap.size (pcL (turn % 2) (ckB turn p x)).toArray rfl rfl 207 _ (unhide HRS) (by rw [size207]; simp [pcL_length, unhide HCB]) (by simp [pcL_length, unhide HCB, zeroB_size]) (all_oneCell_toArray (pcL_one _ _)) ?_))
 have hfin : RowIs (w8.setRow W0.heap.size (pcL (turn % 2) (ckB turn p x)).toArray) W0.heap.size 207 (pcL (turn % 2) (ckB turn p x)) := setRow_heap w8 _ _ _ 207 _ (unhide HRS)
 refine bodyPost_ret (v := pcV (turn % 2) (ckB turn p x)) (results_cell_row rfl _ _ W0.heap.size 207 _ (0, 0) _ rfl hfin hu207 (by cases d207 <;> first | rfl | (simp [TypeDesc.isRow] at hir207)) ?_) rfl ⟨rfl, ?_⟩
 ·rw [size207]; simp [pcL_length, unhide HCB]
 ·have hn := unhide HN1
  exact (unhide HBW).trans ⟨rfl, rfl, rfl, by simp, fun j hj => setRow_other w8 _ j _ (by omega)⟩
def planL (db sb so : Nat) (nd : Nat → Int) (cl : Bool) (hd : Nat) (va : Value) (tp tx : Int) (vp : Value) : List Value :=
 [.pointer (some ⟨db, 0, none⟩), .pointer (some ⟨sb, so, none⟩)] ++ ndL nd ++ [.bool cl, .int .i64 hd, va, .int .i64 tp, .int .u64 tx, vp]
theorem planL_nd (db sb so : Nat) (nd : Nat → Int) (cl : Bool) (hd : Nat) (va : Value) (tp tx : Int) (vp : Value) (j : Nat) (h : j < 96) : (planL db sb so nd cl hd va tp tx vp)[2 + j]? = some (.int .i64 (nd j)) := by
 unfold planL
 rw [List.append_assoc, List.getElem?_append_right (by simp), List.getElem?_append_left (by simp [ndL_length]; omega), ← ndL_at nd j h]
 congr 1; simp
theorem planL_tail (db sb so : Nat) (nd : Nat → Int) (cl : Bool) (hd : Nat) (va : Value) (tp tx : Int) (vp : Value) (j : Nat) : (planL db sb so nd cl hd va tp tx vp)[98 + j]? = [Value.bool cl, .int .i64 hd, va, .int .i64 tp, .int .u64 tx, vp][j]? := by
 unfold planL
 rw [List.getElem?_append_right (by simp [ndL_length])]
 congr 1; simp [ndL_length]
theorem planL_set (db sb so : Nat) (nd : Nat → Int) (cl : Bool) (hd : Nat) (va : Value) (tp tx : Int) (vp : Value) (j : Nat) (u : Value) : (planL db sb so nd cl hd va tp tx vp).set (98 + j) u = [.pointer (some ⟨db, 0, none⟩), .pointer (some ⟨sb, so, none⟩)] ++ ndL nd ++ [Value.bool cl, .int .i64 hd, va, .int .i64 tp, .int .u64 tx, vp].set j u := by
 unfold planL
 rw [List.set_append_right _ _ (by simp [ndL_length])]
 congr 2; simp [ndL_length]
structure PlanW (w : World) (pb db sb so : Nat) (nd : Nat → Int) (cl : Bool) (hd : Nat) (va : Value) (es : List (Int × Int)) (tp tx : Int) (vp : Value) (ps : List (Nat × ByteArray)) : Prop where
 row : RowIs w pb 184 (planL db sb so nd cl hd va tp tx vp)
 sa : Sl w 350 2 va es.length (cellsR es)
 sp : SlP w vp ps
 oa : ¬ Own va pb
 op : ¬ Own vp pb
 ap : ∀ k, Own va k → ¬ Own vp k
theorem PlanW.below {w w' : World} {pb db sb so : Nat} {nd : Nat → Int} {cl : Bool} {hd : Nat} {va : Value} {es : List (Int × Int)} {tp tx : Int} {vp : Value} {ps : List (Nat × ByteArray)} (h : PlanW w pb db sb so nd cl hd va es tp tx vp ps) (hb : Below w.heap.size w w') : PlanW w' pb db sb so nd cl hd va es tp tx vp ps :=
 ⟨(hb.block _ h.row.lt).trans h.row, h.sa.kept (fun k hk _ => hb.block k hk), Sl.kept h.sp (fun k hk _ => hb.block k hk), h.oa, h.op, h.ap⟩
theorem PlanW.cells {w : World} {pb db sb so : Nat} {nd : Nat → Int} {cl : Bool} {hd : Nat} {va : Value} {es : List (Int × Int)} {tp tx : Int} {vp : Value} {ps : List (Nat × ByteArray)} (h : PlanW w pb db sb so nd cl hd va es tp tx vp ps) :
  w.cell? ⟨pb, 0, none⟩ = some (.pointer (some ⟨db, 0, none⟩)) ∧ w.cell? ⟨pb, 1, none⟩ = some (.pointer (some ⟨sb, so, none⟩)) ∧ (∀ j, j < 96 → w.cell? ⟨pb, 2 + j, none⟩ = some (.int .i64 (nd j))) ∧ w.cell? ⟨pb, 98, none⟩ = some (.bool cl) ∧ w.cell? ⟨pb, 99, none⟩ = some (.int .i64 hd) ∧ w.cell? ⟨pb, 100, none⟩ = some va ∧ w.cell? ⟨pb, 103, none⟩ = some vp :=
 ⟨(h.row.cell 0).trans rfl, (h.row.cell 1).trans rfl, fun j hj => (h.row.cell (2 + j)).trans (planL_nd _ _ _ _ _ _ _ _ _ _ j hj), (h.row.cell 98).trans (planL_tail _ _ _ _ _ _ _ _ _ _ 0), (h.row.cell 99).trans (planL_tail _ _ _ _ _ _ _ _ _ _ 1), (h.row.cell 100).trans (planL_tail _ _ _ _ _ _ _ _ _ _ 2), (h.row.cell 103).trans (planL_tail _ _ _ _ _ _ _ _ _ _ 5)⟩
theorem PlanW.next {w w' : World} {pb db sb so : Nat} {nd : Nat → Int} {cl : Bool} {hd : Nat} {va : Value} {es : List (Int × Int)} {tp tx : Int} {vp : Value} {ps : List (Nat × ByteArray)} (h : PlanW w pb db sb so nd cl hd va es tp tx vp ps) (p : Nat) (hr : RowIs w' pb 184 ((planL db sb so nd cl hd va tp tx vp).set 99 (.int .i64 ((p + 1 : Nat) : Int)))) (hf : Fr (fun k => k = pb) w w') : PlanW w' pb db sb so nd cl (p + 1) va es tp tx vp ps :=
 ⟨by rw [planL_set (j := 1)] at hr; exact hr, h.sa.fr hf (fun g hg e => h.oa (by rw [← e]; exact hg)), Sl.fr h.sp hf (fun g hg e => h.op (by rw [← e]; exact hg)), h.oa, h.op, h.ap⟩
theorem PlanW.piece {w w' : World} {pb db sb so : Nat} {nd : Nat → Int} {cl : Bool} {hd : Nat} {va : Value} {es : List (Int × Int)} {tp tx : Int} {vp vp' : Value} {ps ps' : List (Nat × ByteArray)} (h : PlanW w pb db sb so nd cl hd va es tp tx vp ps) (hP : SlP w' vp' ps') (hf : Fr (Own vp) w w') (hn : NewOr w vp vp') : PlanW (w'.setCell ⟨pb, 103, none⟩ vp') pb db sb so nd cl hd va es tp tx vp' ps' := by
 have hr : RowIs w' pb 184 _ := h.row.fr hf h.op
 have hsa : Sl w' 350 2 va es.length (cellsR es) := h.sa.fr hf (fun g hg => h.ap g hg)
 have hop : ¬ Own vp' pb := fun e => (hn _ e).elim h.op (fun h' => by have := h.row.lt; omega)
 refine ⟨?_, hsa.setCell _ _ h.oa, Sl.setCell hP _ _ hop, h.oa, hop, fun k hk hk2 => (hn _ hk2).elim (h.ap k hk) (fun h' => by have := h.sa.lt hk; omega)⟩
 have := hr.set 103 vp'
 rw [planL_set (j := 5)] at this; exact this
theorem PlanW.put {w w' : World} {pb db sb so : Nat} {nd : Nat → Int} {cl : Bool} {hd : Nat} {va va' : Value} {es es' : List (Int × Int)} {tp tx : Int} {vp : Value} {ps : List (Nat × ByteArray)} (h : PlanW w pb db sb so nd cl hd va es tp tx vp ps) (hS : Sl w' 350 2 va' es'.length (cellsR es')) (hn : NewOr w va va') (hf : MapFr w w' pb 100 va va') : PlanW w' pb db sb so nd cl hd va' es' tp tx vp ps := by
 have hoa : ¬ Own va' pb := fun e => (hn _ e).elim h.oa (fun h' => by have := h.row.lt; omega)
 refine ⟨?_, hS, Sl.kept h.sp (fun k hk e => hf.block k hk (fun e' => h.op (by rw [← e']; exact e)) (fun e' => h.ap k e' e)), hoa, h.op, fun k hk hk2 => (hn _ hk).elim (fun h' => h.ap k h' hk2) (fun h' => by have := Sl.lt h.sp hk2; omega)⟩
 have := h.row.set 100 va'
 rw [planL_set (j := 2)] at this
 exact hf.head.trans this
set_option maxHeartbeats 4000000
theorem exec_build2 {P : Program} {o : Oper} {a : Act} (X : World) (t : TypeId) (i j : Nat) (x y : Operand) (ho : o.op = .build t #[(i, x), (j, y)]) (u v : Value) (hx : a.eval x = u) (hy : a.eval y = v) {cs : Array Value} (hb : P.built t [(i, u), (j, v)] = some cs) : (execOp a.eval o).run P X = .ok (.value (.agg cs)) X := by
 have e : ((#[(i, x), (j, y)] : Array (Nat × Operand)).map fun (i, x) => (i, a.eval x)) = #[(i, u), (j, v)] := by simp [hx, hy]
 unfold execOp
 simp only [ho, Sem.run_bind, e]
 rw [run_build X t #[(i, u), (j, v)] cs hb]
 rfl
def PutPost (w : World) (pb db sb so : Nat) (nd : Nat → Int) (cl : Bool) (va : Value) (es : List (Int × Int)) (tp tx : Int) (vp : Value) (ps : List (Nat × ByteArray)) (r : Nat) (s : ByteArray) (p : Nat) (e : Ending) (w' : World) : Prop :=
 e = .returned (.agg #[.int .i64 (p : Nat), .int .u64 (fnvN s : Nat)]) ∧ ∃ va' es' vp', PlanW w' pb db sb so nd cl (p + 1) va' es' tp tx vp' (ps ++ [(p, s)]) ∧ SrtR es' ∧ es'.length = es.length + 1 ∧ (∀ x, x ∈ es' ↔ x = ((r : Int), (p : Int)) ∨ x ∈ es) ∧ Fr (fun k => k = pb ∨ Own va k ∨ Own vp k) w w' ∧ NewOr w va va' ∧ NewOr w vp vp'
theorem put_absent (w : World) (pb db sb so : Nat) (nd : Nat → Int) (cl : Bool) (hd : Nat) (va : Value) (es : List (Int × Int)) (tp tx : Int) (vp : Value) (ps : List (Nat × ByteArray)) (h : PlanW w pb db sb so nd cl hd va es tp tx vp ps)
  (vb : Value) (eb : List (Int × Int)) (hcb : w.cell? ⟨sb, so, none⟩ = some vb) (hSb : Sl w 350 2 vb eb.length (cellsR eb)) (hnb : eb.length ≤ 10000) (hsb : SrtR eb) (r : Nat) (hno : ∀ x ∈ eb, x.1 ≠ r) (hs1 : SrtR es) (hes : es.length ≤ 10000) (hnew : ∀ x ∈ es, x.1 ≠ r) (hh : hd ≤ 1536) (hz : ∃ k, k < 96 ∧ nd ((hd / 16 + k) % 96) ≤ 0) (s : ByteArray) (hs : s.size = 64) (hl : ps.length ≤ 1000000) :
  Calls Tryz.prog 272 #[.pointer (some ⟨pb, 0, none⟩), .int .u64 r, blkV s] w (PutPost w pb db sb so nd cl va es tp tx vp ps r s (skipP nd 96 hd % 1536)) := by
 obtain ⟨W0, hW0, hx0, hk0, hs0, hb0⟩ := alloc_name w (bytesV s) 188
 obtain ⟨W1, hW1, hx1, hk1, hs1', hb1⟩ := alloc_name W0 [.int .i64 0, .int .u64 0] 175
 have hb01 : Below w.heap.size w W1 := hb0.trans (hb1.mono (by omega))
 have hpb := h.row.lt
 have hsbl : sb < w.heap.size := World.block_lt_of_cell? _ _ hcb
 obtain ⟨p, hp⟩ : ∃ p, p = skipP nd 96 hd % 1536 := ⟨_, rfl⟩
 rw [← hp]
 have hp15 : p < 1536 := by omega
 have hbx : RowIs W1 w.heap.size 188 (bytesV s) := hk1 _ _ _ hx0
 obtain ⟨ap0, lp0, cp0, rfl⟩ := Sl.shape h.sp
 -- Get
 have HG : Hid (Calls Tryz.prog 300 #[.pointer (some ⟨sb, so, none⟩), .int .u64 r] W1 fun e X => e = .returned (.tuple #[.int .i64 0, .bool false]) ∧ Below W1.heap.size W1 X) := (getR W1 sb so vb eb r ((hb01.cell (p := ⟨sb, so, none⟩) hsbl).trans hcb) (hSb.kept (fun k hk _ => hb01.block k hk)) hnb hsb).mono fun e X ⟨v, b, he, hF, hB⟩ => by
  rcases hF with ⟨_, hm⟩ | ⟨rfl, rfl, _⟩
  ·exact absurd rfl (hno _ hm)
  ·exact ⟨he, hB⟩
 -- next, from whatever world behind Get and the draw
 have HN : Hid (∀ X, Below w.heap.size w X → RowIs X w.heap.size 188 (bytesV s) → RowIs X W0.heap.size 175 [.int .i64 0, .int .u64 0] → Calls Tryz.prog 302 #[.pointer (some ⟨pb, 0, none⟩)] X fun e Y => e = .returned (.int .i64 p) ∧ Y.rangeAt w.heap.size 0 (bytesV s) ∧ Y.cell? ⟨pb, 103, none⟩ = some (.slice ap0 lp0 cp0) ∧ Hid (PlanW Y pb db sb so nd cl (p + 1) va es tp tx (.slice ap0 lp0 cp0) ps ∧ Fr (fun k => k = pb) w Y ∧ RowIs Y w.heap.size 188 (bytesV s) ∧ RowIs Y W0.heap.size 175 [.int .i64 0, .int .u64 0])) := fun X hX q1 q2 => by
  have hP := h.below hX
  obtain ⟨c0, c1, c2, c3, c4, c5, c6⟩ := hP.cells
  refine (next_code X pb _ hP.row nd hd hh c2 c4 (hP.row.frozen 99) hz).mono ?_
  rintro e Y ⟨p', hp', r0, rfl, r1, r2, r3⟩
  have e' : p' = p := by rw [hp', hp]
  subst e'
  have q3 : RowIs Y w.heap.size 188 (bytesV s) := q1.fr r2 (by omega)
  have hPY := hP.next p' r0 r2
  refine ⟨rfl, fun j v hv => by rw [q3.cell, Nat.zero_add]; exact hv, hPY.cells.2.2.2.2.2.2, hPY, (Fr.of_below hX).then r2 (fun _ _ h => h), q3, q2.fr r2 (by omega)⟩
 -- the append, from whatever world behind next
 have HA : Hid (∀ Y, Hid (PlanW Y pb db sb so nd cl (p + 1) va es tp tx (.slice ap0 lp0 cp0) ps ∧ Fr (fun k => k = pb) w Y ∧ RowIs Y w.heap.size 188 (bytesV s) ∧ RowIs Y W0.heap.size 175 [.int .i64 0, .int .u64 0]) → ∃ Z, Y.drew.alloc (.cells (pcL p s).toArray 207) = Z ∧ Z.rangeAt w.heap.size 0 (bytesV s) ∧ Z.cell? ⟨pb, 103, none⟩ = some (.slice ap0 lp0 cp0) ∧ ∃ a' l' c' w5, (Builtin.append_ #[182, 182] 182 #[.slice ap0 lp0 cp0, .slice (some ⟨Y.heap.size, 0, none⟩) 1 1]).run Tryz.prog Z = .ok (.slice a' l' c') w5 ∧ w5.rangeAt w.heap.size 0 (bytesV s) ∧ w5.cell? ⟨pb, 103, none⟩ = some (.slice ap0 lp0 cp0) ∧ w5.frozen? ⟨pb, 103, none⟩ = false ∧ (w5.setCell ⟨pb, 103, none⟩ (.slice a' l' c')).rangeAt w.heap.size 0 (bytesV s) ∧
   Hid (Calls Tryz.prog 243 #[.pointer (some ⟨pb, 100, none⟩), .int .u64 r, .int .i64 p] (w5.setCell ⟨pb, 103, none⟩ (.slice a' l' c')) fun e w6 => e = .returned (.tuple #[]) ∧ RowIs w6 w.heap.size 188 (bytesV s) ∧ RowIs w6 W0.heap.size 175 [.int .i64 0, .int .u64 0] ∧ Hid (∀ w7, Fr (fun k => k = W0.heap.size) w6 w7 → PutPost w pb db sb so nd cl va es tp tx (.slice ap0 lp0 cp0) ps r s p (.returned (.agg #[.int .i64 (p : Nat), .int .u64 (fnvN s : Nat)])) w7))) := fun Y hY => by
  obtain ⟨hP, hF, q1, q2⟩ := unhide hY
  obtain ⟨Z, hZ, hz0, hkZ, hsZ, hbZ⟩ := alloc_name Y.drew (pcL p s) 207
  have hYZ : Below Y.heap.size Y Z := ((Below.refl Y.heap.size Y).drew).trans hbZ
  have hPZ := hP.below hYZ
  have hFs := hF.size
  have z1 : RowIs Z w.heap.size 188 (bytesV s) := (hYZ.block _ q1.lt).trans q1
  have z2 : RowIs Z W0.heap.size 175 [.int .i64 0, .int .u64 0] := (hYZ.block _ q2.lt).trans q2
  obtain ⟨v', w5, r1, a', l', c', rfl, r2, r3, r4⟩ := appP Z _ ps hPZ.sp Y.heap.size p s hs hz0 hl
  have hown : ∀ k, Own (.slice ap0 lp0 cp0) k → k < w.heap.size := fun k hk => Sl.lt h.sp hk
  have y1 : RowIs w5 w.heap.size 188 (bytesV s) := z1.fr r3 (fun e => by have := hown _ e; omega)
  have y2 : RowIs w5 W0.heap.size 175 [.int .i64 0, .int .u64 0] := z2.fr r3 (fun e => by have := hown _ e; omega)
  have y3 : RowIs w5 pb 184 _ := hPZ.row.fr r3 hPZ.op
  have hP6 := hPZ.piece r2 r3 r4
  have hne0 : w.heap.size ≠ pb := by omega
  have hne1 : W0.heap.size ≠ pb := by omega
  have hsz5 : Z.heap.size ≤ w5.heap.size := r3.size
  have x1 : RowIs (w5.setCell ⟨pb, 103, none⟩ (.slice a' l' c')) w.heap.size 188 (bytesV s) := (Below.heap_setCell _ _ _ _ hne0).trans y1
  have x2 : RowIs (w5.setCell ⟨pb, 103, none⟩ (.slice a' l' c')) W0.heap.size 175 [.int .i64 0, .int .u64 0] := (Below.heap_setCell _ _ _ _ hne1).trans y2
  refine ⟨Z, hZ, fun j v hv => by rw [z1.cell, Nat.zero_add]; exact hv, hPZ.cells.2.2.2.2.2.2, a', l', c', w5, r1, fun j v hv => by rw [y1.cell, Nat.zero_add]; exact hv, (y3.cell 103).trans (planL_tail _ _ _ _ _ _ _ _ _ _ 5), y3.frozen 103, fun j v hv => by rw [x1.cell, Nat.zero_add]; exact hv, ?_⟩
  have hsz6 : (w5.setCell ⟨pb, 103, none⟩ (.slice a' l' c')).heap.size = w5.heap.size := by simp [World.setCell]
  have hFw6 : Fr (fun k => k = pb ∨ Own va k ∨ Own (.slice ap0 lp0 cp0) k) w (w5.setCell ⟨pb, 103, none⟩ (.slice a' l' c')) := by
   refine Fr.set ?_ ⟨pb, 103, none⟩ _ (.inl rfl)
   refine Fr.then (Fr.then (w1 := Y) ⟨hF.os, hF.tape, hF.output, hF.size, fun k hk hX => hF.block k hk (fun e => hX (.inl e))⟩ (Fr.of_below hYZ (X := fun _ => False)) (fun _ _ h => h.elim)) r3 (fun k _ e => .inr (.inr e))
  refine (putNewR _ pb 100 va es r p hP6.cells.2.2.2.2.2.1 (hP6.row.frozen 100) hP6.oa hP6.sa hes hs1 hnew).mono ?_
  rintro e w6 ⟨rfl, va', es', m1, m2, m3, m4, m5, m6, m7⟩
  have hvalt : ∀ k, Own va k → k < w.heap.size := fun k hk => h.sa.lt hk
  have hw6 : ∀ k, k ≠ pb → ¬ Own va k → k < (w5.setCell ⟨pb, 103, none⟩ (.slice a' l' c')).heap.size → w6.heap[k]? = (w5.setCell ⟨pb, 103, none⟩ (.slice a' l' c')).heap[k]? := fun k h1 h2 h3 => m7.block k h3 h1 h2
  refine ⟨rfl, (hw6 _ hne0 (fun e => by have := hvalt _ e; omega) x1.lt).trans x1, (hw6 _ hne1 (fun e => by have := hvalt _ e; omega) x2.lt).trans x2, fun w7 h7 => ?_⟩
  have hP7 := hP6.put m2 m6 m7
  have hPf : PlanW w7 pb db sb so nd cl (p + 1) va' es' tp tx (.slice a' l' c') (ps ++ [(p, s)]) := by
   have hsz7 := m7.size
   have hne : ∀ v, (∀ g, Own v g → g ≠ W0.heap.size) → ∀ g, Own v g → ¬ (fun k => k = W0.heap.size) g := fun v hv g hg => hv g hg
   refine ⟨hP7.row.fr h7 (show ¬ pb = W0.heap.size by omega), hP7.sa.fr h7 (hne _ (fun g hg e => ?_)), Sl.fr hP7.sp h7 (hne _ (fun g hg e => ?_)), hP7.oa, hP7.op, hP7.ap⟩
   ·rcases m6 g hg with h8 | h8
    ·have := hvalt g h8; omega
    ·have := x2.lt; omega
   ·rcases r4 g hg with h8 | h8
    ·have := hown g h8; omega
    ·have := z2.lt; omega
  refine ⟨rfl, va', es', .slice a' l' c', hPf, m3, m4, m5, ?_, fun g hg => (m6 g hg).imp id (fun h8 => by have := hFw6.size; omega), fun g hg => (r4 g hg).imp id (fun h8 => by have := hYZ.size; omega)⟩
  refine Fr.then (w1 := w6) ⟨m7.os.trans hFw6.os, m7.tape.trans hFw6.tape, m7.output.trans hFw6.output, Nat.le_trans hFw6.size m7.size, fun k hk hX => ?_⟩ h7 (fun k hk e => by omega)
  have hX' : k ≠ pb ∧ ¬ Own va k := ⟨fun e => hX (.inl e), fun e => hX (.inr (.inl e))⟩
  rw [hw6 k hX'.1 hX'.2 (Nat.lt_of_lt_of_le hk hFw6.size)]
  exact hFw6.block k hk hX
 have hbs : (bytesV s).length = 64 := by rw [bytesV_length, hs]
 have HBS := hide hbs
 have HBLT := hide (built207 p s hs)
 have HX1 := hide hx1
 have HBX := hide hbx
 have HB01 := hide hb01
 have cb1 : W1.cell? ⟨pb, 1, none⟩ = some (.pointer (some ⟨sb, so, none⟩)) := (h.below hb01).cells.2.1
 have HW0 := hide hW0
 have HW1 := hide hW1
 have HN0 := hide (show W0.heap.size = w.heap.size + 1 from hs0)
 have HN1 := hide (show W1.heap.size = W0.heap.size + 1 from hs1')
 clear h hcb hSb hnb hsb hno hs1 hes hnew hh hz hx0 hk0 hs0 hb0 hx1 hk1 hs1' hb1 hb01 hbx hbs hW0 hW1 hp hsbl
 go_enter Tryz.func272, Tryz.ntmps272
 go_upto_region 0 with fail
 refine wp_region_lit ?_
 refine wpList_box_row rfl 188 _ rfl (bytesV s) rfl ?_
 rw [show w.alloc (.cells (bytesV s).toArray 188) = W0 from unhide HW0]
 (try simp only [pE])
 go_upto_region 1 with fail
 rw [show W0.alloc (.cells #[Value.int .i64 0, .int .u64 0] 175) = W1 from unhide HW1]
 go_upto_region 2 with (go_at_call 300; refine (unhide HG).mono ?_; rintro e X ⟨rfl, hBX⟩; have HBXX := hide hBX; clear hBX)
 go_quiet (fail)
 have hwX : Below w.heap.size w (X.drewN nq) := by
  have h1 := (unhide HB01).trans ((unhide HBXX).mono (unhide HB01).size)
  exact ⟨h1.os, h1.tape, h1.output, h1.size, h1.block⟩
 have q1 : RowIs (X.drewN nq) w.heap.size 188 (bytesV s) := ((unhide HBXX).block _ (unhide HBX).lt).trans (unhide HBX)
 have q2 : RowIs (X.drewN nq) W0.heap.size 175 [.int .i64 0, .int .u64 0] := ((unhide HBXX).block _ (unhide HX1).lt).trans (unhide HX1)
 have HNX := hide (unhide HN _ hwX q1 q2)
 clear hwX q1 q2 HN HG
 go_upto_region 4 with (go_at_call 302; refine (unhide HNX).mono ?_; rintro e Y ⟨rfl, e2, m3, HY⟩)
 obtain ⟨Z, hZ, sZ, mZ, a', l', c', w5, hr5, s5, m5, f5, s6, HPUT⟩ := unhide HA Y HY
 have HZ := hide hZ
 have HSZ := hide sZ
 have HS5 := hide s5
 have HS6 := hide s6
 clear hZ sZ s5 s6 HA HY
 refine wp_region_held_drew (S := fun X => X.rangeAt w.heap.size 0 (bytesV s)) (by kernel_rfl) e2 (fun hHeld => ?_)
 refine wpAnyH_take (i := 0) (v := ?_) rfl (by kernel_rfl) (by kernel_rfl) (by kernel_rfl) (fun _ _ _ h => h) (Or.inl ⟨by rfl, ?_⟩) (by assumption) ?_
 rotate_left
 ·intro w hSw; (try dsimp only at hSw); go_simp <;> with_reducible rfl
 (try simp only [pE])
 refine wpAnyH_take (i := 1) (v := ?_) rfl (by kernel_rfl) (by kernel_rfl) (by kernel_rfl) (fun _ _ _ h => h) (Or.inl ⟨by rfl, ?_⟩) (by assumption) ?_
 rotate_left
 ·intro w hSw; (try dsimp only at hSw); go_simp <;> with_reducible rfl
 (try simp only [pE])
 refine wpAnyH_take (i := 2) (v := ?_) rfl (by kernel_rfl) (by kernel_rfl) (by kernel_rfl) (fun _ _ _ h => h) (Or.inl ⟨by rfl, ?_⟩) (by assumption) ?_
 rotate_left
 ·intro w hSw; (try dsimp only at hSw); go_simp <;> with_reducible rfl
 (try simp only [pE])
 refine wpAnyH_take (i := 3) (v := ?_) rfl (by kernel_rfl) (by kernel_rfl) (by kernel_rfl) (fun _ _ _ h => h) (Or.inl ⟨by rfl, ?_⟩) (by assumption) ?_
 rotate_left
 ·intro w hSw; (try dsimp only at hSw); go_simp <;> with_reducible rfl
 (try simp only [pE])
 refine wpAnyH_take (i := 5) (v := ?_) rfl (by kernel_rfl) (by kernel_rfl) (by kernel_rfl) (fun _ _ _ h => h) (Or.inl ⟨by rfl, ?_⟩) (by assumption) ?_
 rotate_left
 ·intro w hSw; (try dsimp only at hSw); go_simp <;> with_reducible rfl
 (try simp only [pE])
 refine wpAnyH_take (i := 6) (v := blkV s) rfl (by kernel_rfl) (by kernel_rfl) (by kernel_rfl) (fun _ _ _ h => h) (yieldsIf_load_mid (by rfl) 188 _ rfl w.heap.size 0 rfl (bytesV s) _ (fun X hX => hX) und132 rfl (by rw [size132, unhide HBS])) (by assumption) ?_
 (try simp only [pE])
 refine wpAnyH_take (i := 7) (v := pcV p s) rfl (by kernel_rfl) (by kernel_rfl) (by kernel_rfl) (fun _ _ _ h => h) (Or.inl ⟨by rfl, fun X _ => ?_⟩) (by assumption) ?_
 ·exact exec_build2 X 207 0 1 _ _ rfl (.int .i64 (p : Nat)) (blkV s) rfl rfl (unhide HBLT)
 (try simp only [pE])
 refine wpAnyH_ready (rs := [4, 8]) (by kernel_rfl) (by simp) ?_
 refine AllReadyH.cons (i := 4) rfl ?_ (AllReadyH.cons (i := 8) rfl ?_ AllReadyH.nil)
 ·intro K hK
  go_simp
  refine hK.out _ _ hHeld (fun hH4 => ?_)
  clear hK K
  (try simp only [pE])
  refine wpAnyH_ready (rs := [8]) (by kernel_rfl) (by simp) ?_
  refine AllReadyH.cons (i := 8) rfl ?_ AllReadyH.nil
  intro K hK
  refine step_build207 rfl _ rfl p s hs rfl ?_
  rw [show Y.drew.alloc (.cells (pcL p s).toArray 207) = Z from unhide HZ]
  refine hK.out _ _ (unhide HSZ) (fun hH8 => ?_)
  clear hK K
  (try simp only [pE])
  refine wpAnyH_ready (rs := [9]) (by kernel_rfl) (by simp) ?_
  refine AllReadyH.cons (i := 9) rfl ?_ AllReadyH.nil
  intro K hK
  refine step_append_run rfl _ _ 182 182 rfl _ _ rfl rfl hr5 ?_
  refine hK.out _ _ (unhide HS5) (fun hH9 => ?_)
  clear hK K
  (try simp only [pE])
  refine wpAnyH_take (i := 10) (v := ?_) rfl (by kernel_rfl) (by kernel_rfl) (by kernel_rfl) (fun _ _ _ h => h) (Or.inl ⟨by rfl, ?_⟩) (by assumption) ?_
  rotate_left
  ·intro w hSw; (try dsimp only at hSw); go_simp <;> with_reducible rfl
  (try simp only [pE])
  refine wpAnyH_take (i := 11) (v := ?_) rfl (by kernel_rfl) (by kernel_rfl) (by kernel_rfl) (fun _ _ _ h => h) (Or.inl ⟨by rfl, ?_⟩) (by assumption) ?_
  rotate_left
  ·intro w hSw; (try dsimp only at hSw); go_simp <;> with_reducible rfl
  (try simp only [pE])
  refine wpAnyH_ready (rs := [12]) (by kernel_rfl) (by simp) ?_
  refine AllReadyH.cons (i := 12) rfl ?_ AllReadyH.nil
  intro K hK
  go_simp
  refine hK.out _ _ (unhide HS6) (fun hH12 => ?_)
  clear hK K
  (try simp only [pE])
  refine wpAnyH_done (by kernel_rfl) ?_ _
  go_wp2_with (first | (go_at_call 243; refine (unhide HPUT).mono ?_; rintro e w6 ⟨rfl, hx6, hx7, HF⟩; have HSUM := hide (sum_code w6 (some ⟨w.heap.size, 0, none⟩) 64 64 s ⟨hs.symm, fun e => (by cases e), fun j v hv => ⟨_, rfl, by rw [Addr.add_lit, Nat.zero_add, hx6.cell]; exact hv⟩⟩ (by rw [hs]; decide)); rw [fnvN_eq] at HSUM; have n0 := hx7.cell 0; have n1 := hx7.cell 1; have g0 := hx7.frozen 0; have g1 := hx7.frozen 1; clear hx6 hx7) | (go_at_call 215; refine (unhide HSUM).mono ?_; rintro e w' ⟨rfl, hw⟩; rw [hw]; clear hw))
  exact bodyPost_ret (v := .agg #[.int .i64 (p : Nat), .int .u64 (fnvN s : Nat)]) (by simp [results, Tryz.results272, go_sem, n0, n1]) rfl (unhide HF _ (((Fr.refl (fun k => k = W0.heap.size) w6).set ⟨W0.heap.size, 0, none⟩ _ rfl).set ⟨W0.heap.size, 1, none⟩ _ rfl))
 ·intro K hK
  refine step_build207 rfl _ rfl p s hs rfl ?_
  rw [show Y.drew.alloc (.cells (pcL p s).toArray 207) = Z from unhide HZ]
  refine hK.out _ _ (unhide HSZ) (fun hH8 => ?_)
  clear hK K
  (try simp only [pE])
  refine wpAnyH_ready (rs := [4]) (by kernel_rfl) (by simp) ?_
  refine AllReadyH.cons (i := 4) rfl ?_ AllReadyH.nil
  intro K hK
  go_simp
  refine hK.out _ _ hH8 (fun hH4 => ?_)
  clear hK K
  (try simp only [pE])
  refine wpAnyH_ready (rs := [9]) (by kernel_rfl) (by simp) ?_
  refine AllReadyH.cons (i := 9) rfl ?_ AllReadyH.nil
  intro K hK
  refine step_append_run rfl _ _ 182 182 rfl _ _ rfl rfl hr5 ?_
  refine hK.out _ _ (unhide HS5) (fun hH9 => ?_)
  clear hK K
  (try simp only [pE])
  refine wpAnyH_take (i := 10) (v := ?_) rfl (by kernel_rfl) (by kernel_rfl) (by kernel_rfl) (fun _ _ _ h => h) (Or.inl ⟨by rfl, ?_⟩) (by assumption) ?_
  rotate_left
  ·intro w hSw; (try dsimp only at hSw); go_simp <;> with_reducible rfl
  (try simp only [pE])
  refine wpAnyH_take (i := 11) (v := ?_) rfl (by kernel_rfl) (by kernel_rfl) (by kernel_rfl) (fun _ _ _ h => h) (Or.inl ⟨by rfl, ?_⟩) (by assumption) ?_
  rotate_left
  ·intro w hSw; (try dsimp only at hSw); go_simp <;> with_reducible rfl
  (try simp only [pE])
  refine wpAnyH_ready (rs := [12]) (by kernel_rfl) (by simp) ?_
  refine AllReadyH.cons (i := 12) rfl ?_ AllReadyH.nil
  intro K hK
  go_simp
  refine hK.out _ _ (unhide HS6) (fun hH12 => ?_)
  clear hK K
  (try simp only [pE])
  refine wpAnyH_done (by kernel_rfl) ?_ _
  go_wp2_with (first | (go_at_call 243; refine (unhide HPUT).mono ?_; rintro e w6 ⟨rfl, hx6, hx7, HF⟩; have HSUM := hide (sum_code w6 (some ⟨w.heap.size, 0, none⟩) 64 64 s ⟨hs.symm, fun e => (by cases e), fun j v hv => ⟨_, rfl, by rw [Addr.add_lit, Nat.zero_add, hx6.cell]; exact hv⟩⟩ (by rw [hs]; decide)); rw [fnvN_eq] at HSUM; have n0 := hx7.cell 0; have n1 := hx7.cell 1; have g0 := hx7.frozen 0; have g1 := hx7.frozen 1; clear hx6 hx7) | (go_at_call 215; refine (unhide HSUM).mono ?_; rintro e w' ⟨rfl, hw⟩; rw [hw]; clear hw))
  exact bodyPost_ret (v := .agg #[.int .i64 (p : Nat), .int .u64 (fnvN s : Nat)]) (by simp [results, Tryz.results272, go_sem, n0, n1]) rfl (unhide HF _ (((Fr.refl (fun k => k = W0.heap.size) w6).set ⟨W0.heap.size, 0, none⟩ _ rfl).set ⟨W0.heap.size, 1, none⟩ _ rfl))
end Go.Proofs.YtaieidcohdhgpaaGreatDoor
