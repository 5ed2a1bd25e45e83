/- Files: the reference: told, Stat. Files: the reference: inside: one entry more in a list that is in order. Files: the reference: inside. Files: the reference: inside, walked. -/
import Derived.Test.YtfabjhgkigagpaaGreatDoorPAK
namespace Go.Proofs.YtfabjhgkigagpaaGreatDoor
open Go.RowKit

set_option maxHeartbeats 1000000
set_option maxRecDepth 100000
/-- A path's last name. -/
def nameOf (p : ByteArray) : ByteArray := p.extract ((dirOf p).size + 1) p.size
def toldV (L : List (ByteArray × Int)) (F : List ByteArray) (x : ByteArray × Int) : Value :=
  if x.2 < 0 then .agg #[.string (nameOf x.1), .bool true, .int .i64 (L.countP (qDir x.1) : Nat), .int .i64 1]
  else .agg #[.string (nameOf x.1), .bool false, .int .i64 ((F[x.2.toNat]?.getD ⟨#[]⟩).size : Nat), .int .i64 (L.countP (qFile x.2) : Nat)]
theorem dirOf_lt {p : ByteArray} (h : HasSl p) : (dirOf p).size + 1 ≤ p.size := by
  obtain ⟨k, hk⟩ := h
  have hkl := (lastSl_some hk).1
  have hlt : k < p.data.toList.length := (List.getElem?_eq_some_iff.1 hkl).1
  have hs : p.data.toList.length = p.size := Array.length_toList
  unfold dirOf
  rw [hk, ByteArray.size_extract]
  simp only [Option.getD_some]
  omega
theorem told_ref (w : World) (rb : Nat) (vl vf : Value) (L : List (ByteArray × Int)) (F : List ByteArray) (h : RefW w rb vl vf L F) (p : ByteArray) (f : Int) (hp : p.size ≤ 2000000) (hsl : HasSl p) (hf : f < F.length) :
    Calls Tryz.prog 110 #[.pointer (some ⟨rb, 0, none⟩), .agg #[.string p, .int .i64 f]] w fun e w' => e = .returned (toldV L F (p, f)) ∧ Below w.heap.size w w' := by
  obtain ⟨V, hV⟩ : ∃ V, V = toldV L F (p, f) := ⟨_, rfl⟩
  rw [← hV]
  have hdl := dirOf_lt hsl
  have hrb := h.hd.lt
  have HW := hide h
  have HDR : Hid (∀ W, Calls Tryz.prog 67 #[.string p] W fun e w' => e = .returned (.string (dirOf p)) ∧ w' = W) := fun W => dir_ref p W hp hsl
  have HWI : Hid (∀ W, Below w.heap.size w W → Calls Tryz.prog 68 #[.pointer (some ⟨rb, 0, none⟩), .string p] W fun e w' => e = .returned (.int .i64 (L.countP (qDir p) : Nat)) ∧ w' = W) := fun W hb => (h.at hb).within p
  have HLI : Hid (∀ W, Below w.heap.size w W → Calls Tryz.prog 73 #[.pointer (some ⟨rb, 0, none⟩), .int .i64 f] W fun e w' => e = .returned (.int .i64 (L.countP (qFile f) : Nat)) ∧ w' = W) := fun W hb => links_ref W rb vl L f (h.at hb).c.c0 (h.at hb).sl h.nl
  obtain ⟨q, hq⟩ : ∃ q, q = (dirOf p).size + 1 := ⟨_, rfl⟩
  have hi2 : (q : Int) ≤ (p.size : Int) := by omega
  have hql : q ≤ p.size := by omega
  have HWQ : Hid (IntKind.i64.wrap (((dirOf p).size : Int) + 1) = (q : Int)) := by unfold Hid; rw [hq]; exact (IntWalk.i64_in _ ⟨by omega, by omega⟩).trans (by omega)
  have hnm : nameOf p = p.extract q p.size := by rw [hq]; rfl
  have HNM := hide hnm
  clear h hnm hq hdl
  go_enter Tryz.func110, Tryz.ntmps110
  go_wp2_with fail
  refine wp_region_held_drew (S := fun W => W.cell? ⟨w.heap.size, 0, none⟩ = some (.string p)) (by kernel_rfl) (by go_keep) (fun hHeld => ?_)
  refine wpAnyH_take (i := 0) (v := ?_) rfl (by kernel_rfl) (by kernel_rfl) (by kernel_rfl) (fun _ _ _ h => h) (Or.inl ⟨by rfl, ?_⟩) (by assumption) ?_
  rotate_left
  · intro w hSw; (try dsimp only at hSw); go_simp <;> with_reducible rfl
  (try simp only [Act.put, List.setIfInBounds_toArray])
  refine wpAnyH_take (i := 1) (v := ?_) rfl (by kernel_rfl) (by kernel_rfl) (by kernel_rfl) (fun _ _ _ h => h) (Or.inl ⟨by rfl, ?_⟩) (by assumption) ?_
  rotate_left
  · intro w hSw; (try dsimp only at hSw); go_simp <;> with_reducible rfl
  (try simp only [Act.put])
  refine wpAnyH_take (i := 2) (v := ?_) rfl (by kernel_rfl) (by kernel_rfl) (by kernel_rfl) (fun _ _ _ h => h) (Or.inl ⟨by rfl, ?_⟩) (by assumption) ?_
  rotate_left
  · intro w hSw; (try dsimp only at hSw); go_simp <;> with_reducible rfl
  (try simp only [Act.put])
  refine wpAnyH_take (i := 3) (v := ?_) rfl (by kernel_rfl) (by kernel_rfl) (by kernel_rfl) (fun _ _ _ h => h) (Or.inl ⟨by rfl, ?_⟩) (by assumption) ?_
  rotate_left
  · intro w hSw; (try dsimp only at hSw); go_simp <;> with_reducible rfl
  (try simp only [Act.put])
  refine wpAnyH_ready (rs := [4]) (by kernel_rfl) (by simp) ?_
  refine AllReadyH.cons rfl (fun K hK => ?_) AllReadyH.nil
  go_simp
  go_at_call 67
  refine (unhide HDR _).mono ?_
  rintro e w' ⟨rfl, hw⟩
  rw [hw]; clear hw
  go_wp2_with fail
  refine hK.out _ _ (by go_keep) (fun hHeld1 => ?_)
  clear hK K hHeld
  (try simp only [Act.put, List.setIfInBounds_toArray, List.set_cons_zero, List.set_cons_succ])
  refine wpAnyH_take (i := 5) (v := ?_) rfl (by kernel_rfl) (by kernel_rfl) (by kernel_rfl) (fun _ _ _ h => h) (Or.inl ⟨by rfl, ?_⟩) (by assumption) ?_
  rotate_left
  · intro w hSw; (try dsimp only at hSw); go_simp <;> with_reducible rfl
  (try simp only [Act.put, List.setIfInBounds_toArray])
  refine wpAnyH_take (i := 6) (v := .int .i64 (q : Int)) rfl (by kernel_rfl) (by kernel_rfl) (by kernel_rfl) (fun _ _ _ h => h) (Or.inl ⟨by rfl, ?_⟩) (by assumption) ?_
  · intro w hSw; (try dsimp only at hSw); go_simp

    rw [unhide HWQ]
  (try simp only [Act.put])
  refine wpAnyH_take (i := 7) (v := ?_) rfl (by kernel_rfl) (by kernel_rfl) (by kernel_rfl) (fun _ _ _ h => h) (Or.inl ⟨by rfl, ?_⟩) (by assumption) ?_
  rotate_left
  · intro w hSw; (try dsimp only at hSw); go_simp <;> with_reducible rfl
  (try simp only [Act.put])
  refine wpAnyH_take (i := 8) (v := ?_) rfl (by kernel_rfl) (by kernel_rfl) (by kernel_rfl) (fun _ _ _ h => h) (Or.inl ⟨by rfl, ?_⟩) (by assumption) ?_
  rotate_left
  · intro w hSw; (try dsimp only at hSw); go_simp <;> with_reducible rfl
  (try simp only [Act.put])
  refine wpAnyH_done (by kernel_rfl) ?_ _
  have hB : ∀ o1 o2, Below w.heap.size w ((w.alloc o1).alloc o2).drew := fun o1 o2 => by
    have hb0 : Below w.heap.size w (w.alloc o1) := (Below.refl _ _).alloc (Nat.le_refl _) _
    exact (hb0.trans (((Below.refl _ _).alloc (Nat.le_refl _) _).mono hb0.size)).drew
  have HB := hide hB
  clear hB
  by_cases hneg : f < 0
  · have hV2 : V = .agg #[.string (p.extract q p.size), .bool true, .int .i64 (L.countP (qDir p) : Nat), .int .i64 1] := by rw [hV]; unfold toldV; rw [if_pos hneg, unhide HNM]
    have HV := hide hV2
    clear hV hV2
    go_wp2_with (go_at_call 68; refine (unhide HWI _ (unhide HB _ _)).mono ?_; rintro e w' ⟨rfl, hw⟩; rw [hw]; clear hw)
    exact bodyPost_ret (v := .agg #[.string (p.extract q p.size), .bool true, .int .i64 (L.countP (qDir p) : Nat), .int .i64 1]) (by simp [results, Tryz.results110, go_sem]) rfl ⟨by rw [unhide HV], unhide HB _ _⟩
  · obtain ⟨k, rfl⟩ : ∃ k : Nat, f = k := ⟨f.toNat, by omega⟩
    have hkl : k < F.length := by omega
    have hFk : F[k]? = some F[k] := List.getElem?_eq_getElem hkl
    have hV2 : V = .agg #[.string (p.extract q p.size), .bool false, .int .i64 (F[k].size : Nat), .int .i64 (L.countP (qFile k) : Nat)] := by
      rw [hV]; unfold toldV; rw [if_neg hneg, unhide HNM]; simp only [Int.toNat_natCast, hFk, Option.getD_some]
    obtain ⟨s, hs⟩ : ∃ s, s = F[k] := ⟨_, rfl⟩
    rw [← hs] at hV2
    obtain ⟨af, cf, rfl, hrf⟩ := (unhide HW).sf.rdF
    obtain ⟨gf, rfl, s0⟩ := hrf k _ hFk
    rw [← hs] at s0
    have hgf : gf < w.heap.size := (unhide HW).sf.lt rfl
    have hc1 := (unhide HW).c.c1
    have hsz : s.size ≤ 2000000 := by rw [hs]; exact (unhide HW).okf _ (List.getElem_mem _)
    have hnf := (unhide HW).nf
    have hk0 : (0 : Int) ≤ (k : Int) := by omega
    have HV := hide hV2
    clear hV hV2 hrf hFk hs hneg
    have HB2 : Hid (∀ o1 o2, Below w.heap.size w ((w.alloc o1).alloc o2).drew.drew) := fun o1 o2 => (unhide HB o1 o2).drew
    go_wp2_with fail
    go_region_held3 (fun W => W.cell? ⟨rb, 1, none⟩ = some (.slice (some ⟨gf, 0, none⟩) F.length cf) ∧ W.cell? ⟨w.heap.size, 1, none⟩ = some (.int .i64 (k : Int)) ∧ W.cell? ⟨gf, k, none⟩ = some (.string s)) (go_keep)
      (first | (go_at_call 73; refine (unhide HLI _ (unhide HB2 _ _)).mono ?_; rintro e w' ⟨rfl, hw⟩; rw [hw]; clear hw))
    all_goals
      go_wp2
      exact bodyPost_ret (v := .agg #[.string (p.extract q p.size), .bool false, .int .i64 (s.size : Nat), .int .i64 (L.countP (qFile k) : Nat)]) (by simp [results, Tryz.results110, go_sem]) rfl ⟨by rw [unhide HV], unhide HB2 _ _⟩
def noEntry : Value := .agg #[.string ⟨#[]⟩, .bool false, .int .i64 0, .int .i64 0]
def statR (L : List (ByteArray × Int)) (F : List ByteArray) (p : ByteArray) : Value × Int :=
  if askR L p ≠ 0 then (noEntry, askR L p) else
  if (p.toList == [47]) = true then (.agg #[.string ⟨#[]⟩, .bool true, .int .i64 (L.countP (qDir ⟨#[]⟩) : Nat), .int .i64 1], 0) else
  match look L p with
  | none => (noEntry, 3)
  | some f => (toldV L F (p, f), 0)
theorem toldV_shape (L : List (ByteArray × Int)) (F : List ByteArray) (x : ByteArray × Int) : ∃ a b c d, toldV L F x = .agg #[.string a, .bool b, .int .i64 c, .int .i64 d] := by
  unfold toldV
  split
  · exact ⟨_, _, _, _, rfl⟩
  · exact ⟨_, _, _, _, rfl⟩
theorem set4 {w : World} {b : Nat} {a0 a1 a2 a3 : Value} (h : RowIs w b 51 [a0, a1, a2, a3]) (u0 u1 u2 u3 : Value) :
    ((((w.setCell ⟨b, 0, none⟩ u0).setCell ⟨b, 1, none⟩ u1).setCell ⟨b, 2, none⟩ u2).setCell ⟨b, 3, none⟩ u3).cell? ⟨b, 0, none⟩ = some u0 ∧
    ((((w.setCell ⟨b, 0, none⟩ u0).setCell ⟨b, 1, none⟩ u1).setCell ⟨b, 2, none⟩ u2).setCell ⟨b, 3, none⟩ u3).cell? ⟨b, 1, none⟩ = some u1 ∧
    ((((w.setCell ⟨b, 0, none⟩ u0).setCell ⟨b, 1, none⟩ u1).setCell ⟨b, 2, none⟩ u2).setCell ⟨b, 3, none⟩ u3).cell? ⟨b, 2, none⟩ = some u2 ∧
    ((((w.setCell ⟨b, 0, none⟩ u0).setCell ⟨b, 1, none⟩ u1).setCell ⟨b, 2, none⟩ u2).setCell ⟨b, 3, none⟩ u3).cell? ⟨b, 3, none⟩ = some u3 := by
  have h4 := (((h.set 0 u0).set 1 u1).set 2 u2).set 3 u3
  exact ⟨h4.cell 0, h4.cell 1, h4.cell 2, h4.cell 3⟩
theorem below_set4 {w w1 : World} (h : Below w.heap.size w w1) (u0 u1 u2 u3 : Value) : Below w.heap.size w ((((w1.setCell ⟨w.heap.size, 0, none⟩ u0).setCell ⟨w.heap.size, 1, none⟩ u1).setCell ⟨w.heap.size, 2, none⟩ u2).setCell ⟨w.heap.size, 3, none⟩ u3) :=
  (((h.setCell (p := ⟨w.heap.size, 0, none⟩) (Nat.le_refl _) _).setCell (p := ⟨w.heap.size, 1, none⟩) (Nat.le_refl _) _).setCell (p := ⟨w.heap.size, 2, none⟩) (Nat.le_refl _) _).setCell (p := ⟨w.heap.size, 3, none⟩) (Nat.le_refl _) _
theorem stat_ref (w : World) (rb : Nat) (vl vf : Value) (L : List (ByteArray × Int)) (F : List ByteArray) (h : RefW w rb vl vf L F) (hfv : ∀ x ∈ L, x.2 < F.length) (p : ByteArray) (hp : p.size ≤ 2000000) :
    Calls Tryz.prog 72 #[.pointer (some ⟨rb, 0, none⟩), .string p] w fun e w' => e = .returned (.tuple #[(statR L F p).1, .int .i64 (statR L F p).2]) ∧ Below w.heap.size w w' := by
  obtain ⟨R, hR⟩ : ∃ R, R = statR L F p := ⟨_, rfl⟩
  rw [← hR]
  unfold statR at hR
  have HW := hide h
  have HFV := hide hfv
  obtain ⟨av, cv, rfl, hrd⟩ := h.sl.rdL
  have HRD := hide hrd
  have hrb := h.hd.lt
  obtain ⟨W0, hW0⟩ : ∃ W0, W0 = w.alloc (.cells #[.string ⟨#[]⟩, .bool false, .int .i64 0, .int .i64 0] 51) := ⟨_, rfl⟩
  have hb0 : Below w.heap.size w W0 := by rw [hW0]; exact (Below.refl _ _).alloc (Nat.le_refl _) _
  have hk := ask_ref W0 rb _ vf L F (h.at hb0) p hp
  have hr0 : RowIs W0 w.heap.size 51 [.string ⟨#[]⟩, .bool false, .int .i64 0, .int .i64 0] := by rw [hW0]; exact heap_alloc_new w _
  have HZ : Hid (∀ w1, Below W0.heap.size W0 w1 → RowIs w1 w.heap.size 51 [.string ⟨#[]⟩, .bool false, .int .i64 0, .int .i64 0] ∧ Below w.heap.size w w1) := fun w1 hb => ⟨hr0.fr (X := fun _ => False) (Fr.of_below hb) id, hb0.trans (hb.mono hb0.size)⟩
  obtain ⟨e0, he0⟩ : ∃ e0, e0 = askR L p := ⟨_, rfl⟩
  rw [← he0] at hk hR
  subst hW0
  clear h hrd hfv hr0 he0
  go_enter Tryz.func72, Tryz.ntmps72
  go_wp2_with fail
  refine hk.mono ?_
  rintro e w1 ⟨rfl, hb⟩
  obtain ⟨z, hb1⟩ := unhide HZ w1 hb
  have HZ1 := hide z
  have z0 := (z.cell 0).trans rfl
  have z1 := (z.cell 1).trans rfl
  have z2 := (z.cell 2).trans rfl
  have z3 := (z.cell 3).trans rfl
  have zf0 := z.frozen 0
  have zf1 := z.frozen 1
  have zf2 := z.frozen 2
  have zf3 := z.frozen 3
  clear z hk HZ
  by_cases h0 : e0 ≠ 0
  · rw [if_pos h0] at hR
    have hbb : (e0 != 0) = true := by rw [bne_iff_ne]; exact h0
    have HR := hide hR
    clear hR h0
    obtain ⟨s0, s1, s2, s3⟩ := set4 (unhide HZ1) (.string ⟨#[]⟩) (.bool false) (.int .i64 0) (.int .i64 0)
    go_wp2
    exact bodyPost_ret (v := .tuple #[noEntry, .int .i64 e0]) (by simp [results, Tryz.results72, go_sem, s0, s1, s2, s3, noEntry]) rfl ⟨by rw [unhide HR], below_set4 hb1 _ _ _ _⟩
  rw [if_neg h0] at hR
  obtain rfl : e0 = 0 := by omega
  cases h1 : (p.toList == [47]) with
  | true =>
    rw [if_pos h1] at hR
    have HR := hide hR
    have hwi := ((unhide HW).at hb1).within ⟨#[]⟩
    clear hR h0
    obtain ⟨s0, s1, s2, s3⟩ := set4 (unhide HZ1) (.string ⟨#[]⟩) (.bool true) (.int .i64 (L.countP (qDir ⟨#[]⟩) : Nat)) (.int .i64 1)
    go_wp2_with (go_at_call 68; refine hwi.mono ?_; rintro e w' ⟨rfl, hw⟩; rw [hw]; clear hw)
    exact bodyPost_ret (v := .tuple #[.agg #[.string ⟨#[]⟩, .bool true, .int .i64 (L.countP (qDir ⟨#[]⟩) : Nat), .int .i64 1], .int .i64 0]) (by simp [results, Tryz.results72, go_sem, s0, s1, s2, s3]) rfl ⟨by rw [unhide HR], below_set4 hb1 _ _ _ _⟩
  | false =>
  rw [if_neg (by rw [h1]; simp)] at hR
  have hfd := ((unhide HW).at hb1).find p
  clear h0
  go_wp2_with fail
  refine hfd.mono ?_
  rintro e w' ⟨r, ⟨rfl, hfi⟩, hw⟩
  rw [hw]; clear hw hfd
  rcases hfi with ⟨rfl, hno⟩ | ⟨k, x, rfl, hk', hx, hfst⟩
  · have hl : look L p = none := (look_of_find (.inl ⟨rfl, hno⟩)).elim (fun h => h.2) (fun ⟨_, _, h, _⟩ => by omega)
    rw [hl] at hR
    have HR := hide hR
    clear hR hl hno
    obtain ⟨s0, s1, s2, s3⟩ := set4 (unhide HZ1) (.string ⟨#[]⟩) (.bool false) (.int .i64 0) (.int .i64 0)
    go_wp2
    exact bodyPost_ret (v := .tuple #[noEntry, .int .i64 3]) (by simp [results, Tryz.results72, go_sem, s0, s1, s2, s3, noEntry]) rfl ⟨by rw [unhide HR], below_set4 hb1 _ _ _ _⟩
  · rw [FindIs.look hk' hx hfst] at hR
    have hkl := (List.getElem?_eq_some_iff.1 hk').1
    have hfl := unhide HFV x (List.mem_of_getElem? hk')
    obtain ⟨hxs, hxsl⟩ := (unhide HW).ok x (List.mem_of_getElem? hk')
    obtain ⟨g, rfl, q0, q1⟩ := (unhide HRD) k x hk'
    have hg : g < w.heap.size := (unhide HW).sl.lt rfl
    have q0' := (hb1.cell (p := ⟨g, k * 2, none⟩) hg).trans q0
    have q1' := (hb1.cell (p := ⟨g, k * 2 + 1, none⟩) hg).trans q1
    have hnl := (unhide HW).nl
    have hcw := ((unhide HW).at hb1).c.c0
    obtain ⟨y, f⟩ := x
    simp only at hx hfl hxs hxsl q0' q1' hR
    subst hx
    obtain ⟨ta, tb, tc, td, htv⟩ := toldV_shape L F (y, f)
    have htd := told_ref w1 rb _ vf L F ((unhide HW).at hb1) y f hxs hxsl hfl
    rw [htv] at htd hR
    have HR := hide hR
    have HT := hide htd
    clear hR hfst hk' q0 q1 htv htd
    go_wp2_with fail
    refine (unhide HT).mono ?_
    rintro e w5 ⟨rfl, hb5⟩
    have z5 : RowIs w5 w.heap.size 51 [.string ⟨#[]⟩, .bool false, .int .i64 0, .int .i64 0] := (unhide HZ1).fr (X := fun _ => False) (Fr.of_below hb5) id
    have hbw5 := hb1.trans (hb5.mono hb1.size)
    clear z0 z1 z2 z3 zf0 zf1 zf2 zf3 q0' q1' hcw
    have z0 := (z5.cell 0).trans rfl
    have z1 := (z5.cell 1).trans rfl
    have z2 := (z5.cell 2).trans rfl
    have z3 := (z5.cell 3).trans rfl
    have zf0 := z5.frozen 0
    have zf1 := z5.frozen 1
    have zf2 := z5.frozen 2
    have zf3 := z5.frozen 3
    obtain ⟨s0, s1, s2, s3⟩ := set4 z5 (.string ta) (.bool tb) (.int .i64 tc) (.int .i64 td)
    clear z5
    go_wp2
    exact bodyPost_ret (v := .tuple #[.agg #[.string ta, .bool tb, .int .i64 tc, .int .i64 td], .int .i64 0]) (by simp [results, Tryz.results72, go_sem, s0, s1, s2, s3]) rfl ⟨by rw [unhide HR], below_set4 hbw5 _ _ _ _⟩
end Go.Proofs.YtfabjhgkigagpaaGreatDoor
namespace Go.Proofs.YtfabjhgkigagpaaGreatDoor
open Go.RowKit

set_option maxHeartbeats 1000000
set_option maxRecDepth 100000
theorem below_of_append {w w' : World} {v : Value} (h : w.grownBy w' v.ownBlock) {n : Nat} (hn : ∀ g, v.ownBlock = some g → n ≤ g) (hle : n ≤ w.heap.size) : Below n w w' :=
  ⟨h.os, h.tape, h.output, h.size, fun k hk => h.block k (Nat.lt_of_lt_of_le hk hle) (fun e => by have := hn k e.symm; omega)⟩
/-- A list's cells, from a place on. -/
theorem Sl.cellAt {w : World} {g n cap : Nat} {l : List (ByteArray × Int)} (h : Sl w 81 2 (.slice (some ⟨g, 0, none⟩) n cap) l.length (cellsL l)) {w' : World} (hk : w'.heap[g]? = w.heap[g]?) {j : Nat} {u : Value} (hu : (cellsL l)[j]? = some u) : w'.cell? ⟨g, j, none⟩ = some u := by
  rcases h.2 with ⟨e, _⟩ | ⟨g', cap', R, e, hR, _, _, _, hT⟩
  · cases e
  · cases e
    have hR' : RowIs w' g 81 R := by unfold RowIs; rw [hk]; exact hR
    rw [hR'.cell]
    rw [← hT, List.getElem?_take] at hu
    split at hu
    · exact hu
    · cases hu
/-- The three appends: more := l[:k]; more, x; more, l[k:]. -/
theorem insW (w : World) (g cap : Nat) (l : List (ByteArray × Int)) (hS : Sl w 81 2 (.slice (some ⟨g, 0, none⟩) l.length cap) l.length (cellsL l)) (hl : l.length + 1 ≤ 2000000) (k : Nat) (hk : k ≤ l.length) (x : ByteArray × Int) :
    ∃ a1 n1 c1 w1, (Builtin.append_ #[66, 66] 66 #[.slice none 0 0, .slice (some ⟨g, 0, none⟩) k cap]).run Tryz.prog w = .ok (.slice a1 n1 c1) w1 ∧ Below w.heap.size w w1 ∧
      ∃ a2 n2 c2 w2, (Builtin.append_ #[66, 66] 66 #[.slice a1 n1 c1, .slice (some ⟨w1.heap.size, 0, none⟩) 1 1]).run Tryz.prog (w1.alloc (.cells #[.string x.1, .int .i64 x.2] 81)) = .ok (.slice a2 n2 c2) w2 ∧ Below w.heap.size w w2 ∧
        ∀ a c, (l.length - k ≠ 0 → a = ⟨g, k * 2, none⟩) → ∃ a3 n3 c3 w3, (Builtin.append_ #[66, 66] 66 #[.slice a2 n2 c2, .slice (some a) (l.length - k) c]).run Tryz.prog w2 = .ok (.slice a3 n3 c3) w3 ∧
          Hid (Sl w3 81 2 (.slice a3 n3 c3) (l.length + 1) (cellsL (l.take k ++ x :: l.drop k)) ∧ Below w.heap.size w w3 ∧ ∀ j, (Value.slice a3 n3 c3).ownBlock = some j → w.heap.size ≤ j) := by
  obtain ⟨i0, hi0, hz0, hz1, hz2⟩ := info_parts info81
  have hgl : g < w.heap.size := hS.lt rfl
  have hlk : (cellsL (l.take k)).length = k * 2 := by rw [cellsL_length, List.length_take]; omega
  obtain ⟨v1, w1, r1, r2, r3, r4⟩ := append_new (P := Tryz.prog) w 66 66 81 i0 _ 2 24 Tryz.underlying66 hi0 hz0 hz1 hz2 rfl (by decide) (.slice none 0 0) 0 [] ⟨rfl, .inl ⟨rfl, rfl⟩⟩ ⟨g, 0, none⟩ k cap (cellsL (l.take k)) hlk
    (fun j u hu => by
      rw [Addr.add_lit, Nat.zero_add]
      refine hS.cellAt rfl ?_
      rw [← cellsL_take, List.getElem?_take] at hu
      split at hu
      · exact hu
      · cases hu) (cellsL_one _) (by unfold maxLen; omega) (by omega)
  obtain ⟨a1, n1, c1, rfl⟩ := r2.shape
  have hnew1 : ∀ y, (Value.slice a1 n1 c1).ownBlock = some y → w.heap.size ≤ y := fun y hy => (r4 y hy).resolve_left (by simp [Value.ownBlock])
  have b1 : Below w.heap.size w w1 := below_of_append r3 (fun y hy => by simp [Value.ownBlock] at hy) (Nat.le_refl _)
  refine ⟨a1, n1, c1, w1, r1, b1, ?_⟩
  obtain ⟨W1, hW1⟩ : ∃ W1, W1 = w1.alloc (.cells #[.string x.1, .int .i64 x.2] 81) := ⟨_, rfl⟩
  have ba : Below w1.heap.size w1 W1 := by rw [hW1]; exact (Below.refl _ _).alloc (Nat.le_refl _) _
  have hx1 : RowIs W1 w1.heap.size 81 (clL x) := by rw [hW1]; exact heap_alloc_new w1 _
  rw [← hW1]
  have r2' : Sl W1 81 2 (.slice a1 n1 c1) (0 + k) ([] ++ cellsL (l.take k)) := r2.fr (X := fun _ => False) (Fr.of_below ba) (fun _ _ => id)
  obtain ⟨v2, w2, s1, s2, s3, s4⟩ := append_new (P := Tryz.prog) W1 66 66 81 i0 _ 2 24 Tryz.underlying66 hi0 hz0 hz1 hz2 rfl (by decide) (.slice a1 n1 c1) (0 + k) ([] ++ cellsL (l.take k)) r2' ⟨w1.heap.size, 0, none⟩ 1 1 (clL x) rfl
    (fun j u hu => by rw [Addr.add_lit, Nat.zero_add, hx1.cell]; exact hu) (cellsL_one [x]) (by unfold maxLen; omega) (by omega)
  obtain ⟨a2, n2, c2, rfl⟩ := s2.shape
  have bW : Below w.heap.size w W1 := b1.trans (ba.mono b1.size)
  have hnew2 : ∀ y, (Value.slice a2 n2 c2).ownBlock = some y → w.heap.size ≤ y := fun y hy => (s4 y hy).elim (hnew1 y) (fun h => Nat.le_trans bW.size h)
  have b2 : Below w.heap.size w w2 := bW.trans (below_of_append s3 hnew1 bW.size)
  refine ⟨a2, n2, c2, w2, s1, b2, fun a c ha => ?_⟩
  have hld : (cellsL (l.drop k)).length = (l.length - k) * 2 := by rw [cellsL_length, List.length_drop]
  obtain ⟨v3, w3, t1, t2, t3, t4⟩ := append_new (P := Tryz.prog) w2 66 66 81 i0 _ 2 24 Tryz.underlying66 hi0 hz0 hz1 hz2 rfl (by decide) (.slice a2 n2 c2) (0 + k + 1) ([] ++ cellsL (l.take k) ++ clL x) s2 a (l.length - k) c (cellsL (l.drop k)) hld
    (fun j u hu => by
      by_cases h0 : l.length - k = 0
      · have : cellsL (l.drop k) = [] := List.eq_nil_of_length_eq_zero (by rw [hld, h0])
        rw [this] at hu; cases hu
      · rw [ha h0, Addr.add_lit]
        refine hS.cellAt (b2.block g hgl) ?_
        rw [← cellsL_drop, List.getElem?_drop] at hu
        exact hu) (cellsL_one _) (by unfold maxLen; omega) (by omega)
  obtain ⟨a3, n3, c3, rfl⟩ := t2.shape
  refine ⟨a3, n3, c3, w3, t1, ?_, b2.trans (below_of_append t3 hnew2 b2.size), fun j hj => (t4 j hj).elim (hnew2 j) (fun h => Nat.le_trans b2.size h)⟩
  have e1 : 0 + k + 1 + (l.length - k) = l.length + 1 := by omega
  have e2 : [] ++ cellsL (l.take k) ++ clL x ++ cellsL (l.drop k) = cellsL (l.take k ++ x :: l.drop k) := by
    rw [cellsL_append]; simp [cellsL]
  rw [e1, e2] at t2
  exact t2
end Go.Proofs.YtfabjhgkigagpaaGreatDoor
namespace Go.Proofs.YtfabjhgkigagpaaGreatDoor
open Go.RowKit

set_option maxHeartbeats 1000000
set_option maxRecDepth 100000
/-- The place of an entry in a list that is in order. -/
def placeOf (x : ByteArray × Int) : List (ByteArray × Int) → Nat
  | [] => 0
  | y :: l => if ltS y.1 x.1 = true then placeOf x l + 1 else 0
def insO (l : List (ByteArray × Int)) (x : ByteArray × Int) : List (ByteArray × Int) := l.take (placeOf x l) ++ x :: l.drop (placeOf x l)
def insideT (L : List (ByteArray × Int)) (d : ByteArray) : Nat → List (ByteArray × Int)
  | 0 => []
  | k + 1 => match L[k]? with
    | some x => if qDir d x = true then insO (insideT L d k) x else insideT L d k
    | none => insideT L d k
theorem insO_length (l : List (ByteArray × Int)) (x : ByteArray × Int) : (insO l x).length = l.length + 1 := by
  unfold insO
  simp
  omega
theorem insideT_le (L : List (ByteArray × Int)) (d : ByteArray) : ∀ k, (insideT L d k).length ≤ k
  | 0 => Nat.le_refl _
  | k + 1 => by
    have := insideT_le L d k
    unfold insideT
    split
    · split
      · rw [insO_length]; omega
      · omega
    · omega
theorem placeOf_le (x : ByteArray × Int) : ∀ l, placeOf x l ≤ l.length
  | [] => Nat.le_refl _
  | y :: l => by
    have := placeOf_le x l
    unfold placeOf
    split
    · simp; omega
    · omega
theorem placeOf_lt (x : ByteArray × Int) : ∀ (l : List (ByteArray × Int)) (j : Nat) (y : ByteArray × Int), j < placeOf x l → l[j]? = some y → ltS y.1 x.1 = true
  | [], _, _, h, _ => by simp [placeOf] at h
  | z :: l, j, y, h, hy => by
    unfold placeOf at h
    split at h
    · rename_i hz
      cases j with
      | zero => simp at hy; subst hy; exact hz
      | succ j => exact placeOf_lt x l j y (by omega) (by simpa using hy)
    · omega
theorem placeOf_at (x : ByteArray × Int) : ∀ (l : List (ByteArray × Int)) (y : ByteArray × Int), l[placeOf x l]? = some y → ltS y.1 x.1 = false
  | [], _, h => by simp at h
  | z :: l, y, h => by
    unfold placeOf at h
    split at h
    · exact placeOf_at x l y (by simpa using h)
    · rename_i hz
      simp at h; subst h; simpa using hz
/-- The three appends where nothing is there yet. -/
theorem insW0 (w : World) (x : ByteArray × Int) :
    ∃ a2 n2 c2 w2, (Builtin.append_ #[66, 66] 66 #[.slice none 0 0, .slice (some ⟨w.heap.size, 0, none⟩) 1 1]).run Tryz.prog (w.alloc (.cells #[.string x.1, .int .i64 x.2] 81)) = .ok (.slice a2 n2 c2) w2 ∧
      (Builtin.append_ #[66, 66] 66 #[.slice a2 n2 c2, .slice none 0 0]).run Tryz.prog w2 = .ok (.slice a2 n2 c2) w2 ∧
      Hid (Sl w2 81 2 (.slice a2 n2 c2) 1 (cellsL [x]) ∧ Below w.heap.size w w2 ∧ ∀ j, (Value.slice a2 n2 c2).ownBlock = some j → w.heap.size ≤ j) := by
  obtain ⟨i0, hi0, hz0, hz1, hz2⟩ := info_parts info81
  obtain ⟨W1, hW1⟩ : ∃ W1, W1 = w.alloc (.cells #[.string x.1, .int .i64 x.2] 81) := ⟨_, rfl⟩
  have ba : Below w.heap.size w W1 := by rw [hW1]; exact (Below.refl _ _).alloc (Nat.le_refl _) _
  have hx1 : RowIs W1 w.heap.size 81 (clL x) := by rw [hW1]; exact heap_alloc_new w _
  rw [← hW1]
  obtain ⟨v2, w2, s1, s2, s3, s4⟩ := append_new (P := Tryz.prog) W1 66 66 81 i0 _ 2 24 Tryz.underlying66 hi0 hz0 hz1 hz2 rfl (by decide) (.slice none 0 0) 0 [] ⟨rfl, .inl ⟨rfl, rfl⟩⟩ ⟨w.heap.size, 0, none⟩ 1 1 (clL x) rfl
    (fun j u hu => by rw [Addr.add_lit, Nat.zero_add, hx1.cell]; exact hu) (cellsL_one [x]) (by unfold maxLen; omega) (by omega)
  obtain ⟨a2, n2, c2, rfl⟩ := s2.shape
  refine ⟨a2, n2, c2, w2, s1, ?_, by simpa [cellsL] using s2, ba.trans (below_of_append s3 (fun y hy => by simp [Value.ownBlock] at hy) ba.size), fun j hj => (s4 j hj).elim (fun h => by simp [Value.ownBlock] at h) (fun h => Nat.le_trans ba.size h)⟩
  rcases s2.2 with ⟨e, h0⟩ | ⟨g2, cap2, R2, e, _, hc2, _⟩
  · simp at h0
  · cases e
    have hc2' : 1 ≤ c2 := by simpa using hc2
    simp [Builtin.append_, run_underlying Tryz.underlying66, sizeOf, typeInfo, hi0, Builtin.lenOf, Builtin.firstCells, loadCells, hc2', storeCells]
/-- In the midst of inside: what has been found. -/
def InsMid (w wr : World) (L : List (ByteArray × Int)) (d : ByteArray) (l i : Value) : Prop :=
  ∃ k : Nat, k ≤ L.length ∧ i = .int .i64 k ∧ Sl wr 81 2 l (insideT L d k).length (cellsL (insideT L d k)) ∧ Below w.heap.size w wr ∧ ∀ j, l.ownBlock = some j → w.heap.size ≤ j
end Go.Proofs.YtfabjhgkigagpaaGreatDoor
namespace Go.Proofs.YtfabjhgkigagpaaGreatDoor
open Go.RowKit

set_option maxHeartbeats 2000000
set_option maxRecDepth 100000
theorem app_nil66 (w : World) : (Builtin.append_ #[66, 66] 66 #[.slice none 0 0, .slice none 0 0]).run Tryz.prog w = .ok (.slice none 0 0) w := by
  obtain ⟨i0, hi0, hz0, hz1, hz2⟩ := info_parts info81
  simp [Builtin.append_, run_underlying Tryz.underlying66, sizeOf, typeInfo, hi0, Builtin.lenOf, Builtin.firstCells]
theorem inside_ref (w : World) (rb : Nat) (vl vf : Value) (L : List (ByteArray × Int)) (F : List ByteArray) (h : RefW w rb vl vf L F) (hL : L.length + 1 ≤ 2000000) (d : ByteArray) :
    Calls Tryz.prog 109 #[.pointer (some ⟨rb, 0, none⟩), .string d] w fun e w' => ∃ v, e = .returned v ∧ Sl w' 81 2 v (insideT L d L.length).length (cellsL (insideT L d L.length)) ∧ Below w.heap.size w w' ∧ ∀ j, v.ownBlock = some j → w.heap.size ≤ j := by
  obtain ⟨av, cv, rfl, hrd⟩ := h.sl.rdL
  have HRD := hide hrd
  have HW := hide h
  have HO := hide h.ok
  clear h hrd
  go_enter Tryz.func109, Tryz.ntmps109
  go_wp2
  go_loopw [5, 6, 7, 8] (fun l i _ _ wr => InsMid w wr L d l i) (fun _ i _ _ _ => L.length - (intOf i).toNat)
  case atStart => exact ⟨0, Nat.zero_le _, rfl, ⟨rfl, .inl ⟨rfl, rfl⟩⟩, Below.refl _ _, fun j hj => by simp [Value.ownBlock] at hj⟩
  case round =>
    obtain ⟨k, hk, rfl, hS, hb, hn⟩ := hrel
    have hwr := (unhide HW).at hb
    have hc0 := hwr.c.c0
    have hnl := hwr.nl
    clear hwr
    by_cases hlt : k < L.length
    · obtain ⟨x, hx⟩ : ∃ x, L[k]? = some x := ⟨_, List.getElem?_eq_getElem hlt⟩
      obtain ⟨g, rfl, q0, q1⟩ := unhide HRD k _ hx
      have hgl : g < w.heap.size := (unhide HW).sl.lt rfl
      have q0' := (hb.cell (p := ⟨g, k * 2, none⟩) hgl).trans q0
      have q1' := (hb.cell (p := ⟨g, k * 2 + 1, none⟩) hgl).trans q1
      obtain ⟨hsz, hsl⟩ := unhide HO x (List.mem_of_getElem? hx)
      clear q0 q1
      have HST : Hid (insideT L d (k + 1) = if qDir d x = true then insO (insideT L d k) x else insideT L d k) := by unfold Hid; rw [insideT, hx]
      have HS := hide hS
      have HN := hide hn
      have hdr := fun W => dir_ref x.1 W hsz hsl
      have HDR := hide hdr
      clear hx hS hn hdr
      cases hq : ((dirOf x.1).toList == d.toList) with
      | false =>
        have HS2 : Hid (insideT L d (k + 1) = insideT L d k) := by show _ = _; rw [unhide HST, if_neg (show ¬ qDir d x = true by unfold qDir; rw [hq]; simp)]
        have hq' : ((dirOf x.1).toList != d.toList) = true := by simp only [bne, hq]; rfl
        go_wp2_with (go_at_call 67; refine (unhide HDR _).mono ?_; rintro e w' ⟨rfl, hw⟩; rw [hw]; clear hw)
        go_roundw
        case rel => exact ⟨k + 1, by omega, by go_num, by rw [unhide HS2]; exact unhide HS, hb, unhide HN⟩
        case measure => simp [intOf]; omega
      | true =>
        have hq' : ((dirOf x.1).toList != d.toList) = false := by simp only [bne, hq]; rfl
        have HS2 : Hid (insideT L d (k + 1) = insO (insideT L d k) x) := by show _ = _; rw [unhide HST, if_pos (show qDir d x = true from hq)]
        go_wp2_with (go_at_call 67; refine (unhide HDR _).mono ?_; rintro e w' ⟨rfl, hw⟩; rw [hw]; clear hw)
        obtain ⟨wo, hwo⟩ : ∃ wo, wo = wr := ⟨_, rfl⟩
        subst hwo
        obtain ⟨l, hl⟩ : ∃ l, l = insideT L d k := ⟨_, rfl⟩
        have hll : l.length ≤ k := by rw [hl]; exact insideT_le L d k
        rw [← hl] at HS HS2
        have hpl := placeOf_le x l
        clear hl HST
        rcases (unhide HS).2 with ⟨rfl, h0⟩ | ⟨g5, cap, R5, rfl, hR5, hcc, hcm, hL5, hT5⟩
        · have hln : l = [] := List.eq_nil_of_length_eq_zero (by omega)
          subst hln
          clear h0 hll hpl
          have HPJ : Hid (insO [] x = [x]) := rfl
          go_loopw [7] (fun at_ w6 => at_ = .int .i64 0 ∧ Below wo.heap.size wo w6) (fun _ _ => 0)
          case atStart => exact ⟨rfl, Below.refl _ _⟩
          case round =>
            obtain ⟨rfl, hb6⟩ := hrel
            have hrbw : rb < wo.heap.size := Nat.lt_of_lt_of_le (unhide HW).hd.lt hb.size
            have hglw : g < wo.heap.size := Nat.lt_of_lt_of_le hgl hb.size
            have x0 := (hb6.cell (p := ⟨rb, 0, none⟩) hrbw).trans hc0
            have x1 := (hb6.cell (p := ⟨g, k * 2, none⟩) hglw).trans q0'
            have x2 := (hb6.cell (p := ⟨g, k * 2 + 1, none⟩) hglw).trans q1'
            obtain ⟨a2, n2, c2, w2, s1, t1, t4⟩ := insW0 wr.drew x
            have r1 := app_nil66 wr.drew
            have HT4 := hide t4
            clear t4
            go_wp2_with fail
            go_region
            all_goals
              go_wp2_with (first | (at_builtin; refine Lib.wpList_append_run _ rfl _ _ 66 66 rfl _ _ rfl rfl _ _ r1 ?_; clear r1) | (at_builtin; refine Lib.wpList_append_run _ rfl _ _ 66 66 rfl _ _ rfl rfl _ _ s1 ?_; clear s1) | (at_builtin; refine Lib.wpList_append_run _ rfl _ _ 66 66 rfl _ _ rfl rfl _ _ t1 ?_; clear t1))
              go_roundw
              case rel =>
                obtain ⟨k1, k2, k3⟩ := unhide (unhide HT4)
                refine ⟨k + 1, by omega, by go_num, ?_, hb.trans ((hb6.drew.trans (k2.mono hb6.size)).mono hb.size), fun i hi => ?_⟩
                · rw [unhide HS2, unhide HPJ]; exact k1
                · have := k3 i hi; have := hb.size; have := hb6.drew.size; omega
              case measure => simp [intOf]; omega
        · clear hR5 hL5 hT5
          have hg5 : g5 < wo.heap.size := (unhide HS).lt rfl
          have hrbw : rb < wo.heap.size := Nat.lt_of_lt_of_le (unhide HW).hd.lt hb.size
          have hglw : g < wo.heap.size := Nat.lt_of_lt_of_le hgl hb.size
          go_loopw [7] (fun at_ w6 => ∃ j : Nat, at_ = .int .i64 j ∧ j ≤ placeOf x l ∧ Below wo.heap.size wo w6) (fun at_ _ => l.length - (intOf at_).toNat)
          case atStart => exact ⟨0, rfl, Nat.zero_le _, Below.refl _ _⟩
          case round =>
            obtain ⟨j, rfl, hj, hb6⟩ := hrel
            have x0 := (hb6.cell (p := ⟨rb, 0, none⟩) hrbw).trans hc0
            have x1 := (hb6.cell (p := ⟨g, k * 2, none⟩) hglw).trans q0'
            by_cases hjl : j < l.length
            · have hyl : l[j]? = some l[j] := List.getElem?_eq_getElem hjl
              obtain ⟨y, hy⟩ : ∃ y, y = l[j] := ⟨_, rfl⟩
              rw [← hy] at hyl
              have y0 := (unhide HS).cellAt (hb6.block g5 hg5) (cellsL_at l j y hyl).1
              by_cases hjp : j < placeOf x l
              · have hlty : Op.bytesLess y.1.toList x.1.toList = true := placeOf_lt x l j y hjp hyl
                clear hyl hy
                go_wp2_with fail
                go_region
                all_goals
                  go_wp2
                  go_roundw
                  case rel => exact ⟨j + 1, by go_num, by omega, hb6.drew⟩
                  case measure => simp [intOf]; omega
              · have hpj : placeOf x l = j := by omega
                have hlty : Op.bytesLess y.1.toList x.1.toList = false := placeOf_at x l y (by rw [hpj]; exact hyl)
                have HPJ := hide hpj
                clear hyl hy hpj hjp hj hpl
                have x2 := (hb6.cell (p := ⟨g, k * 2 + 1, none⟩) hglw).trans q1'
                have hS6 : Sl wr.drew 81 2 (.slice (some ⟨g5, 0, none⟩) l.length cap) l.length (cellsL l) := (unhide HS).fr (X := fun _ => False) (Fr.of_below hb6.drew) (fun _ _ => id)
                obtain ⟨a1, n1, c1, w1, r1, b1, a2, n2, c2, w2, s1, b2, tt⟩ := insW wr.drew g5 cap l hS6 (by omega) j (by omega) x
                have u0 := (b1.cell (p := ⟨rb, 0, none⟩) (Nat.lt_of_lt_of_le hrbw hb6.size)).trans x0
                have u1 := (b1.cell (p := ⟨g, k * 2, none⟩) (Nat.lt_of_lt_of_le hglw hb6.size)).trans x1
                have u2 := (b1.cell (p := ⟨g, k * 2 + 1, none⟩) (Nat.lt_of_lt_of_le hglw hb6.size)).trans x2
                have HT := hide tt
                clear tt hS6 b1 b2
                go_wp2_with fail
                go_region
                all_goals
                  obtain ⟨a3, n3, c3, w3, t1, t4⟩ := unhide HT ⟨g5, j * 2, none⟩ (cap - j) (fun _ => rfl)
                  have HT4 := hide t4
                  clear t4 HT
                  go_wp2_with (first | (at_builtin; refine Lib.wpList_append_run _ rfl _ _ 66 66 rfl _ _ rfl rfl _ _ r1 ?_; clear r1) | (at_builtin; refine Lib.wpList_append_run _ rfl _ _ 66 66 rfl _ _ rfl rfl _ _ s1 ?_; clear s1) | (at_builtin; refine Lib.wpList_append_run _ rfl _ _ 66 66 rfl _ _ rfl rfl _ _ t1 ?_; clear t1))
                  go_roundw
                  case rel =>
                    obtain ⟨k1, k2, k3⟩ := unhide (unhide HT4)
                    refine ⟨k + 1, by omega, by go_num, ?_, hb.trans ((hb6.drew.trans (k2.mono hb6.size)).mono hb.size), fun i hi => ?_⟩
                    · rw [unhide HS2, insO_length]; unfold insO; rw [unhide HPJ]; exact k1
                    · have := k3 i hi; have := hb.size; have := hb6.drew.size; omega
                  case measure => simp [intOf]; omega
            · obtain rfl : j = l.length := by omega
              have hpj : placeOf x l = l.length := by omega
              have HPJ := hide hpj
              clear hpj hj hpl hjl
              have x2 := (hb6.cell (p := ⟨g, k * 2 + 1, none⟩) hglw).trans q1'
              have hS6 : Sl wr.drew 81 2 (.slice (some ⟨g5, 0, none⟩) l.length cap) l.length (cellsL l) := (unhide HS).fr (X := fun _ => False) (Fr.of_below hb6.drew) (fun _ _ => id)
              obtain ⟨a1, n1, c1, w1, r1, b1, a2, n2, c2, w2, s1, b2, tt⟩ := insW wr.drew g5 cap l hS6 (by omega) l.length (Nat.le_refl _) x
              have u0 := (b1.cell (p := ⟨rb, 0, none⟩) (Nat.lt_of_lt_of_le hrbw hb6.size)).trans x0
              have u1 := (b1.cell (p := ⟨g, k * 2, none⟩) (Nat.lt_of_lt_of_le hglw hb6.size)).trans x1
              have u2 := (b1.cell (p := ⟨g, k * 2 + 1, none⟩) (Nat.lt_of_lt_of_le hglw hb6.size)).trans x2
              have HT := hide tt
              have HB := hide hb
              have HB6 := hide hb6
              have HKL := hide hlt
              have hlt' : (k : Int) < L.length := by omega
              have hcc' : (l.length : Int) ≤ cap := by omega
              clear tt hS6 b1 b2 hb hb6 hlt hll hk hgl hrbw hglw hg5
              by_cases hcv : cap = l.length
              · subst hcv
                obtain ⟨a3, n3, c3, w3, t1, t4⟩ := unhide HT ⟨g5, 0, none⟩ 0 (fun h => absurd (Nat.sub_self _) h)
                rw [Nat.sub_self] at t1
                have HT4 := hide t4
                clear t4 HT hcc' hcc hcm
                go_wp2_with fail
                go_region
                all_goals
                  go_wp2_with (first | (at_builtin; refine Lib.wpList_append_run _ rfl _ _ 66 66 rfl _ _ rfl rfl _ _ r1 ?_; clear r1) | (at_builtin; refine Lib.wpList_append_run _ rfl _ _ 66 66 rfl _ _ rfl rfl _ _ s1 ?_; clear s1) | (at_builtin; refine Lib.wpList_append_run _ rfl _ _ 66 66 rfl _ _ rfl rfl _ _ t1 ?_; clear t1))
                  go_roundw
                  case rel =>
                    obtain ⟨k1, k2, k3⟩ := unhide (unhide HT4)
                    refine ⟨k + 1, by have := unhide HKL; omega, by go_num, ?_, (unhide HB).trans (((unhide HB6).drew.trans (k2.mono (unhide HB6).size)).mono (unhide HB).size), fun i hi => ?_⟩
                    · rw [unhide HS2, insO_length]; unfold insO; rw [unhide HPJ]; exact k1
                    · have := k3 i hi; have := (unhide HB).size; have := (unhide HB6).drew.size; omega
                  case measure => simp [intOf]; have := unhide HKL; omega
              · have hcv' : ¬ (cap : Int) = l.length := by omega
                obtain ⟨a3, n3, c3, w3, t1, t4⟩ := unhide HT ⟨g5, l.length * 2, none⟩ (cap - l.length) (fun _ => rfl)
                rw [Nat.sub_self] at t1
                have HT4 := hide t4
                clear t4 HT hcc hcm
                go_wp2_with fail
                go_region
                all_goals
                  go_wp2_with (first | (at_builtin; refine Lib.wpList_append_run _ rfl _ _ 66 66 rfl _ _ rfl rfl _ _ r1 ?_; clear r1) | (at_builtin; refine Lib.wpList_append_run _ rfl _ _ 66 66 rfl _ _ rfl rfl _ _ s1 ?_; clear s1) | (at_builtin; refine Lib.wpList_append_run _ rfl _ _ 66 66 rfl _ _ rfl rfl _ _ t1 ?_; clear t1))
                  go_roundw
                  case rel =>
                    obtain ⟨k1, k2, k3⟩ := unhide (unhide HT4)
                    refine ⟨k + 1, by have := unhide HKL; omega, by go_num, ?_, (unhide HB).trans (((unhide HB6).drew.trans (k2.mono (unhide HB6).size)).mono (unhide HB).size), fun i hi => ?_⟩
                    · rw [unhide HS2, insO_length]; unfold insO; rw [unhide HPJ]; exact k1
                    · have := k3 i hi; have := (unhide HB).size; have := (unhide HB6).drew.size; omega
                  case measure => simp [intOf]; have := unhide HKL; omega
    · obtain rfl : k = L.length := by omega
      have HS := hide hS
      have HN := hide hn
      clear hS hn
      go_wp2
      go_ret
      exact ⟨_, rfl, unhide HS, hb, unhide HN⟩
end Go.Proofs.YtfabjhgkigagpaaGreatDoor
