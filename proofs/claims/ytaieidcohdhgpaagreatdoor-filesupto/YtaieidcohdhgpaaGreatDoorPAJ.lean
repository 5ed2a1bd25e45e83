/- Files. -/
import Derived.Test.YtaieidcohdhgpaaGreatDoorPAI
import Derived.Test.YtaieidcohdhgpaaGreatDoorPAE
import Derived.Test.YtaieidcohdhgpaaGreatDoorPAG
import Derived.Test.YtaieidcohdhgpaaGreatDoorPAF
namespace Go.Proofs.YtaieidcohdhgpaaGreatDoor
open Go.RowKit
set_option maxHeartbeats 1000000
set_option maxRecDepth 100000
def nameOf (p : ByteArray) : ByteArray := p.extract ((dirOf p).size + 1) p.size
def toldV (L : List (ByteArray × Int)) (F : List ByteArray) (x : ByteArray × Int) : Value :=
 if x.2 < 0 then .agg #[.string (nameOf x.1), .bool true, .int .i64 (L.countP (qDir x.1) : Nat), .int .i64 1]
 else .agg #[.string (nameOf x.1), .bool false, .int .i64 ((F[x.2.toNat]?.getD ⟨#[]⟩).size : Nat), .int .i64 (L.countP (qFile x.2) : Nat)]
theorem dirOf_lt {p : ByteArray} (h : HasSl p) : (dirOf p).size + 1 ≤ p.size := by
 obtain ⟨k, hk⟩ := h
 have hkl := (lastSl_some hk).1
 have hlt : k < p.data.toList.length := (List.getElem?_eq_some_iff.1 hkl).1
 have hs : p.data.toList.length = p.size := Array.length_toList
 unfold dirOf
 rw [hk, ByteArray.size_extract]
 simp only [Option.getD_some]
 omega
theorem told_ref (w : World) (rb : Nat) (vl vf : Value) (L : List (ByteArray × Int)) (F : List ByteArray) (h : RefW w rb vl vf L F) (p : ByteArray) (f : Int) (hp : p.size ≤ 2000000) (hsl : HasSl p) (hf : f < F.length) :
  Calls Tryz.prog 166 #[.pointer (some ⟨rb, 0, none⟩), .agg #[.string p, .int .i64 f]] w fun e w' => e = .returned (toldV L F (p, f)) ∧ Below w.heap.size w w' := by
 obtain ⟨V, hV⟩ : ∃ V, V = toldV L F (p, f) := ⟨_, rfl⟩
 rw [← hV]
 have hdl := dirOf_lt hsl
 have hrb := h.hd.lt
 have HW := hide h
 have HDR : Hid (∀ W, Calls Tryz.prog 148 #[.string p] W fun e w' => e = .returned (.string (dirOf p)) ∧ w' = W) := fun W => dir_ref p W hp hsl
 have HWI : Hid (∀ W, Below w.heap.size w W → Calls Tryz.prog 149 #[.pointer (some ⟨rb, 0, none⟩), .string p] W fun e w' => e = .returned (.int .i64 (L.countP (qDir p) : Nat)) ∧ w' = W) := fun W hb => (h.at hb).within p
 have HLI : Hid (∀ W, Below w.heap.size w W → Calls Tryz.prog 113 #[.pointer (some ⟨rb, 0, none⟩), .int .i64 f] W fun e w' => e = .returned (.int .i64 (L.countP (qFile f) : Nat)) ∧ w' = W) := fun W hb => links_ref W rb vl L f (h.at hb).c.c0 (h.at hb).sl h.nl
 obtain ⟨q, hq⟩ : ∃ q, q = (dirOf p).size + 1 := ⟨_, rfl⟩
 have hi2 : (q : Int) ≤ (p.size : Int) := by omega
 have hql : q ≤ p.size := by omega
 have HWQ : Hid (IntKind.i64.wrap (((dirOf p).size : Int) + 1) = (q : Int)) := by unfold Hid; rw [hq]; exact (IntWalk.i64_in _ ⟨by omega, by omega⟩).trans (by omega)
 have hnm : nameOf p = p.extract q p.size := by rw [hq]; rfl
 have HNM := hide hnm
 clear h hnm hq hdl
 go_enter Tryz.func166, Tryz.ntmps166
 go_wp2_with fail
 refine wp_region_held_drew (S := fun W => W.cell? ⟨w.heap.size, 0, none⟩ = some (.string p)) (by kernel_rfl) (by go_keep) (fun hHeld => ?_)
 refine wpAnyH_take (i := 0) (v := ?_) rfl (by kernel_rfl) (by kernel_rfl) (by kernel_rfl) (fun _ _ _ h => h) (Or.inl ⟨by rfl, ?_⟩) (by assumption) ?_
 rotate_left
 ·intro w hSw; (try dsimp only at hSw); go_simp <;> with_reducible rfl
 (try simp only [pE])
 refine wpAnyH_take (i := 1) (v := ?_) rfl (by kernel_rfl) (by kernel_rfl) (by kernel_rfl) (fun _ _ _ h => h) (Or.inl ⟨by rfl, ?_⟩) (by assumption) ?_
 rotate_left
 ·intro w hSw; (try dsimp only at hSw); go_simp <;> with_reducible rfl
 (try simp only [Act.put])
 refine wpAnyH_take (i := 2) (v := ?_) rfl (by kernel_rfl) (by kernel_rfl) (by kernel_rfl) (fun _ _ _ h => h) (Or.inl ⟨by rfl, ?_⟩) (by assumption) ?_
 rotate_left
 ·intro w hSw; (try dsimp only at hSw); go_simp <;> with_reducible rfl
 (try simp only [Act.put])
 refine wpAnyH_take (i := 3) (v := ?_) rfl (by kernel_rfl) (by kernel_rfl) (by kernel_rfl) (fun _ _ _ h => h) (Or.inl ⟨by rfl, ?_⟩) (by assumption) ?_
 rotate_left
 ·intro w hSw; (try dsimp only at hSw); go_simp <;> with_reducible rfl
 (try simp only [Act.put])
 refine wpAnyH_ready (rs := [4]) (by kernel_rfl) (by simp) ?_
 refine AllReadyH.cons rfl (fun K hK => ?_) AllReadyH.nil
 go_simp
 go_at_call 148
 refine (unhide HDR _).mono ?_
 rintro e w' ⟨rfl, hw⟩
 rw [hw]; clear hw
 go_wp2_with fail
 refine hK.out _ _ (by go_keep) (fun hHeld1 => ?_)
 clear hK K hHeld
 (try simp only [pE])
 refine wpAnyH_take (i := 5) (v := ?_) rfl (by kernel_rfl) (by kernel_rfl) (by kernel_rfl) (fun _ _ _ h => h) (Or.inl ⟨by rfl, ?_⟩) (by assumption) ?_
 rotate_left
 ·intro w hSw; (try dsimp only at hSw); go_simp <;> with_reducible rfl
 (try simp only [pE])
 refine wpAnyH_take (i := 6) (v := .int .i64 (q : Int)) rfl (by kernel_rfl) (by kernel_rfl) (by kernel_rfl) (fun _ _ _ h => h) (Or.inl ⟨by rfl, ?_⟩) (by assumption) ?_
 ·intro w hSw; (try dsimp only at hSw); go_simp
  rw [unhide HWQ]
 (try simp only [Act.put])
 refine wpAnyH_take (i := 7) (v := ?_) rfl (by kernel_rfl) (by kernel_rfl) (by kernel_rfl) (fun _ _ _ h => h) (Or.inl ⟨by rfl, ?_⟩) (by assumption) ?_
 rotate_left
 ·intro w hSw; (try dsimp only at hSw); go_simp <;> with_reducible rfl
 (try simp only [Act.put])
 refine wpAnyH_take (i := 8) (v := ?_) rfl (by kernel_rfl) (by kernel_rfl) (by kernel_rfl) (fun _ _ _ h => h) (Or.inl ⟨by rfl, ?_⟩) (by assumption) ?_
 rotate_left
 ·intro w hSw; (try dsimp only at hSw); go_simp <;> with_reducible rfl
 (try simp only [Act.put])
 refine wpAnyH_done (by kernel_rfl) ?_ _
 have hB : ∀ o1 o2, Below w.heap.size w ((w.alloc o1).alloc o2).drew := fun o1 o2 => by
  have hb0 : Below w.heap.size w (w.alloc o1) := (Below.refl _ _).alloc (Nat.le_refl _) _
  exact (hb0.trans (((Below.refl _ _).alloc (Nat.le_refl _) _).mono hb0.size)).drew
 have HB := hide hB
 clear hB
 by_cases hneg : f < 0
 ·have hV2 : V = .agg #[.string (p.extract q p.size), .bool true, .int .i64 (L.countP (qDir p) : Nat), .int .i64 1] := by rw [hV]; unfold toldV; rw [if_pos hneg, unhide HNM]
  have HV := hide hV2
  clear hV hV2
  go_wp2_with (go_at_call 149; refine (unhide HWI _ (unhide HB _ _)).mono ?_; rintro e w' ⟨rfl, hw⟩; rw [hw]; clear hw)
  exact bodyPost_ret (v := .agg #[.string (p.extract q p.size), .bool true, .int .i64 (L.countP (qDir p) : Nat), .int .i64 1]) (by simp [results, Tryz.results166, go_sem]) rfl ⟨by rw [unhide HV], unhide HB _ _⟩
 ·obtain ⟨k, rfl⟩ : ∃ k : Nat, f = k := ⟨f.toNat, by omega⟩
  have hkl : k < F.length := by omega
  have hFk : F[k]? = some F[k] := List.getElem?_eq_getElem hkl
  have hV2 : V = .agg #[.string (p.extract q p.size), .bool false, .int .i64 (F[k].size : Nat), .int .i64 (L.countP (qFile k) : Nat)] := by
   rw [hV]; unfold toldV; rw [if_neg hneg, unhide HNM]; simp only [Int.toNat_natCast, hFk, Option.getD_some]
  obtain ⟨s, hs⟩ : ∃ s, s = F[k] := ⟨_, rfl⟩
  rw [← hs] at hV2
  obtain ⟨af, cf, rfl, hrf⟩ := (unhide HW).sf.rdF
  obtain ⟨gf, rfl, s0⟩ := hrf k _ hFk
  rw [← hs] at s0
  have hgf : gf < w.heap.size := (unhide HW).sf.lt rfl
  have hc1 := (unhide HW).c.c1
  have hsz : s.size ≤ 2000000 := by rw [hs]; exact (unhide HW).okf _ (List.getElem_mem _)
  have hnf := (unhide HW).nf
  have hk0 : (0 : Int) ≤ (k : Int) := by omega
  have HV := hide hV2
  clear hV hV2 hrf hFk hs hneg
  have HB2 : Hid (∀ o1 o2, Below w.heap.size w ((w.alloc o1).alloc o2).drew.drew) := fun o1 o2 => (unhide HB o1 o2).drew
  go_wp2_with fail
  go_region_held3 (fun W => W.cell? ⟨rb, 1, none⟩ = some (.slice (some ⟨gf, 0, none⟩) F.length cf) ∧ W.cell? ⟨w.heap.size, 1, none⟩ = some (.int .i64 (k : Int)) ∧ W.cell? ⟨gf, k, none⟩ = some (.string s)) (go_keep)
   (first | (go_at_call 113; refine (unhide HLI _ (unhide HB2 _ _)).mono ?_; rintro e w' ⟨rfl, hw⟩; rw [hw]; clear hw))
  all_goals
   go_wp2
   exact bodyPost_ret (v := .agg #[.string (p.extract q p.size), .bool false, .int .i64 (s.size : Nat), .int .i64 (L.countP (qFile k) : Nat)]) (by simp [results, Tryz.results166, go_sem]) rfl ⟨by rw [unhide HV], unhide HB2 _ _⟩
def noEntry : Value := .agg #[.string ⟨#[]⟩, .bool false, .int .i64 0, .int .i64 0]
def statR (L : List (ByteArray × Int)) (F : List ByteArray) (p : ByteArray) : Value × Int :=
 if askR L p ≠ 0 then (noEntry, askR L p) else
 if (p.toList == [47]) = true then (.agg #[.string ⟨#[]⟩, .bool true, .int .i64 (L.countP (qDir ⟨#[]⟩) : Nat), .int .i64 1], 0) else
 match look L p with
 | none => (noEntry, 3)
 | some f => (toldV L F (p, f), 0)
theorem toldV_shape (L : List (ByteArray × Int)) (F : List ByteArray) (x : ByteArray × Int) : ∃ a b c d, toldV L F x = .agg #[.string a, .bool b, .int .i64 c, .int .i64 d] := by
 unfold toldV
 split
 ·exact ⟨_, _, _, _, rfl⟩
 ·exact ⟨_, _, _, _, rfl⟩
theorem set4 {w : World} {b : Nat} {a0 a1 a2 a3 : Value} (h : RowIs w b 112 [a0, a1, a2, a3]) (u0 u1 u2 u3 : Value) :
  ((((w.setCell ⟨b, 0, none⟩ u0).setCell ⟨b, 1, none⟩ u1).setCell ⟨b, 2, none⟩ u2).setCell ⟨b, 3, none⟩ u3).cell? ⟨b, 0, none⟩ = some u0 ∧
  ((((w.setCell ⟨b, 0, none⟩ u0).setCell ⟨b, 1, none⟩ u1).setCell ⟨b, 2, none⟩ u2).setCell ⟨b, 3, none⟩ u3).cell? ⟨b, 1, none⟩ = some u1 ∧
  ((((w.setCell ⟨b, 0, none⟩ u0).setCell ⟨b, 1, none⟩ u1).setCell ⟨b, 2, none⟩ u2).setCell ⟨b, 3, none⟩ u3).cell? ⟨b, 2, none⟩ = some u2 ∧
  ((((w.setCell ⟨b, 0, none⟩ u0).setCell ⟨b, 1, none⟩ u1).setCell ⟨b, 2, none⟩ u2).setCell ⟨b, 3, none⟩ u3).cell? ⟨b, 3, none⟩ = some u3 := by
 have h4 := (((h.set 0 u0).set 1 u1).set 2 u2).set 3 u3
 exact ⟨h4.cell 0, h4.cell 1, h4.cell 2, h4.cell 3⟩
theorem below_set4 {w w1 : World} (h : Below w.heap.size w w1) (u0 u1 u2 u3 : Value) : Below w.heap.size w ((((w1.setCell ⟨w.heap.size, 0, none⟩ u0).setCell ⟨w.heap.size, 1, none⟩ u1).setCell ⟨w.heap.size, 2, none⟩ u2).setCell ⟨w.heap.size, 3, none⟩ u3) :=
 (((h.setCell (p := ⟨w.heap.size, 0, none⟩) (Nat.le_refl _) _).setCell (p := ⟨w.heap.size, 1, none⟩) (Nat.le_refl _) _).setCell (p := ⟨w.heap.size, 2, none⟩) (Nat.le_refl _) _).setCell (p := ⟨w.heap.size, 3, none⟩) (Nat.le_refl _) _
theorem stat_ref (w : World) (rb : Nat) (vl vf : Value) (L : List (ByteArray × Int)) (F : List ByteArray) (h : RefW w rb vl vf L F) (hfv : ∀ x ∈ L, x.2 < F.length) (p : ByteArray) (hp : p.size ≤ 2000000) :
  Calls Tryz.prog 111 #[.pointer (some ⟨rb, 0, none⟩), .string p] w fun e w' => e = .returned (.tuple #[(statR L F p).1, .int .i64 (statR L F p).2]) ∧ Below w.heap.size w w' := by
 obtain ⟨R, hR⟩ : ∃ R, R = statR L F p := ⟨_, rfl⟩
 rw [← hR]
 unfold statR at hR
 have HW := hide h
 have HFV := hide hfv
 obtain ⟨av, cv, rfl, hrd⟩ := h.sl.rdL
 have HRD := hide hrd
 have hrb := h.hd.lt
 obtain ⟨W0, hW0⟩ : ∃ W0, W0 = w.alloc (.cells #[.string ⟨#[]⟩, .bool false, .int .i64 0, .int .i64 0] 112) := ⟨_, rfl⟩
 have hb0 : Below w.heap.size w W0 := by rw [hW0]; exact (Below.refl _ _).alloc (Nat.le_refl _) _
 have hk := ask_ref W0 rb _ vf L F (h.at hb0) p hp
 have hr0 : RowIs W0 w.heap.size 112 [.string ⟨#[]⟩, .bool false, .int .i64 0, .int .i64 0] := by rw [hW0]; exact heap_alloc_new w _
 have HZ : Hid (∀ w1, Below W0.heap.size W0 w1 → RowIs w1 w.heap.size 112 [.string ⟨#[]⟩, .bool false, .int .i64 0, .int .i64 0] ∧ Below w.heap.size w w1) := fun w1 hb => ⟨hr0.fr (X := fun _ => False) (Fr.of_below hb) id, hb0.trans (hb.mono hb0.size)⟩
 obtain ⟨e0, he0⟩ : ∃ e0, e0 = askR L p := ⟨_, rfl⟩
 rw [← he0] at hk hR
 subst hW0
 clear h hrd hfv hr0 he0
 go_enter Tryz.func111, Tryz.ntmps111
 go_wp2_with fail
 refine hk.mono ?_
 rintro e w1 ⟨rfl, hb⟩
 obtain ⟨z, hb1⟩ := unhide HZ w1 hb
 have HZ1 := hide z
 have z0 := (z.cell 0).trans rfl
 have z1 := (z.cell 1).trans rfl
 have z2 := (z.cell 2).trans rfl
 have z3 := (z.cell 3).trans rfl
 have zf0 := z.frozen 0
 have zf1 := z.frozen 1
 have zf2 := z.frozen 2
 have zf3 := z.frozen 3
 clear z hk HZ
 by_cases h0 : e0 ≠ 0
 ·rw [if_pos h0] at hR
  have hbb : (e0 != 0) = true := by rw [bne_iff_ne]; exact h0
  have HR := hide hR
  clear hR h0
  obtain ⟨s0, s1, s2, s3⟩ := set4 (unhide HZ1) (.string ⟨#[]⟩) (.bool false) (.int .i64 0) (.int .i64 0)
  go_wp2
  exact bodyPost_ret (v := .tuple #[noEntry, .int .i64 e0]) (by simp [results, Tryz.results111, go_sem, s0, s1, s2, s3, noEntry]) rfl ⟨by rw [unhide HR], below_set4 hb1 _ _ _ _⟩
 rw [if_neg h0] at hR
 obtain rfl : e0 = 0 := by omega
 cases h1 : (p.toList == [47]) with
 | true =>
  rw [if_pos h1] at hR
  have HR := hide hR
  have hwi := ((unhide HW).at hb1).within ⟨#[]⟩
  clear hR h0
  obtain ⟨s0, s1, s2, s3⟩ := set4 (unhide HZ1) (.string ⟨#[]⟩) (.bool true) (.int .i64 (L.countP (qDir ⟨#[]⟩) : Nat)) (.int .i64 1)
  go_wp2_with (go_at_call 149; refine hwi.mono ?_; rintro e w' ⟨rfl, hw⟩; rw [hw]; clear hw)
  exact bodyPost_ret (v := .tuple #[.agg #[.string ⟨#[]⟩, .bool true, .int .i64 (L.countP (qDir ⟨#[]⟩) : Nat), .int .i64 1], .int .i64 0]) (by simp [results, Tryz.results111, go_sem, s0, s1, s2, s3]) rfl ⟨by rw [unhide HR], below_set4 hb1 _ _ _ _⟩
 | false =>
 rw [if_neg (by rw [h1]; simp)] at hR
 have hfd := ((unhide HW).at hb1).find p
 clear h0
 go_wp2_with fail
 refine hfd.mono ?_
 rintro e w' ⟨r, ⟨rfl, hfi⟩, hw⟩
 rw [hw]; clear hw hfd
 rcases hfi with ⟨rfl, hno⟩ | ⟨k, x, rfl, hk', hx, hfst⟩
 ·have hl : look L p = none := (look_of_find (.inl ⟨rfl, hno⟩)).elim (fun h => h.2) (fun ⟨_, _, h, _⟩ => by omega)
  rw [hl] at hR
  have HR := hide hR
  clear hR hl hno
  obtain ⟨s0, s1, s2, s3⟩ := set4 (unhide HZ1) (.string ⟨#[]⟩) (.bool false) (.int .i64 0) (.int .i64 0)
  go_wp2
  exact bodyPost_ret (v := .tuple #[noEntry, .int .i64 3]) (by simp [results, Tryz.results111, go_sem, s0, s1, s2, s3, noEntry]) rfl ⟨by rw [unhide HR], below_set4 hb1 _ _ _ _⟩
 ·rw [FindIs.look hk' hx hfst] at hR
  have hkl := (List.getElem?_eq_some_iff.1 hk').1
  have hfl := unhide HFV x (List.mem_of_getElem? hk')
  obtain ⟨hxs, hxsl⟩ := (unhide HW).ok x (List.mem_of_getElem? hk')
  obtain ⟨g, rfl, q0, q1⟩ := (unhide HRD) k x hk'
  have hg : g < w.heap.size := (unhide HW).sl.lt rfl
  have q0' := (hb1.cell (p := ⟨g, k * 2, none⟩) hg).trans q0
  have q1' := (hb1.cell (p := ⟨g, k * 2 + 1, none⟩) hg).trans q1
  have hnl := (unhide HW).nl
  have hcw := ((unhide HW).at hb1).c.c0
  obtain ⟨y, f⟩ := x
  simp only at hx hfl hxs hxsl q0' q1' hR
  subst hx
  obtain ⟨ta, tb, tc, td, htv⟩ := toldV_shape L F (y, f)
  have htd := told_ref w1 rb _ vf L F ((unhide HW).at hb1) y f hxs hxsl hfl
  rw [htv] at htd hR
  have HR := hide hR
  have HT := hide htd
  clear hR hfst hk' q0 q1 htv htd
  go_wp2_with fail
  refine (unhide HT).mono ?_
  rintro e w5 ⟨rfl, hb5⟩
  have z5 : RowIs w5 w.heap.size 112 [.string ⟨#[]⟩, .bool false, .int .i64 0, .int .i64 0] := (unhide HZ1).fr (X := fun _ => False) (Fr.of_below hb5) id
  have hbw5 := hb1.trans (hb5.mono hb1.size)
  clear z0 z1 z2 z3 zf0 zf1 zf2 zf3 q0' q1' hcw
  have z0 := (z5.cell 0).trans rfl
  have z1 := (z5.cell 1).trans rfl
  have z2 := (z5.cell 2).trans rfl
  have z3 := (z5.cell 3).trans rfl
  have zf0 := z5.frozen 0
  have zf1 := z5.frozen 1
  have zf2 := z5.frozen 2
  have zf3 := z5.frozen 3
  obtain ⟨s0, s1, s2, s3⟩ := set4 z5 (.string ta) (.bool tb) (.int .i64 tc) (.int .i64 td)
  clear z5
  go_wp2
  exact bodyPost_ret (v := .tuple #[.agg #[.string ta, .bool tb, .int .i64 tc, .int .i64 td], .int .i64 0]) (by simp [results, Tryz.results111, go_sem, s0, s1, s2, s3]) rfl ⟨by rw [unhide HR], below_set4 hbw5 _ _ _ _⟩
theorem below_of_append {w w' : World} {v : Value} (h : w.grownBy w' v.ownBlock) {n : Nat} (hn : ∀ g, v.ownBlock = some g → n ≤ g) (hle : n ≤ w.heap.size) : Below n w w' :=
 ⟨h.os, h.tape, h.output, h.size, fun k hk => h.block k (Nat.lt_of_lt_of_le hk hle) (fun e => by have := hn k e.symm; omega)⟩
theorem Sl.cellAt {w : World} {g n cap : Nat} {l : List (ByteArray × Int)} (h : Sl w 103 2 (.slice (some ⟨g, 0, none⟩) n cap) l.length (cellsL l)) {w' : World} (hk : w'.heap[g]? = w.heap[g]?) {j : Nat} {u : Value} (hu : (cellsL l)[j]? = some u) : w'.cell? ⟨g, j, none⟩ = some u := by
 rcases h.2 with ⟨e, _⟩ | ⟨g', cap', R, e, hR, _, _, _, hT⟩
 ·cases e
 ·cases e
  have hR' : RowIs w' g 103 R := by unfold RowIs; rw [hk]; exact hR
  rw [hR'.cell]
  rw [← hT, List.getElem?_take] at hu
  split at hu
  ·exact hu
  ·cases hu
theorem insW (w : World) (g cap : Nat) (l : List (ByteArray × Int)) (hS : Sl w 103 2 (.slice (some ⟨g, 0, none⟩) l.length cap) l.length (cellsL l)) (hl : l.length + 1 ≤ 2000000) (k : Nat) (hk : k ≤ l.length) (x : ByteArray × Int) :
  ∃ a1 n1 c1 w1, (Builtin.append_ #[87, 87] 87 #[.slice none 0 0, .slice (some ⟨g, 0, none⟩) k cap]).run Tryz.prog w = .ok (.slice a1 n1 c1) w1 ∧ Below w.heap.size w w1 ∧
   ∃ a2 n2 c2 w2, (Builtin.append_ #[87, 87] 87 #[.slice a1 n1 c1, .slice (some ⟨w1.heap.size, 0, none⟩) 1 1]).run Tryz.prog (w1.alloc (.cells #[.string x.1, .int .i64 x.2] 103)) = .ok (.slice a2 n2 c2) w2 ∧ Below w.heap.size w w2 ∧
    ∀ a c, (l.length - k ≠ 0 → a = ⟨g, k * 2, none⟩) → ∃ a3 n3 c3 w3, (Builtin.append_ #[87, 87] 87 #[.slice a2 n2 c2, .slice (some a) (l.length - k) c]).run Tryz.prog w2 = .ok (.slice a3 n3 c3) w3 ∧
     Hid (Sl w3 103 2 (.slice a3 n3 c3) (l.length + 1) (cellsL (l.take k ++ x :: l.drop k)) ∧ Below w.heap.size w w3 ∧ ∀ j, (Value.slice a3 n3 c3).ownBlock = some j → w.heap.size ≤ j) := by
 obtain ⟨i0, hi0, hz0, hz1, hz2⟩ := info_parts info81
 have hgl : g < w.heap.size := hS.lt rfl
 have hlk : (cellsL (l.take k)).length = k * 2 := by rw [cellsL_length, List.length_take]; omega
 obtain ⟨v1, w1, r1, r2, r3, r4⟩ := append_new (P := Tryz.prog) w 87 87 103 i0 _ 2 24 Tryz.underlying87 hi0 hz0 hz1 hz2 rfl (by decide) (.slice none 0 0) 0 [] ⟨rfl, .inl ⟨rfl, rfl⟩⟩ ⟨g, 0, none⟩ k cap (cellsL (l.take k)) hlk
  (fun j u hu => by
   rw [Addr.add_lit, Nat.zero_add]
   refine hS.cellAt rfl ?_
   rw [← cellsL_take, List.getElem?_take] at hu
   split at hu
   ·exact hu
   ·cases hu) (cellsL_one _) (by unfold maxLen; omega) (by omega)
 obtain ⟨a1, n1, c1, rfl⟩ := r2.shape
 have hnew1 : ∀ y, (Value.slice a1 n1 c1).ownBlock = some y → w.heap.size ≤ y := fun y hy => (r4 y hy).resolve_left (by simp [Value.ownBlock])
 have b1 : Below w.heap.size w w1 := below_of_append r3 (fun y hy => by simp [Value.ownBlock] at hy) (Nat.le_refl _)
 refine ⟨a1, n1, c1, w1, r1, b1, ?_⟩
 obtain ⟨W1, hW1⟩ : ∃ W1, W1 = w1.alloc (.cells #[.string x.1, .int .i64 x.2] 103) := ⟨_, rfl⟩
 have ba : Below w1.heap.size w1 W1 := by rw [hW1]; exact (Below.refl _ _).alloc (Nat.le_refl _) _
 have hx1 : RowIs W1 w1.heap.size 103 (clL x) := by rw [hW1]; exact heap_alloc_new w1 _
 rw [← hW1]
 have r2' : Sl W1 103 2 (.slice a1 n1 c1) (0 + k) ([] ++ cellsL (l.take k)) := r2.fr (X := fun _ => False) (Fr.of_below ba) (fun _ _ => id)
 obtain ⟨v2, w2, s1, s2, s3, s4⟩ := append_new (P := Tryz.prog) W1 87 87 103 i0 _ 2 24 Tryz.underlying87 hi0 hz0 hz1 hz2 rfl (by decide) (.slice a1 n1 c1) (0 + k) ([] ++ cellsL (l.take k)) r2' ⟨w1.heap.size, 0, none⟩ 1 1 (clL x) rfl
  (fun j u hu => by rw [Addr.add_lit, Nat.zero_add, hx1.cell]; exact hu) (cellsL_one [x]) (by unfold maxLen; omega) (by omega)
 obtain ⟨a2, n2, c2, rfl⟩ := s2.shape
 have bW : Below w.heap.size w W1 := b1.trans (ba.mono b1.size)
 have hnew2 : ∀ y, (Value.slice a2 n2 c2).ownBlock = some y → w.heap.size ≤ y := fun y hy => (s4 y hy).elim (hnew1 y) (fun h => Nat.le_trans bW.size h)
 have b2 : Below w.heap.size w w2 := bW.trans (below_of_append s3 hnew1 bW.size)
 refine ⟨a2, n2, c2, w2, s1, b2, fun a c ha => ?_⟩
 have hld : (cellsL (l.drop k)).length = (l.length - k) * 2 := by rw [cellsL_length, List.length_drop]
 obtain ⟨v3, w3, t1, t2, t3, t4⟩ := append_new (P := Tryz.prog) w2 87 87 103 i0 _ 2 24 Tryz.underlying87 hi0 hz0 hz1 hz2 rfl (by decide) (.slice a2 n2 c2) (0 + k + 1) ([] ++ cellsL (l.take k) ++ clL x) s2 a (l.length - k) c (cellsL (l.drop k)) hld
  (fun j u hu => by
   by_cases h0 : l.length - k = 0
   ·have : cellsL (l.drop k) = [] := List.eq_nil_of_length_eq_zero (by rw [hld, h0])
    rw [this] at hu; cases hu
   ·rw [ha h0, Addr.add_lit]
    refine hS.cellAt (b2.block g hgl) ?_
    rw [← cellsL_drop, List.getElem?_drop] at hu
    exact hu) (cellsL_one _) (by unfold maxLen; omega) (by omega)
 obtain ⟨a3, n3, c3, rfl⟩ := t2.shape
 refine ⟨a3, n3, c3, w3, t1, ?_, b2.trans (below_of_append t3 hnew2 b2.size), fun j hj => (t4 j hj).elim (hnew2 j) (fun h => Nat.le_trans b2.size h)⟩
 have e1 : 0 + k + 1 + (l.length - k) = l.length + 1 := by omega
 have e2 : [] ++ cellsL (l.take k) ++ clL x ++ cellsL (l.drop k) = cellsL (l.take k ++ x :: l.drop k) := by
  rw [cellsL_append]; simp [cellsL]
 rw [e1, e2] at t2
 exact t2
def placeOf (x : ByteArray × Int) : List (ByteArray × Int) → Nat
 | [] => 0
 | y :: l => if ltS y.1 x.1 = true then placeOf x l + 1 else 0
def insO (l : List (ByteArray × Int)) (x : ByteArray × Int) : List (ByteArray × Int) := l.take (placeOf x l) ++ x :: l.drop (placeOf x l)
def insideT (L : List (ByteArray × Int)) (d : ByteArray) : Nat → List (ByteArray × Int)
 | 0 => []
 | k + 1 => match L[k]? with
  | some x => if qDir d x = true then insO (insideT L d k) x else insideT L d k
  | none => insideT L d k
theorem insO_length (l : List (ByteArray × Int)) (x : ByteArray × Int) : (insO l x).length = l.length + 1 := by
 unfold insO
 simp
 omega
theorem insideT_le (L : List (ByteArray × Int)) (d : ByteArray) : ∀ k, (insideT L d k).length ≤ k
 | 0 => Nat.le_refl _
 | k + 1 => by
  have := insideT_le L d k
  unfold insideT
  split
  ·split
   ·rw [insO_length]; omega
   ·omega
  ·omega
theorem placeOf_le (x : ByteArray × Int) : ∀ l, placeOf x l ≤ l.length
 | [] => Nat.le_refl _
 | y :: l => by
  have := placeOf_le x l
  unfold placeOf
  split
  ·simp; omega
  ·omega
theorem placeOf_lt (x : ByteArray × Int) : ∀ (l : List (ByteArray × Int)) (j : Nat) (y : ByteArray × Int), j < placeOf x l → l[j]? = some y → ltS y.1 x.1 = true
 | [], _, _, h, _ => by simp [placeOf] at h
 | z :: l, j, y, h, hy => by
  unfold placeOf at h
  split at h
  ·rename_i hz
   cases j with
   | zero => simp at hy; subst hy; exact hz
   | succ j => exact placeOf_lt x l j y (by omega) (by simpa using hy)
  ·omega
theorem placeOf_at (x : ByteArray × Int) : ∀ (l : List (ByteArray × Int)) (y : ByteArray × Int), l[placeOf x l]? = some y → ltS y.1 x.1 = false
 | [], _, h => by simp at h
 | z :: l, y, h => by
  unfold placeOf at h
  split at h
  ·exact placeOf_at x l y (by simpa using h)
  ·rename_i hz
   simp at h; subst h; simpa using hz
theorem insW0 (w : World) (x : ByteArray × Int) :
  ∃ a2 n2 c2 w2, (Builtin.append_ #[87, 87] 87 #[.slice none 0 0, .slice (some ⟨w.heap.size, 0, none⟩) 1 1]).run Tryz.prog (w.alloc (.cells #[.string x.1, .int .i64 x.2] 103)) = .ok (.slice a2 n2 c2) w2 ∧
   (Builtin.append_ #[87, 87] 87 #[.slice a2 n2 c2, .slice none 0 0]).run Tryz.prog w2 = .ok (.slice a2 n2 c2) w2 ∧
   Hid (Sl w2 103 2 (.slice a2 n2 c2) 1 (cellsL [x]) ∧ Below w.heap.size w w2 ∧ ∀ j, (Value.slice a2 n2 c2).ownBlock = some j → w.heap.size ≤ j) := by
 obtain ⟨i0, hi0, hz0, hz1, hz2⟩ := info_parts info81
 obtain ⟨W1, hW1⟩ : ∃ W1, W1 = w.alloc (.cells #[.string x.1, .int .i64 x.2] 103) := ⟨_, rfl⟩
 have ba : Below w.heap.size w W1 := by rw [hW1]; exact (Below.refl _ _).alloc (Nat.le_refl _) _
 have hx1 : RowIs W1 w.heap.size 103 (clL x) := by rw [hW1]; exact heap_alloc_new w _
 rw [← hW1]
 obtain ⟨v2, w2, s1, s2, s3, s4⟩ := append_new (P := Tryz.prog) W1 87 87 103 i0 _ 2 24 Tryz.underlying87 hi0 hz0 hz1 hz2 rfl (by decide) (.slice none 0 0) 0 [] ⟨rfl, .inl ⟨rfl, rfl⟩⟩ ⟨w.heap.size, 0, none⟩ 1 1 (clL x) rfl
  (fun j u hu => by rw [Addr.add_lit, Nat.zero_add, hx1.cell]; exact hu) (cellsL_one [x]) (by unfold maxLen; omega) (by omega)
 obtain ⟨a2, n2, c2, rfl⟩ := s2.shape
 refine ⟨a2, n2, c2, w2, s1, ?_, by simpa [cellsL] using s2, ba.trans (below_of_append s3 (fun y hy => by simp [Value.ownBlock] at hy) ba.size), fun j hj => (s4 j hj).elim (fun h => by simp [Value.ownBlock] at h) (fun h => Nat.le_trans ba.size h)⟩
 rcases s2.2 with ⟨e, h0⟩ | ⟨g2, cap2, R2, e, _, hc2, _⟩
 ·simp at h0
 ·cases e
  have hc2' : 1 ≤ c2 := by simpa using hc2
  simp [Builtin.append_, run_underlying Tryz.underlying87, sizeOf, typeInfo, hi0, Builtin.lenOf, Builtin.firstCells, loadCells, hc2', storeCells]
def InsMid (w wr : World) (L : List (ByteArray × Int)) (d : ByteArray) (l i : Value) : Prop :=
 ∃ k : Nat, k ≤ L.length ∧ i = .int .i64 k ∧ Sl wr 103 2 l (insideT L d k).length (cellsL (insideT L d k)) ∧ Below w.heap.size w wr ∧ ∀ j, l.ownBlock = some j → w.heap.size ≤ j
set_option maxHeartbeats 2000000
theorem app_nil66 (w : World) : (Builtin.append_ #[87, 87] 87 #[.slice none 0 0, .slice none 0 0]).run Tryz.prog w = .ok (.slice none 0 0) w := by
 obtain ⟨i0, hi0, hz0, hz1, hz2⟩ := info_parts info81
 simp [Builtin.append_, run_underlying Tryz.underlying87, sizeOf, typeInfo, hi0, Builtin.lenOf, Builtin.firstCells]
theorem inside_ref (w : World) (rb : Nat) (vl vf : Value) (L : List (ByteArray × Int)) (F : List ByteArray) (h : RefW w rb vl vf L F) (hL : L.length + 1 ≤ 2000000) (d : ByteArray) :
  Calls Tryz.prog 163 #[.pointer (some ⟨rb, 0, none⟩), .string d] w fun e w' => ∃ v, e = .returned v ∧ Sl w' 103 2 v (insideT L d L.length).length (cellsL (insideT L d L.length)) ∧ Below w.heap.size w w' ∧ ∀ j, v.ownBlock = some j → w.heap.size ≤ j := by
 obtain ⟨av, cv, rfl, hrd⟩ := h.sl.rdL
 have HRD := hide hrd
 have HW := hide h
 have HO := hide h.ok
 clear h hrd
 go_enter Tryz.func163, Tryz.ntmps163
 go_wp2
 go_loopw [5, 6, 7, 8] (fun l i _ _ wr => InsMid w wr L d l i) (fun _ i _ _ _ => L.length - (intOf i).toNat)
 case atStart => exact ⟨0, Nat.zero_le _, rfl, ⟨rfl, .inl ⟨rfl, rfl⟩⟩, Below.refl _ _, fun j hj => by simp [Value.ownBlock] at hj⟩
 case round =>
  obtain ⟨k, hk, rfl, hS, hb, hn⟩ := hrel
  have hwr := (unhide HW).at hb
  have hc0 := hwr.c.c0
  have hnl := hwr.nl
  clear hwr
  by_cases hlt : k < L.length
  ·obtain ⟨x, hx⟩ : ∃ x, L[k]? = some x := ⟨_, List.getElem?_eq_getElem hlt⟩
   obtain ⟨g, rfl, q0, q1⟩ := unhide HRD k _ hx
   have hgl : g < w.heap.size := (unhide HW).sl.lt rfl
   have q0' := (hb.cell (p := ⟨g, k * 2, none⟩) hgl).trans q0
   have q1' := (hb.cell (p := ⟨g, k * 2 + 1, none⟩) hgl).trans q1
   obtain ⟨hsz, hsl⟩ := unhide HO x (List.mem_of_getElem? hx)
   clear q0 q1
   have HST : Hid (insideT L d (k + 1) = if qDir d x = true then insO (insideT L d k) x else insideT L d k) := by unfold Hid; rw [insideT, hx]
   have HS := hide hS
   have HN := hide hn
   have hdr := fun W => dir_ref x.1 W hsz hsl
   have HDR := hide hdr
   clear hx hS hn hdr
   cases hq : ((dirOf x.1).toList == d.toList) with
   | false =>
    have HS2 : Hid (insideT L d (k + 1) = insideT L d k) := by show _ = _; rw [unhide HST, if_neg (show ¬ qDir d x = true by unfold qDir; rw [hq]; simp)]
    have hq' : ((dirOf x.1).toList != d.toList) = true := by simp only [bne, hq]; rfl
    go_wp2_with (go_at_call 148; refine (unhide HDR _).mono ?_; rintro e w' ⟨rfl, hw⟩; rw [hw]; clear hw)
    go_roundw
    case rel => exact ⟨k + 1, by omega, by go_num, by rw [unhide HS2]; exact unhide HS, hb, unhide HN⟩
    case measure => simp [intOf]; omega
   | true =>
    have hq' : ((dirOf x.1).toList != d.toList) = false := by simp only [bne, hq]; rfl
    have HS2 : Hid (insideT L d (k + 1) = insO (insideT L d k) x) := by show _ = _; rw [unhide HST, if_pos (show qDir d x = true from hq)]
    go_wp2_with (go_at_call 148; refine (unhide HDR _).mono ?_; rintro e w' ⟨rfl, hw⟩; rw [hw]; clear hw)
    obtain ⟨wo, hwo⟩ : ∃ wo, wo = wr := ⟨_, rfl⟩
    subst hwo
    obtain ⟨l, hl⟩ : ∃ l, l = insideT L d k := ⟨_, rfl⟩
    have hll : l.length ≤ k := by rw [hl]; exact insideT_le L d k
    rw [← hl] at HS HS2
    have hpl := placeOf_le x l
    clear hl HST
    rcases (unhide HS).2 with ⟨rfl, h0⟩ | ⟨g5, cap, R5, rfl, hR5, hcc, hcm, hL5, hT5⟩
    ·have hln : l = [] := List.eq_nil_of_length_eq_zero (by omega)
     subst hln
     clear h0 hll hpl
     have HPJ : Hid (insO [] x = [x]) := rfl
     go_loopw [7] (fun at_ w6 => at_ = .int .i64 0 ∧ Below wo.heap.size wo w6) (fun _ _ => 0)
     case atStart => exact ⟨rfl, Below.refl _ _⟩
     case round =>
      obtain ⟨rfl, hb6⟩ := hrel
      have hrbw : rb < wo.heap.size := Nat.lt_of_lt_of_le (unhide HW).hd.lt hb.size
      have hglw : g < wo.heap.size := Nat.lt_of_lt_of_le hgl hb.size
      have x0 := (hb6.cell (p := ⟨rb, 0, none⟩) hrbw).trans hc0
      have x1 := (hb6.cell (p := ⟨g, k * 2, none⟩) hglw).trans q0'
      have x2 := (hb6.cell (p := ⟨g, k * 2 + 1, none⟩) hglw).trans q1'
      obtain ⟨a2, n2, c2, w2, s1, t1, t4⟩ := insW0 wr.drew x
      have r1 := app_nil66 wr.drew
      have HT4 := hide t4
      clear t4
      go_wp2_with fail
      go_region
      all_goals
       go_wp2_with (first | (at_builtin; refine Lib.wpList_append_run _ rfl _ _ 87 87 rfl _ _ rfl rfl _ _ r1 ?_; clear r1) | (at_builtin; refine Lib.wpList_append_run _ rfl _ _ 87 87 rfl _ _ rfl rfl _ _ s1 ?_; clear s1) | (at_builtin; refine Lib.wpList_append_run _ rfl _ _ 87 87 rfl _ _ rfl rfl _ _ t1 ?_; clear t1))
       go_roundw
       case rel =>
        obtain ⟨k1, k2, k3⟩ := unhide (unhide HT4)
        refine ⟨k + 1, by omega, by go_num, ?_, hb.trans ((hb6.drew.trans (k2.mono hb6.size)).mono hb.size), fun i hi => ?_⟩
        ·rw [unhide HS2, unhide HPJ]; exact k1
        ·have := k3 i hi; have := hb.size; have := hb6.drew.size; omega
       case measure => simp [intOf]; omega
    ·clear hR5 hL5 hT5
     have hg5 : g5 < wo.heap.size := (unhide HS).lt rfl
     have hrbw : rb < wo.heap.size := Nat.lt_of_lt_of_le (unhide HW).hd.lt hb.size
     have hglw : g < wo.heap.size := Nat.lt_of_lt_of_le hgl hb.size
     go_loopw [7] (fun at_ w6 => ∃ j : Nat, at_ = .int .i64 j ∧ j ≤ placeOf x l ∧ Below wo.heap.size wo w6) (fun at_ _ => l.length - (intOf at_).toNat)
     case atStart => exact ⟨0, rfl, Nat.zero_le _, Below.refl _ _⟩
     case round =>
      obtain ⟨j, rfl, hj, hb6⟩ := hrel
      have x0 := (hb6.cell (p := ⟨rb, 0, none⟩) hrbw).trans hc0
      have x1 := (hb6.cell (p := ⟨g, k * 2, none⟩) hglw).trans q0'
      by_cases hjl : j < l.length
      ·have hyl : l[j]? = some l[j] := List.getElem?_eq_getElem hjl
       obtain ⟨y, hy⟩ : ∃ y, y = l[j] := ⟨_, rfl⟩
       rw [← hy] at hyl
       have y0 := (unhide HS).cellAt (hb6.block g5 hg5) (cellsL_at l j y hyl).1
       by_cases hjp : j < placeOf x l
       ·have hlty : Op.bytesLess y.1.toList x.1.toList = true := placeOf_lt x l j y hjp hyl
        clear hyl hy
        go_wp2_with fail
        go_region
        all_goals
         go_wp2
         go_roundw
         case rel => exact ⟨j + 1, by go_num, by omega, hb6.drew⟩
         case measure => simp [intOf]; omega
       ·have hpj : placeOf x l = j := by omega
        have hlty : Op.bytesLess y.1.toList x.1.toList = false := placeOf_at x l y (by rw [hpj]; exact hyl)
        have HPJ := hide hpj
        clear hyl hy hpj hjp hj hpl
        have x2 := (hb6.cell (p := ⟨g, k * 2 + 1, none⟩) hglw).trans q1'
        have hS6 : Sl wr.drew 103 2 (.slice (some ⟨g5, 0, none⟩) l.length cap) l.length (cellsL l) := (unhide HS).fr (X := fun _ => False) (Fr.of_below hb6.drew) (fun _ _ => id)
        obtain ⟨a1, n1, c1, w1, r1, b1, a2, n2, c2, w2, s1, b2, tt⟩ := insW wr.drew g5 cap l hS6 (by omega) j (by omega) x
        have u0 := (b1.cell (p := ⟨rb, 0, none⟩) (Nat.lt_of_lt_of_le hrbw hb6.size)).trans x0
        have u1 := (b1.cell (p := ⟨g, k * 2, none⟩) (Nat.lt_of_lt_of_le hglw hb6.size)).trans x1
        have u2 := (b1.cell (p := ⟨g, k * 2 + 1, none⟩) (Nat.lt_of_lt_of_le hglw hb6.size)).trans x2
        have HT := hide tt
        clear tt hS6 b1 b2
        go_wp2_with fail
        go_region
        all_goals
         obtain ⟨a3, n3, c3, w3, t1, t4⟩ := unhide HT ⟨g5, j * 2, none⟩ (cap - j) (fun _ => rfl)
         have HT4 := hide t4
         clear t4 HT
         go_wp2_with (first | (at_builtin; refine Lib.wpList_append_run _ rfl _ _ 87 87 rfl _ _ rfl rfl _ _ r1 ?_; clear r1) | (at_builtin; refine Lib.wpList_append_run _ rfl _ _ 87 87 rfl _ _ rfl rfl _ _ s1 ?_; clear s1) | (at_builtin; refine Lib.wpList_append_run _ rfl _ _ 87 87 rfl _ _ rfl rfl _ _ t1 ?_; clear t1))
         go_roundw
         case rel =>
          obtain ⟨k1, k2, k3⟩ := unhide (unhide HT4)
          refine ⟨k + 1, by omega, by go_num, ?_, hb.trans ((hb6.drew.trans (k2.mono hb6.size)).mono hb.size), fun i hi => ?_⟩
          ·rw [unhide HS2, insO_length]; unfold insO; rw [unhide HPJ]; exact k1
          ·have := k3 i hi; have := hb.size; have := hb6.drew.size; omega
         case measure => simp [intOf]; omega
      ·obtain rfl : j = l.length := by omega
       have hpj : placeOf x l = l.length := by omega
       have HPJ := hide hpj
       clear hpj hj hpl hjl
       have x2 := (hb6.cell (p := ⟨g, k * 2 + 1, none⟩) hglw).trans q1'
       have hS6 : Sl wr.drew 103 2 (.slice (some ⟨g5, 0, none⟩) l.length cap) l.length (cellsL l) := (unhide HS).fr (X := fun _ => False) (Fr.of_below hb6.drew) (fun _ _ => id)
       obtain ⟨a1, n1, c1, w1, r1, b1, a2, n2, c2, w2, s1, b2, tt⟩ := insW wr.drew g5 cap l hS6 (by omega) l.length (Nat.le_refl _) x
       have u0 := (b1.cell (p := ⟨rb, 0, none⟩) (Nat.lt_of_lt_of_le hrbw hb6.size)).trans x0
       have u1 := (b1.cell (p := ⟨g, k * 2, none⟩) (Nat.lt_of_lt_of_le hglw hb6.size)).trans x1
       have u2 := (b1.cell (p := ⟨g, k * 2 + 1, none⟩) (Nat.lt_of_lt_of_le hglw hb6.size)).trans x2
       have HT := hide tt
       have HB := hide hb
       have HB6 := hide hb6
       have HKL := hide hlt
       have hlt' : (k : Int) < L.length := by omega
       have hcc' : (l.length : Int) ≤ cap := by omega
       clear tt hS6 b1 b2 hb hb6 hlt hll hk hgl hrbw hglw hg5
       by_cases hcv : cap = l.length
       ·subst hcv
        obtain ⟨a3, n3, c3, w3, t1, t4⟩ := unhide HT ⟨g5, 0, none⟩ 0 (fun h => absurd (Nat.sub_self _) h)
        rw [Nat.sub_self] at t1
        have HT4 := hide t4
        clear t4 HT hcc' hcc hcm
        go_wp2_with fail
        go_region
        all_goals
         go_wp2_with (first | (at_builtin; refine Lib.wpList_append_run _ rfl _ _ 87 87 rfl _ _ rfl rfl _ _ r1 ?_; clear r1) | (at_builtin; refine Lib.wpList_append_run _ rfl _ _ 87 87 rfl _ _ rfl rfl _ _ s1 ?_; clear s1) | (at_builtin; refine Lib.wpList_append_run _ rfl _ _ 87 87 rfl _ _ rfl rfl _ _ t1 ?_; clear t1))
         go_roundw
         case rel =>
          obtain ⟨k1, k2, k3⟩ := unhide (unhide HT4)
          refine ⟨k + 1, by have := unhide HKL; omega, by go_num, ?_, (unhide HB).trans (((unhide HB6).drew.trans (k2.mono (unhide HB6).size)).mono (unhide HB).size), fun i hi => ?_⟩
          ·rw [unhide HS2, insO_length]; unfold insO; rw [unhide HPJ]; exact k1
          ·have := k3 i hi; have := (unhide HB).size; have := (unhide HB6).drew.size; omega
         case measure => simp [intOf]; have := unhide HKL; omega
       ·have hcv' : ¬ (cap : Int) = l.length := by omega
        obtain ⟨a3, n3, c3, w3, t1, t4⟩ := unhide HT ⟨g5, l.length * 2, none⟩ (cap - l.length) (fun _ => rfl)
        rw [Nat.sub_self] at t1
        have HT4 := hide t4
        clear t4 HT hcc hcm
        go_wp2_with fail
        go_region
        all_goals
         go_wp2_with (first | (at_builtin; refine Lib.wpList_append_run _ rfl _ _ 87 87 rfl _ _ rfl rfl _ _ r1 ?_; clear r1) | (at_builtin; refine Lib.wpList_append_run _ rfl _ _ 87 87 rfl _ _ rfl rfl _ _ s1 ?_; clear s1) | (at_builtin; refine Lib.wpList_append_run _ rfl _ _ 87 87 rfl _ _ rfl rfl _ _ t1 ?_; clear t1))
         go_roundw
         case rel =>
          obtain ⟨k1, k2, k3⟩ := unhide (unhide HT4)
          refine ⟨k + 1, by have := unhide HKL; omega, by go_num, ?_, (unhide HB).trans (((unhide HB6).drew.trans (k2.mono (unhide HB6).size)).mono (unhide HB).size), fun i hi => ?_⟩
          ·rw [unhide HS2, insO_length]; unfold insO; rw [unhide HPJ]; exact k1
          ·have := k3 i hi; have := (unhide HB).size; have := (unhide HB6).drew.size; omega
         case measure => simp [intOf]; have := unhide HKL; omega
  ·obtain rfl : k = L.length := by omega
   have HS := hide hS
   have HN := hide hn
   clear hS hn
   go_wp2
   go_ret
   exact ⟨_, rfl, unhide HS, hb, unhide HN⟩
set_option maxHeartbeats 1000000
def jl (ns : List ByteArray) : List UInt8 := ns.flatMap (fun n => 47 :: n.data.toList)
def jn (ns : List ByteArray) : ByteArray := ⟨(jl ns).toArray⟩
def NoSl (n : ByteArray) : Prop := (47 : UInt8) ∉ n.data.toList
theorem NoSl.at {n : ByteArray} (h : NoSl n) (j : Nat) : n.data.toList[j]? ≠ some 47 := fun e => h (List.mem_of_getElem? e)
theorem okName_nosl {n : ByteArray} (h : okName n = true) : NoSl n := fun hm => by
 simp only [okName, Bool.and_eq_true] at h
 have := List.all_eq_true.1 h.2 _ hm
 revert this; decide
theorem okName_ne {n : ByteArray} (h : okName n = true) : n.data.toList ≠ [] := fun e => by
 simp [okName, ByteArray.toList_eq, e] at h
theorem jn_data (ns : List ByteArray) : (jn ns).data.toList = jl ns := by simp [jn]
theorem jn_toList (ns : List ByteArray) : (jn ns).toList = jl ns := by rw [ByteArray.toList_eq, jn_data]
theorem jl_nil : jl [] = [] := rfl
theorem jl_cons (n : ByteArray) (ns : List ByteArray) : jl (n :: ns) = 47 :: n.data.toList ++ jl ns := by simp [jl]
theorem jl_append (a b : List ByteArray) : jl (a ++ b) = jl a ++ jl b := by simp [jl]
theorem jl_one (n : ByteArray) : jl [n] = 47 :: n.data.toList := by simp [jl]
theorem bytes_eq {a b : ByteArray} (h : a.data.toList = b.data.toList) : a = b := WideShapes.bytes_inj h
theorem jn_append (a b : List ByteArray) : jn (a ++ b) = jn a ++ jn b := bytes_eq (by rw [jn_data, jl_append, ByteArray.data_append, Array.toList_append, jn_data, jn_data])
theorem jn_size (ns : List ByteArray) : (jn ns).size = (jl ns).length := by show (jn ns).data.size = _; simp [jn]
theorem jn_inj_aux : ∀ (a b : List ByteArray), (∀ n ∈ a, NoSl n) → (∀ n ∈ b, NoSl n) → jl a = jl b → a = b
 | [], [], _, _, _ => rfl
 | [], n :: b, _, _, h => by simp [jl_cons, jl_nil] at h
 | n :: a, [], _, _, h => by simp [jl_cons, jl_nil] at h
 | n :: a, m :: b, ha, hb, h => by
  rw [jl_cons, jl_cons] at h
  have h1 : n.data.toList ++ jl a = m.data.toList ++ jl b := by simpa using h
  have key : ∀ (x y : List UInt8) (u v : List UInt8), (47 : UInt8) ∉ x → (47 : UInt8) ∉ y → (u = [] ∨ ∃ t, u = 47 :: t) → (v = [] ∨ ∃ t, v = 47 :: t) → x ++ u = y ++ v → x = y ∧ u = v := by
   intro x
   induction x with
   | nil =>
    intro y u v _ hy hu hv e
    cases y with
    | nil => exact ⟨rfl, by simpa using e⟩
    | cons c y =>
     rcases hu with rfl | ⟨t, rfl⟩
     ·simp at e
     ·simp at e; exact absurd (by simp [e.1]) hy
   | cons c x ih =>
    intro y u v hx hy hu hv e
    cases y with
    | nil =>
     rcases hv with rfl | ⟨t, rfl⟩
     ·simp at e
     ·simp at e; exact absurd (by simp [e.1]) hx
    | cons d y =>
     simp only [List.cons_append, List.cons.injEq] at e
     obtain ⟨r1, r2⟩ := ih y u v (fun h => hx (List.mem_cons_of_mem _ h)) (fun h => hy (List.mem_cons_of_mem _ h)) hu hv e.2
     exact ⟨by rw [e.1, r1], r2⟩
  have hs : ∀ l : List ByteArray, jl l = [] ∨ ∃ t, jl l = 47 :: t := fun l => by
   cases l with
   | nil => exact .inl rfl
   | cons x l => exact .inr ⟨_, by rw [jl_cons]; rfl⟩
  obtain ⟨e1, e2⟩ := key _ _ _ _ (ha n (by simp)) (hb m (by simp)) (hs a) (hs b) h1
  rw [bytes_eq e1, jn_inj_aux a b (fun x hx => ha x (by simp [hx])) (fun x hx => hb x (by simp [hx])) e2]
def Nms (ns : List ByteArray) : Prop := ∀ n ∈ ns, okName n = true
theorem Nms.nosl {ns : List ByteArray} (h : Nms ns) : ∀ n ∈ ns, NoSl n := fun n hn => okName_nosl (h n hn)
theorem Nms.append {a b : List ByteArray} (ha : Nms a) (hb : Nms b) : Nms (a ++ b) := fun n hn => (List.mem_append.1 hn).elim (ha n) (hb n)
theorem Nms.left {a b : List ByteArray} (h : Nms (a ++ b)) : Nms a := fun n hn => h n (List.mem_append_left _ hn)
theorem Nms.right {a b : List ByteArray} (h : Nms (a ++ b)) : Nms b := fun n hn => h n (List.mem_append_right _ hn)
theorem jn_inj {a b : List ByteArray} (ha : Nms a) (hb : Nms b) (h : jn a = jn b) : a = b := jn_inj_aux a b ha.nosl hb.nosl (by rw [← jn_data, ← jn_data, h])
theorem pc_jl (n : ByteArray) (ns : List ByteArray) (hn : ∀ m ∈ n :: ns, NoSl m) (s : ByteArray) (hs : s.data.toList = n.data.toList ++ jl ns) : pc s = n :: ns := by
 induction ns generalizing n s with
 | nil =>
  have : s = n := bytes_eq (by simpa [jl_nil] using hs)
  subst this
  exact pc_miss s (hn s (by simp)).at
 | cons m ms ih =>
  have h0 := hn n (by simp)
  rw [pc_hit s n.size (fun j hj => by rw [hs, List.getElem?_append_left (by simpa using hj)]; exact h0.at j) (by rw [hs, jl_cons, List.getElem?_append_right (by simp)]; simp)]
  have e1 : s.extract 0 n.size = n := bytes_eq (by rw [Lib.extract_data, hs]; simp)
  have e2 : (s.extract (n.size + 1) s.size).data.toList = m.data.toList ++ jl ms := by
   rw [tail_data, hs, jl_cons, List.drop_append]
   simp
  rw [e1, ih m (fun x hx => hn x (List.mem_cons_of_mem _ hx)) _ e2]
theorem names_jn {ns : List ByteArray} (h : Nms ns) (hne : ns ≠ []) : names (jn ns) = ns := by
 cases ns with
 | nil => exact absurd rfl hne
 | cons n ns =>
  unfold names
  rw [if_neg (by
   rw [jn_toList, jl_cons]
   have := okName_ne (h n (by simp))
   simp [this])]
  exact pc_jl n ns (fun m hm => okName_nosl (h m hm)) _ (by rw [tail_data, jn_data, jl_cons]; simp)
theorem jl_pc : ∀ (k : Nat) (s : ByteArray), s.size ≤ k → jl (pc s) = 47 :: s.data.toList := by
 intro k
 induction k with
 | zero =>
  intro s hs
  have h0 : s.data.toList = [] := List.eq_nil_of_length_eq_zero (by have : s.data.toList.length = s.size := Array.length_toList; omega)
  rw [pc_miss s (fun j => by rw [h0]; simp), jl_one]
 | succ k ih =>
  intro s hs
  rcases slash_or s.data.toList with h | ⟨i, h1, h2⟩
  ·rw [pc_miss s h, jl_one]
  ·have hi : i < s.size := (List.getElem?_eq_some_iff.1 h2).1
   rw [pc_hit s i h1 h2, jl_cons, ih _ (by simp [ByteArray.size_extract]; omega), tail_data, Lib.extract_data]
   have h3 : s.data.toList.drop i = 47 :: s.data.toList.drop (i + 1) := by
    obtain ⟨hl, e⟩ := List.getElem?_eq_some_iff.1 h2
    rw [List.drop_eq_getElem_cons hl, e]
   have h4 : s.data.toList = s.data.toList.take i ++ s.data.toList.drop i := (List.take_append_drop _ _).symm
   rw [h3] at h4
   simp only [List.drop_zero, Nat.sub_zero]
   rw [List.cons_append, List.cons.injEq]
   exact ⟨rfl, h4.symm⟩
theorem path_names {p : ByteArray} (h : nmOk p = true) (hr : (p.toList == [47]) = false) : p = jn (names p) ∧ Nms (names p) ∧ names p ≠ [] ∧ (names p).length ≤ 6 := by
 unfold nmOk at h
 rw [hr, Bool.false_or] at h
 simp only [Bool.and_eq_true, decide_eq_true_eq] at h
 have hn : names p = pc (p.extract 1 p.size) := by unfold names; rw [hr]; simp
 have hj := jl_pc _ (p.extract 1 p.size) (Nat.le_refl _)
 rw [← hn] at h hj
 refine ⟨?_, fun n hm => List.all_eq_true.1 h.2 n hm, fun e => by rw [e] at hj; simp [jl_nil] at hj, h.1.2⟩
 refine bytes_eq ?_
 rw [jn_data, hj, tail_data]
 have h0 : p.data.toList[0]? = some 47 := by simpa using h.1.1
 obtain ⟨hl, e⟩ := List.getElem?_eq_some_iff.1 h0
 cases hp : p.data.toList with
 | nil => rw [hp] at h0; simp at h0
 | cons c l => rw [hp] at h0; simp at h0; simp [h0]
theorem jn_ne_root {ns : List ByteArray} (h : Nms ns) (hne : ns ≠ []) : ((jn ns).toList == [47]) = false := by
 cases ns with
 | nil => exact absurd rfl hne
 | cons n ns =>
  rw [jn_toList, jl_cons]
  have := okName_ne (h n (by simp))
  simp [this]
theorem nmOk_jn {ns : List ByteArray} (h : Nms ns) (hne : ns ≠ []) (hl : ns.length ≤ 6) : nmOk (jn ns) = true := by
 have hn := names_jn h hne
 unfold names at hn
 rw [jn_ne_root h hne] at hn
 simp only [Bool.false_eq_true, if_false] at hn
 unfold nmOk
 rw [jn_ne_root h hne, hn, jn_data]
 cases ns with
 | nil => exact absurd rfl hne
 | cons n ns =>
  simp only [Bool.false_or, jl_cons, Bool.and_eq_true, decide_eq_true_eq]
  exact ⟨⟨by simp, hl⟩, List.all_eq_true.2 h⟩
theorem names_root {p : ByteArray} (hr : (p.toList == [47]) = true) : names p = [] := by unfold names; rw [hr]; rfl
theorem lastSl_app (x y : List UInt8) (hy : (47 : UInt8) ∉ y) : lastSl (x ++ 47 :: y) = some x.length := by
 induction x with
 | nil =>
  have : ∀ l : List UInt8, (47 : UInt8) ∉ l → lastSl l = none := by
   intro l
   induction l with
   | nil => intro _; rfl
   | cons c l ih =>
    intro h
    unfold lastSl
    rw [ih (fun hm => h (List.mem_cons_of_mem _ hm))]
    exact if_neg (fun e => h (by simp [e]))
  show lastSl (47 :: y) = _
  unfold lastSl
  rw [this y hy]; rfl
 | cons c x ih =>
  show lastSl (c :: (x ++ 47 :: y)) = _
  unfold lastSl
  rw [ih]; rfl
theorem dirOf_jn (ns : List ByteArray) (n : ByteArray) (h : NoSl n) : dirOf (jn (ns ++ [n])) = jn ns := by
 unfold dirOf
 rw [jn_data, jl_append, jl_one, lastSl_app _ _ h]
 refine bytes_eq ?_
 rw [Lib.extract_data, jn_data, jl_append, jn_data]
 simp
theorem nameOf_jn (ns : List ByteArray) (n : ByteArray) (h : NoSl n) : nameOf (jn (ns ++ [n])) = n := by
 unfold nameOf
 rw [dirOf_jn ns n h]
 refine bytes_eq ?_
 rw [tail_data, jn_data, jl_append, jl_one, jn_size, List.drop_append]
 simp
theorem prefs_run (p : ByteArray) : ∀ (n i m : Nat), (∀ j, i ≤ j → j < i + m → p.data.toList[j]? ≠ some 47) → m ≤ n → prefs p n i = prefs p (n - m) (i + m)
 | n, i, 0, _, _ => rfl
 | 0, i, m + 1, _, h => by omega
 | n + 1, i, m + 1, h, hm => by
  rw [prefs, if_neg (h i (Nat.le_refl _) (by omega)), prefs_run p n (i + 1) m (fun j h1 h2 => h j (by omega) (by omega)) (by omega)]
  congr 1 <;> omega
def heads : List ByteArray → List ByteArray → List (List ByteArray)
 | _, [] => []
 | _, [_] => []
 | d, n :: m :: ns => (d ++ [n]) :: heads (d ++ [n]) (m :: ns)
theorem prefs_jl (d : List ByteArray) (n : ByteArray) (ns : List ByteArray) (h : ∀ m ∈ n :: ns, NoSl m) (p : ByteArray) (hp : p.data.toList = jl (d ++ n :: ns)) :
  prefs p (n.size + (jl ns).length) ((jl d).length + 1) = (heads d (n :: ns)).map jn := by
 induction ns generalizing d n with
 | nil =>
  rw [prefs_run p _ _ n.size (fun j h1 h2 => by
   rw [hp, jl_append, jl_one, List.getElem?_append_right (by omega)]
   obtain ⟨k, rfl⟩ : ∃ k, j = (jl d).length + (k + 1) := ⟨j - (jl d).length - 1, by omega⟩
   rw [Nat.add_sub_cancel_left, List.getElem?_cons_succ]
   exact (h n (by simp)).at k) (by omega)]
  simp [jl_nil, prefs, heads]
 | cons m ms ih =>
  rw [prefs_run p _ _ n.size (fun j h1 h2 => by
   rw [hp, jl_append, jl_cons, List.getElem?_append_right (by omega)]
   obtain ⟨k, rfl⟩ : ∃ k, j = (jl d).length + (k + 1) := ⟨j - (jl d).length - 1, by omega⟩
   rw [Nat.add_sub_cancel_left, List.cons_append, List.getElem?_cons_succ, List.getElem?_append_left (by have : n.data.toList.length = n.size := Array.length_toList; omega)]
   exact (h n (by simp)).at k) (by omega)]
  have e1 : n.size + (jl (m :: ms)).length - n.size = (m.size + (jl ms).length) + 1 := by
   rw [jl_cons]; have : m.data.toList.length = m.size := Array.length_toList
   simp only [List.length_append, List.length_cons]; omega
  have e2 : (jl d).length + 1 + n.size = (jl (d ++ [n])).length := by
   rw [jl_append, jl_one]; have : n.data.toList.length = n.size := Array.length_toList
   simp only [List.length_append, List.length_cons]; omega
  have e3 : p.data.toList = jl (d ++ [n]) ++ jl (m :: ms) := by rw [hp, ← jl_append]; simp
  rw [e1, e2, prefs, if_pos (by rw [e3, List.getElem?_append_right (Nat.le_refl _), jl_cons]; simp)]
  have e4 : p.extract 0 (jl (d ++ [n])).length = jn (d ++ [n]) := bytes_eq (by rw [Lib.extract_data, e3, jn_data]; simp)
  rw [e4, ih (d ++ [n]) m (fun x hx => h x (List.mem_cons_of_mem _ hx)) (by rw [hp]; simp)]
  simp [heads]
theorem prefs_jn {ns : List ByteArray} (h : Nms ns) (hne : ns ≠ []) : prefs (jn ns) ((jn ns).size - 1) 1 = (heads [] ns).map jn := by
 cases ns with
 | nil => exact absurd rfl hne
 | cons n ns =>
  rw [← prefs_jl [] n ns (fun m hm => okName_nosl (h m hm)) (jn (n :: ns)) (by rw [jn_data]; rfl)]
  have : n.data.toList.length = n.size := Array.length_toList
  rw [jn_size, jl_cons]
  simp only [jl_nil, List.length_append, List.length_cons, List.length_nil, this]; congr 1; omega
theorem extract_eq_take (p : ByteArray) (k : Nat) : (p.extract 0 k).data.toList = p.data.toList.take k := by rw [Lib.extract_data]; simp
theorem begins_jn {x a : List ByteArray} (hx : Nms x) (ha : Nms a) : beginsB (jn x) (jn a) = true ↔ ∃ r, r ≠ [] ∧ x = a ++ r := by
 unfold beginsB
 simp only [Bool.and_eq_true, decide_eq_true_eq, beq_iff_eq]
 rw [ByteArray.toList_eq, extract_eq_take, jn_toList, jn_data, jn_size, jn_size]
 constructor
 ·rintro ⟨⟨h1, h2⟩, h3⟩
  have hx2 : ∀ (x a : List ByteArray), (∀ n ∈ x, NoSl n) → (∀ n ∈ a, NoSl n) → (jl a).length < (jl x).length → (jl x).take (jl a).length = jl a → (jl x)[(jl a).length]? = some 47 → ∃ r, r ≠ [] ∧ x = a ++ r := by
   intro x a
   induction a generalizing x with
   | nil => intro _ _ hl _ _; exact ⟨x, fun e => by rw [e] at hl; simp [jl_nil] at hl, rfl⟩
   | cons n a ih =>
    intro hx ha hl ht hg
    cases x with
    | nil => simp [jl_nil] at hl
    | cons m x =>
     rw [jl_cons, jl_cons] at ht hl hg
     have hmn : m.data.toList = n.data.toList := by
      -- both without a slash, each with a slash or the end behind
      have e1 : jl (m :: x) = jl (n :: a) ++ (jl (m :: x)).drop (jl (n :: a)).length := by
       have := (List.take_append_drop (jl (n :: a)).length (jl (m :: x))).symm
       rw [jl_cons, jl_cons] at this ⊢
       rw [ht] at this
       exact this
      obtain ⟨t, ht2⟩ : ∃ t, (jl (m :: x)).drop (jl (n :: a)).length = 47 :: t := by
       have h5 : (jl (m :: x))[(jl (n :: a)).length]? = some 47 := by rw [jl_cons, jl_cons]; exact hg
       obtain ⟨hl5, e5⟩ := List.getElem?_eq_some_iff.1 h5
       exact ⟨_, by rw [List.drop_eq_getElem_cons hl5, e5]⟩
      rw [ht2, jl_cons, jl_cons] at e1
      have e2 : m.data.toList ++ jl x = n.data.toList ++ (jl a ++ 47 :: t) := by simpa using e1
      have hs : ∀ l : List ByteArray, jl l = [] ∨ ∃ t, jl l = 47 :: t := fun l => by
       cases l with
       | nil => exact .inl rfl
       | cons x l => exact .inr ⟨_, by rw [jl_cons]; rfl⟩
      have hs2 : ∃ t', jl a ++ 47 :: t = 47 :: t' := by
       rcases hs a with e | ⟨t', e⟩
       ·exact ⟨t, by rw [e]; rfl⟩
       ·exact ⟨t' ++ 47 :: t, by rw [e]; rfl⟩
      have key : ∀ (p q : List UInt8) (u v : List UInt8), (47 : UInt8) ∉ p → (47 : UInt8) ∉ q → (u = [] ∨ ∃ t, u = 47 :: t) → (∃ t, v = 47 :: t) → p ++ u = q ++ v → p = q := by
       intro p
       induction p with
       | nil =>
        intro q u v _ hq hu hv e
        cases q with
        | nil => rfl
        | cons c q =>
         rcases hu with rfl | ⟨t, rfl⟩
         ·simp at e
         ·simp at e; exact absurd (by simp [e.1]) hq
       | cons c p ihp =>
        intro q u v hp hq hu hv e
        cases q with
        | nil =>
         obtain ⟨t, rfl⟩ := hv
         simp at e; exact absurd (by simp [e.1]) hp
        | cons d q =>
         simp only [List.cons_append, List.cons.injEq] at e
         rw [e.1, ihp q u v (fun h => hp (List.mem_cons_of_mem _ h)) (fun h => hq (List.mem_cons_of_mem _ h)) hu hv e.2]
      exact key _ _ _ _ (hx m (by simp)) (ha n (by simp)) (hs x) hs2 e2
     have hsz : m.data.toList.length = n.data.toList.length := by rw [hmn]
     obtain ⟨r, hr, e⟩ := ih x (fun y hy => hx y (by simp [hy])) (fun y hy => ha y (by simp [hy])) (by simp only [List.cons_append, List.length_cons, List.length_append] at hl; omega)
      (by
       simp only [List.cons_append, List.length_cons, List.length_append, List.take_succ_cons, List.cons.injEq, true_and] at ht
       rw [hmn, List.take_append, List.take_of_length_le (by omega), Nat.add_sub_cancel_left] at ht
       exact List.append_cancel_left ht)
      (by
       simp only [List.cons_append, List.length_cons, List.length_append, List.getElem?_cons_succ] at hg
       rw [List.getElem?_append_right (by omega), hsz, Nat.add_sub_cancel_left] at hg
       exact hg)
     exact ⟨r, hr, by rw [bytes_eq hmn, e]; rfl⟩
  exact hx2 x a hx.nosl ha.nosl h1 h2 h3
 ·rintro ⟨r, hr, rfl⟩
  rw [jl_append]
  cases r with
  | nil => exact absurd rfl hr
  | cons n r =>
   rw [jl_cons]
   refine ⟨⟨?_, ?_⟩, ?_⟩
   ·simp only [List.length_append, List.length_cons]; omega
   ·simp
   ·simp
abbrev Gh := List (List ByteArray × VS)
def nodeV (ρ : Int → Nat) (u : VS) : Int := if u.p.isSome = true then -1 else (ρ u.f : Int)
def vw (ρ : Int → Nat) (x : List ByteArray × VS) : ByteArray × Int := (jn x.1, nodeV ρ x.2)
def atG (G : Gh) (ns : List ByteArray) : Option VS := (G.find? (fun x => decide (x.1 = ns))).map (·.2)
structure GOk (G : Gh) : Prop where
 nms : ∀ x ∈ G, Nms x.1
 ne : ∀ x ∈ G, x.1 ≠ []
 le : ∀ x ∈ G, x.1.length ≤ 6
 nd : (G.map (·.1)).Nodup
 up : ∀ ns n u, (ns ++ [n], u) ∈ G → ns = [] ∨ ∃ v, (ns, v) ∈ G ∧ v.p.isSome = true
theorem nodeV_neg (ρ : Int → Nat) (u : VS) : nodeV ρ u < 0 ↔ u.p.isSome = true := by
 unfold nodeV
 by_cases h : u.p.isSome = true
 ·simp [h]
 ·simp only [h, Bool.false_eq_true, if_false, iff_false]; omega
theorem find_map {α β : Type} (f : α → β) (p : β → Bool) (q : α → Bool) : ∀ (l : List α), (∀ x ∈ l, p (f x) = q x) → (l.map f).find? p = (l.find? q).map f
 | [], _ => rfl
 | a :: l, h => by
  rw [List.map_cons, List.find?_cons, List.find?_cons, h a (by simp), find_map f p q l (fun x hx => h x (by simp [hx]))]
  cases q a <;> rfl
theorem look_vw {G : Gh} (h : GOk G) (ρ : Int → Nat) {ns : List ByteArray} (hn : Nms ns) : look (G.map (vw ρ)) (jn ns) = (atG G ns).map (nodeV ρ) := by
 unfold look atG
 rw [find_map (vw ρ) _ (fun x => decide (x.1 = ns)) G (fun x hx => by
  rw [decide_eq_decide]
  exact ⟨fun e => jn_inj (h.nms x hx) hn e, fun e => by show jn x.1 = _; rw [e]⟩)]
 cases G.find? (fun x => decide (x.1 = ns)) <;> rfl
def ahG (G : Gh) : List (List ByteArray) → Int
 | [] => 0
 | q :: r => match atG G q with
  | none => 3
  | some u => if u.p.isSome = true then ahG G r else 4
theorem ahead_vw {G : Gh} (h : GOk G) (ρ : Int → Nat) : ∀ (qs : List (List ByteArray)), (∀ q ∈ qs, Nms q) → aheadP (G.map (vw ρ)) (qs.map jn) = ahG G qs
 | [], _ => rfl
 | q :: r, hq => by
  rw [List.map_cons, aheadP, ahG, look_vw h ρ (hq q (by simp)), ahead_vw h ρ r (fun x hx => hq x (by simp [hx]))]
  cases atG G q with
  | none => rfl
  | some u =>
   simp only [Option.map_some]
   by_cases hu : u.p.isSome = true
   ·rw [if_pos hu, if_neg (by have := (nodeV_neg ρ u).2 hu; omega)]
   ·rw [if_neg hu, if_pos (by rcases Int.lt_or_le (nodeV ρ u) 0 with h | h; exact absurd ((nodeV_neg ρ u).1 h) hu; exact h)]
theorem heads_nms : ∀ (d ns : List ByteArray), Nms (d ++ ns) → ∀ q ∈ heads d ns, Nms q
 | d, [], _, q, hq => by simp [heads] at hq
 | d, [n], _, q, hq => by simp [heads] at hq
 | d, n :: m :: ns, h, q, hq => by
  rw [heads] at hq
  rcases List.mem_cons.1 hq with rfl | hq
  ·exact Nms.left (b := m :: ns) (by rw [List.append_assoc]; exact h)
  ·exact heads_nms (d ++ [n]) (m :: ns) (by rw [List.append_assoc]; exact h) q hq
theorem aheadR_vw {G : Gh} (h : GOk G) (ρ : Int → Nat) {ns : List ByteArray} (hn : Nms ns) (hne : ns ≠ []) : aheadR (G.map (vw ρ)) (jn ns) = ahG G (heads [] ns) := by
 unfold aheadR
 rw [prefs_jn hn hne, ahead_vw h ρ _ (heads_nms [] ns hn)]
theorem aheadR_root (L : List (ByteArray × Int)) (p : ByteArray) (hr : (p.toList == [47]) = true) : aheadR L p = 0 := by
 have h1 : p.toList = [47] := by simpa using hr
 have : p.size = 1 := by
  have h2 : p.toList.length = p.size := by rw [ByteArray.toList_eq]; exact Array.length_toList
  rw [h1] at h2; simpa using h2.symm
 unfold aheadR
 rw [this]; rfl
theorem atG_mem {G : Gh} {ns : List ByteArray} {u : VS} (h : atG G ns = some u) : (ns, u) ∈ G := by
 unfold atG at h
 cases hf : G.find? (fun x => decide (x.1 = ns)) with
 | none => rw [hf] at h; cases h
 | some x =>
  rw [hf] at h
  have h1 := List.mem_of_find?_eq_some hf
  have h2 := List.find?_some hf
  simp at h h2
  rw [← h, ← h2]; exact h1
theorem nodup_fst {α β : Type} {G : List (α × β)} (h : (G.map (·.1)).Nodup) {a : α} {u v : β} (hu : (a, u) ∈ G) (hv : (a, v) ∈ G) : u = v := by
 induction G with
 | nil => cases hu
 | cons x G ih =>
  rw [List.map_cons, List.nodup_cons] at h
  rcases List.mem_cons.1 hu with e1 | h1
  ·rcases List.mem_cons.1 hv with e2 | h2
   ·rw [← e1] at e2; exact (Prod.mk.inj e2).2.symm
   ·exact absurd (List.mem_map_of_mem (f := (·.1)) h2) (by rw [← e1] at h; exact h.1)
  ·rcases List.mem_cons.1 hv with e2 | h2
   ·exact absurd (List.mem_map_of_mem (f := (·.1)) h1) (by rw [← e2] at h; exact h.1)
   ·exact ih h.2 h1 h2
theorem atG_of_mem {G : Gh} (h : (G.map (·.1)).Nodup) {ns : List ByteArray} {u : VS} (hm : (ns, u) ∈ G) : atG G ns = some u := by
 cases ha : atG G ns with
 | none =>
  unfold atG at ha
  rw [Option.map_eq_none_iff, List.find?_eq_none] at ha
  exact absurd (by simp : decide ((ns, u).1 = ns) = true) (ha _ hm)
 | some v => rw [nodup_fst h hm (atG_mem ha)]
theorem atG_none {G : Gh} {ns : List ByteArray} (h : atG G ns = none) (u : VS) : (ns, u) ∉ G := fun hm => by
 unfold atG at h
 rw [Option.map_eq_none_iff, List.find?_eq_none] at h
 exact absurd (by simp : decide ((ns, u).1 = ns) = true) (h _ hm)
def qIn (ns : List ByteArray) (x : List ByteArray × VS) : Bool := decide (x.1.dropLast = ns)
theorem split_last {ns : List ByteArray} (h : ns ≠ []) : ∃ d n, ns = d ++ [n] := ⟨ns.dropLast, ns.getLast h, (List.dropLast_concat_getLast h).symm⟩
theorem countP_map' {α β : Type} (f : α → β) (p : β → Bool) (q : α → Bool) : ∀ (l : List α), (∀ x ∈ l, p (f x) = q x) → (l.map f).countP p = l.countP q
 | [], _ => rfl
 | a :: l, h => by
  rw [List.map_cons, List.countP_cons, List.countP_cons, h a (by simp), countP_map' f p q l (fun x hx => h x (by simp [hx]))]
theorem dir_vw {G : Gh} (h : GOk G) (ρ : Int → Nat) {ns : List ByteArray} (hn : Nms ns) : (G.map (vw ρ)).countP (qDir (jn ns)) = G.countP (qIn ns) :=
 countP_map' _ _ _ G (fun x hx => by
  obtain ⟨d, n, e⟩ := split_last (h.ne x hx)
  have hx1 := h.nms x hx
  unfold qDir qIn vw
  rw [e] at hx1 ⊢
  rw [dirOf_jn d n (okName_nosl (hx1 n (by simp))), List.dropLast_concat]
  rw [Bool.eq_iff_iff, beq_iff_eq, decide_eq_true_eq, jn_toList, jn_toList]
  exact ⟨fun e => jn_inj_aux _ _ hx1.left.nosl hn.nosl e, fun e => by rw [e]⟩)
theorem dirs_vw (G : Gh) (ρ : Int → Nat) : (G.map (vw ρ)).countP qD = G.countP (fun x => x.2.p.isSome) :=
 countP_map' _ _ _ G (fun x _ => by
  unfold qD vw
  rw [Bool.eq_iff_iff, decide_eq_true_eq]
  exact nodeV_neg ρ x.2)
def EnOk (G : Gh) (ns : List ByteArray) (es : List (ByteArray × VS)) : Prop := ∀ n u, (n, u) ∈ es ↔ (ns ++ [n], u) ∈ G
theorem ltS_irr (a : ByteArray) : ltS a a = false := by
 unfold ltS
 cases h : Op.bytesLess a.toList a.toList with
 | false => rfl
 | true =>
  have : ∀ l : List UInt8, Op.bytesLess l l = false := by
   intro l
   induction l with
   | nil => rfl
   | cons c l ih => simp [Op.bytesLess, ih]
  rw [this] at h; cases h
theorem SrtS.nodup {es : List (ByteArray × VS)} (h : SrtS es) : (es.map (·.1)).Nodup := by
 unfold List.Nodup
 rw [List.pairwise_iff_getElem]
 intro i j hi hj hij e
 have hj' : j < es.length := by simpa using hj
 have hi' : i < es.length := by simpa using hi
 rw [List.getElem_map, List.getElem_map] at e
 have := h i j es[i] es[j] hij (List.getElem?_eq_getElem _) (List.getElem?_eq_getElem _)
 rw [e, ltS_irr] at this; cases this
theorem length_of_nodup {α : Type} {a b : List α} (ha : a.Nodup) (hb : b.Nodup) (h : ∀ x, x ∈ a ↔ x ∈ b) : a.length = b.length := ((List.perm_ext_iff_of_nodup ha hb).2 h).length_eq
theorem nodup_of_fst {α β : Type} {G : List (α × β)} (h : (G.map (·.1)).Nodup) : G.Nodup := by
 induction G with
 | nil => exact List.nodup_nil
 | cons x G ih =>
  rw [List.map_cons, List.nodup_cons] at h
  exact List.nodup_cons.2 ⟨fun hm => h.1 (List.mem_map_of_mem (f := (·.1)) hm), ih h.2⟩
theorem nodup_map_inj {α β : Type} (f : α → β) {l : List α} (h : l.Nodup) (hf : ∀ x ∈ l, ∀ y ∈ l, f x = f y → x = y) : (l.map f).Nodup := by
 induction l with
 | nil => exact List.nodup_nil
 | cons a l ih =>
  rw [List.nodup_cons] at h
  rw [List.map_cons, List.nodup_cons]
  refine ⟨fun hm => ?_, ih h.2 (fun x hx y hy => hf x (by simp [hx]) y (by simp [hy]))⟩
  obtain ⟨b, hb, e⟩ := List.mem_map.1 hm
  have := hf b (by simp [hb]) a (by simp) e
  rw [this] at hb; exact h.1 hb
theorem EnOk.length {G : Gh} {ns : List ByteArray} {es : List (ByteArray × VS)} (hG : GOk G) (hs : SrtS es) (h : EnOk G ns es) : es.length = G.countP (qIn ns) := by
 have h1 : (es.map (fun x => (ns ++ [x.1], x.2))).Nodup := nodup_map_inj _ (nodup_of_fst hs.nodup) (fun x _ y _ e => by
  obtain ⟨e1, e2⟩ := Prod.mk.inj e
  have e1' : x.1 = y.1 := by simpa using e1
  exact Prod.ext e1' e2)
 have h2 : (G.filter (qIn ns)).Nodup := (nodup_of_fst hG.nd).filter _
 rw [List.countP_eq_length_filter, ← length_of_nodup h1 h2, List.length_map]
 intro x
 rw [List.mem_map, List.mem_filter]
 constructor
 ·rintro ⟨y, hy, rfl⟩
  exact ⟨(h y.1 y.2).1 hy, by simp [qIn]⟩
 ·rintro ⟨hx, hq⟩
  obtain ⟨d, n, e⟩ := split_last (hG.ne x hx)
  unfold qIn at hq
  rw [e, List.dropLast_concat, decide_eq_true_eq] at hq
  obtain rfl := hq
  refine ⟨(n, x.2), (h n x.2).2 (by rw [← e]; exact hx), by rw [← e]⟩
end Go.Proofs.YtaieidcohdhgpaaGreatDoor
