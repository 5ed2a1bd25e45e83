/- Files. -/
import Derived.Test.YtaieidcohdhgpaaGreatDoorPBP
import Derived.Test.YtaieidcohdhgpaaGreatDoorPBL
namespace Go.Proofs.YtaieidcohdhgpaaGreatDoor
open Go.RowKit
set_option maxHeartbeats 2000000
set_option maxRecDepth 100000
theorem listF_code (w : World) (tb rd : Nat) (V : Nat → Value) (E : Nat → List (ByteArray × VS)) (vi : Value) (G : Gh) (I : List (Int × VF)) (C : Int → ByteArray) (h : TW w tb rd V E vi G I C) (hG : GOk G) (hGl : G.length ≤ 10000) (p : ByteArray) (hp : p.size ≤ 2000000) (hne : liE G p ≠ 0) :
  Calls Tryz.prog 120 #[.pointer (some ⟨tb, 0, none⟩), .string p] w fun e w' => e = .returned (.tuple #[.slice none 0 0, .int .i64 (liE G p)]) ∧ Below w.heap.size w w' := by
 have hal : ∀ o, Below w.heap.size w (w.alloc o) := fun o => (Below.refl _ _).alloc (Nat.le_refl _) o
 obtain ⟨k, hk⟩ : ∃ k, k = liE G p := ⟨_, rfl⟩
 have HTH : Hid (∀ o, Calls Tryz.prog 177 #[.pointer (some ⟨tb, 0, none⟩), .string p] (w.alloc o) fun e w' => (e = .returned (.tuple #[noSpot, .int .i64 k]) ∨ ∃ d n f, k = 4 ∧ e = .returned (.tuple #[spotV d n true ⟨none, f⟩, .int .i64 0])) ∧ Below (w.alloc o).heap.size (w.alloc o) w') := fun o =>
  (there_code (w.alloc o) tb rd V E vi G I C (h.below (hal o) (Nat.le_refl _)) hG hGl p hp).mono (fun e w' ⟨hpost, hb⟩ => by
   refine ⟨?_, hb⟩
   rcases hpost with ⟨hne, rfl⟩ | ⟨hth, hok, d, n, u, hsp, rfl⟩
   ·left
    rw [hk]; unfold liE; rw [if_pos hne]
   ·have hl : liE G p = if names p = [] then 0 else match atG G (names p) with | none => 3 | some u => if u.p.isSome = true then 0 else 4 := by unfold liE; rw [if_neg (by rw [hth]; simp)]; rfl
    rcases spot_cases h.d hsp with ⟨e, _⟩ | ⟨_, h1, h2, h3⟩ | ⟨_, b', h2, h3, h4⟩
    ·cases e
    ·right
     rw [if_neg h1, h2] at hl
     simp only [h3] at hl
     refine ⟨d, n, u.f, by rw [hk, hl]; rfl, ?_⟩
     obtain ⟨up, uf⟩ := u
     simp only at h3
     subst h3
     rfl
    ·exfalso
     apply hne
     rw [hl]
     rcases h4 with h4 | h4
     ·rw [if_pos h4]
     ·rw [h4, h2]; simp)
 rw [← hk]
 have hk0 : k ≠ 0 := by rw [hk]; exact hne
 have hkb : (k != 0) = true := by simpa using hk0
 clear h hk hne hk0
 go_enter Tryz.func120, Tryz.ntmps120
 go_wp2_with fail
 refine (unhide HTH _).mono ?_
 rintro e w1 ⟨hpost, hb1⟩
 have hb : Below w.heap.size w w1 := (hal _).trans (hb1.mono (by simp))
 clear HTH hal hb1
 rcases hpost with rfl | ⟨d, n, f, rfl, rfl⟩
 ·unfold noSpot spotV
  go_wp2
  go_ret2
  exact ⟨rfl, hb.alloc hb.size _⟩
 ·unfold spotV
  go_wp2
  go_ret2
  exact ⟨rfl, hb.alloc hb.size _⟩
theorem list_both : ListBoth := by
 intro vb tb rb L F s hj hs
 refine ⟨(listR L F s).1, (listR L F s).2, ?_, fun W hm => ⟨?_, ?_⟩⟩
 ·unfold listR
  split
  ·simp
  ·split
   ·rw [List.length_map]; have := insideT_le L ⟨#[]⟩ L.length; have := hj.len; omega
   ·split
    ·simp
    ·split
     ·simp
     ·rw [List.length_map]; have := insideT_le L s L.length; have := hj.len; omega
 ·obtain ⟨G, I, C, ρ, vl, vf, hv, ⟨rd, V, E, vi, htw⟩, hrf, hrl, hn⟩ := hm
  have hlG := hrl.lG
  have hlI := hrl.lI
  obtain ⟨e1, e2, e3⟩ := hrl.listE s
  by_cases h0 : liE G s = 0
  ·obtain ⟨hok, e4⟩ := e3 h0
   have hth : thE G s = 0 := by
    unfold liE at h0
    by_cases h : thE G s ≠ 0
    ·rw [if_pos h] at h0; exact absurd h0 h
    ·simpa using h
   obtain ⟨b, hd, hat⟩ : ∃ b, IsDir G rd (names s) b ∧ (names s = [] ∨ atG G (names s) = some ⟨some ⟨b, 0, none⟩, 0⟩) := by
    by_cases hns : names s = []
    ·exact ⟨rd, .inl ⟨hns, rfl⟩, .inl hns⟩
    ·unfold liE at h0
     rw [if_neg (by rw [hth]; simp), if_neg hns] at h0
     cases hat : atG G (names s) with
     | none => rw [hat] at h0; cases h0
     | some u =>
      rw [hat] at h0
      rcases htw.d.shp _ (atG_mem hat) with h1 | ⟨b, h1⟩
      ·simp only at h1
       simp only [h1] at h0
       cases h0
      ·simp only at h1
       exact ⟨b, .inr (by rw [← h1]; exact atG_mem hat), .inr (by rw [h1])⟩
   have hnm : Nms (names s) := by
    by_cases hns : names s = []
    ·rw [hns]; intro n hn; cases hn
    ·exact (path_jn hok hns).2
   refine (listV W vb tb hv s (LsPost W G I (names s) (E b)) (fun e w' ⟨⟨a, n, c, es, he, _⟩, _⟩ => ⟨a, n, c, 0, he⟩) (listD_code W tb rd V E vi G I C htw hrl.ok (by omega) (by omega) hrl.flOk s hs hth b hd hat)).mono ?_
   rintro e w' ⟨⟨a, n, c, es, rfl, hS, ht⟩, hb⟩
   have := hrl.tellsE hnm (htw.d.srt _ b hd) (htw.d.en _ b hd) ht
   rw [this] at hS
   rw [← e1, h0, e4]
   exact ⟨⟨a, n, c, rfl, hS⟩, hb⟩
  ·refine (listV W vb tb hv s (fun e w' => e = .returned (.tuple #[.slice none 0 0, .int .i64 (liE G s)]) ∧ Below W.heap.size W w') (fun e w' ⟨he, _⟩ => ⟨none, 0, 0, _, he⟩) (listF_code W tb rd V E vi G I C htw hrl.ok (by omega) s hs h0)).mono ?_
   rintro e w' ⟨rfl, hb⟩
   rw [e2 h0, ← e1]
   exact ⟨⟨none, 0, 0, rfl, rfl, .inl ⟨rfl, rfl⟩⟩, hb⟩
 ·obtain ⟨G, I, C, ρ, vl, vf, hv, hps, hrf, hrl, hn⟩ := hm
  exact list_ref W rb vl vf L F hrf.toRefW hj.fv (by have := hj.len; omega) s hs
theorem files_run (w : World) (hp : PkgOk w) (sa : Option Addr) (c : Nat) (os : List Op7) (hn : os.length ≤ 1048576) (hok : ∀ o ∈ os, o.ok) (hrd : RdO w sa os) :
  Calls Tryz.prog 3 #[.slice sa os.length c] w fun e w' => e = .returned (.bool true) ∧ Below w.heap.size w w' := files_code (list_law list_both) w hp sa c os hn hok hrd
end Go.Proofs.YtaieidcohdhgpaaGreatDoor
