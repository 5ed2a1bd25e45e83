/- Files: locateThere, followToGap, locateFirst, fileNumber, locateFile. Files: an entry made, an entry dropped, as it lies in memory; what may be made or linked. -/
import Derived.Test.YtfabjhgkigagpaaGreatDoorPAS
import Derived.Test.YtfabjhgkigagpaaGreatDoorPAF
import Derived.Deep.RegionHeld3
namespace Go.Proofs.YtfabjhgkigagpaaGreatDoor
open Go.RowKit
set_option maxHeartbeats 1000000
set_option maxRecDepth 100000
theorem alloc_name (w1 : World) (L : List Value) (t : TypeId) : ∃ W, w1.alloc (.cells L.toArray t) = W ∧ RowIs W w1.heap.size t L ∧ (∀ b t' R, RowIs w1 b t' R → RowIs W b t' R) ∧ W.heap.size = w1.heap.size + 1 ∧ Below w1.heap.size w1 W :=
  ⟨_, rfl, row_new w1 L t, fun _ _ _ h => h.alloc _, by simp, (Below.refl _ _).alloc (Nat.le_refl _) _⟩
abbrev zeroL : List Value := [.pointer none, .string ⟨#[]⟩, .bool false, .pointer none, .int .i64 0]
abbrev spotL (d : Option Addr) (n : ByteArray) (t : Bool) (u : VS) : List Value := [.pointer d, .string n, .bool t, .pointer u.p, .int .i64 u.f]
theorem there_code (w : World) (tb rd : Nat) (V : Nat → Value) (E : Nat → List (ByteArray × VS)) (vi : Value) (G : Gh) (I : List (Int × VF)) (C : Int → ByteArray) (h : TW w tb rd V E vi G I C) (hG : GOk G) (hGl : G.length ≤ 10000) (p : ByteArray) (hp : p.size ≤ 2000000) :
    Calls Tryz.prog 85 #[.pointer (some ⟨tb, 0, none⟩), .string p] w (TherePost G rd p w) := by
  have hal : ∀ o, Below w.heap.size w (w.alloc o) := fun o => (Below.refl _ _).alloc (Nat.le_refl _) o
  have hloc := fun o => locate_code (w.alloc o) tb rd V E vi G I C (h.below (hal o) (Nat.le_refl _)) hG hGl p hp true
  have HR0 := hide (row_new w zeroL 124)
  go_enter Tryz.func85, Tryz.ntmps85
  go_wp2_with fail
  refine (hloc _).mono ?_
  rintro e w1 ⟨hpost, hb1⟩
  have hb : Below w.heap.size w w1 := (hal _).trans (hb1.mono (by simp))
  have hr1 : RowIs w1 w.heap.size 124 zeroL := (hb1.block _ (by simp)).trans (unhide HR0)
  have hlt : w.heap.size < w1.heap.size := hr1.lt
  clear hloc hal h hb1 HR0
  rcases hpost with ⟨hne, rfl⟩ | ⟨he, hok, d, n, t, u, hsp, rfl⟩
  · have HE : Hid (thE G p = locE G p true) := by show _ = _; unfold thE; rw [if_pos hne]
    have HNE := hide hne
    have hne' : (locE G p true == 0) = false := by simpa using hne
    clear hne
    unfold noSpot spotV
    go_upto_if 20 with fail
    obtain ⟨W, hW, hx, hk, hsz, hbW⟩ := alloc_name w1 zeroL 124
    have hy := hk _ _ _ hr1
    have hb2 : Below w.heap.size w W := hb.trans (hbW.mono hb.size)
    rw [hW]
    clear hW hr1 hb hne' hk hbW
    have a0 := hx.cell 0; have a1 := hx.cell 1; have a2 := hx.cell 2; have a3 := hx.cell 3; have a4 := hx.cell 4
    have b0 := hy.cell 0; have b1 := hy.cell 1; have b2 := hy.cell 2; have b3 := hy.cell 3; have b4 := hy.cell 4
    have g0 := hy.frozen 0; have g1 := hy.frozen 1; have g2 := hy.frozen 2; have g3 := hy.frozen 3; have g4 := hy.frozen 4
    go_wp2
    have hR := set5 hy (.pointer none) (.string ⟨#[]⟩) (.bool false) (.pointer none) (.int .i64 0)
    have r0 := hR.cell 0; have r1 := hR.cell 1; have r2 := hR.cell 2; have r3 := hR.cell 3; have r4 := hR.cell 4
    exact bodyPost_ret (v := .tuple #[noSpot, .int .i64 (locE G p true)]) (by simp [results, Tryz.results85, go_sem, r0, r1, r2, r3, r4, noSpot, spotV]) rfl
      ⟨.inl ⟨by rw [unhide HE]; exact unhide HNE, by rw [unhide HE]⟩, below_set5 hb2 (Nat.le_refl _) _ _ _ _ _⟩
  · have HSP := hide hsp
    have HOK := hide hok
    have hth := spot_there hsp
    unfold spotV
    go_upto_if 20 with fail
    obtain ⟨W, hW, hx, hk, hsz, hbW⟩ := alloc_name w1 (spotL d n t u) 124
    have hy := hk _ _ _ hr1
    have hb2 : Below w.heap.size w W := hb.trans (hbW.mono hb.size)
    rw [hW]
    clear hW hr1 hb hk hbW hsp hok
    have a0 := hx.cell 0; have a1 := hx.cell 1; have a2 := hx.cell 2; have a3 := hx.cell 3; have a4 := hx.cell 4
    have b0 := hy.cell 0; have b1 := hy.cell 1; have b2 := hy.cell 2; have b3 := hy.cell 3; have b4 := hy.cell 4
    have g0 := hy.frozen 0; have g1 := hy.frozen 1; have g2 := hy.frozen 2; have g3 := hy.frozen 3; have g4 := hy.frozen 4
    cases t with
    | false =>
      have HE : Hid (thE G p = 3) := by show _ = _; unfold thE; rw [if_neg (by simpa using he), if_pos (hth.1 rfl)]
      clear he hth
      go_wp2
      have hR := set5 hy (.pointer none) (.string ⟨#[]⟩) (.bool false) (.pointer none) (.int .i64 0)
      have r0 := hR.cell 0; have r1 := hR.cell 1; have r2 := hR.cell 2; have r3 := hR.cell 3; have r4 := hR.cell 4
      exact bodyPost_ret (v := .tuple #[noSpot, .int .i64 3]) (by simp [results, Tryz.results85, go_sem, r0, r1, r2, r3, r4, noSpot, spotV]) rfl
        ⟨.inl ⟨by rw [unhide HE]; decide, by rw [unhide HE]⟩, below_set5 hb2 (Nat.le_refl _) _ _ _ _ _⟩
    | true =>
      have HE : Hid (thE G p = 0) := by show _ = _; unfold thE; rw [if_neg (by simpa using he), if_neg (fun h => by have := hth.2 h; cases this)]
      clear he hth
      go_wp2
      have hR := set5 hy (.pointer d) (.string n) (.bool true) (.pointer u.p) (.int .i64 u.f)
      have r0 := hR.cell 0; have r1 := hR.cell 1; have r2 := hR.cell 2; have r3 := hR.cell 3; have r4 := hR.cell 4
      exact bodyPost_ret (v := .tuple #[spotV d n true u, .int .i64 0]) (by simp [results, Tryz.results85, go_sem, r0, r1, r2, r3, r4, spotV]) rfl
        ⟨.inr ⟨unhide HE, unhide HOK, d, n, u, unhide HSP, rfl⟩, below_set5 hb2 (Nat.le_refl _) _ _ _ _ _⟩
/-- followToGap. -/
def gapE (G : Gh) (ns : List ByteArray) : Int := if ahG G (heads [] ns) ≠ 0 then ahG G (heads [] ns) else if ns = [] ∨ (atG G ns).isSome = true then 6 else 0
def GapPost (G : Gh) (rd : Nat) (ns : List ByteArray) (w : World) (e : Ending) (w' : World) : Prop :=
  ((gapE G ns ≠ 0 ∧ e = .returned (.tuple #[noSpot, .int .i64 (gapE G ns)])) ∨
   (gapE G ns = 0 ∧ ∃ ds n db, ns = ds ++ [n] ∧ IsDir G rd ds db ∧ atG G ns = none ∧ e = .returned (.tuple #[spotV (some ⟨db, 0, none⟩) n false ⟨none, 0⟩, .int .i64 0]))) ∧ Below w.heap.size w w'
theorem gap_code (w : World) (tb rd : Nat) (V : Nat → Value) (E : Nat → List (ByteArray × VS)) (vi : Value) (G : Gh) (I : List (Int × VF)) (C : Int → ByteArray) (h : TW w tb rd V E vi G I C) (hG : GOk G) (hGl : G.length ≤ 10000)
    (ns : List ByteArray) (hnl : ns.length ≤ 6) (av : Option Addr) (cv : Nat) (hN : Sl w 9 1 (.slice av ns.length cv) ns.length (ns.map .string)) :
    Calls Tryz.prog 90 #[.pointer (some ⟨tb, 0, none⟩), .slice av ns.length cv] w (GapPost G rd ns w) := by
  have hal : ∀ o, Below w.heap.size w (w.alloc o) := fun o => (Below.refl _ _).alloc (Nat.le_refl _) o
  have hfol := fun o => follow_code (w.alloc o) tb rd V E vi G hG hGl (h.below (hal o) (Nat.le_refl _)).t (h.below (hal o) (Nat.le_refl _)).d ns hnl av cv (hN.kept (fun k hk _ => (hal o).block k hk))
  have HR0 := hide (row_new w zeroL 124)
  go_enter Tryz.func90, Tryz.ntmps90
  go_wp2_with fail
  refine (hfol _).mono ?_
  rintro e w1 ⟨hpost, hb1⟩
  have hb : Below w.heap.size w w1 := (hal _).trans (hb1.mono (by simp))
  have hr1 : RowIs w1 w.heap.size 124 zeroL := (hb1.block _ (by simp)).trans (unhide HR0)
  have hlt : w.heap.size < w1.heap.size := hr1.lt
  clear hfol hal h hb1 HR0 hN
  rcases hpost with ⟨hne, rfl⟩ | ⟨he, d, n, t, u, hsp, rfl⟩
  · have HE : Hid (gapE G ns = ahG G (heads [] ns)) := by show _ = _; unfold gapE; rw [if_pos hne]
    have HNE := hide hne
    have hne' : (ahG G (heads [] ns) != 0) = true := by simpa using hne
    clear hne
    unfold noSpot spotV
    go_upto_if 15 with fail
    obtain ⟨W, hW, hx, hk, hsz, hbW⟩ := alloc_name w1 zeroL 124
    have hy := hk _ _ _ hr1
    have hb2 : Below w.heap.size w W := hb.trans (hbW.mono hb.size)
    rw [hW]
    clear hW hr1 hb hk hbW
    have b0 := hy.cell 0; have b1 := hy.cell 1; have b2 := hy.cell 2; have b3 := hy.cell 3; have b4 := hy.cell 4
    have g0 := hy.frozen 0; have g1 := hy.frozen 1; have g2 := hy.frozen 2; have g3 := hy.frozen 3; have g4 := hy.frozen 4
    go_wp2
    have hR := set5 hy (.pointer none) (.string ⟨#[]⟩) (.bool false) (.pointer none) (.int .i64 0)
    have r0 := hR.cell 0; have r1 := hR.cell 1; have r2 := hR.cell 2; have r3 := hR.cell 3; have r4 := hR.cell 4
    exact bodyPost_ret (v := .tuple #[noSpot, .int .i64 (ahG G (heads [] ns))]) (by simp [results, Tryz.results90, go_sem, r0, r1, r2, r3, r4, noSpot, spotV]) rfl
      ⟨.inl ⟨by rw [unhide HE]; exact unhide HNE, by rw [unhide HE]⟩, below_set5 hb2 (Nat.le_refl _) _ _ _ _ _⟩
  · have HSP := hide hsp
    have hth := spot_there hsp
    unfold spotV
    go_upto_if 15 with fail
    obtain ⟨W, hW, hx, hk, hsz, hbW⟩ := alloc_name w1 (spotL d n t u) 124
    have hy := hk _ _ _ hr1
    have hb2 : Below w.heap.size w W := hb.trans (hbW.mono hb.size)
    rw [hW]
    clear hW hr1 hb hk hbW hsp
    have a0 := hx.cell 0; have a1 := hx.cell 1; have a2 := hx.cell 2; have a3 := hx.cell 3; have a4 := hx.cell 4
    have b0 := hy.cell 0; have b1 := hy.cell 1; have b2 := hy.cell 2; have b3 := hy.cell 3; have b4 := hy.cell 4
    have g0 := hy.frozen 0; have g1 := hy.frozen 1; have g2 := hy.frozen 2; have g3 := hy.frozen 3; have g4 := hy.frozen 4
    cases t with
    | true =>
      have HE : Hid (gapE G ns = 6) := by
        show _ = _; unfold gapE
        rw [if_neg (by simpa using he), if_pos]
        by_cases h0 : ns = []
        · exact .inl h0
        · refine .inr ?_
          cases ha : atG G ns with
          | none => have := hth.2 ⟨h0, ha⟩; cases this
          | some u => rfl
      clear he hth
      go_wp2
      have hR := set5 hy (.pointer none) (.string ⟨#[]⟩) (.bool false) (.pointer none) (.int .i64 0)
      have r0 := hR.cell 0; have r1 := hR.cell 1; have r2 := hR.cell 2; have r3 := hR.cell 3; have r4 := hR.cell 4
      exact bodyPost_ret (v := .tuple #[noSpot, .int .i64 6]) (by simp [results, Tryz.results90, go_sem, r0, r1, r2, r3, r4, noSpot, spotV]) rfl
        ⟨.inl ⟨by rw [unhide HE]; decide, by rw [unhide HE]⟩, below_set5 hb2 (Nat.le_refl _) _ _ _ _ _⟩
    | false =>
      obtain ⟨hne, hat⟩ := hth.1 rfl
      have HE : Hid (gapE G ns = 0) := by show _ = _; unfold gapE; rw [if_neg (by simpa using he), if_neg (fun h => by rcases h with h | h; exact hne h; rw [hat] at h; cases h)]
      have HAT := hide hat
      have HX : Hid (∃ ds db, ns = ds ++ [n] ∧ IsDir G rd ds db ∧ d = some ⟨db, 0, none⟩ ∧ u = ⟨none, 0⟩) := by
        rcases unhide HSP with ⟨rfl, _⟩ | ⟨ds, db, h1, h2, h3, _, h5⟩
        · exact absurd rfl hne
        · exact ⟨ds, db, h1, h2, h3, by rw [h5, hat]; rfl⟩
      clear he hth hne hat
      go_wp2
      have hR := set5 hy (.pointer d) (.string n) (.bool false) (.pointer u.p) (.int .i64 u.f)
      have r0 := hR.cell 0; have r1 := hR.cell 1; have r2 := hR.cell 2; have r3 := hR.cell 3; have r4 := hR.cell 4
      obtain ⟨ds, db, h1, h2, h3, h4⟩ := unhide HX
      exact bodyPost_ret (v := .tuple #[spotV d n false u, .int .i64 0]) (by simp [results, Tryz.results90, go_sem, r0, r1, r2, r3, r4, spotV]) rfl
        ⟨.inr ⟨unhide HE, ds, n, db, h1, h2, unhide HAT, by rw [h3, h4]⟩, below_set5 hb2 (Nat.le_refl _) _ _ _ _ _⟩
/-- fileNumber, of a spot. -/
theorem fnum_code (d : Option Addr) (n : ByteArray) (t : Bool) (u : VS) (w : World) : Calls Tryz.prog 101 #[spotV d n t u] w fun e w' => e = .returned (if t = false then .tuple #[.int .i64 0, .int .i64 3] else if u.p.isSome = true then .tuple #[.int .i64 0, .int .i64 5] else .tuple #[.int .i64 u.f, .int .i64 0]) ∧ Below w.heap.size w w' := by
  obtain ⟨p, f⟩ := u
  unfold spotV
  have hal : ∀ o, Below w.heap.size w (w.alloc o) := fun o => (Below.refl _ _).alloc (Nat.le_refl _) o
  cases t with
  | false =>
    go_enter Tryz.func101, Tryz.ntmps101
    go_wp2
    go_ret2
    exact ⟨rfl, hal _⟩
  | true =>
    cases p with
    | none =>
      go_enter Tryz.func101, Tryz.ntmps101
      go_wp2
      go_ret2
      exact ⟨rfl, hal _⟩
    | some a =>
      go_enter Tryz.func101, Tryz.ntmps101
      go_wp2
      go_ret2
      exact ⟨rfl, hal _⟩
/-- locateFile. -/
def fileE (G : Gh) (p : ByteArray) (fits : Bool) : Int := if locE G p fits ≠ 0 then locE G p fits else if names p = [] then 5 else match atG G (names p) with | none => 3 | some u => if u.p.isSome = true then 5 else 0
def FilePost (G : Gh) (p : ByteArray) (fits : Bool) (w : World) (e : Ending) (w' : World) : Prop :=
  ((fileE G p fits ≠ 0 ∧ e = .returned (.tuple #[.int .i64 0, .int .i64 (fileE G p fits)])) ∨
   (fileE G p fits = 0 ∧ nmOk p = true ∧ ∃ u, atG G (names p) = some u ∧ u.p = none ∧ e = .returned (.tuple #[.int .i64 u.f, .int .i64 0]))) ∧ Below w.heap.size w w'
/-- What fileNumber says of a spot. -/
theorem spot_file {G : Gh} {rd : Nat} {ns : List ByteArray} {d : Option Addr} {n : ByteArray} {t : Bool} {u : VS} (h : SpotIs G rd ns d n t u) :
    (t = false ∧ ns ≠ [] ∧ atG G ns = none) ∨ (t = true ∧ u.p.isSome = true ∧ (ns = [] ∨ (ns ≠ [] ∧ atG G ns = some u))) ∨ (t = true ∧ u.p = none ∧ ns ≠ [] ∧ atG G ns = some u) := by
  rcases h with ⟨rfl, _, _, rfl, rfl⟩ | ⟨ds, db, rfl, _, _, rfl, rfl⟩
  · exact .inr (.inl ⟨rfl, rfl, .inl rfl⟩)
  · cases ha : atG G (ds ++ [n]) with
    | none => exact .inl ⟨rfl, by simp, rfl⟩
    | some u =>
      cases hu : u.p with
      | none => exact .inr (.inr ⟨rfl, by simpa using hu, by simp, rfl⟩)
      | some a => exact .inr (.inl ⟨rfl, by simp [hu], .inr ⟨by simp, rfl⟩⟩)
theorem locFile_code (w : World) (tb rd : Nat) (V : Nat → Value) (E : Nat → List (ByteArray × VS)) (vi : Value) (G : Gh) (I : List (Int × VF)) (C : Int → ByteArray) (h : TW w tb rd V E vi G I C) (hG : GOk G) (hGl : G.length ≤ 10000) (p : ByteArray) (hp : p.size ≤ 2000000) (fits : Bool) :
    Calls Tryz.prog 82 #[.pointer (some ⟨tb, 0, none⟩), .string p, .bool fits] w (FilePost G p fits w) := by
  have hloc := locate_code w tb rd V E vi G I C h hG hGl p hp fits
  go_enter Tryz.func82, Tryz.ntmps82
  go_wp2_with fail
  refine hloc.mono ?_
  rintro e w1 ⟨hpost, hb⟩
  clear hloc h
  rcases hpost with ⟨hne, rfl⟩ | ⟨he, hok, d, n, t, u, hsp, rfl⟩
  · have HE : Hid (fileE G p fits = locE G p fits) := by show _ = _; unfold fileE; rw [if_pos hne]
    have HNE := hide hne
    have hne' : (locE G p fits != 0) = true := by simpa using hne
    clear hne
    unfold noSpot spotV
    go_wp2
    go_ret2
    exact ⟨.inl ⟨by rw [unhide HE]; exact unhide HNE, by rw [unhide HE]; rfl⟩, hb.alloc hb.size _⟩
  · have HOK := hide hok
    have hsf := spot_file hsp
    have hfn := fun W => fnum_code d n t u W
    have HFN := hide hfn
    have HPOST : Hid (∀ W, Below w.heap.size w W → FilePost G p fits w (.returned (if t = false then .tuple #[.int .i64 0, .int .i64 3] else if u.p.isSome = true then .tuple #[.int .i64 0, .int .i64 5] else .tuple #[.int .i64 u.f, .int .i64 0])) W) := by
      intro W hW
      refine ⟨?_, hW⟩
      rcases hsf with ⟨rfl, h1, h2⟩ | ⟨rfl, h1, h2⟩ | ⟨rfl, h1, h2, h3⟩
      · have : fileE G p fits = 3 := by unfold fileE; rw [if_neg (by simpa using he), if_neg h1, h2]
        exact .inl ⟨by rw [this]; decide, by rw [this]; rfl⟩
      · have : fileE G p fits = 5 := by
          unfold fileE; rw [if_neg (by simpa using he)]
          rcases h2 with h2 | ⟨h2, h3⟩
          · rw [if_pos h2]
          · rw [if_neg h2, h3]; simp [h1]
        exact .inl ⟨by rw [this]; decide, by rw [this, if_neg (by simp), if_pos h1]⟩
      · have : fileE G p fits = 0 := by unfold fileE; rw [if_neg (by simpa using he), if_neg h2, h3]; simp [h1]
        exact .inr ⟨this, unhide HOK, u, h3, h1, by rw [if_neg (by simp), if_neg (by simp [h1])]⟩
    clear hsp he hok hsf hfn
    unfold spotV
    go_wp2_with fail
    refine (unhide HFN _).mono ?_
    rintro e w2 ⟨rfl, hb2⟩
    have hb3 : Below w.heap.size w w2 := (hb.alloc hb.size _).trans (hb2.mono (by have := hb.size; simp; omega))
    have HP := unhide HPOST w2 hb3
    obtain ⟨x, y, hxy⟩ : ∃ x y, (if t = false then Value.tuple #[.int .i64 0, .int .i64 3] else if u.p.isSome = true then .tuple #[.int .i64 0, .int .i64 5] else .tuple #[.int .i64 u.f, .int .i64 0]) = .tuple #[.int .i64 x, .int .i64 y] := by
      split
      · exact ⟨_, _, rfl⟩
      · split <;> exact ⟨_, _, rfl⟩
    rw [hxy] at HP ⊢
    have HP' := hide HP
    clear HP hxy HPOST HFN
    go_wp2
    go_ret2
    exact unhide HP'
/-- Stores into a spot's block leave a row of another type. -/
theorem sl_set5 {w : World} {e : TypeId} {sz : Nat} {v : Value} {n : Nat} {xs : List Value} {b : Nat} {t : TypeId} {L : List Value} (h : Sl w e sz v n xs) (hr : RowIs w b t L) (u0 u1 u2 u3 u4 : Value) (hte : e ≠ t := by decide) :
    Sl (((((w.setCell ⟨b, 0, none⟩ u0).setCell ⟨b, 1, none⟩ u1).setCell ⟨b, 2, none⟩ u2).setCell ⟨b, 3, none⟩ u3).setCell ⟨b, 4, none⟩ u4) e sz v n xs := by
  have hne : v.ownBlock ≠ some b := fun e' => by
    obtain ⟨R, hR⟩ := h.type e'
    exact hte (hR.type hr)
  exact ((((h.setCell ⟨b, 0, none⟩ u0 hne).setCell ⟨b, 1, none⟩ u1 hne).setCell ⟨b, 2, none⟩ u2 hne).setCell ⟨b, 3, none⟩ u3 hne).setCell ⟨b, 4, none⟩ u4 hne
/-- locateFirst. -/
def FirstPost (G : Gh) (rd : Nat) (p q : ByteArray) (w : World) (e : Ending) (w' : World) : Prop :=
  ((nmOk q = false ∧ e = .returned (.tuple #[noSpot, .slice none 0 0, .int .i64 1])) ∨
   (nmOk q = true ∧ ∃ a c, Sl w' 9 1 (.slice a (names q).length c) (names q).length ((names q).map .string) ∧
     ((locE G p true ≠ 0 ∧ e = .returned (.tuple #[noSpot, .slice a (names q).length c, .int .i64 (locE G p true)])) ∨
      (locE G p true = 0 ∧ nmOk p = true ∧ ∃ d n t u, SpotIs G rd (names p) d n t u ∧ e = .returned (.tuple #[spotV d n t u, .slice a (names q).length c, .int .i64 0]))))) ∧ Below w.heap.size w w'
theorem first_code (w : World) (tb rd : Nat) (V : Nat → Value) (E : Nat → List (ByteArray × VS)) (vi : Value) (G : Gh) (I : List (Int × VF)) (C : Int → ByteArray) (h : TW w tb rd V E vi G I C) (hG : GOk G) (hGl : G.length ≤ 10000) (p q : ByteArray) (hp : p.size ≤ 2000000) (hq : q.size ≤ 2000000) :
    Calls Tryz.prog 100 #[.pointer (some ⟨tb, 0, none⟩), .string p, .string q] w (FirstPost G rd p q w) := by
  obtain ⟨m, hm⟩ := h.pk.1
  have h0 : 0 < w.heap.size := World.block_lt_of_cell? _ _ hm
  have hal : ∀ o, Below w.heap.size w (w.alloc o) := fun o => (Below.refl _ _).alloc (Nat.le_refl _) o
  have hnm := fun o => names_code q m (w.alloc o) hq (((hal o).cell (p := ⟨0, 0, none⟩) h0).trans hm)
  have HR0 := hide (row_new w zeroL 124)
  go_enter Tryz.func100, Tryz.ntmps100
  go_wp2_with fail
  refine (hnm _).mono ?_
  rintro e w1 ⟨hpost, hb1⟩
  have hb : Below w.heap.size w w1 := (hal _).trans (hb1.mono (by simp))
  have hr1 : RowIs w1 w.heap.size 124 zeroL := (hb1.block _ (by simp)).trans (unhide HR0)
  have hlt : w.heap.size < w1.heap.size := hr1.lt
  have HH := hide h
  clear hnm hal h hb1 HR0
  rcases hpost with ⟨hn, rfl⟩ | ⟨hn, a, c, rfl, hSl⟩
  · have HN := hide hn
    have b0 := hr1.cell 0; have b1 := hr1.cell 1; have b2 := hr1.cell 2; have b3 := hr1.cell 3; have b4 := hr1.cell 4
    have g0 := hr1.frozen 0; have g1 := hr1.frozen 1; have g2 := hr1.frozen 2; have g3 := hr1.frozen 3; have g4 := hr1.frozen 4
    clear hn
    go_wp2
    have hR := set5 hr1 (.pointer none) (.string ⟨#[]⟩) (.bool false) (.pointer none) (.int .i64 0)
    have r0 := hR.cell 0; have r1 := hR.cell 1; have r2 := hR.cell 2; have r3 := hR.cell 3; have r4 := hR.cell 4
    exact bodyPost_ret (v := .tuple #[noSpot, .slice none 0 0, .int .i64 1]) (by simp [results, Tryz.results100, go_sem, r0, r1, r2, r3, r4, noSpot, spotV]) rfl
      ⟨.inl ⟨unhide HN, rfl⟩, below_set5 hb (Nat.le_refl _) _ _ _ _ _⟩
  · have HN := hide hn
    have h1 := (unhide HH).below hb (Nat.le_refl _)
    have hloc := locate_code w1 tb rd V E vi G I C h1 hG hGl p hp true
    obtain ⟨nl, hnl⟩ : ∃ nl, nl = (names q).length := ⟨_, rfl⟩
    have HNL := hide hnl
    rw [← hnl]
    clear hn h1 hnl
    go_wp2_with fail
    refine hloc.mono ?_
    rintro e w2 ⟨hpost, hb2⟩
    have hr2 : RowIs w2 w.heap.size 124 zeroL := (hb2.block _ hr1.lt).trans hr1
    have hb3 : Below w.heap.size w w2 := hb.trans (hb2.mono hb.size)
    have hSl2 : Sl w2 9 1 (.slice a (names q).length c) (names q).length ((names q).map .string) := hSl.kept (fun k hk _ => hb2.block k hk)
    have HSL := hide hSl2
    have hlt2 : w.heap.size < w2.heap.size := hr2.lt
    clear hloc hSl hSl2 hr1 hb hb2
    have hfin : ∀ (d : Option Addr) (n : ByteArray) (t : Bool) (u : VS) (W : World), w2.alloc (.cells (spotL d n t u).toArray 124) = W → RowIs W w2.heap.size 124 (spotL d n t u) ∧ RowIs W w.heap.size 124 zeroL ∧ Below w.heap.size w W ∧ Hid (Below w2.heap.size w2 W) := by
      intro d n t u W hW
      rw [← hW]
      exact ⟨row_new w2 _ _, hr2.alloc _, hb3.alloc hb3.size _, (Below.refl _ _).alloc (Nat.le_refl _) _⟩
    have HFIN := hide hfin
    clear hfin hr2 hb3
    rcases hpost with ⟨hne, rfl⟩ | ⟨he, hok, d, n, t, u, hsp, rfl⟩
    · have HNE := hide hne
      clear hne
      unfold noSpot spotV
      go_upto_region 5 with fail
      obtain ⟨W, hW⟩ : ∃ W, w2.alloc (.cells (spotL none ⟨#[]⟩ false ⟨none, 0⟩).toArray 124) = W := ⟨_, rfl⟩
      obtain ⟨hx, hy, hb4, HBW⟩ := unhide HFIN _ _ _ _ W hW
      rw [hW]
      clear hW HFIN
      have a0 := hx.cell 0; have a1 := hx.cell 1; have a2 := hx.cell 2; have a3 := hx.cell 3; have a4 := hx.cell 4
      have b0 := hy.cell 0; have b1 := hy.cell 1; have b2 := hy.cell 2; have b3 := hy.cell 3; have b4 := hy.cell 4
      have g0 := hy.frozen 0; have g1 := hy.frozen 1; have g2 := hy.frozen 2; have g3 := hy.frozen 3; have g4 := hy.frozen 4
      go_wp2
      have hR := set5 hy (.pointer none) (.string ⟨#[]⟩) (.bool false) (.pointer none) (.int .i64 0)
      have r0 := hR.cell 0; have r1 := hR.cell 1; have r2 := hR.cell 2; have r3 := hR.cell 3; have r4 := hR.cell 4
      exact bodyPost_ret (v := .tuple #[noSpot, .slice a nl c, .int .i64 (locE G p true)]) (by simp [results, Tryz.results100, go_sem, r0, r1, r2, r3, r4, noSpot, spotV]) rfl
        ⟨.inr ⟨unhide HN, a, c, sl_set5 ((unhide HSL).kept (fun k hk _ => (unhide HBW).block k hk)) hy _ _ _ _ _, .inl ⟨unhide HNE, by rw [unhide HNL]⟩⟩, below_set5 hb4 (Nat.le_refl _) _ _ _ _ _⟩
    · have HSP := hide hsp
      have HOK := hide hok
      have HE := hide he
      clear hsp hok he
      unfold spotV
      go_upto_region 5 with fail
      obtain ⟨W, hW⟩ : ∃ W, w2.alloc (.cells (spotL d n t u).toArray 124) = W := ⟨_, rfl⟩
      obtain ⟨hx, hy, hb4, HBW⟩ := unhide HFIN _ _ _ _ W hW
      rw [hW]
      clear hW HFIN
      have a0 := hx.cell 0; have a1 := hx.cell 1; have a2 := hx.cell 2; have a3 := hx.cell 3; have a4 := hx.cell 4
      have b0 := hy.cell 0; have b1 := hy.cell 1; have b2 := hy.cell 2; have b3 := hy.cell 3; have b4 := hy.cell 4
      have g0 := hy.frozen 0; have g1 := hy.frozen 1; have g2 := hy.frozen 2; have g3 := hy.frozen 3; have g4 := hy.frozen 4
      go_wp2
      have hR := set5 hy (.pointer d) (.string n) (.bool t) (.pointer u.p) (.int .i64 u.f)
      have r0 := hR.cell 0; have r1 := hR.cell 1; have r2 := hR.cell 2; have r3 := hR.cell 3; have r4 := hR.cell 4
      exact bodyPost_ret (v := .tuple #[spotV d n t u, .slice a nl c, .int .i64 0]) (by simp [results, Tryz.results100, go_sem, r0, r1, r2, r3, r4, spotV]) rfl
        ⟨.inr ⟨unhide HN, a, c, sl_set5 ((unhide HSL).kept (fun k hk _ => (unhide HBW).block k hk)) hy _ _ _ _ _, .inr ⟨unhide HE, unhide HOK, d, n, t, u, unhide HSP, by rw [unhide HNL]⟩⟩, below_set5 hb4 (Nat.le_refl _) _ _ _ _ _⟩
end Go.Proofs.YtfabjhgkigagpaaGreatDoor
namespace Go.Proofs.YtfabjhgkigagpaaGreatDoor
open Go.RowKit

set_option maxHeartbeats 1000000
set_option maxRecDepth 100000
theorem clone_code (s : ByteArray) (w : World) (hs : s.size ≤ 2000000) : Calls Tryz.prog 118 #[.string s] w fun e w' => e = .returned (.string s) ∧ Below w.heap.size w w' := by
  have hc := Tryz.stringslite_Clone s w (by omega)
  go_enter Tryz.func118, Tryz.ntmps118
  go_wp2_with fail
  refine hc.mono ?_
  rintro e w' ⟨rfl, hb⟩
  go_wp2
  go_ret
  exact ⟨rfl, hb⟩
theorem isRoot_code (d : Option Addr) (n : ByteArray) (t : Bool) (u : VS) (w : World) : Calls Tryz.prog 104 #[spotV d n t u] w fun e w' => e = .returned (.bool d.isNone) ∧ Below w.heap.size w w' := by
  unfold spotV
  cases d with
  | none =>
    go_enter Tryz.func104, Tryz.ntmps104
    go_wp2
    go_ret
    exact ⟨rfl, (Below.refl _ _).alloc (Nat.le_refl _) _⟩
  | some a =>
    go_enter Tryz.func104, Tryz.ntmps104
    go_wp2
    go_ret
    exact ⟨rfl, (Below.refl _ _).alloc (Nat.le_refl _) _⟩
theorem isFull_code (w : World) (b : Nat) (v : Value) (n : Nat) (xs : List Value) (hr : RowIs w b 131 [v]) (hS : Sl w 164 3 v n xs) : Calls Tryz.prog 130 #[.pointer (some ⟨b, 0, none⟩)] w fun e w' => e = .returned (.bool (decide (20 ≤ n))) ∧ w' = w := by
  have hl := lenS w b 0 v n xs (hr.cell 0) hS
  go_enter Tryz.func130, Tryz.ntmps130
  go_wp2_with fail
  refine hl.mono ?_
  rintro e w' ⟨rfl, rfl⟩
  have hdec : decide ((20 : Int) ≤ (n : Int)) = decide (20 ≤ n) := by rw [decide_eq_decide]; omega
  have HD := hide hdec
  clear hdec hl
  go_wp2
  go_ret
  exact ⟨by rw [← unhide HD]; rfl, rfl⟩
theorem enter_low (w : World) (db : Nat) (n : ByteArray) (hn : n.size ≤ 2000000) (t : Bool) (u0 u : VS) (v : Value) (es : List (ByteArray × VS)) (hr : RowIs w db 131 [v]) (hS : Sl w 164 3 v es.length (cellsS es)) (hl : es.length ≤ 10000) (hs : SrtS es) (hno : ∀ x ∈ es, x.1 ≠ n) :
    Calls Tryz.prog 92 #[spotV (some ⟨db, 0, none⟩) n t u0, .agg #[.pointer u.p, .int .i64 u.f]] w fun e w' => e = .returned (.tuple #[]) ∧ ∃ v' es', RowIs w' db 131 [v'] ∧ Sl w' 164 3 v' es'.length (cellsS es') ∧
      SrtS es' ∧ es'.length = es.length + 1 ∧ (∀ x, x ∈ es' ↔ x = (n, u) ∨ x ∈ es) ∧ NewOr w v v' ∧ Fr (fun k => k = db ∨ v.ownBlock = some k) w w' := by
  unfold spotV
  go_enter Tryz.func92, Tryz.ntmps92
  go_wp2
  obtain ⟨W1, hW1, hx1, hk1, hsz1, hb1⟩ := alloc_name w (spotL (some ⟨db, 0, none⟩) n t u0) 124
  obtain ⟨W2, hW2, hx2, hk2, hsz2, hb2⟩ := alloc_name W1 [.pointer u.p, .int .i64 u.f] 122
  have hx := hk2 _ _ _ hx1
  rw [hsz1] at hx2
  have hb : Below w.heap.size w W2 := hb1.trans (hb2.mono (by omega))
  rw [hW1, hW2]
  have a0 := hx.cell 0; have a1 := hx.cell 1; have c0 := hx2.cell 0; have c1 := hx2.cell 1
  have HPUT : Hid (∀ W', Below w.heap.size w W' → Calls Tryz.prog 124 #[.pointer (some ⟨db, 0, none⟩), .string n, .agg #[.pointer u.p, .int .i64 u.f]] W' fun e w' => e = .returned (.tuple #[]) ∧ ∃ v' es', RowIs w' db 131 [v'] ∧ Sl w' 164 3 v' es'.length (cellsS es') ∧
      SrtS es' ∧ es'.length = es.length + 1 ∧ (∀ x, x ∈ es' ↔ x = (n, u) ∨ x ∈ es) ∧ NewOr w v v' ∧ Fr (fun k => k = db ∨ v.ownBlock = some k) w w' ∧ ∀ k, k < W'.heap.size → w.heap.size ≤ k → w'.heap[k]? = W'.heap[k]?) := by
    intro W' hb'
    have hr' : RowIs W' db 131 [v] := (hb'.block _ hr.lt).trans hr
    have hS' : Sl W' 164 3 v es.length (cellsS es) := hS.kept (fun k hk _ => hb'.block k hk)
    have hne : v.ownBlock ≠ some db := fun e => by obtain ⟨R, hR⟩ := hS.type e; have := hR.type hr; revert this; decide
    refine (putNewS W' db 0 v es n u (hr'.cell 0) (hr'.frozen 0) hne hS' hl hs hno).mono ?_
    rintro e w' ⟨rfl, v', es', q1, q2, q3, q4, q5, q6, q7⟩
    refine ⟨rfl, v', es', ?_, q2, q3, q4, q5, fun g hg => ?_, ?_, fun k hk hkw => q7.block k hk (fun e => by have := hr.lt; omega) (fun e => by have := hS.lt e; omega)⟩
    · have h1 := q7.head
      have h2 := hr'.set 0 v'
      unfold RowIs at h2 ⊢
      rw [h1]; simpa using h2
    · rcases q6 g hg with h | h
      · exact .inl h
      · exact .inr (Nat.le_trans hb'.size h)
    · exact ⟨q7.os.trans hb'.os, q7.tape.trans hb'.tape, q7.output.trans hb'.output, Nat.le_trans hb'.size q7.size, fun k hk hX => (q7.block k (Nat.lt_of_lt_of_le hk hb'.size) (fun e => hX (.inl e)) (fun e => hX (.inr e))).trans (hb'.block k hk)⟩
  clear hW1 hW2 hx1 hk1 hk2 hb1 hb2 hr hS hl hs hno hx hx2
  go_region_held3 (fun W => W.cell? ⟨w.heap.size, 0, none⟩ = some (.pointer (some ⟨db, 0, none⟩)) ∧ W.cell? ⟨w.heap.size, 1, none⟩ = some (.string n) ∧ W.cell? ⟨w.heap.size + 1, 0, none⟩ = some (.pointer u.p) ∧ W.cell? ⟨w.heap.size + 1, 1, none⟩ = some (.int .i64 u.f)) (go_keep)
    (first | (go_at_call 118; refine (clone_code _ _ hn).mono ?_; rintro e w' ⟨rfl, hbc⟩; have hbd : Below w.heap.size w w' := (hb.drew).trans (hbc.mono (by have := hb.size; simp; omega)); have k0 := (hbc.cell (p := ⟨w.heap.size, 0, none⟩) (by simp; omega)).trans a0; have k1 := (hbc.cell (p := ⟨w.heap.size, 1, none⟩) (by simp; omega)).trans a1; have k2 := (hbc.cell (p := ⟨w.heap.size + 1, 0, none⟩) (by simp; omega)).trans c0; have k3 := (hbc.cell (p := ⟨w.heap.size + 1, 1, none⟩) (by simp; omega)).trans c1; clear hbc) | (go_at_call 124; refine (unhide HPUT _ (by assumption)).mono ?_; rintro e w'' ⟨rfl, v', es', q1, q2, q3, q4, q5, q6, q7, q8⟩; have m0 := (World.cell?_of_block (a := ⟨w.heap.size, 0, none⟩) (q8 _ (World.block_lt_of_cell? _ _ k0) (Nat.le_refl _))).trans k0; have m1 := (World.cell?_of_block (a := ⟨w.heap.size, 1, none⟩) (q8 _ (World.block_lt_of_cell? _ _ k1) (Nat.le_refl _))).trans k1; have m2 := (World.cell?_of_block (a := ⟨w.heap.size + 1, 0, none⟩) (q8 _ (World.block_lt_of_cell? _ _ k2) (Nat.le_succ _))).trans k2; have m3 := (World.cell?_of_block (a := ⟨w.heap.size + 1, 1, none⟩) (q8 _ (World.block_lt_of_cell? _ _ k3) (Nat.le_succ _))).trans k3))
  all_goals
    go_wp2
    go_end0
    exact ⟨rfl, v', es', q1, q2, q3, q4, q5, q6, q7⟩
theorem leave_low (w : World) (db : Nat) (n : ByteArray) (t : Bool) (u0 u : VS) (v : Value) (es : List (ByteArray × VS)) (hr : RowIs w db 131 [v]) (hS : Sl w 164 3 v es.length (cellsS es)) (hl : es.length ≤ 10000) (hs : SrtS es) (hin : (n, u) ∈ es) :
    Calls Tryz.prog 96 #[spotV (some ⟨db, 0, none⟩) n t u0] w fun e w' => e = .returned (.tuple #[]) ∧ ∃ v' es', RowIs w' db 131 [v'] ∧ Sl w' 164 3 v' es'.length (cellsS es') ∧
      SrtS es' ∧ es'.length + 1 = es.length ∧ (∀ x, x ∈ es' ↔ x ∈ es ∧ x.1 ≠ n) ∧ NewOr w v v' ∧ Fr (fun k => k = db ∨ v.ownBlock = some k) w w' := by
  unfold spotV
  go_enter Tryz.func96, Tryz.ntmps96
  go_wp2
  obtain ⟨W2, hW2, hx, hk1, hsz1, hb⟩ := alloc_name w (spotL (some ⟨db, 0, none⟩) n t u0) 124
  rw [hW2]
  have a0 := hx.cell 0; have a1 := hx.cell 1
  have HPUT : Hid (∀ W', Below w.heap.size w W' → Calls Tryz.prog 127 #[.pointer (some ⟨db, 0, none⟩), .string n] W' fun e w' => e = .returned (.tuple #[]) ∧ ∃ v' es', RowIs w' db 131 [v'] ∧ Sl w' 164 3 v' es'.length (cellsS es') ∧
      SrtS es' ∧ es'.length + 1 = es.length ∧ (∀ x, x ∈ es' ↔ x ∈ es ∧ x.1 ≠ n) ∧ NewOr w v v' ∧ Fr (fun k => k = db ∨ v.ownBlock = some k) w w' ∧ ∀ k, k < W'.heap.size → w.heap.size ≤ k → w'.heap[k]? = W'.heap[k]?) := by
    intro W' hb'
    have hr' : RowIs W' db 131 [v] := (hb'.block _ hr.lt).trans hr
    have hS' : Sl W' 164 3 v es.length (cellsS es) := hS.kept (fun k hk _ => hb'.block k hk)
    have hne : v.ownBlock ≠ some db := fun e => by obtain ⟨R, hR⟩ := hS.type e; have := hR.type hr; revert this; decide
    refine (dropS W' db 0 v es n u (hr'.cell 0) (hr'.frozen 0) hne hS' hl hs hin).mono ?_
    rintro e w' ⟨rfl, v', es', q1, q2, q3, q4, q5, q6, q7⟩
    refine ⟨rfl, v', es', ?_, q2, q3, q4, q5, fun g hg => ?_, ?_, fun k hk hkw => q7.block k hk (fun e => by have := hr.lt; omega) (fun e => by have := hS.lt e; omega)⟩
    · have h1 := q7.head
      have h2 := hr'.set 0 v'
      unfold RowIs at h2 ⊢
      rw [h1]; simpa using h2
    · rcases q6 g hg with h | h
      · exact .inl h
      · exact .inr (Nat.le_trans hb'.size h)
    · exact ⟨q7.os.trans hb'.os, q7.tape.trans hb'.tape, q7.output.trans hb'.output, Nat.le_trans hb'.size q7.size, fun k hk hX => (q7.block k (Nat.lt_of_lt_of_le hk hb'.size) (fun e => hX (.inl e)) (fun e => hX (.inr e))).trans (hb'.block k hk)⟩
  clear hW2 hk1 hr hS hl hs hin hx
  go_region_held3 (fun W => W.cell? ⟨w.heap.size, 0, none⟩ = some (.pointer (some ⟨db, 0, none⟩)) ∧ W.cell? ⟨w.heap.size, 1, none⟩ = some (.string n)) (go_keep)
    (first | (go_at_call 127; refine (unhide HPUT _ hb.drew).mono ?_; rintro e w'' ⟨rfl, v', es', q1, q2, q3, q4, q5, q6, q7, q8⟩; have m0 := (World.cell?_of_block (a := ⟨w.heap.size, 0, none⟩) (q8 _ (World.block_lt_of_cell? _ _ a0) (Nat.le_refl _))).trans a0; have m1 := (World.cell?_of_block (a := ⟨w.heap.size, 1, none⟩) (q8 _ (World.block_lt_of_cell? _ _ a1) (Nat.le_refl _))).trans a1))
  all_goals
    go_wp2
    go_end0
    exact ⟨rfl, v', es', q1, q2, q3, q4, q5, q6, q7⟩
/-- mayLink, mayMake. -/
theorem mayLink_code (w : World) (tb rd : Nat) (V : Nat → Value) (E : Nat → List (ByteArray × VS)) (vi : Value) (G : Gh) (I : List (Int × VF)) (C : Int → ByteArray) (h : TW w tb rd V E vi G I C) (hG : GOk G) (hGl : G.length ≤ 10000) (ds : List ByteArray) (db : Nat) (hd : IsDir G rd ds db) :
    Calls Tryz.prog 102 #[.pointer (some ⟨tb, 0, none⟩), .pointer (some ⟨db, 0, none⟩)] w fun e w' => e = .returned (.bool (decide (G.countP (qIn ds) < 20 ∧ G.length < 100))) ∧ Below w.heap.size w w' := by
  have hcnt := count_code G hG hGl rd V E 6 [] rd w (by simp) (.inl ⟨rfl, rfl⟩) h.d
  rw [cE_root hG] at hcnt
  have hfull := fun (W : World) (hb : Below w.heap.size w W) => isFull_code W db (V db) (E db).length (cellsS (E db)) ((h.d.below hb (Nat.le_refl _)).row ds db hd) ((h.d.below hb (Nat.le_refl _)).sl ds db hd)
  rw [h.d.len hG hd] at hfull
  have hc0 := h.t.cell 0
  obtain ⟨c, hc⟩ : ∃ c, c = G.countP (qIn ds) := ⟨_, rfl⟩
  have hcl : c ≤ 10000 := by rw [hc]; exact Nat.le_trans List.countP_le_length hGl
  rw [← hc] at hfull ⊢
  have HF := hide hfull
  clear hfull hc
  go_enter Tryz.func102, Tryz.ntmps102
  go_wp2_with fail
  refine hcnt.mono ?_
  rintro e w1 ⟨rfl, hb⟩
  clear hcnt hc0
  by_cases h20 : 20 ≤ c
  · have HD1 : Hid (decide (c < 20 ∧ G.length < 100) = false) := decide_eq_false (fun h => by omega)
    have hd1 : decide (20 ≤ c) = true := decide_eq_true h20
    go_wp2_with (first | (go_at_call 130; refine (unhide HF _ hb).mono ?_; rintro e w' ⟨rfl, hw⟩; rw [hw]; clear hw; rw [hd1]))
    go_ret
    exact ⟨by rw [unhide HD1]; rfl, hb⟩
  · have hd1 : decide (20 ≤ c) = false := decide_eq_false h20
    have HD1 : Hid (decide (c < 20 ∧ G.length < 100) = decide ((G.length : Int) < 100)) := by show _ = _; rw [decide_eq_decide]; omega
    go_wp2_with (first | (go_at_call 130; refine (unhide HF _ hb).mono ?_; rintro e w' ⟨rfl, hw⟩; rw [hw]; clear hw; rw [hd1]))
    go_ret
    exact ⟨by rw [unhide HD1]; rfl, hb⟩
theorem mayMake_code (w : World) (tb rd : Nat) (V : Nat → Value) (E : Nat → List (ByteArray × VS)) (vi : Value) (G : Gh) (I : List (Int × VF)) (C : Int → ByteArray) (h : TW w tb rd V E vi G I C) (hG : GOk G) (hGl : G.length ≤ 10000) (hIl : I.length ≤ 10000) (ds : List ByteArray) (db : Nat) (hd : IsDir G rd ds db) :
    Calls Tryz.prog 91 #[.pointer (some ⟨tb, 0, none⟩), .pointer (some ⟨db, 0, none⟩)] w fun e w' => e = .returned (.bool (decide ((G.countP (qIn ds) < 20 ∧ G.length < 100) ∧ cD G [] + I.length < 60))) ∧ Below w.heap.size w w' := by
  have hcnt := count_code G hG hGl rd V E 6 [] rd w (by simp) (.inl ⟨rfl, rfl⟩) h.d
  have hml := fun (W : World) (hb : Below w.heap.size w W) => mayLink_code W tb rd V E vi G I C (h.below hb (Nat.le_refl _)) hG hGl ds db hd
  have hli := fun (W : World) (hb : Below w.heap.size w W) => lenI W tb 1 vi I.length (cellsI I) ((h.below hb (Nat.le_refl _)).t.cell 1) (h.below hb (Nat.le_refl _)).i
  have hc0 := h.t.cell 0
  have hcd := cD_le G []
  obtain ⟨cd, hcd'⟩ : ∃ c, c = cD G [] := ⟨_, rfl⟩
  rw [← hcd'] at hcnt hcd ⊢
  have HM := hide hml
  have HLI := hide hli
  clear hml hli hcd'
  go_enter Tryz.func91, Tryz.ntmps91
  go_wp2_with fail
  refine hcnt.mono ?_
  rintro e w1 ⟨rfl, hb⟩
  clear hcnt hc0
  go_wp2_with fail
  refine (unhide HM _ hb).mono ?_
  rintro e w2 ⟨rfl, hb2⟩
  have hbb : Below w.heap.size w w2 := hb.trans (hb2.mono hb.size)
  by_cases hm : G.countP (qIn ds) < 20 ∧ G.length < 100
  · have hd1 : decide (G.countP (qIn ds) < 20 ∧ G.length < 100) = true := decide_eq_true hm
    rw [hd1]
    have HD1 : Hid (decide ((G.countP (qIn ds) < 20 ∧ G.length < 100) ∧ cd + I.length < 60) = decide ((cd : Int) + (I.length : Int) < 60)) := by show _ = _; rw [decide_eq_decide]; omega
    clear hd1
    go_wp2_with (first | (go_at_call 123; refine (unhide HLI _ hbb).mono ?_; rintro e w' ⟨rfl, hw⟩; rw [hw]; clear hw))
    go_ret
    exact ⟨by rw [unhide HD1]; rfl, hbb⟩
  · have hd1 : decide (G.countP (qIn ds) < 20 ∧ G.length < 100) = false := decide_eq_false hm
    rw [hd1]
    have HD1 : Hid (decide ((G.countP (qIn ds) < 20 ∧ G.length < 100) ∧ cd + I.length < 60) = false) := decide_eq_false (fun h => hm h.1)
    clear hd1
    go_wp2
    go_ret
    exact ⟨by rw [unhide HD1]; rfl, hbb⟩
end Go.Proofs.YtfabjhgkigagpaaGreatDoor
