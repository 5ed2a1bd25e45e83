/- Files: tell; the program's Stat. Files: makeFile; Write's deferred function. -/
import Derived.Test.YtfabjhgkigagpaaGreatDoorPAW
namespace Go.Proofs.YtfabjhgkigagpaaGreatDoor
open Go.RowKit

set_option maxHeartbeats 1000000
set_option maxRecDepth 100000
def dirV (name : ByteArray) (n : Nat) : Value := .agg #[.string name, .bool true, .int .i64 (n : Int), .int .i64 1]
def filV (name : ByteArray) (n : Nat) (l : Int) : Value := .agg #[.string name, .bool false, .int .i64 (n : Int), .int .i64 l]
theorem set4' {w : World} {b : Nat} {t : TypeId} {a0 a1 a2 a3 : Value} (h : RowIs w b t [a0, a1, a2, a3]) (u0 u1 u2 u3 : Value) : RowIs ((((w.setCell ⟨b, 0, none⟩ u0).setCell ⟨b, 1, none⟩ u1).setCell ⟨b, 2, none⟩ u2).setCell ⟨b, 3, none⟩ u3) b t [u0, u1, u2, u3] := by
  have := (((h.set 0 u0).set 1 u1).set 2 u2).set 3 u3
  simpa using this
theorem below_set4' {w w1 : World} {B b : Nat} (h : Below B w w1) (hb : B ≤ b) (u0 u1 u2 u3 : Value) : Below B w ((((w1.setCell ⟨b, 0, none⟩ u0).setCell ⟨b, 1, none⟩ u1).setCell ⟨b, 2, none⟩ u2).setCell ⟨b, 3, none⟩ u3) :=
  (((h.setCell (p := ⟨b, 0, none⟩) hb _).setCell (p := ⟨b, 1, none⟩) hb _).setCell (p := ⟨b, 2, none⟩) hb _).setCell (p := ⟨b, 3, none⟩) hb _
theorem tellD_code (w : World) (tb rd : Nat) (V : Nat → Value) (E : Nat → List (ByteArray × VS)) (vi : Value) (G : Gh) (I : List (Int × VF)) (C : Int → ByteArray) (h : TW w tb rd V E vi G I C) (hG : GOk G) (hGl : G.length ≤ 10000) (name : ByteArray) (hn : name.size ≤ 2000000) (ns : List ByteArray) (b : Nat) (hd : IsDir G rd ns b) :
    Calls Tryz.prog 88 #[.pointer (some ⟨tb, 0, none⟩), .string name, .agg #[.pointer (some ⟨b, 0, none⟩), .int .i64 0]] w fun e w' => e = .returned (dirV name (G.countP (qIn ns))) ∧ Below w.heap.size w w' := by
  have HH := hide h
  have hcnt := h.d.len hG hd
  have hlen := fun (W : World) (hb : Below w.heap.size w W) => lenS W b 0 (V b) (E b).length (cellsS (E b)) ((h.d.below hb (Nat.le_refl _)).row ns b hd |>.cell 0) ((h.d.below hb (Nat.le_refl _)).sl ns b hd)
  rw [hcnt] at hlen
  have hcl : G.countP (qIn ns) ≤ 10000 := Nat.le_trans List.countP_le_length hGl
  obtain ⟨c, hc⟩ : ∃ c, c = G.countP (qIn ns) := ⟨_, rfl⟩
  rw [← hc] at hlen hcl ⊢
  have HLEN := hide hlen
  clear hlen hc hcnt h
  go_enter Tryz.func88, Tryz.ntmps88
  go_wp2_with fail
  obtain ⟨W1, hW1, hx1, hk1, hsz1, hb1⟩ := alloc_name w [.pointer (some ⟨b, 0, none⟩), .int .i64 0] 122
  obtain ⟨W2, hW2, hx2, hk2, hsz2, hb2⟩ := alloc_name W1 [.string ⟨#[]⟩, .bool false, .int .i64 0, .int .i64 0] 51
  have hbw : Below w.heap.size w W2 := hb1.trans (hb2.mono (by omega))
  have y1 := hk2 _ _ _ hx1
  rw [hsz1] at hx2
  rw [hW1, hW2]
  clear hW1 hW2 hk1 hk2 hb1 hb2 hx1
  refine (clone_code _ _ hn).mono ?_
  rintro e w3 ⟨rfl, hb3⟩
  have z1 : RowIs w3 w.heap.size 122 _ := (hb3.block _ y1.lt).trans y1
  have z2 : RowIs w3 (w.heap.size + 1) 51 _ := (hb3.block _ hx2.lt).trans hx2
  have hbw3 : Below w.heap.size w w3 := hbw.trans (hb3.mono hbw.size)
  have a0 := z1.cell 0; have a1 := z1.cell 1
  have b0 := z2.cell 0; have b1 := z2.cell 1; have b2 := z2.cell 2; have b3 := z2.cell 3
  have f0 := z2.frozen 0; have f1 := z2.frozen 1; have f2 := z2.frozen 2; have f3 := z2.frozen 3
  clear y1 hx2 hbw hb3 hsz1 hsz2
  go_wp2_with (first | (go_at_call 86; refine (unhide HLEN _ hbw3).mono ?_; rintro e w' ⟨rfl, hw⟩; rw [hw]; clear hw))
  have hR := set4' z2 (.string name) (.bool true) (.int .i64 (c : Int)) (.int .i64 1)
  have r0 := hR.cell 0; have r1 := hR.cell 1; have r2 := hR.cell 2; have r3 := hR.cell 3
  exact bodyPost_ret (v := dirV name c) (by simp [results, Tryz.results88, go_sem, r0, r1, r2, r3, dirV]) rfl ⟨rfl, below_set4' hbw3 (Nat.le_succ _) _ _ _ _⟩
theorem tellF_code (w : World) (tb rd : Nat) (V : Nat → Value) (E : Nat → List (ByteArray × VS)) (vi : Value) (G : Gh) (I : List (Int × VF)) (C : Int → ByteArray) (h : TW w tb rd V E vi G I C) (hIl : I.length ≤ 10000) (name : ByteArray) (hn : name.size ≤ 2000000) (n : Int) (r : VF) (hin : (n, r) ∈ I) :
    Calls Tryz.prog 88 #[.pointer (some ⟨tb, 0, none⟩), .string name, .agg #[.pointer none, .int .i64 n]] w fun e w' => e = .returned (filV name r.l r.f) ∧ Below w.heap.size w w' := by
  have HGET : Hid (∀ W, Below w.heap.size w W → _) := fun W hb => getI_code W tb rd V E vi G I C (h.below hb (Nat.le_refl _)) hIl n r hin
  clear h hin
  go_enter Tryz.func88, Tryz.ntmps88
  go_wp2_with fail
  obtain ⟨W1, hW1, hx1, hk1, hsz1, hb1⟩ := alloc_name w [.pointer none, .int .i64 n] 122
  obtain ⟨W2, hW2, hx2, hk2, hsz2, hb2⟩ := alloc_name W1 [.string ⟨#[]⟩, .bool false, .int .i64 0, .int .i64 0] 51
  have hbw : Below w.heap.size w W2 := hb1.trans (hb2.mono (by omega))
  have y1 := hk2 _ _ _ hx1
  rw [hsz1] at hx2
  rw [hW1, hW2]
  clear hW1 hW2 hk1 hk2 hb1 hb2 hx1
  refine (clone_code _ _ hn).mono ?_
  rintro e W3 ⟨rfl, hb3⟩
  have z1 : RowIs W3 w.heap.size 122 _ := (hb3.block _ y1.lt).trans y1
  have z2 : RowIs W3 (w.heap.size + 1) 51 _ := (hb3.block _ hx2.lt).trans hx2
  have hbw3 : Below w.heap.size w W3 := hbw.trans (hb3.mono hbw.size)
  have a0 := z1.cell 0; have a1 := z1.cell 1
  have hlt3 : w.heap.size + 1 < W3.heap.size := z2.lt
  have hne0 : ¬ W3.heap.size = w.heap.size := by omega
  have hne2 : ¬ w.heap.size = W3.heap.size := by omega
  have hbd := hbw3.drew
  clear y1 hx2 hbw hb3 hsz1 hsz2
  go_upto_region 4 with fail
  go_region_held3 (fun W => W.cell? ⟨w.heap.size, 1, none⟩ = some (.int .i64 n)) (go_keep)
    (first | (go_at_call 83; refine (unhide HGET _ (by first | exact hbw3.drew | exact hbd.alloc hbd.size _ | exact (hbw3.alloc hbw3.size _).drew)).mono ?_; rintro e w' ⟨rfl, hbg⟩; have hb3 : Below W3.heap.size W3 w' := (by first | exact ((Below.refl _ W3).drew).trans (hbg.mono (by simp)) | exact (((Below.refl _ W3).alloc (Nat.le_refl _) _).drew).trans (hbg.mono (by simp))); have m0 := (hb3.cell (p := ⟨w.heap.size, 1, none⟩) (by show w.heap.size < W3.heap.size; omega)).trans a1; (try (have z : RowIs w' W3.heap.size 111 [.slice none 0 0, .int .i64 0] := (hbg.block W3.heap.size (by simp)).trans (row_new W3 [.slice none 0 0, .int .i64 0] 111); have z0 := z.cell 0; have z1 := z.cell 1; have zf0 := z.frozen 0; have zf1 := z.frozen 1))))
  case' refine_2.refine_3.refine_3.refine_3.refine_3.refine_3.refine_1.refine_2.refine_3.refine_3.refine_3.refine_1.refine_2.refine_1.refine_2.refine_3 =>
    obtain ⟨W4, hW4, hx7, hk4, hsz4, hb4⟩ := alloc_name w' [.slice r.a r.l r.c, .int .i64 r.f] 111
    rw [hW4]
    have hB4 : Below W3.heap.size W3 W4 := hb3.trans (hb4.mono hb3.size)
    have h7lt : W3.heap.size ≤ w'.heap.size := hb3.size
    obtain ⟨B7, hB7⟩ : ∃ b, b = w'.heap.size := ⟨_, rfl⟩
    rw [← hB7] at hx7 h7lt ⊢
    clear hW4 hk4 hsz4 hb4 hB7
  case' refine_2.refine_3.refine_3.refine_3.refine_3.refine_3.refine_2.refine_1.refine_2.refine_1.refine_2.refine_3.refine_3.refine_3.refine_1.refine_2.refine_3 =>
    have hx7 : RowIs ((w'.setCell ⟨W3.heap.size, 0, none⟩ (.slice r.a r.l r.c)).setCell ⟨W3.heap.size, 1, none⟩ (.int .i64 r.f)) W3.heap.size 111 [.slice r.a r.l r.c, .int .i64 r.f] := by
      have := (z.set 0 (.slice r.a r.l r.c)).set 1 (.int .i64 r.f)
      simpa using this
    have hB4 : Below W3.heap.size W3 ((w'.setCell ⟨W3.heap.size, 0, none⟩ (.slice r.a r.l r.c)).setCell ⟨W3.heap.size, 1, none⟩ (.int .i64 r.f)) := (hb3.setCell (p := ⟨W3.heap.size, 0, none⟩) (Nat.le_refl _) _).setCell (p := ⟨W3.heap.size, 1, none⟩) (Nat.le_refl _) _
    obtain ⟨W4, hW4⟩ : ∃ W4, (w'.setCell ⟨W3.heap.size, 0, none⟩ (.slice r.a r.l r.c)).setCell ⟨W3.heap.size, 1, none⟩ (.int .i64 r.f) = W4 := ⟨_, rfl⟩
    rw [hW4] at hx7 hB4 ⊢
    obtain ⟨B7, hB7⟩ : ∃ b, b = W3.heap.size := ⟨_, rfl⟩
    have h7lt : W3.heap.size ≤ B7 := by omega
    rw [← hB7] at hx7
    rw [show (Value.pointer (some { block := W3.heap.size, off := 0 })) = Value.pointer (some { block := B7, off := 0 }) by rw [hB7]]
    clear hW4 hB7
  all_goals
    have y2 : RowIs W4 (w.heap.size + 1) 51 _ := (hB4.block _ hlt3).trans z2
    have hbw4 : Below w.heap.size w W4 := hbw3.trans (hB4.mono hbw3.size)
    have b0 := y2.cell 0; have b1 := y2.cell 1; have b2 := y2.cell 2; have b3 := y2.cell 3
    have f0 := y2.frozen 0; have f1 := y2.frozen 1; have f2 := y2.frozen 2; have f3 := y2.frozen 3
    have c0 := hx7.cell 0; have c1 := hx7.cell 1
    clear hne0 hne2 hbd hbg hb3 m0 hB4 HGET hx7
    go_wp2
    have hR := set4' y2 (.string name) (.bool false) (.int .i64 (r.l : Int)) (.int .i64 r.f)
    have r0 := hR.cell 0; have r1 := hR.cell 1; have r2 := hR.cell 2; have r3 := hR.cell 3
    exact bodyPost_ret (v := filV name r.l r.f) (by simp [results, Tryz.results88, go_sem, r0, r1, r2, r3, filV]) rfl ⟨rfl, below_set4' hbw4 (Nat.le_succ _) _ _ _ _⟩
/-- What is told of an entry. -/
def tellV (G : Gh) (I : List (Int × VF)) (ns : List ByteArray) (name : ByteArray) (u : VS) (v : Value) : Prop :=
  (u.p.isSome = true ∧ v = dirV name (G.countP (qIn ns))) ∨ (u.p = none ∧ ∃ r, (u.f, r) ∈ I ∧ v = filV name r.l r.f)
theorem tell_code (w : World) (tb rd : Nat) (V : Nat → Value) (E : Nat → List (ByteArray × VS)) (vi : Value) (G : Gh) (I : List (Int × VF)) (C : Int → ByteArray) (h : TW w tb rd V E vi G I C) (hG : GOk G) (hGl : G.length ≤ 10000) (hIl : I.length ≤ 10000) (hFl : FlOk G I) (name : ByteArray) (hn : name.size ≤ 2000000) (ns : List ByteArray) (u : VS)
    (hu : (∃ b, u = ⟨some ⟨b, 0, none⟩, 0⟩ ∧ IsDir G rd ns b) ∨ (u.p = none ∧ ∃ x ∈ G, x.2 = u)) :
    Calls Tryz.prog 88 #[.pointer (some ⟨tb, 0, none⟩), .string name, .agg #[.pointer u.p, .int .i64 u.f]] w fun e w' => ∃ v, e = .returned v ∧ tellV G I ns name u v ∧ Below w.heap.size w w' := by
  rcases hu with ⟨b, rfl, hd⟩ | ⟨hp, x, hx, rfl⟩
  · refine (tellD_code w tb rd V E vi G I C h hG hGl name hn ns b hd).mono ?_
    rintro e w' ⟨rfl, hb⟩
    exact ⟨_, rfl, .inl ⟨rfl, rfl⟩, hb⟩
  · obtain ⟨r, hin, _, _⟩ := hFl x hx hp
    rw [hp]
    refine (tellF_code w tb rd V E vi G I C h hIl name hn x.2.f r hin).mono ?_
    rintro e w' ⟨rfl, hb⟩
    exact ⟨_, rfl, .inr ⟨hp, r, hin, rfl⟩, hb⟩
theorem tellV_shape {G : Gh} {I : List (Int × VF)} {ns : List ByteArray} {name : ByteArray} {u : VS} {v : Value} (h : tellV G I ns name u v) : ∃ b c d, v = .agg #[.string name, .bool b, .int .i64 c, .int .i64 d] := by
  rcases h with ⟨_, rfl⟩ | ⟨_, r, _, rfl⟩
  · exact ⟨_, _, _, rfl⟩
  · exact ⟨_, _, _, rfl⟩
/-- Tree.Stat. -/
def StPost (w : World) (G : Gh) (I : List (Int × VF)) (p : ByteArray) (e : Ending) (w' : World) : Prop :=
  ((thE G p ≠ 0 ∧ e = .returned (.tuple #[noEntry, .int .i64 (thE G p)])) ∨
   (thE G p = 0 ∧ ∃ v, ((names p = [] ∧ v = dirV ⟨#[]⟩ (G.countP (qIn []))) ∨ ∃ ds n u, names p = ds ++ [n] ∧ atG G (names p) = some u ∧ tellV G I (names p) n u v) ∧ e = .returned (.tuple #[v, .int .i64 0]))) ∧ Below w.heap.size w w'
theorem statT_code (w : World) (tb rd : Nat) (V : Nat → Value) (E : Nat → List (ByteArray × VS)) (vi : Value) (G : Gh) (I : List (Int × VF)) (C : Int → ByteArray) (h : TW w tb rd V E vi G I C) (hG : GOk G) (hGl : G.length ≤ 10000) (hIl : I.length ≤ 10000) (hFl : FlOk G I) (p : ByteArray) (hp : p.size ≤ 2000000) :
    Calls Tryz.prog 50 #[.pointer (some ⟨tb, 0, none⟩), .string p] w (StPost w G I p) := by
  have hal : ∀ o, Below w.heap.size w (w.alloc o) := fun o => (Below.refl _ _).alloc (Nat.le_refl _) o
  have hth := fun o => there_code (w.alloc o) tb rd V E vi G I C (h.below (hal o) (Nat.le_refl _)) hG hGl p hp
  have HR0 := hide (row_new w [.string ⟨#[]⟩, .bool false, .int .i64 0, .int .i64 0] 51)
  have HH := hide h
  have HFL := hide hFl
  clear h hFl
  go_enter Tryz.func50, Tryz.ntmps50
  go_wp2_with fail
  refine (hth _).mono ?_
  rintro e w1 ⟨hpost, hb1⟩
  have hb : Below w.heap.size w w1 := (hal _).trans (hb1.mono (by simp))
  have hr1 : RowIs w1 w.heap.size 51 _ := (hb1.block _ (by simp)).trans (unhide HR0)
  have hlt : w.heap.size < w1.heap.size := hr1.lt
  clear hth hal hb1 HR0
  rcases hpost with ⟨hne, rfl⟩ | ⟨he, hok, d, n, u, hsp, rfl⟩
  · have HNE := hide hne
    have hne' : (thE G p != 0) = true := by simpa using hne
    clear hne
    unfold noSpot spotV
    go_upto_if 15 with fail
    obtain ⟨W, hW, hx, hk, hsz, hbW⟩ := alloc_name w1 zeroL 124
    have hy := hk _ _ _ hr1
    have hb2 : Below w.heap.size w W := hb.trans (hbW.mono hb.size)
    rw [hW]
    clear hW hr1 hb hk hbW
    have b0 := hy.cell 0; have b1 := hy.cell 1; have b2 := hy.cell 2; have b3 := hy.cell 3
    have g0 := hy.frozen 0; have g1 := hy.frozen 1; have g2 := hy.frozen 2; have g3 := hy.frozen 3
    go_wp2
    have hR := set4' hy (.string ⟨#[]⟩) (.bool false) (.int .i64 0) (.int .i64 0)
    have r0 := hR.cell 0; have r1 := hR.cell 1; have r2 := hR.cell 2; have r3 := hR.cell 3
    exact bodyPost_ret (v := .tuple #[noEntry, .int .i64 (thE G p)]) (by simp [results, Tryz.results50, go_sem, r0, r1, r2, r3, noEntry]) rfl
      ⟨.inl ⟨unhide HNE, rfl⟩, below_set4' hb2 (Nat.le_refl _) _ _ _ _⟩
  · have HSP := hide hsp
    have HE := hide he
    have hcs := spot_cases (unhide HH).d hsp
    have hname : n.size ≤ 2000000 := by
      rcases hsp with ⟨_, _, rfl, _⟩ | ⟨ds, db, h1, _⟩
      · exact Nat.zero_le _
      · exact name_size hok h1
    clear hsp he hok
    unfold spotV
    go_upto_if 15 with fail
    obtain ⟨W, hW, hx, hk, hsz, hbW⟩ := alloc_name w1 (spotL d n true u) 124
    have hy := hk _ _ _ hr1
    have hb2 : Below w.heap.size w W := hb.trans (hbW.mono hb.size)
    rw [hW]
    clear hW hr1 hb hk hbW
    have a0 := hx.cell 0; have a1 := hx.cell 1; have a2 := hx.cell 2; have a3 := hx.cell 3; have a4 := hx.cell 4
    have htell := tell_code W tb rd V E vi G I C ((unhide HH).below hb2 (Nat.le_refl _)) hG hGl hIl (unhide HFL) n hname (names p) u (by
      rcases hcs with ⟨h1, _⟩ | ⟨_, _, h2, h3⟩ | ⟨_, b, h2, h3, _⟩
      · cases h1
      · exact .inr ⟨h3, _, atG_mem h2, rfl⟩
      · exact .inl ⟨b, h2, h3⟩)
    have HT := hide htell
    clear htell hcs
    go_wp2_with fail
    refine (unhide HT).mono ?_
    rintro e w3 ⟨v, rfl, htv, hb3⟩
    obtain ⟨vb, vc, vd, rfl⟩ := tellV_shape htv
    have hy3 : RowIs w3 w.heap.size 51 _ := (hb3.block _ hy.lt).trans hy
    have hb4 : Below w.heap.size w w3 := hb2.trans (hb3.mono hb2.size)
    have b0 := hy3.cell 0; have b1 := hy3.cell 1; have b2 := hy3.cell 2; have b3 := hy3.cell 3
    have g0 := hy3.frozen 0; have g1 := hy3.frozen 1; have g2 := hy3.frozen 2; have g3 := hy3.frozen 3
    have HTV := hide htv
    clear htv HT hy hx
    go_wp2
    have hR := set4' hy3 (.string n) (.bool vb) (.int .i64 vc) (.int .i64 vd)
    have r0 := hR.cell 0; have r1 := hR.cell 1; have r2 := hR.cell 2; have r3 := hR.cell 3
    refine bodyPost_ret (v := .tuple #[.agg #[.string n, .bool vb, .int .i64 vc, .int .i64 vd], .int .i64 0]) (by simp [results, Tryz.results50, go_sem, r0, r1, r2, r3]) rfl
      ⟨.inr ⟨unhide HE, _, ?_, rfl⟩, below_set4' hb4 (Nat.le_refl _) _ _ _ _⟩
    rcases unhide HSP with ⟨h1, _, h3, _, h5⟩ | ⟨ds, db, h1, _⟩
    · refine .inl ⟨h1, ?_⟩
      rcases unhide HTV with ⟨_, e⟩ | ⟨hp, _⟩
      · rw [e, h1, h3]
      · rw [h5] at hp; cases hp
    · have hne : names p ≠ [] := by rw [h1]; simp
      obtain ⟨ds', db', h1', _, _, h4⟩ := (unhide HSP).in hne
      exact .inr ⟨ds', n, u, h1', h4, unhide HTV⟩
end Go.Proofs.YtfabjhgkigagpaaGreatDoor
namespace Go.Proofs.YtfabjhgkigagpaaGreatDoor
open Go.RowKit

set_option maxHeartbeats 1000000
set_option maxRecDepth 100000
theorem RowIs.prog {tb : Nat} {w w' : World} {k : Nat} {t : TypeId} {R : List Value} (h : RowIs w k t R) (hf : Fr (ProgT tb w) w w') (ht : ¬ (t = 118 ∨ t = 131 ∨ t = 164 ∨ t = 160)) : RowIs w' k t R :=
  h.fr hf (fun ⟨⟨t', R', hR, ht'⟩, _⟩ => ht (by rw [h.type hR]; exact ht'))
theorem makeFile_code (w : World) (tb rd : Nat) (V : Nat → Value) (E : Nat → List (ByteArray × VS)) (vi : Value) (G : Gh) (I : List (Int × VF)) (C : Int → ByteArray) (h : TW w tb rd V E vi G I C) (hG : GOk G) (hGl : G.length ≤ 10000) (hIl : I.length + 1 ≤ 10000) (hI0 : ∀ x ∈ I, 0 ≤ x.1) (ds : List ByteArray) (db : Nat) (hdir : IsDir G rd ds db) (n : ByteArray) (hn : n.size ≤ 2000000) (hat : atG G (ds ++ [n]) = none) :
    Calls Tryz.prog 94 #[.pointer (some ⟨tb, 0, none⟩), spotV (some ⟨db, 0, none⟩) n false ⟨none, 0⟩] w fun e w' => ∃ f : Nat, e = .returned (.int .i64 f) ∧ f ≤ I.length ∧ (∀ x ∈ I, x.1 ≠ f) ∧ Fr (ProgT tb w) w w' ∧ ∃ V' E' vi' I', TW w' tb rd V' E' vi' (G ++ [(ds ++ [n], ⟨none, (f : Int)⟩)]) I' (fun k => if k = (f : Int) then ⟨#[]⟩ else C k) ∧ I'.length = I.length + 1 ∧ ∀ x, x ∈ I' ↔ x = ((f : Int), ⟨none, 0, 0, 1⟩) ∨ x ∈ I := by
  unfold spotV
  go_enter Tryz.func94, Tryz.ntmps94
  go_wp2_with fail
  obtain ⟨W1, hW1, hx1, hk1, hsz1, hb1⟩ := alloc_name w (spotL (some ⟨db, 0, none⟩) n false ⟨none, 0⟩) 124
  rw [hW1]
  have h1 := h.below hb1 (Nat.le_refl _)
  refine (free_code W1 tb _ vi I h1.t h1.i (by omega) h1.si hI0).mono ?_
  rintro e w2 ⟨f, rfl, hf1, hf2, hb2⟩
  have h2 := h1.below hb2 (Nat.le_refl _)
  have hx2 : RowIs w2 w.heap.size 124 _ := (hb2.block _ hx1.lt).trans hx1
  have hput := putNew_code w2 tb rd V E vi G I C h2 (by omega) (f : Int) ⟨none, 0, 0, 1⟩ hf2 ⟨#[]⟩ ⟨rfl, .inl ⟨rfl, rfl⟩⟩
  have HPUT := hide hput
  have H2 := hide h2
  have HF2 := hide hf2
  have hb : Below w.heap.size w w2 := hb1.trans (hb2.mono hb1.size)
  clear hW1 hx1 hk1 hsz1 hput h1 h2 hf2 h hb1 hb2
  go_wp2_with fail
  refine (unhide HPUT).mono ?_
  rintro e w3 ⟨rfl, ⟨vi', I', q1, q2, q3⟩, q4⟩
  have hx3 : RowIs w3 w.heap.size 124 _ := hx2.fr q4 (fun e => by
    rcases e with e | e
    · have := (unhide H2).t; rw [← e] at this; have := this.type hx2; revert this; decide
    · obtain ⟨R, hR⟩ := (unhide H2).i.type e; have := hR.type hx2; revert this; decide)
  have HFR3 : Hid (Fr (ProgT tb w) w w3) := Fr.prog hb (Fr.progI (unhide H2) q4)
  have hent := link_end w3 tb rd V E vi' G I' _ q1 hG hGl (by rw [q2]; exact hIl) ds db hdir n hn hat (f : Int)
  unfold spotV at hent
  have HENT := hide hent
  have HI := hide q3
  have HIL := hide q2
  have a0 := hx3.cell 0; have a1 := hx3.cell 1; have a2 := hx3.cell 2; have a3 := hx3.cell 3; have a4 := hx3.cell 4
  clear hent q1 q2 q3 q4 HPUT hx3 hx2
  go_wp2_with fail
  refine (unhide HENT).mono ?_
  rintro e w4 ⟨rfl, V', E', h4, hf4⟩
  have HFIN : Hid (Fr (ProgT tb w) w w4 ∧ ∃ V' E' vi' I', TW w4 tb rd V' E' vi' (G ++ [(ds ++ [n], ⟨none, (f : Int)⟩)]) I' (fun k => if k = (f : Int) then ⟨#[]⟩ else C k) ∧ I'.length = I.length + 1 ∧ ∀ x, x ∈ I' ↔ x = ((f : Int), ⟨none, 0, 0, 1⟩) ∨ x ∈ I) := ⟨(unhide HFR3).progTrans hf4, V', E', vi', I', h4, unhide HIL, unhide HI⟩
  clear h4 hf4 HENT
  go_wp2
  go_ret
  exact ⟨f, rfl, hf1, unhide HF2, unhide HFIN⟩
/-- Write's deferred function: what was made is taken back. -/
theorem write1_code (B8 B10 B4 B12 : Nat) (u : FrameMode) (w : World) (tb rd : Nat) (V : Nat → Value) (E : Nat → List (ByteArray × VS)) (vi : Value) (G : Gh) (I : List (Int × VF)) (C : Int → ByteArray) (h : TW w tb rd V E vi G I C) (hG : GOk G) (hGl : G.length ≤ 10000) (hIl : I.length ≤ 10000) (ds : List ByteArray) (db : Nat) (hdir : IsDir G rd ds db) (n : ByteArray) (t : Bool) (u0 : VS) (f : Int) (hin : (ds ++ [n], (⟨none, f⟩ : VS)) ∈ G) (r : VF) (hfi : (f, r) ∈ I) (hr : r.f = 1) (ans : Int)
    (h8 : RowIs w B8 44 [.int .i64 ans]) (h10 : RowIs w B10 124 (spotL (some ⟨db, 0, none⟩) n t u0)) (h4 : RowIs w B4 27 [.pointer (some ⟨tb, 0, none⟩)]) (h12 : RowIs w B12 3 [.int .i64 f]) :
    CallsD Tryz.prog 95 #[.pointer (some ⟨B8, 0, none⟩), .pointer (some ⟨B10, 0, none⟩), .pointer (some ⟨B4, 0, none⟩), .pointer (some ⟨B12, 0, none⟩)] u w fun e u' w' => u' = u ∧ (e = .returned (.tuple #[]) ∧ RowIs w' B8 44 [.int .i64 ans] ∧ Fr (ProgT tb w) w w' ∧ ((ans = 0 ∧ w' = w) ∨ (ans ≠ 0 ∧ ∃ V' E' vi' I', TW w' tb rd V' E' vi' (gone G (ds ++ [n])) I' C ∧ IDrop I I' f))) := by
  have a0 := h8.cell 0
  by_cases ha : ans = 0
  · have ha' : (ans != 0) = false := by simpa using ha
    go_enter_d Tryz.func95, Tryz.ntmps95
    go_wp2
    go_end0
    exact ⟨rfl, h8, Fr.refl _ _, .inl ⟨ha, rfl⟩⟩
  · have ha' : (ans != 0) = true := by simpa using ha
    have hmem : (n, (⟨none, f⟩ : VS)) ∈ E db := (h.d.en ds db hdir n _).2 hin
    have hlv := leave_low w db n t u0 ⟨none, f⟩ (V db) (E db) (h.d.row ds db hdir) (h.d.sl ds db hdir) (Nat.le_trans (h.d.le hG hdir) hGl) (h.d.srt ds db hdir) hmem
    unfold spotV at hlv
    have HLV := hide hlv
    have HH := hide h
    have HA := hide ha
    have c0 := h10.cell 0; have c1 := h10.cell 1; have c2 := h10.cell 2; have c3 := h10.cell 3; have c4 := h10.cell 4
    have H8 := hide h8
    have H4 := hide h4
    have H12 := hide h12
    clear hlv h hmem ha h8 h4 h12
    go_enter_d Tryz.func95, Tryz.ntmps95
    go_wp2_with fail
    refine (unhide HLV).mono ?_
    rintro e w2 ⟨rfl, v', es', q1, q2, q3, q4, q5, q6, q7⟩
    have hh := unhide HH
    have hrow := hh.d.row ds db hdir
    have hsl := hh.d.sl ds db hdir
    have hkeep : ∀ k t R, RowIs w k t R → t ≠ 131 → t ≠ 164 → RowIs w2 k t R := fun k t R hR h1 h2 => hR.fr q7 (fun e => by
      rcases e with rfl | e
      · exact h1 (hR.type hrow)
      · obtain ⟨R', hR'⟩ := hsl.type e; exact h2 (hR.type hR'))
    have hT2 := TW.dirs hh hrow hsl q7 (hh.d.del hG hdir (G' := gone G (ds ++ [n])) (n := n) (gone_del G _) q1 q2 q3 q5 q6 q7)
    have hul := unlink_code w2 tb rd _ _ vi (gone G (ds ++ [n])) I C hT2 hIl f r hfi (by omega) (by omega)
    have HUL := hide hul
    have HF2 : Hid (Fr (ProgT tb w) w w2) := Fr.progOne (hh.dlo hdir) hrow hsl q7
    have k8 := hkeep _ _ _ (unhide H8) (by decide) (by decide)
    have k4 := hkeep _ _ _ (unhide H4) (by decide) (by decide)
    have k12 := hkeep _ _ _ (unhide H12) (by decide) (by decide)
    have d4 := k4.cell 0; have d12 := k12.cell 0
    clear hh hrow hsl hkeep hT2 hul q1 q2 q3 q4 q5 q6 q7 HLV c0 c1 c2 c3 c4
    go_wp2_with fail
    refine (unhide HUL).mono ?_
    rintro e w3 ⟨rfl, ⟨vi', I', q1, q2⟩, q3⟩
    clear HUL
    go_wp2
    go_end0
    refine ⟨rfl, k8.prog q3 (by decide), (unhide HF2).progTrans q3, .inr ⟨unhide HA, _, _, vi', I', q1, ?_⟩⟩
    rcases q2 with ⟨_, q2⟩ | ⟨h1, _⟩
    · exact q2
    · exact absurd hr h1
end Go.Proofs.YtfabjhgkigagpaaGreatDoor
