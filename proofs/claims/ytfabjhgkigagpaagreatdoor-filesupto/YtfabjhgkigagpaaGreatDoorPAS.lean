/- Files: the program goes through the names of a path: follow, locate and their kin. Files: locate and its kin; what may be made, linked, moved. -/
import Derived.Test.YtfabjhgkigagpaaGreatDoorPAQ
import Derived.Test.YtfabjhgkigagpaaGreatDoorPAP
import Derived.Test.YtfabjhgkigagpaaGreatDoorPAR
namespace Go.Proofs.YtfabjhgkigagpaaGreatDoor
open Go.RowKit

set_option maxHeartbeats 1000000
set_option maxRecDepth 100000
theorem heads_app : ∀ (d xs : List ByteArray) (y : ByteArray) (ys : List ByteArray), xs ≠ [] → heads d (xs ++ y :: ys) = heads d xs ++ (d ++ xs) :: heads (d ++ xs) (y :: ys)
  | d, [], y, ys, h => absurd rfl h
  | d, [x], y, ys, _ => by simp [heads]
  | d, x :: x' :: xs, y, ys, _ => by
    have := heads_app (d ++ [x]) (x' :: xs) y ys (by simp)
    rw [List.cons_append, List.cons_append, heads, heads, ← List.cons_append, this]
    simp
theorem ahG_app (G : Gh) : ∀ (A B : List (List ByteArray)), ahG G A = 0 → ahG G (A ++ B) = ahG G B
  | [], B, _ => rfl
  | q :: A, B, h => by
    rw [List.cons_append, ahG]
    rw [ahG] at h
    cases hq : atG G q with
    | none => rw [hq] at h; simp at h
    | some u =>
      rw [hq] at h
      by_cases hu : u.p.isSome = true
      · simp only [hu, if_true] at h ⊢; exact ahG_app G A B h
      · simp [hu] at h
theorem ah_none {G : Gh} {xs : List ByteArray} {y : ByteArray} {ys : List ByteArray} (hne : xs ≠ []) (h0 : ahG G (heads [] xs) = 0) (h : atG G xs = none) : ahG G (heads [] (xs ++ y :: ys)) = 3 := by
  rw [heads_app [] xs y ys hne, ahG_app G _ _ h0, ahG, List.nil_append, h]
theorem ah_file {G : Gh} {xs : List ByteArray} {y : ByteArray} {ys : List ByteArray} {u : VS} (hne : xs ≠ []) (h0 : ahG G (heads [] xs) = 0) (h : atG G xs = some u) (hu : u.p = none) : ahG G (heads [] (xs ++ y :: ys)) = 4 := by
  rw [heads_app [] xs y ys hne, ahG_app G _ _ h0, ahG, List.nil_append, h]; simp [hu]
theorem ah_dir {G : Gh} {xs : List ByteArray} {y : ByteArray} {u : VS} (hne : xs ≠ []) (h0 : ahG G (heads [] xs) = 0) (h : atG G xs = some u) (hu : u.p.isSome = true) : ahG G (heads [] (xs ++ [y])) = 0 := by
  rw [heads_app [] xs y [] hne, ahG_app G _ _ h0, ahG, List.nil_append, h]; simp [hu, heads, ahG]
def spotV (d : Option Addr) (name : ByteArray) (there : Bool) (u : VS) : Value := .agg #[.pointer d, .string name, .bool there, .pointer u.p, .int .i64 u.f]
def noSpot : Value := spotV none ⟨#[]⟩ false ⟨none, 0⟩
/-- What stands where some names lead: the directory, the last name, what it is. -/
def SpotIs (G : Gh) (rd : Nat) (ns : List ByteArray) (d : Option Addr) (name : ByteArray) (there : Bool) (u : VS) : Prop :=
  (ns = [] ∧ d = none ∧ name = ⟨#[]⟩ ∧ there = true ∧ u = ⟨some ⟨rd, 0, none⟩, 0⟩) ∨
  ∃ ds db, ns = ds ++ [name] ∧ IsDir G rd ds db ∧ d = some ⟨db, 0, none⟩ ∧ there = (atG G ns).isSome ∧ u = (atG G ns).getD ⟨none, 0⟩
def FolPost (G : Gh) (rd : Nat) (ns : List ByteArray) (w : World) (e : Ending) (w' : World) : Prop :=
  ((ahG G (heads [] ns) ≠ 0 ∧ e = .returned (.tuple #[noSpot, .int .i64 (ahG G (heads [] ns))])) ∨
   (ahG G (heads [] ns) = 0 ∧ ∃ d n t u, SpotIs G rd ns d n t u ∧ e = .returned (.tuple #[spotV d n t u, .int .i64 0]))) ∧ Below w.heap.size w w'
theorem EnOk.at {G : Gh} (hG : GOk G) {ds : List ByteArray} {es : List (ByteArray × VS)} (he : EnOk G ds es) {n : ByteArray} {r : VS} {b : Bool} (hf : FoundS es n r b) : b = (atG G (ds ++ [n])).isSome ∧ r = (atG G (ds ++ [n])).getD ⟨none, 0⟩ := by
  rcases hf with ⟨rfl, hm⟩ | ⟨rfl, rfl, hno⟩
  · rw [atG_of_mem hG.nd ((he n r).1 hm)]; exact ⟨rfl, rfl⟩
  · cases ha : atG G (ds ++ [n]) with
    | none => exact ⟨rfl, rfl⟩
    | some u => exact absurd rfl (hno (n, u) ((he n u).2 (atG_mem ha)))
theorem spot_cases {w : World} {G : Gh} {rd : Nat} {V : Nat → Value} {E : Nat → List (ByteArray × VS)} (hD : DirW w G rd V E) {xs : List ByteArray} {d : Option Addr} {n : ByteArray} {t : Bool} {u : VS} (h : SpotIs G rd xs d n t u) :
    (t = false ∧ xs ≠ [] ∧ atG G xs = none) ∨ (t = true ∧ xs ≠ [] ∧ atG G xs = some u ∧ u.p = none) ∨ (t = true ∧ ∃ b, u = ⟨some ⟨b, 0, none⟩, 0⟩ ∧ IsDir G rd xs b ∧ (xs = [] ∨ atG G xs = some u)) := by
  rcases h with ⟨rfl, _, _, rfl, rfl⟩ | ⟨ds, db, rfl, hd, rfl, rfl, rfl⟩
  · exact .inr (.inr ⟨rfl, rd, rfl, .inl ⟨rfl, rfl⟩, .inl rfl⟩)
  · cases ha : atG G (ds ++ [n]) with
    | none => exact .inl ⟨rfl, by simp, rfl⟩
    | some u =>
      rcases hD.shp _ (atG_mem ha) with h0 | ⟨b, e⟩
      · exact .inr (.inl ⟨rfl, by simp, rfl, h0⟩)
      · simp only at e
        exact .inr (.inr ⟨rfl, b, by simpa using e, .inr (by rw [← e]; exact atG_mem ha), .inr rfl⟩)
theorem RowIs.alloc {w : World} {b : Nat} {t : TypeId} {L : List Value} (h : RowIs w b t L) (o : Obj) : RowIs (w.alloc o) b t L := (Below.heap_alloc _ _ _ h.lt).trans h
theorem set5 {w : World} {b : Nat} {t : TypeId} {a0 a1 a2 a3 a4 : Value} (h : RowIs w b t [a0, a1, a2, a3, a4]) (u0 u1 u2 u3 u4 : Value) :
    RowIs (((((w.setCell ⟨b, 0, none⟩ u0).setCell ⟨b, 1, none⟩ u1).setCell ⟨b, 2, none⟩ u2).setCell ⟨b, 3, none⟩ u3).setCell ⟨b, 4, none⟩ u4) b t [u0, u1, u2, u3, u4] := by
  have := ((((h.set 0 u0).set 1 u1).set 2 u2).set 3 u3).set 4 u4
  simpa using this
theorem below_set5 {w w1 : World} {B b : Nat} (h : Below B w w1) (hb : B ≤ b) (u0 u1 u2 u3 u4 : Value) : Below B w (((((w1.setCell ⟨b, 0, none⟩ u0).setCell ⟨b, 1, none⟩ u1).setCell ⟨b, 2, none⟩ u2).setCell ⟨b, 3, none⟩ u3).setCell ⟨b, 4, none⟩ u4) :=
  ((((h.setCell (p := ⟨b, 0, none⟩) hb _).setCell (p := ⟨b, 1, none⟩) hb _).setCell (p := ⟨b, 2, none⟩) hb _).setCell (p := ⟨b, 3, none⟩) hb _).setCell (p := ⟨b, 4, none⟩) hb _
theorem RowIs.setOther {w : World} {b : Nat} {t : TypeId} {L : List Value} (h : RowIs w b t L) (a : Addr) (u : Value) (hne : a.block ≠ b) : RowIs (w.setCell a u) b t L := by
  unfold RowIs at h ⊢
  rw [Below.heap_setCell _ _ _ _ hne.symm]; exact h
theorem other5 {w : World} {b b' : Nat} {t : TypeId} {L : List Value} (h : RowIs w b t L) (hne : b' ≠ b) (u0 u1 u2 u3 u4 : Value) : RowIs (((((w.setCell ⟨b', 0, none⟩ u0).setCell ⟨b', 1, none⟩ u1).setCell ⟨b', 2, none⟩ u2).setCell ⟨b', 3, none⟩ u3).setCell ⟨b', 4, none⟩ u4) b t L :=
  ((((h.setOther ⟨b', 0, none⟩ u0 hne).setOther ⟨b', 1, none⟩ u1 hne).setOther ⟨b', 2, none⟩ u2 hne).setOther ⟨b', 3, none⟩ u3 hne).setOther ⟨b', 4, none⟩ u4 hne
def FolMid (G : Gh) (rd : Nat) (ns : List ByteArray) (w : World) (i : Value) (wr : World) : Prop :=
  ∃ k : Nat, k ≤ ns.length ∧ i = .int .i64 k ∧ ∃ d n t u, SpotIs G rd (ns.take k) d n t u ∧ ahG G (heads [] (ns.take k)) = 0 ∧ RowIs wr (w.heap.size + 1) 124 [.pointer d, .string n, .bool t, .pointer u.p, .int .i64 u.f] ∧
    RowIs wr w.heap.size 124 [.pointer none, .string ⟨#[]⟩, .bool false, .pointer none, .int .i64 0] ∧ Below w.heap.size w wr
theorem follow_code (w : World) (tb rd : Nat) (V : Nat → Value) (E : Nat → List (ByteArray × VS)) (vi : Value) (G : Gh) (hG : GOk G) (hGl : G.length ≤ 10000) (hT : RowIs w tb 118 [.pointer (some ⟨rd, 0, none⟩), vi]) (hD : DirW w G rd V E)
    (ns : List ByteArray) (hnl : ns.length ≤ 6) (av : Option Addr) (cv : Nat) (hN : Sl w 9 1 (.slice av ns.length cv) ns.length (ns.map .string)) :
    Calls Tryz.prog 121 #[.pointer (some ⟨tb, 0, none⟩), .slice av ns.length cv] w (FolPost G rd ns w) := by
  have hc0 := hT.cell 0
  have htb := hT.lt
  obtain ⟨av', cv', e, hrd⟩ := hN.rdF
  cases e
  have HRD := hide hrd
  have HD := hide hD
  clear hrd hD
  go_enter Tryz.func121, Tryz.ntmps121
  go_wp2
  go_loopw [8, 9, 10, 11, 20] (fun _ _ _ _ i wr => FolMid G rd ns w i wr) (fun _ _ _ _ i _ => ns.length - (intOf i).toNat)
  case atStart =>
    refine ⟨0, Nat.zero_le _, rfl, none, ⟨#[]⟩, true, ⟨some ⟨rd, 0, none⟩, 0⟩, .inl ⟨rfl, rfl, rfl, rfl, rfl⟩, rfl, ?_, ?_, ((Below.refl _ w).alloc (Nat.le_refl _) _).alloc (by simp) _⟩
    · have := row_new (w.alloc (Obj.cells #[Value.pointer none, Value.string { data := #[] }, Value.bool false, Value.pointer none, Value.int IntKind.i64 0] 124)) [Value.pointer none, Value.string { data := #[] }, Value.bool true, Value.pointer (some { block := rd, off := 0 }), Value.int IntKind.i64 0] 124
      simpa using this
    · have := row_new w [Value.pointer none, Value.string { data := #[] }, Value.bool false, Value.pointer none, Value.int IntKind.i64 0] 124
      exact (Below.heap_alloc _ _ _ (by simp)).trans this
  case round =>
    obtain ⟨k, hk, rfl, d, n, t, u, hs, h0, hr1, hr0, hb⟩ := hrel
    have b0 := hr0.cell 0; have b1 := hr0.cell 1; have b2 := hr0.cell 2; have b3 := hr0.cell 3; have b4 := hr0.cell 4
    have g0 := hr0.frozen 0; have g1 := hr0.frozen 1; have g2 := hr0.frozen 2; have g3 := hr0.frozen 3; have g4 := hr0.frozen 4
    have a0 := hr1.cell 0; have a1 := hr1.cell 1; have a2 := hr1.cell 2; have a3 := hr1.cell 3; have a4 := hr1.cell 4
    have f0 := hr1.frozen 0; have f1 := hr1.frozen 1; have f2 := hr1.frozen 2; have f3 := hr1.frozen 3; have f4 := hr1.frozen 4
    have HS := hide hs
    have H0 := hide h0
    clear hs h0
    by_cases hlt : k < ns.length
    · obtain ⟨y, hy⟩ : ∃ y, ns[k]? = some y := ⟨_, List.getElem?_eq_getElem hlt⟩
      obtain ⟨g, rfl, q0⟩ := unhide HRD k y hy
      have hgl : g < w.heap.size := hN.lt rfl
      have q1 := (hb.cell (p := ⟨g, k, none⟩) hgl).trans q0
      have HT : Hid (ns.take (k + 1) = ns.take k ++ [y]) := by show _ = _; rw [List.take_add_one, hy]; rfl
      have HE : Hid (ns = ns.take k ++ y :: ns.drop (k + 1)) := by
        show _ = _
        have hl' := List.getElem?_eq_some_iff.1 hy
        have := (List.take_append_drop k ns).symm
        rw [List.drop_eq_getElem_cons hlt, hl'.2] at this
        exact this
      clear q0
      rcases spot_cases (unhide HD) (unhide HS) with ⟨rfl, hne, hat⟩ | ⟨rfl, hne, hat, hu⟩ | ⟨rfl, b, rfl, hdir, hor⟩
      · have HA : Hid (ahG G (heads [] ns) = 3) := by show _ = _; rw [unhide HE]; exact ah_none hne (unhide H0) hat
        clear hat hne
        go_wp2
        have hR := set5 hr0 (.pointer none) (.string ⟨#[]⟩) (.bool false) (.pointer none) (.int .i64 0)
        have r0 := hR.cell 0; have r1 := hR.cell 1; have r2 := hR.cell 2; have r3 := hR.cell 3; have r4 := hR.cell 4
        exact bodyPost_ret (v := .tuple #[noSpot, .int .i64 3]) (by simp [results, Tryz.results121, go_sem, r0, r1, r2, r3, r4, noSpot, spotV]) rfl
          ⟨.inl ⟨by rw [unhide HA]; decide, by rw [unhide HA]⟩, below_set5 hb (Nat.le_refl _) _ _ _ _ _⟩
      · have HA : Hid (ahG G (heads [] ns) = 4) := by show _ = _; rw [unhide HE]; exact ah_file hne (unhide H0) hat hu
        rw [hu] at a3
        clear hat hne
        go_wp2
        have hR := set5 hr0 (.pointer none) (.string ⟨#[]⟩) (.bool false) (.pointer none) (.int .i64 0)
        have r0 := hR.cell 0; have r1 := hR.cell 1; have r2 := hR.cell 2; have r3 := hR.cell 3; have r4 := hR.cell 4
        exact bodyPost_ret (v := .tuple #[noSpot, .int .i64 4]) (by simp [results, Tryz.results121, go_sem, r0, r1, r2, r3, r4, noSpot, spotV]) rfl
          ⟨.inl ⟨by rw [unhide HA]; decide, by rw [unhide HA]⟩, below_set5 hb (Nat.le_refl _) _ _ _ _ _⟩
      · have hget := getS wr b 0 (V b) (E b) y (((hb.cell (p := ⟨b, 0, none⟩) ((unhide HD).row _ b hdir).lt)).trans (((unhide HD).row _ b hdir).cell 0)) ((((unhide HD).below hb (Nat.le_refl _))).sl _ b hdir) (Nat.le_trans ((unhide HD).le hG hdir) hGl) ((unhide HD).srt _ b hdir)
        go_wp2_with fail
        refine hget.mono ?_
        rintro e w2 ⟨r, bb, rfl, hfd, hb2⟩
        obtain ⟨e1, e2⟩ := EnOk.at hG ((unhide HD).en _ b hdir) hfd
        have HSP : Hid (SpotIs G rd (ns.take (k + 1)) (some ⟨b, 0, none⟩) y bb r) := by
          show SpotIs _ _ _ _ _ _ _
          rw [unhide HT]
          exact .inr ⟨_, b, rfl, hdir, rfl, e1, e2⟩
        have HA : Hid (ahG G (heads [] (ns.take (k + 1))) = 0) := by
          show _ = _
          rw [unhide HT]
          rcases hor with e | ha
          · rw [e]; rfl
          · by_cases hne : ns.take k = []
            · rw [hne]; rfl
            · exact ah_dir hne (unhide H0) ha rfl
        have hr1' : RowIs w2 _ _ _ := (hb2.block _ hr1.lt).trans hr1
        have hr0' : RowIs w2 _ _ _ := (hb2.block _ hr0.lt).trans hr0
        have hlt2 : w.heap.size + 1 < w2.heap.size := hr1'.lt
        have hb' : Below w.heap.size w w2 := hb.trans (hb2.mono hb.size)
        clear hget hfd e1 e2 hor b0 b1 b2 b3 b4 g0 g1 g2 g3 g4 a0 a1 a2 a3 a4 f0 f1 f2 f3 f4
        have a0 := hr1'.cell 0; have a1 := hr1'.cell 1; have a2 := hr1'.cell 2; have a3 := hr1'.cell 3; have a4 := hr1'.cell 4
        have f0 := hr1'.frozen 0; have f1 := hr1'.frozen 1; have f2 := hr1'.frozen 2; have f3 := hr1'.frozen 3; have f4 := hr1'.frozen 4
        go_wp2
        go_roundw
        case rel =>
          refine ⟨k + 1, by omega, by go_num, some ⟨b, 0, none⟩, y, bb, r, unhide HSP, unhide HA, ?_, ?_, ?_⟩
          · exact RowIs.alloc (set5 hr1' (.pointer (some ⟨b, 0, none⟩)) (.string y) (.bool bb) (.pointer r.p) (.int .i64 r.f)) _
          · exact RowIs.alloc (other5 hr0' (by omega) (.pointer (some ⟨b, 0, none⟩)) (.string y) (.bool bb) (.pointer r.p) (.int .i64 r.f)) _
          · have h5 := below_set5 hb' (Nat.le_succ _) (.pointer (some ⟨b, 0, none⟩)) (.string y) (.bool bb) (.pointer r.p) (.int .i64 r.f)
            exact h5.alloc h5.size _
        case measure => simp [intOf]; omega
    · obtain rfl : k = ns.length := by omega
      go_wp2
      have hR := set5 hr0 (.pointer d) (.string n) (.bool t) (.pointer u.p) (.int .i64 u.f)
      have r0 := hR.cell 0; have r1 := hR.cell 1; have r2 := hR.cell 2; have r3 := hR.cell 3; have r4 := hR.cell 4
      have h0 := unhide H0
      have hs := unhide HS
      rw [List.take_length] at h0 hs
      exact bodyPost_ret (v := .tuple #[spotV d n t u, .int .i64 0]) (by simp [results, Tryz.results121, go_sem, r0, r1, r2, r3, r4, spotV]) rfl
        ⟨.inr ⟨h0, d, n, t, u, hs, rfl⟩, below_set5 hb (Nat.le_refl _) _ _ _ _ _⟩
end Go.Proofs.YtfabjhgkigagpaaGreatDoor
namespace Go.Proofs.YtfabjhgkigagpaaGreatDoor
open Go.RowKit

set_option maxHeartbeats 1000000
set_option maxRecDepth 100000
/-- What package strings looks at, whatever it is. -/
def PkgOk (w : World) : Prop := (∃ m, w.cell? ⟨0, 0, none⟩ = some (.int .i64 m)) ∧ ∀ t R, RowIs w 0 t R → t = 3
/-- A tree of the program's in memory: its directories, its files by their numbers, their bytes. -/
def bytesV (s : ByteArray) : List Value := s.data.toList.map (fun b => .int .u8 (b.toNat : Int))
structure TW (w : World) (tb rd : Nat) (V : Nat → Value) (E : Nat → List (ByteArray × VS)) (vi : Value) (G : Gh) (I : List (Int × VF)) (C : Int → ByteArray) : Prop where
  pk : PkgOk w
  t : RowIs w tb 118 [.pointer (some ⟨rd, 0, none⟩), vi]
  d : DirW w G rd V E
  i : Sl w 160 3 vi I.length (cellsI I)
  si : SrtI I
  dat : ∀ x ∈ I, Sl w 5 1 (.slice x.2.a x.2.l x.2.c) x.2.l (bytesV (C x.1))
  lo : tb ≤ rd + 1 ∧ ∀ g, vi.ownBlock = some g → rd ≤ g
theorem PkgOk.fr {X : Nat → Prop} {w w' : World} (h : PkgOk w) (hf : Fr X w w') (hX : ¬ X 0) : PkgOk w' := by
  obtain ⟨⟨m, hm⟩, ht⟩ := h
  have h0 : 0 < w.heap.size := World.block_lt_of_cell? _ _ hm
  have hb := hf.block 0 h0 hX
  refine ⟨⟨m, ?_⟩, fun t R hR => ht t R ?_⟩
  · rw [← hm]; unfold World.cell?; rw [hb]
  · unfold RowIs at hR ⊢; rw [← hb]; exact hR
theorem TW.fr {X : Nat → Prop} {w w' : World} {tb rd : Nat} {V : Nat → Value} {E : Nat → List (ByteArray × VS)} {vi : Value} {G : Gh} {I : List (Int × VF)} {C : Int → ByteArray} (h : TW w tb rd V E vi G I C) (hf : Fr X w w') (h0 : ¬ X 0)
    (hX : ∀ k t R, X k → RowIs w k t R → t ≠ 118 ∧ t ≠ 131 ∧ t ≠ 164 ∧ t ≠ 160 ∧ t ≠ 5) : TW w' tb rd V E vi G I C :=
  ⟨h.pk.fr hf h0, h.t.fr hf (fun e => (hX _ _ _ e h.t).1 rfl), h.d.fr hf (fun k t R e hR => ⟨(hX k t R e hR).2.1, (hX k t R e hR).2.2.1⟩),
   h.i.fr hf (fun g hg e => by obtain ⟨R, hR⟩ := h.i.type hg; exact (hX _ _ _ e hR).2.2.2.1 rfl), h.si,
   fun x hx => (h.dat x hx).fr hf (fun g hg e => by obtain ⟨R, hR⟩ := (h.dat x hx).type hg; exact (hX _ _ _ e hR).2.2.2.2 rfl), h.lo⟩
/-- Where a directory stands, and its row. -/
theorem TW.dlo {w : World} {tb rd : Nat} {V : Nat → Value} {E : Nat → List (ByteArray × VS)} {vi : Value} {G : Gh} {I : List (Int × VF)} {C : Int → ByteArray} (h : TW w tb rd V E vi G I C) {ns : List ByteArray} {b : Nat} (hd : IsDir G rd ns b) : tb ≤ b + 1 ∧ ∀ g, (V b).ownBlock = some g → tb ≤ g + 1 := by
  have h1 := h.lo.1
  have h2 := h.d.lo ns b hd
  exact ⟨by omega, fun g hg => by have := h2.2 g hg; omega⟩
theorem TW.below {w w' : World} {tb rd : Nat} {V : Nat → Value} {E : Nat → List (ByteArray × VS)} {vi : Value} {G : Gh} {I : List (Int × VF)} {C : Int → ByteArray} (h : TW w tb rd V E vi G I C) {B : Nat} (hb : Below B w w') (hB : w.heap.size ≤ B) : TW w' tb rd V E vi G I C :=
  h.fr (X := fun _ => False) (Fr.of_below (hb.mono hB)) id (fun _ _ _ e => e.elim)
def locE (G : Gh) (p : ByteArray) (fits : Bool) : Int := if nmOk p = false then 1 else if fits = false then 2 else ahG G (heads [] (names p))
def LocPost (G : Gh) (rd : Nat) (p : ByteArray) (fits : Bool) (w : World) (e : Ending) (w' : World) : Prop :=
  ((locE G p fits ≠ 0 ∧ e = .returned (.tuple #[noSpot, .int .i64 (locE G p fits)])) ∨
   (locE G p fits = 0 ∧ nmOk p = true ∧ ∃ d n t u, SpotIs G rd (names p) d n t u ∧ e = .returned (.tuple #[spotV d n t u, .int .i64 0]))) ∧ Below w.heap.size w w'
theorem names_len {p : ByteArray} (h : nmOk p = true) : (names p).length ≤ 6 := by
  cases hr : (p.toList == [47]) with
  | true => rw [names_root hr]; exact Nat.zero_le _
  | false => exact (path_names h hr).2.2.2
theorem locate_code (w : World) (tb rd : Nat) (V : Nat → Value) (E : Nat → List (ByteArray × VS)) (vi : Value) (G : Gh) (I : List (Int × VF)) (C : Int → ByteArray) (h : TW w tb rd V E vi G I C) (hG : GOk G) (hGl : G.length ≤ 10000) (p : ByteArray) (hp : p.size ≤ 2000000) (fits : Bool) :
    Calls Tryz.prog 93 #[.pointer (some ⟨tb, 0, none⟩), .string p, .bool fits] w (LocPost G rd p fits w) := by
  obtain ⟨m, hm⟩ := h.pk.1
  have h0 : 0 < w.heap.size := World.block_lt_of_cell? _ _ hm
  have hal : ∀ o, Below w.heap.size w (w.alloc o) := fun o => (Below.refl _ _).alloc (Nat.le_refl _) o
  have hnm := fun o => names_code p m (w.alloc o) hp (((hal o).cell (p := ⟨0, 0, none⟩) h0).trans hm)
  have hr0 := row_new w [.pointer none, .string ⟨#[]⟩, .bool false, .pointer none, .int .i64 0] 124
  have HR0 := hide hr0
  clear hr0
  go_enter Tryz.func93, Tryz.ntmps93
  go_wp2_with fail
  refine (hnm _).mono ?_
  rintro e w1 ⟨hpost, hb1⟩
  have hb : Below w.heap.size w w1 := (hal _).trans (hb1.mono (by simp))
  have hr1 : RowIs w1 w.heap.size 124 _ := (hb1.block _ (by simp)).trans (unhide HR0)
  have HH := hide h
  clear hnm hal h
  rcases hpost with ⟨hn, rfl⟩ | ⟨hn, a, c, rfl, hSl⟩
  · have HE : Hid (locE G p fits = 1) := by show _ = _; unfold locE; rw [if_pos hn]
    have g0 := hr1.frozen 0; have g1 := hr1.frozen 1; have g2 := hr1.frozen 2; have g3 := hr1.frozen 3; have g4 := hr1.frozen 4
    have a0 := hr1.cell 0; have a1 := hr1.cell 1; have a2 := hr1.cell 2; have a3 := hr1.cell 3; have a4 := hr1.cell 4
    clear hn
    go_wp2
    have hR := set5 hr1 (.pointer none) (.string ⟨#[]⟩) (.bool false) (.pointer none) (.int .i64 0)
    have r0 := hR.cell 0; have r1 := hR.cell 1; have r2 := hR.cell 2; have r3 := hR.cell 3; have r4 := hR.cell 4
    exact bodyPost_ret (v := .tuple #[noSpot, .int .i64 1]) (by simp [results, Tryz.results93, go_sem, r0, r1, r2, r3, r4, noSpot, spotV]) rfl
      ⟨.inl ⟨by rw [unhide HE]; decide, by rw [unhide HE]⟩, below_set5 hb (Nat.le_refl _) _ _ _ _ _⟩
  · have g0 := hr1.frozen 0; have g1 := hr1.frozen 1; have g2 := hr1.frozen 2; have g3 := hr1.frozen 3; have g4 := hr1.frozen 4
    have a0 := hr1.cell 0; have a1 := hr1.cell 1; have a2 := hr1.cell 2; have a3 := hr1.cell 3; have a4 := hr1.cell 4
    cases fits with
    | false =>
      have HE : Hid (locE G p false = 2) := by show _ = _; unfold locE; rw [if_neg (by rw [hn]; simp), if_pos rfl]
      clear hn
      go_wp2
      have hR := set5 hr1 (.pointer none) (.string ⟨#[]⟩) (.bool false) (.pointer none) (.int .i64 0)
      have r0 := hR.cell 0; have r1 := hR.cell 1; have r2 := hR.cell 2; have r3 := hR.cell 3; have r4 := hR.cell 4
      exact bodyPost_ret (v := .tuple #[noSpot, .int .i64 2]) (by simp [results, Tryz.results93, go_sem, r0, r1, r2, r3, r4, noSpot, spotV]) rfl
        ⟨.inl ⟨by rw [unhide HE]; decide, by rw [unhide HE]⟩, below_set5 hb (Nat.le_refl _) _ _ _ _ _⟩
    | true =>
      have HE : Hid (locE G p true = ahG G (heads [] (names p))) := by show _ = _; unfold locE; rw [if_neg (by rw [hn]; simp), if_neg (by simp)]
      have h1 := (unhide HH).below hb (Nat.le_refl _)
      have hfol := follow_code w1 tb rd V E vi G hG hGl h1.t h1.d (names p) (names_len hn) a c hSl
      have HN := hide hn
      clear hn
      go_wp2_with fail
      refine hfol.mono ?_
      rintro e w2 ⟨hpost, hb2⟩
      have hr2 : RowIs w2 w.heap.size 124 _ := (hb2.block _ hr1.lt).trans hr1
      have hbb : Below w.heap.size w w2 := hb.trans (hb2.mono hb.size)
      clear hfol g0 g1 g2 g3 g4 a0 a1 a2 a3 a4
      have g0 := hr2.frozen 0; have g1 := hr2.frozen 1; have g2 := hr2.frozen 2; have g3 := hr2.frozen 3; have g4 := hr2.frozen 4
      have a0 := hr2.cell 0; have a1 := hr2.cell 1; have a2 := hr2.cell 2; have a3 := hr2.cell 3; have a4 := hr2.cell 4
      rcases hpost with ⟨hne, rfl⟩ | ⟨he, d, n, t, u, hsp, rfl⟩
      · unfold noSpot spotV
        go_wp2
        have hR := set5 hr2 (.pointer none) (.string ⟨#[]⟩) (.bool false) (.pointer none) (.int .i64 0)
        have r0 := hR.cell 0; have r1 := hR.cell 1; have r2 := hR.cell 2; have r3 := hR.cell 3; have r4 := hR.cell 4
        exact bodyPost_ret (v := .tuple #[noSpot, .int .i64 (ahG G (heads [] (names p)))]) (by simp [results, Tryz.results93, go_sem, r0, r1, r2, r3, r4, noSpot, spotV]) rfl
          ⟨.inl ⟨by rw [unhide HE]; exact hne, by rw [unhide HE]⟩, below_set5 hbb (Nat.le_refl _) _ _ _ _ _⟩
      · have HSP := hide hsp
        have HE2 := hide he
        clear hsp he
        unfold spotV
        go_wp2
        have hR := set5 hr2 (.pointer d) (.string n) (.bool t) (.pointer u.p) (.int .i64 u.f)
        have r0 := hR.cell 0; have r1 := hR.cell 1; have r2 := hR.cell 2; have r3 := hR.cell 3; have r4 := hR.cell 4
        exact bodyPost_ret (v := .tuple #[spotV d n t u, .int .i64 0]) (by simp [results, Tryz.results93, go_sem, r0, r1, r2, r3, r4, spotV]) rfl
          ⟨.inr ⟨(unhide HE).trans (unhide HE2), unhide HN, d, n, t, u, unhide HSP, rfl⟩, below_set5 hbb (Nat.le_refl _) _ _ _ _ _⟩
/-- locateThere. -/
def thE (G : Gh) (p : ByteArray) : Int := if locE G p true ≠ 0 then locE G p true else if names p ≠ [] ∧ atG G (names p) = none then 3 else 0
def TherePost (G : Gh) (rd : Nat) (p : ByteArray) (w : World) (e : Ending) (w' : World) : Prop :=
  ((thE G p ≠ 0 ∧ e = .returned (.tuple #[noSpot, .int .i64 (thE G p)])) ∨
   (thE G p = 0 ∧ nmOk p = true ∧ ∃ d n u, SpotIs G rd (names p) d n true u ∧ e = .returned (.tuple #[spotV d n true u, .int .i64 0]))) ∧ Below w.heap.size w w'
theorem spot_there {G : Gh} {rd : Nat} {ns : List ByteArray} {d : Option Addr} {n : ByteArray} {t : Bool} {u : VS} (h : SpotIs G rd ns d n t u) : (t = false ↔ ns ≠ [] ∧ atG G ns = none) := by
  rcases h with ⟨rfl, _, _, rfl, _⟩ | ⟨ds, db, rfl, _, _, rfl, _⟩
  · simp
  · cases atG G (ds ++ [n]) <;> simp
end Go.Proofs.YtfabjhgkigagpaaGreatDoor
