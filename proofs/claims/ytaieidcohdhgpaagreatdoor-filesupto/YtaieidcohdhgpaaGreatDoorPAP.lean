/- Files. -/
import Derived.Test.YtaieidcohdhgpaaGreatDoorPAN
import Derived.Test.YtaieidcohdhgpaaGreatDoorPAM
import Derived.Test.YtaieidcohdhgpaaGreatDoorPAO
import Derived.Test.YtaieidcohdhgpaaGreatDoorPAD
import Derived.Deep.RegionHeld3
namespace Go.Proofs.YtaieidcohdhgpaaGreatDoor
open Go.RowKit
set_option maxHeartbeats 1000000
set_option maxRecDepth 100000
theorem heads_app : ∀ (d xs : List ByteArray) (y : ByteArray) (ys : List ByteArray), xs ≠ [] → heads d (xs ++ y :: ys) = heads d xs ++ (d ++ xs) :: heads (d ++ xs) (y :: ys)
 | d, [], y, ys, h => absurd rfl h
 | d, [x], y, ys, _ => by simp [heads]
 | d, x :: x' :: xs, y, ys, _ => by
  have := heads_app (d ++ [x]) (x' :: xs) y ys (by simp)
  rw [List.cons_append, List.cons_append, heads, heads, ← List.cons_append, this]
  simp
theorem ahG_app (G : Gh) : ∀ (A B : List (List ByteArray)), ahG G A = 0 → ahG G (A ++ B) = ahG G B
 | [], B, _ => rfl
 | q :: A, B, h => by
  rw [List.cons_append, ahG]
  rw [ahG] at h
  cases hq : atG G q with
  | none => rw [hq] at h; simp at h
  | some u =>
   rw [hq] at h
   by_cases hu : u.p.isSome = true
   ·simp only [hu, if_true] at h ⊢; exact ahG_app G A B h
   ·simp [hu] at h
theorem ah_none {G : Gh} {xs : List ByteArray} {y : ByteArray} {ys : List ByteArray} (hne : xs ≠ []) (h0 : ahG G (heads [] xs) = 0) (h : atG G xs = none) : ahG G (heads [] (xs ++ y :: ys)) = 3 := by
 rw [heads_app [] xs y ys hne, ahG_app G _ _ h0, ahG, List.nil_append, h]
theorem ah_file {G : Gh} {xs : List ByteArray} {y : ByteArray} {ys : List ByteArray} {u : VS} (hne : xs ≠ []) (h0 : ahG G (heads [] xs) = 0) (h : atG G xs = some u) (hu : u.p = none) : ahG G (heads [] (xs ++ y :: ys)) = 4 := by
 rw [heads_app [] xs y ys hne, ahG_app G _ _ h0, ahG, List.nil_append, h]; simp [hu]
theorem ah_dir {G : Gh} {xs : List ByteArray} {y : ByteArray} {u : VS} (hne : xs ≠ []) (h0 : ahG G (heads [] xs) = 0) (h : atG G xs = some u) (hu : u.p.isSome = true) : ahG G (heads [] (xs ++ [y])) = 0 := by
 rw [heads_app [] xs y [] hne, ahG_app G _ _ h0, ahG, List.nil_append, h]; simp [hu, heads, ahG]
def spotV (d : Option Addr) (name : ByteArray) (there : Bool) (u : VS) : Value := .agg #[.pointer d, .string name, .bool there, .pointer u.p, .int .i64 u.f]
def noSpot : Value := spotV none ⟨#[]⟩ false ⟨none, 0⟩
def SpotIs (G : Gh) (rd : Nat) (ns : List ByteArray) (d : Option Addr) (name : ByteArray) (there : Bool) (u : VS) : Prop :=
 (ns = [] ∧ d = none ∧ name = ⟨#[]⟩ ∧ there = true ∧ u = ⟨some ⟨rd, 0, none⟩, 0⟩) ∨
 ∃ ds db, ns = ds ++ [name] ∧ IsDir G rd ds db ∧ d = some ⟨db, 0, none⟩ ∧ there = (atG G ns).isSome ∧ u = (atG G ns).getD ⟨none, 0⟩
def FolPost (G : Gh) (rd : Nat) (ns : List ByteArray) (w : World) (e : Ending) (w' : World) : Prop :=
 ((ahG G (heads [] ns) ≠ 0 ∧ e = .returned (.tuple #[noSpot, .int .i64 (ahG G (heads [] ns))])) ∨
  (ahG G (heads [] ns) = 0 ∧ ∃ d n t u, SpotIs G rd ns d n t u ∧ e = .returned (.tuple #[spotV d n t u, .int .i64 0]))) ∧ Below w.heap.size w w'
theorem EnOk.at {G : Gh} (hG : GOk G) {ds : List ByteArray} {es : List (ByteArray × VS)} (he : EnOk G ds es) {n : ByteArray} {r : VS} {b : Bool} (hf : FoundS es n r b) : b = (atG G (ds ++ [n])).isSome ∧ r = (atG G (ds ++ [n])).getD ⟨none, 0⟩ := by
 rcases hf with ⟨rfl, hm⟩ | ⟨rfl, rfl, hno⟩
 ·rw [atG_of_mem hG.nd ((he n r).1 hm)]; exact ⟨rfl, rfl⟩
 ·cases ha : atG G (ds ++ [n]) with
  | none => exact ⟨rfl, rfl⟩
  | some u => exact absurd rfl (hno (n, u) ((he n u).2 (atG_mem ha)))
theorem spot_cases {w : World} {G : Gh} {rd : Nat} {V : Nat → Value} {E : Nat → List (ByteArray × VS)} (hD : DirW w G rd V E) {xs : List ByteArray} {d : Option Addr} {n : ByteArray} {t : Bool} {u : VS} (h : SpotIs G rd xs d n t u) :
  (t = false ∧ xs ≠ [] ∧ atG G xs = none) ∨ (t = true ∧ xs ≠ [] ∧ atG G xs = some u ∧ u.p = none) ∨ (t = true ∧ ∃ b, u = ⟨some ⟨b, 0, none⟩, 0⟩ ∧ IsDir G rd xs b ∧ (xs = [] ∨ atG G xs = some u)) := by
 rcases h with ⟨rfl, _, _, rfl, rfl⟩ | ⟨ds, db, rfl, hd, rfl, rfl, rfl⟩
 ·exact .inr (.inr ⟨rfl, rd, rfl, .inl ⟨rfl, rfl⟩, .inl rfl⟩)
 ·cases ha : atG G (ds ++ [n]) with
  | none => exact .inl ⟨rfl, by simp, rfl⟩
  | some u =>
   rcases hD.shp _ (atG_mem ha) with h0 | ⟨b, e⟩
   ·exact .inr (.inl ⟨rfl, by simp, rfl, h0⟩)
   ·simp only at e
    exact .inr (.inr ⟨rfl, b, by simpa using e, .inr (by rw [← e]; exact atG_mem ha), .inr rfl⟩)
theorem RowIs.alloc {w : World} {b : Nat} {t : TypeId} {L : List Value} (h : RowIs w b t L) (o : Obj) : RowIs (w.alloc o) b t L := (Below.heap_alloc _ _ _ h.lt).trans h
theorem set5 {w : World} {b : Nat} {t : TypeId} {a0 a1 a2 a3 a4 : Value} (h : RowIs w b t [a0, a1, a2, a3, a4]) (u0 u1 u2 u3 u4 : Value) :
  RowIs (((((w.setCell ⟨b, 0, none⟩ u0).setCell ⟨b, 1, none⟩ u1).setCell ⟨b, 2, none⟩ u2).setCell ⟨b, 3, none⟩ u3).setCell ⟨b, 4, none⟩ u4) b t [u0, u1, u2, u3, u4] := by
 have := ((((h.set 0 u0).set 1 u1).set 2 u2).set 3 u3).set 4 u4
 simpa using this
theorem below_set5 {w w1 : World} {B b : Nat} (h : Below B w w1) (hb : B ≤ b) (u0 u1 u2 u3 u4 : Value) : Below B w (((((w1.setCell ⟨b, 0, none⟩ u0).setCell ⟨b, 1, none⟩ u1).setCell ⟨b, 2, none⟩ u2).setCell ⟨b, 3, none⟩ u3).setCell ⟨b, 4, none⟩ u4) :=
 ((((h.setCell (p := ⟨b, 0, none⟩) hb _).setCell (p := ⟨b, 1, none⟩) hb _).setCell (p := ⟨b, 2, none⟩) hb _).setCell (p := ⟨b, 3, none⟩) hb _).setCell (p := ⟨b, 4, none⟩) hb _
theorem RowIs.setOther {w : World} {b : Nat} {t : TypeId} {L : List Value} (h : RowIs w b t L) (a : Addr) (u : Value) (hne : a.block ≠ b) : RowIs (w.setCell a u) b t L := by
 unfold RowIs at h ⊢
 rw [Below.heap_setCell _ _ _ _ hne.symm]; exact h
theorem other5 {w : World} {b b' : Nat} {t : TypeId} {L : List Value} (h : RowIs w b t L) (hne : b' ≠ b) (u0 u1 u2 u3 u4 : Value) : RowIs (((((w.setCell ⟨b', 0, none⟩ u0).setCell ⟨b', 1, none⟩ u1).setCell ⟨b', 2, none⟩ u2).setCell ⟨b', 3, none⟩ u3).setCell ⟨b', 4, none⟩ u4) b t L :=
 ((((h.setOther ⟨b', 0, none⟩ u0 hne).setOther ⟨b', 1, none⟩ u1 hne).setOther ⟨b', 2, none⟩ u2 hne).setOther ⟨b', 3, none⟩ u3 hne).setOther ⟨b', 4, none⟩ u4 hne
def FolMid (G : Gh) (rd : Nat) (ns : List ByteArray) (w : World) (i : Value) (wr : World) : Prop :=
 ∃ k : Nat, k ≤ ns.length ∧ i = .int .i64 k ∧ ∃ d n t u, SpotIs G rd (ns.take k) d n t u ∧ ahG G (heads [] (ns.take k)) = 0 ∧ RowIs wr (w.heap.size + 1) 262 [.pointer d, .string n, .bool t, .pointer u.p, .int .i64 u.f] ∧
  RowIs wr w.heap.size 262 [.pointer none, .string ⟨#[]⟩, .bool false, .pointer none, .int .i64 0] ∧ Below w.heap.size w wr
theorem follow_code (w : World) (tb rd : Nat) (V : Nat → Value) (E : Nat → List (ByteArray × VS)) (vi : Value) (G : Gh) (hG : GOk G) (hGl : G.length ≤ 10000) (hT : RowIs w tb 214 [.pointer (some ⟨rd, 0, none⟩), vi]) (hD : DirW w G rd V E)
  (ns : List ByteArray) (hnl : ns.length ≤ 6) (av : Option Addr) (cv : Nat) (hN : Sl w 9 1 (.slice av ns.length cv) ns.length (ns.map .string)) :
  Calls Tryz.prog 227 #[.pointer (some ⟨tb, 0, none⟩), .slice av ns.length cv] w (FolPost G rd ns w) := by
 have hc0 := hT.cell 0
 have htb := hT.lt
 obtain ⟨av', cv', e, hrd⟩ := hN.rdF
 cases e
 have HRD := hide hrd
 have HD := hide hD
 clear hrd hD
 go_enter Tryz.func227, Tryz.ntmps227
 go_wp2
 go_loopw [8, 9, 10, 11, 20] (fun _ _ _ _ i wr => FolMid G rd ns w i wr) (fun _ _ _ _ i _ => ns.length - (intOf i).toNat)
 case atStart =>
  refine ⟨0, Nat.zero_le _, rfl, none, ⟨#[]⟩, true, ⟨some ⟨rd, 0, none⟩, 0⟩, .inl ⟨rfl, rfl, rfl, rfl, rfl⟩, rfl, ?_, ?_, ((Below.refl _ w).alloc (Nat.le_refl _) _).alloc (by simp) _⟩
  ·have := row_new (w.alloc (Obj.cells #[Value.pointer none, Value.string { data := #[] }, Value.bool false, Value.pointer none, Value.int IntKind.i64 0] 262)) [Value.pointer none, Value.string { data := #[] }, Value.bool true, Value.pointer (some { block := rd, off := 0 }), Value.int IntKind.i64 0] 262
   simpa using this
  ·have := row_new w [Value.pointer none, Value.string { data := #[] }, Value.bool false, Value.pointer none, Value.int IntKind.i64 0] 262
   exact (Below.heap_alloc _ _ _ (by simp)).trans this
 case round =>
  obtain ⟨k, hk, rfl, d, n, t, u, hs, h0, hr1, hr0, hb⟩ := hrel
  have b0 := hr0.cell 0; have b1 := hr0.cell 1; have b2 := hr0.cell 2; have b3 := hr0.cell 3; have b4 := hr0.cell 4
  have g0 := hr0.frozen 0; have g1 := hr0.frozen 1; have g2 := hr0.frozen 2; have g3 := hr0.frozen 3; have g4 := hr0.frozen 4
  have a0 := hr1.cell 0; have a1 := hr1.cell 1; have a2 := hr1.cell 2; have a3 := hr1.cell 3; have a4 := hr1.cell 4
  have f0 := hr1.frozen 0; have f1 := hr1.frozen 1; have f2 := hr1.frozen 2; have f3 := hr1.frozen 3; have f4 := hr1.frozen 4
  have HS := hide hs
  have H0 := hide h0
  clear hs h0
  by_cases hlt : k < ns.length
  ·obtain ⟨y, hy⟩ : ∃ y, ns[k]? = some y := ⟨_, List.getElem?_eq_getElem hlt⟩
   obtain ⟨g, rfl, q0⟩ := unhide HRD k y hy
   have hgl : g < w.heap.size := hN.lt rfl
   have q1 := (hb.cell (p := ⟨g, k, none⟩) hgl).trans q0
   have HT : Hid (ns.take (k + 1) = ns.take k ++ [y]) := by show _ = _; rw [List.take_add_one, hy]; rfl
   have HE : Hid (ns = ns.take k ++ y :: ns.drop (k + 1)) := by
    show _ = _
    have hl' := List.getElem?_eq_some_iff.1 hy
    have := (List.take_append_drop k ns).symm
    rw [List.drop_eq_getElem_cons hlt, hl'.2] at this
    exact this
   clear q0
   rcases spot_cases (unhide HD) (unhide HS) with ⟨rfl, hne, hat⟩ | ⟨rfl, hne, hat, hu⟩ | ⟨rfl, b, rfl, hdir, hor⟩
   ·have HA : Hid (ahG G (heads [] ns) = 3) := by show _ = _; rw [unhide HE]; exact ah_none hne (unhide H0) hat
    clear hat hne
    go_wp2
    have hR := set5 hr0 (.pointer none) (.string ⟨#[]⟩) (.bool false) (.pointer none) (.int .i64 0)
    have r0 := hR.cell 0; have r1 := hR.cell 1; have r2 := hR.cell 2; have r3 := hR.cell 3; have r4 := hR.cell 4
    exact bodyPost_ret (v := .tuple #[noSpot, .int .i64 3]) (by simp [results, Tryz.results227, go_sem, r0, r1, r2, r3, r4, noSpot, spotV]) rfl
     ⟨.inl ⟨by rw [unhide HA]; decide, by rw [unhide HA]⟩, below_set5 hb (Nat.le_refl _) _ _ _ _ _⟩
   ·have HA : Hid (ahG G (heads [] ns) = 4) := by show _ = _; rw [unhide HE]; exact ah_file hne (unhide H0) hat hu
    rw [hu] at a3
    clear hat hne
    go_wp2
    have hR := set5 hr0 (.pointer none) (.string ⟨#[]⟩) (.bool false) (.pointer none) (.int .i64 0)
    have r0 := hR.cell 0; have r1 := hR.cell 1; have r2 := hR.cell 2; have r3 := hR.cell 3; have r4 := hR.cell 4
    exact bodyPost_ret (v := .tuple #[noSpot, .int .i64 4]) (by simp [results, Tryz.results227, go_sem, r0, r1, r2, r3, r4, noSpot, spotV]) rfl
     ⟨.inl ⟨by rw [unhide HA]; decide, by rw [unhide HA]⟩, below_set5 hb (Nat.le_refl _) _ _ _ _ _⟩
   ·have hget := getS wr b 0 (V b) (E b) y (((hb.cell (p := ⟨b, 0, none⟩) ((unhide HD).row _ b hdir).lt)).trans (((unhide HD).row _ b hdir).cell 0)) ((((unhide HD).below hb (Nat.le_refl _))).sl _ b hdir) (Nat.le_trans ((unhide HD).le hG hdir) hGl) ((unhide HD).srt _ b hdir)
    go_wp2_with fail
    refine hget.mono ?_
    rintro e w2 ⟨r, bb, rfl, hfd, hb2⟩
    obtain ⟨e1, e2⟩ := EnOk.at hG ((unhide HD).en _ b hdir) hfd
    have HSP : Hid (SpotIs G rd (ns.take (k + 1)) (some ⟨b, 0, none⟩) y bb r) := by
     show SpotIs _ _ _ _ _ _ _
     rw [unhide HT]
     exact .inr ⟨_, b, rfl, hdir, rfl, e1, e2⟩
    have HA : Hid (ahG G (heads [] (ns.take (k + 1))) = 0) := by
     show _ = _
     rw [unhide HT]
     rcases hor with e | ha
     ·rw [e]; rfl
     ·by_cases hne : ns.take k = []
      ·rw [hne]; rfl
      ·exact ah_dir hne (unhide H0) ha rfl
    have hr1' : RowIs w2 _ _ _ := (hb2.block _ hr1.lt).trans hr1
    have hr0' : RowIs w2 _ _ _ := (hb2.block _ hr0.lt).trans hr0
    have hlt2 : w.heap.size + 1 < w2.heap.size := hr1'.lt
    have hb' : Below w.heap.size w w2 := hb.trans (hb2.mono hb.size)
    clear hget hfd e1 e2 hor b0 b1 b2 b3 b4 g0 g1 g2 g3 g4 a0 a1 a2 a3 a4 f0 f1 f2 f3 f4
    have a0 := hr1'.cell 0; have a1 := hr1'.cell 1; have a2 := hr1'.cell 2; have a3 := hr1'.cell 3; have a4 := hr1'.cell 4
    have f0 := hr1'.frozen 0; have f1 := hr1'.frozen 1; have f2 := hr1'.frozen 2; have f3 := hr1'.frozen 3; have f4 := hr1'.frozen 4
    go_wp2
    go_roundw
    case rel =>
     refine ⟨k + 1, by omega, by go_num, some ⟨b, 0, none⟩, y, bb, r, unhide HSP, unhide HA, ?_, ?_, ?_⟩
     ·exact RowIs.alloc (set5 hr1' (.pointer (some ⟨b, 0, none⟩)) (.string y) (.bool bb) (.pointer r.p) (.int .i64 r.f)) _
     ·exact RowIs.alloc (other5 hr0' (by omega) (.pointer (some ⟨b, 0, none⟩)) (.string y) (.bool bb) (.pointer r.p) (.int .i64 r.f)) _
     ·have h5 := below_set5 hb' (Nat.le_succ _) (.pointer (some ⟨b, 0, none⟩)) (.string y) (.bool bb) (.pointer r.p) (.int .i64 r.f)
      exact h5.alloc h5.size _
    case measure => simp [intOf]; omega
  ·obtain rfl : k = ns.length := by omega
   go_wp2
   have hR := set5 hr0 (.pointer d) (.string n) (.bool t) (.pointer u.p) (.int .i64 u.f)
   have r0 := hR.cell 0; have r1 := hR.cell 1; have r2 := hR.cell 2; have r3 := hR.cell 3; have r4 := hR.cell 4
   have h0 := unhide H0
   have hs := unhide HS
   rw [List.take_length] at h0 hs
   exact bodyPost_ret (v := .tuple #[spotV d n t u, .int .i64 0]) (by simp [results, Tryz.results227, go_sem, r0, r1, r2, r3, r4, spotV]) rfl
    ⟨.inr ⟨h0, d, n, t, u, hs, rfl⟩, below_set5 hb (Nat.le_refl _) _ _ _ _ _⟩
def PkgOk (w : World) : Prop := (∃ m, w.cell? ⟨0, 0, none⟩ = some (.int .i64 m)) ∧ ∀ t R, RowIs w 0 t R → t = 3
def bytesV (s : ByteArray) : List Value := s.data.toList.map (fun b => .int .u8 (b.toNat : Int))
structure TW (w : World) (tb rd : Nat) (V : Nat → Value) (E : Nat → List (ByteArray × VS)) (vi : Value) (G : Gh) (I : List (Int × VF)) (C : Int → ByteArray) : Prop where
 pk : PkgOk w
 t : RowIs w tb 214 [.pointer (some ⟨rd, 0, none⟩), vi]
 d : DirW w G rd V E
 i : Sl w 293 3 vi I.length (cellsI I)
 si : SrtI I
 dat : ∀ x ∈ I, Sl w 5 1 (.slice x.2.a x.2.l x.2.c) x.2.l (bytesV (C x.1))
 lo : tb ≤ rd + 1 ∧ ∀ g, vi.ownBlock = some g → rd ≤ g
theorem PkgOk.fr {X : Nat → Prop} {w w' : World} (h : PkgOk w) (hf : Fr X w w') (hX : ¬ X 0) : PkgOk w' := by
 obtain ⟨⟨m, hm⟩, ht⟩ := h
 have h0 : 0 < w.heap.size := World.block_lt_of_cell? _ _ hm
 have hb := hf.block 0 h0 hX
 refine ⟨⟨m, ?_⟩, fun t R hR => ht t R ?_⟩
 ·rw [← hm]; unfold World.cell?; rw [hb]
 ·unfold RowIs at hR ⊢; rw [← hb]; exact hR
theorem TW.fr {X : Nat → Prop} {w w' : World} {tb rd : Nat} {V : Nat → Value} {E : Nat → List (ByteArray × VS)} {vi : Value} {G : Gh} {I : List (Int × VF)} {C : Int → ByteArray} (h : TW w tb rd V E vi G I C) (hf : Fr X w w') (h0 : ¬ X 0)
  (hX : ∀ k t R, X k → RowIs w k t R → t ≠ 214 ∧ t ≠ 229 ∧ t ≠ 310 ∧ t ≠ 293 ∧ t ≠ 5) : TW w' tb rd V E vi G I C :=
 ⟨h.pk.fr hf h0, h.t.fr hf (fun e => (hX _ _ _ e h.t).1 rfl), h.d.fr hf (fun k t R e hR => ⟨(hX k t R e hR).2.1, (hX k t R e hR).2.2.1⟩),
  h.i.fr hf (fun g hg e => by obtain ⟨R, hR⟩ := h.i.type hg; exact (hX _ _ _ e hR).2.2.2.1 rfl), h.si,
  fun x hx => (h.dat x hx).fr hf (fun g hg e => by obtain ⟨R, hR⟩ := (h.dat x hx).type hg; exact (hX _ _ _ e hR).2.2.2.2 rfl), h.lo⟩
theorem TW.dlo {w : World} {tb rd : Nat} {V : Nat → Value} {E : Nat → List (ByteArray × VS)} {vi : Value} {G : Gh} {I : List (Int × VF)} {C : Int → ByteArray} (h : TW w tb rd V E vi G I C) {ns : List ByteArray} {b : Nat} (hd : IsDir G rd ns b) : tb ≤ b + 1 ∧ ∀ g, (V b).ownBlock = some g → tb ≤ g + 1 := by
 have h1 := h.lo.1
 have h2 := h.d.lo ns b hd
 exact ⟨by omega, fun g hg => by have := h2.2 g hg; omega⟩
theorem TW.below {w w' : World} {tb rd : Nat} {V : Nat → Value} {E : Nat → List (ByteArray × VS)} {vi : Value} {G : Gh} {I : List (Int × VF)} {C : Int → ByteArray} (h : TW w tb rd V E vi G I C) {B : Nat} (hb : Below B w w') (hB : w.heap.size ≤ B) : TW w' tb rd V E vi G I C :=
 h.fr (X := fun _ => False) (Fr.of_below (hb.mono hB)) id (fun _ _ _ e => e.elim)
def locE (G : Gh) (p : ByteArray) (fits : Bool) : Int := if nmOk p = false then 1 else if fits = false then 2 else ahG G (heads [] (names p))
def LocPost (G : Gh) (rd : Nat) (p : ByteArray) (fits : Bool) (w : World) (e : Ending) (w' : World) : Prop :=
 ((locE G p fits ≠ 0 ∧ e = .returned (.tuple #[noSpot, .int .i64 (locE G p fits)])) ∨
  (locE G p fits = 0 ∧ nmOk p = true ∧ ∃ d n t u, SpotIs G rd (names p) d n t u ∧ e = .returned (.tuple #[spotV d n t u, .int .i64 0]))) ∧ Below w.heap.size w w'
theorem names_len {p : ByteArray} (h : nmOk p = true) : (names p).length ≤ 6 := by
 cases hr : (p.toList == [47]) with
 | true => rw [names_root hr]; exact Nat.zero_le _
 | false => exact (path_names h hr).2.2.2
theorem locate_code (w : World) (tb rd : Nat) (V : Nat → Value) (E : Nat → List (ByteArray × VS)) (vi : Value) (G : Gh) (I : List (Int × VF)) (C : Int → ByteArray) (h : TW w tb rd V E vi G I C) (hG : GOk G) (hGl : G.length ≤ 10000) (p : ByteArray) (hp : p.size ≤ 2000000) (fits : Bool) :
  Calls Tryz.prog 184 #[.pointer (some ⟨tb, 0, none⟩), .string p, .bool fits] w (LocPost G rd p fits w) := by
 obtain ⟨m, hm⟩ := h.pk.1
 have h0 : 0 < w.heap.size := World.block_lt_of_cell? _ _ hm
 have hal : ∀ o, Below w.heap.size w (w.alloc o) := fun o => (Below.refl _ _).alloc (Nat.le_refl _) o
 have hnm := fun o => names_code p m (w.alloc o) hp (((hal o).cell (p := ⟨0, 0, none⟩) h0).trans hm)
 have hr0 := row_new w [.pointer none, .string ⟨#[]⟩, .bool false, .pointer none, .int .i64 0] 262
 have HR0 := hide hr0
 clear hr0
 go_enter Tryz.func184, Tryz.ntmps184
 go_wp2_with fail
 refine (hnm _).mono ?_
 rintro e w1 ⟨hpost, hb1⟩
 have hb : Below w.heap.size w w1 := (hal _).trans (hb1.mono (by simp))
 have hr1 : RowIs w1 w.heap.size 262 _ := (hb1.block _ (by simp)).trans (unhide HR0)
 have HH := hide h
 clear hnm hal h
 rcases hpost with ⟨hn, rfl⟩ | ⟨hn, a, c, rfl, hSl⟩
 ·have HE : Hid (locE G p fits = 1) := by show _ = _; unfold locE; rw [if_pos hn]
  have g0 := hr1.frozen 0; have g1 := hr1.frozen 1; have g2 := hr1.frozen 2; have g3 := hr1.frozen 3; have g4 := hr1.frozen 4
  have a0 := hr1.cell 0; have a1 := hr1.cell 1; have a2 := hr1.cell 2; have a3 := hr1.cell 3; have a4 := hr1.cell 4
  clear hn
  go_wp2
  have hR := set5 hr1 (.pointer none) (.string ⟨#[]⟩) (.bool false) (.pointer none) (.int .i64 0)
  have r0 := hR.cell 0; have r1 := hR.cell 1; have r2 := hR.cell 2; have r3 := hR.cell 3; have r4 := hR.cell 4
  exact bodyPost_ret (v := .tuple #[noSpot, .int .i64 1]) (by simp [results, Tryz.results184, go_sem, r0, r1, r2, r3, r4, noSpot, spotV]) rfl
   ⟨.inl ⟨by rw [unhide HE]; decide, by rw [unhide HE]⟩, below_set5 hb (Nat.le_refl _) _ _ _ _ _⟩
 ·have g0 := hr1.frozen 0; have g1 := hr1.frozen 1; have g2 := hr1.frozen 2; have g3 := hr1.frozen 3; have g4 := hr1.frozen 4
  have a0 := hr1.cell 0; have a1 := hr1.cell 1; have a2 := hr1.cell 2; have a3 := hr1.cell 3; have a4 := hr1.cell 4
  cases fits with
  | false =>
   have HE : Hid (locE G p false = 2) := by show _ = _; unfold locE; rw [if_neg (by rw [hn]; simp), if_pos rfl]
   clear hn
   go_wp2
   have hR := set5 hr1 (.pointer none) (.string ⟨#[]⟩) (.bool false) (.pointer none) (.int .i64 0)
   have r0 := hR.cell 0; have r1 := hR.cell 1; have r2 := hR.cell 2; have r3 := hR.cell 3; have r4 := hR.cell 4
   exact bodyPost_ret (v := .tuple #[noSpot, .int .i64 2]) (by simp [results, Tryz.results184, go_sem, r0, r1, r2, r3, r4, noSpot, spotV]) rfl
    ⟨.inl ⟨by rw [unhide HE]; decide, by rw [unhide HE]⟩, below_set5 hb (Nat.le_refl _) _ _ _ _ _⟩
  | true =>
   have HE : Hid (locE G p true = ahG G (heads [] (names p))) := by show _ = _; unfold locE; rw [if_neg (by rw [hn]; simp), if_neg (by simp)]
   have h1 := (unhide HH).below hb (Nat.le_refl _)
   have hfol := follow_code w1 tb rd V E vi G hG hGl h1.t h1.d (names p) (names_len hn) a c hSl
   have HN := hide hn
   clear hn
   go_wp2_with fail
   refine hfol.mono ?_
   rintro e w2 ⟨hpost, hb2⟩
   have hr2 : RowIs w2 w.heap.size 262 _ := (hb2.block _ hr1.lt).trans hr1
   have hbb : Below w.heap.size w w2 := hb.trans (hb2.mono hb.size)
   clear hfol g0 g1 g2 g3 g4 a0 a1 a2 a3 a4
   have g0 := hr2.frozen 0; have g1 := hr2.frozen 1; have g2 := hr2.frozen 2; have g3 := hr2.frozen 3; have g4 := hr2.frozen 4
   have a0 := hr2.cell 0; have a1 := hr2.cell 1; have a2 := hr2.cell 2; have a3 := hr2.cell 3; have a4 := hr2.cell 4
   rcases hpost with ⟨hne, rfl⟩ | ⟨he, d, n, t, u, hsp, rfl⟩
   ·unfold noSpot spotV
    go_wp2
    have hR := set5 hr2 (.pointer none) (.string ⟨#[]⟩) (.bool false) (.pointer none) (.int .i64 0)
    have r0 := hR.cell 0; have r1 := hR.cell 1; have r2 := hR.cell 2; have r3 := hR.cell 3; have r4 := hR.cell 4
    exact bodyPost_ret (v := .tuple #[noSpot, .int .i64 (ahG G (heads [] (names p)))]) (by simp [results, Tryz.results184, go_sem, r0, r1, r2, r3, r4, noSpot, spotV]) rfl
     ⟨.inl ⟨by rw [unhide HE]; exact hne, by rw [unhide HE]⟩, below_set5 hbb (Nat.le_refl _) _ _ _ _ _⟩
   ·have HSP := hide hsp
    have HE2 := hide he
    clear hsp he
    unfold spotV
    go_wp2
    have hR := set5 hr2 (.pointer d) (.string n) (.bool t) (.pointer u.p) (.int .i64 u.f)
    have r0 := hR.cell 0; have r1 := hR.cell 1; have r2 := hR.cell 2; have r3 := hR.cell 3; have r4 := hR.cell 4
    exact bodyPost_ret (v := .tuple #[spotV d n t u, .int .i64 0]) (by simp [results, Tryz.results184, go_sem, r0, r1, r2, r3, r4, spotV]) rfl
     ⟨.inr ⟨(unhide HE).trans (unhide HE2), unhide HN, d, n, t, u, unhide HSP, rfl⟩, below_set5 hbb (Nat.le_refl _) _ _ _ _ _⟩
def thE (G : Gh) (p : ByteArray) : Int := if locE G p true ≠ 0 then locE G p true else if names p ≠ [] ∧ atG G (names p) = none then 3 else 0
def TherePost (G : Gh) (rd : Nat) (p : ByteArray) (w : World) (e : Ending) (w' : World) : Prop :=
 ((thE G p ≠ 0 ∧ e = .returned (.tuple #[noSpot, .int .i64 (thE G p)])) ∨
  (thE G p = 0 ∧ nmOk p = true ∧ ∃ d n u, SpotIs G rd (names p) d n true u ∧ e = .returned (.tuple #[spotV d n true u, .int .i64 0]))) ∧ Below w.heap.size w w'
theorem spot_there {G : Gh} {rd : Nat} {ns : List ByteArray} {d : Option Addr} {n : ByteArray} {t : Bool} {u : VS} (h : SpotIs G rd ns d n t u) : (t = false ↔ ns ≠ [] ∧ atG G ns = none) := by
 rcases h with ⟨rfl, _, _, rfl, _⟩ | ⟨ds, db, rfl, _, _, rfl, _⟩
 ·simp
 ·cases atG G (ds ++ [n]) <;> simp
theorem alloc_name (w1 : World) (L : List Value) (t : TypeId) : ∃ W, w1.alloc (.cells L.toArray t) = W ∧ RowIs W w1.heap.size t L ∧ (∀ b t' R, RowIs w1 b t' R → RowIs W b t' R) ∧ W.heap.size = w1.heap.size + 1 ∧ Below w1.heap.size w1 W :=
 ⟨_, rfl, row_new w1 L t, fun _ _ _ h => h.alloc _, by simp, (Below.refl _ _).alloc (Nat.le_refl _) _⟩
abbrev zeroL : List Value := [.pointer none, .string ⟨#[]⟩, .bool false, .pointer none, .int .i64 0]
abbrev spotL (d : Option Addr) (n : ByteArray) (t : Bool) (u : VS) : List Value := [.pointer d, .string n, .bool t, .pointer u.p, .int .i64 u.f]
theorem there_code (w : World) (tb rd : Nat) (V : Nat → Value) (E : Nat → List (ByteArray × VS)) (vi : Value) (G : Gh) (I : List (Int × VF)) (C : Int → ByteArray) (h : TW w tb rd V E vi G I C) (hG : GOk G) (hGl : G.length ≤ 10000) (p : ByteArray) (hp : p.size ≤ 2000000) :
  Calls Tryz.prog 177 #[.pointer (some ⟨tb, 0, none⟩), .string p] w (TherePost G rd p w) := by
 have hal : ∀ o, Below w.heap.size w (w.alloc o) := fun o => (Below.refl _ _).alloc (Nat.le_refl _) o
 have hloc := fun o => locate_code (w.alloc o) tb rd V E vi G I C (h.below (hal o) (Nat.le_refl _)) hG hGl p hp true
 have HR0 := hide (row_new w zeroL 262)
 go_enter Tryz.func177, Tryz.ntmps177
 go_wp2_with fail
 refine (hloc _).mono ?_
 rintro e w1 ⟨hpost, hb1⟩
 have hb : Below w.heap.size w w1 := (hal _).trans (hb1.mono (by simp))
 have hr1 : RowIs w1 w.heap.size 262 zeroL := (hb1.block _ (by simp)).trans (unhide HR0)
 have hlt : w.heap.size < w1.heap.size := hr1.lt
 clear hloc hal h hb1 HR0
 rcases hpost with ⟨hne, rfl⟩ | ⟨he, hok, d, n, t, u, hsp, rfl⟩
 ·have HE : Hid (thE G p = locE G p true) := by show _ = _; unfold thE; rw [if_pos hne]
  have HNE := hide hne
  have hne' : (locE G p true == 0) = false := by simpa using hne
  clear hne
  unfold noSpot spotV
  go_upto_if 20 with fail
  obtain ⟨W, hW, hx, hk, hsz, hbW⟩ := alloc_name w1 zeroL 262
  have hy := hk _ _ _ hr1
  have hb2 : Below w.heap.size w W := hb.trans (hbW.mono hb.size)
  rw [hW]
  clear hW hr1 hb hne' hk hbW
  have a0 := hx.cell 0; have a1 := hx.cell 1; have a2 := hx.cell 2; have a3 := hx.cell 3; have a4 := hx.cell 4
  have b0 := hy.cell 0; have b1 := hy.cell 1; have b2 := hy.cell 2; have b3 := hy.cell 3; have b4 := hy.cell 4
  have g0 := hy.frozen 0; have g1 := hy.frozen 1; have g2 := hy.frozen 2; have g3 := hy.frozen 3; have g4 := hy.frozen 4
  go_wp2
  have hR := set5 hy (.pointer none) (.string ⟨#[]⟩) (.bool false) (.pointer none) (.int .i64 0)
  have r0 := hR.cell 0; have r1 := hR.cell 1; have r2 := hR.cell 2; have r3 := hR.cell 3; have r4 := hR.cell 4
  exact bodyPost_ret (v := .tuple #[noSpot, .int .i64 (locE G p true)]) (by simp [results, Tryz.results177, go_sem, r0, r1, r2, r3, r4, noSpot, spotV]) rfl
   ⟨.inl ⟨by rw [unhide HE]; exact unhide HNE, by rw [unhide HE]⟩, below_set5 hb2 (Nat.le_refl _) _ _ _ _ _⟩
 ·have HSP := hide hsp
  have HOK := hide hok
  have hth := spot_there hsp
  unfold spotV
  go_upto_if 20 with fail
  obtain ⟨W, hW, hx, hk, hsz, hbW⟩ := alloc_name w1 (spotL d n t u) 262
  have hy := hk _ _ _ hr1
  have hb2 : Below w.heap.size w W := hb.trans (hbW.mono hb.size)
  rw [hW]
  clear hW hr1 hb hk hbW hsp hok
  have a0 := hx.cell 0; have a1 := hx.cell 1; have a2 := hx.cell 2; have a3 := hx.cell 3; have a4 := hx.cell 4
  have b0 := hy.cell 0; have b1 := hy.cell 1; have b2 := hy.cell 2; have b3 := hy.cell 3; have b4 := hy.cell 4
  have g0 := hy.frozen 0; have g1 := hy.frozen 1; have g2 := hy.frozen 2; have g3 := hy.frozen 3; have g4 := hy.frozen 4
  cases t with
  | false =>
   have HE : Hid (thE G p = 3) := by show _ = _; unfold thE; rw [if_neg (by simpa using he), if_pos (hth.1 rfl)]
   clear he hth
   go_wp2
   have hR := set5 hy (.pointer none) (.string ⟨#[]⟩) (.bool false) (.pointer none) (.int .i64 0)
   have r0 := hR.cell 0; have r1 := hR.cell 1; have r2 := hR.cell 2; have r3 := hR.cell 3; have r4 := hR.cell 4
   exact bodyPost_ret (v := .tuple #[noSpot, .int .i64 3]) (by simp [results, Tryz.results177, go_sem, r0, r1, r2, r3, r4, noSpot, spotV]) rfl
    ⟨.inl ⟨by rw [unhide HE]; decide, by rw [unhide HE]⟩, below_set5 hb2 (Nat.le_refl _) _ _ _ _ _⟩
  | true =>
   have HE : Hid (thE G p = 0) := by show _ = _; unfold thE; rw [if_neg (by simpa using he), if_neg (fun h => by have := hth.2 h; cases this)]
   clear he hth
   go_wp2
   have hR := set5 hy (.pointer d) (.string n) (.bool true) (.pointer u.p) (.int .i64 u.f)
   have r0 := hR.cell 0; have r1 := hR.cell 1; have r2 := hR.cell 2; have r3 := hR.cell 3; have r4 := hR.cell 4
   exact bodyPost_ret (v := .tuple #[spotV d n true u, .int .i64 0]) (by simp [results, Tryz.results177, go_sem, r0, r1, r2, r3, r4, spotV]) rfl
    ⟨.inr ⟨unhide HE, unhide HOK, d, n, u, unhide HSP, rfl⟩, below_set5 hb2 (Nat.le_refl _) _ _ _ _ _⟩
def gapE (G : Gh) (ns : List ByteArray) : Int := if ahG G (heads [] ns) ≠ 0 then ahG G (heads [] ns) else if ns = [] ∨ (atG G ns).isSome = true then 6 else 0
def GapPost (G : Gh) (rd : Nat) (ns : List ByteArray) (w : World) (e : Ending) (w' : World) : Prop :=
 ((gapE G ns ≠ 0 ∧ e = .returned (.tuple #[noSpot, .int .i64 (gapE G ns)])) ∨
  (gapE G ns = 0 ∧ ∃ ds n db, ns = ds ++ [n] ∧ IsDir G rd ds db ∧ atG G ns = none ∧ e = .returned (.tuple #[spotV (some ⟨db, 0, none⟩) n false ⟨none, 0⟩, .int .i64 0]))) ∧ Below w.heap.size w w'
theorem gap_code (w : World) (tb rd : Nat) (V : Nat → Value) (E : Nat → List (ByteArray × VS)) (vi : Value) (G : Gh) (I : List (Int × VF)) (C : Int → ByteArray) (h : TW w tb rd V E vi G I C) (hG : GOk G) (hGl : G.length ≤ 10000)
  (ns : List ByteArray) (hnl : ns.length ≤ 6) (av : Option Addr) (cv : Nat) (hN : Sl w 9 1 (.slice av ns.length cv) ns.length (ns.map .string)) :
  Calls Tryz.prog 191 #[.pointer (some ⟨tb, 0, none⟩), .slice av ns.length cv] w (GapPost G rd ns w) := by
 have hal : ∀ o, Below w.heap.size w (w.alloc o) := fun o => (Below.refl _ _).alloc (Nat.le_refl _) o
 have hfol := fun o => follow_code (w.alloc o) tb rd V E vi G hG hGl (h.below (hal o) (Nat.le_refl _)).t (h.below (hal o) (Nat.le_refl _)).d ns hnl av cv (hN.kept (fun k hk _ => (hal o).block k hk))
 have HR0 := hide (row_new w zeroL 262)
 go_enter Tryz.func191, Tryz.ntmps191
 go_wp2_with fail
 refine (hfol _).mono ?_
 rintro e w1 ⟨hpost, hb1⟩
 have hb : Below w.heap.size w w1 := (hal _).trans (hb1.mono (by simp))
 have hr1 : RowIs w1 w.heap.size 262 zeroL := (hb1.block _ (by simp)).trans (unhide HR0)
 have hlt : w.heap.size < w1.heap.size := hr1.lt
 clear hfol hal h hb1 HR0 hN
 rcases hpost with ⟨hne, rfl⟩ | ⟨he, d, n, t, u, hsp, rfl⟩
 ·have HE : Hid (gapE G ns = ahG G (heads [] ns)) := by show _ = _; unfold gapE; rw [if_pos hne]
  have HNE := hide hne
  have hne' : (ahG G (heads [] ns) != 0) = true := by simpa using hne
  clear hne
  unfold noSpot spotV
  go_upto_if 15 with fail
  obtain ⟨W, hW, hx, hk, hsz, hbW⟩ := alloc_name w1 zeroL 262
  have hy := hk _ _ _ hr1
  have hb2 : Below w.heap.size w W := hb.trans (hbW.mono hb.size)
  rw [hW]
  clear hW hr1 hb hk hbW
  have b0 := hy.cell 0; have b1 := hy.cell 1; have b2 := hy.cell 2; have b3 := hy.cell 3; have b4 := hy.cell 4
  have g0 := hy.frozen 0; have g1 := hy.frozen 1; have g2 := hy.frozen 2; have g3 := hy.frozen 3; have g4 := hy.frozen 4
  go_wp2
  have hR := set5 hy (.pointer none) (.string ⟨#[]⟩) (.bool false) (.pointer none) (.int .i64 0)
  have r0 := hR.cell 0; have r1 := hR.cell 1; have r2 := hR.cell 2; have r3 := hR.cell 3; have r4 := hR.cell 4
  exact bodyPost_ret (v := .tuple #[noSpot, .int .i64 (ahG G (heads [] ns))]) (by simp [results, Tryz.results191, go_sem, r0, r1, r2, r3, r4, noSpot, spotV]) rfl
   ⟨.inl ⟨by rw [unhide HE]; exact unhide HNE, by rw [unhide HE]⟩, below_set5 hb2 (Nat.le_refl _) _ _ _ _ _⟩
 ·have HSP := hide hsp
  have hth := spot_there hsp
  unfold spotV
  go_upto_if 15 with fail
  obtain ⟨W, hW, hx, hk, hsz, hbW⟩ := alloc_name w1 (spotL d n t u) 262
  have hy := hk _ _ _ hr1
  have hb2 : Below w.heap.size w W := hb.trans (hbW.mono hb.size)
  rw [hW]
  clear hW hr1 hb hk hbW hsp
  have a0 := hx.cell 0; have a1 := hx.cell 1; have a2 := hx.cell 2; have a3 := hx.cell 3; have a4 := hx.cell 4
  have b0 := hy.cell 0; have b1 := hy.cell 1; have b2 := hy.cell 2; have b3 := hy.cell 3; have b4 := hy.cell 4
  have g0 := hy.frozen 0; have g1 := hy.frozen 1; have g2 := hy.frozen 2; have g3 := hy.frozen 3; have g4 := hy.frozen 4
  cases t with
  | true =>
   have HE : Hid (gapE G ns = 6) := by
    show _ = _; unfold gapE
    rw [if_neg (by simpa using he), if_pos]
    by_cases h0 : ns = []
    ·exact .inl h0
    ·refine .inr ?_
     cases ha : atG G ns with
     | none => have := hth.2 ⟨h0, ha⟩; cases this
     | some u => rfl
   clear he hth
   go_wp2
   have hR := set5 hy (.pointer none) (.string ⟨#[]⟩) (.bool false) (.pointer none) (.int .i64 0)
   have r0 := hR.cell 0; have r1 := hR.cell 1; have r2 := hR.cell 2; have r3 := hR.cell 3; have r4 := hR.cell 4
   exact bodyPost_ret (v := .tuple #[noSpot, .int .i64 6]) (by simp [results, Tryz.results191, go_sem, r0, r1, r2, r3, r4, noSpot, spotV]) rfl
    ⟨.inl ⟨by rw [unhide HE]; decide, by rw [unhide HE]⟩, below_set5 hb2 (Nat.le_refl _) _ _ _ _ _⟩
  | false =>
   obtain ⟨hne, hat⟩ := hth.1 rfl
   have HE : Hid (gapE G ns = 0) := by show _ = _; unfold gapE; rw [if_neg (by simpa using he), if_neg (fun h => by rcases h with h | h; exact hne h; rw [hat] at h; cases h)]
   have HAT := hide hat
   have HX : Hid (∃ ds db, ns = ds ++ [n] ∧ IsDir G rd ds db ∧ d = some ⟨db, 0, none⟩ ∧ u = ⟨none, 0⟩) := by
    rcases unhide HSP with ⟨rfl, _⟩ | ⟨ds, db, h1, h2, h3, _, h5⟩
    ·exact absurd rfl hne
    ·exact ⟨ds, db, h1, h2, h3, by rw [h5, hat]; rfl⟩
   clear he hth hne hat
   go_wp2
   have hR := set5 hy (.pointer d) (.string n) (.bool false) (.pointer u.p) (.int .i64 u.f)
   have r0 := hR.cell 0; have r1 := hR.cell 1; have r2 := hR.cell 2; have r3 := hR.cell 3; have r4 := hR.cell 4
   obtain ⟨ds, db, h1, h2, h3, h4⟩ := unhide HX
   exact bodyPost_ret (v := .tuple #[spotV d n false u, .int .i64 0]) (by simp [results, Tryz.results191, go_sem, r0, r1, r2, r3, r4, spotV]) rfl
    ⟨.inr ⟨unhide HE, ds, n, db, h1, h2, unhide HAT, by rw [h3, h4]⟩, below_set5 hb2 (Nat.le_refl _) _ _ _ _ _⟩
theorem fnum_code (d : Option Addr) (n : ByteArray) (t : Bool) (u : VS) (w : World) : Calls Tryz.prog 188 #[spotV d n t u] w fun e w' => e = .returned (if t = false then .tuple #[.int .i64 0, .int .i64 3] else if u.p.isSome = true then .tuple #[.int .i64 0, .int .i64 5] else .tuple #[.int .i64 u.f, .int .i64 0]) ∧ Below w.heap.size w w' := by
 obtain ⟨p, f⟩ := u
 unfold spotV
 have hal : ∀ o, Below w.heap.size w (w.alloc o) := fun o => (Below.refl _ _).alloc (Nat.le_refl _) o
 cases t with
 | false =>
  go_enter Tryz.func188, Tryz.ntmps188
  go_wp2
  go_ret2
  exact ⟨rfl, hal _⟩
 | true =>
  cases p with
  | none =>
   go_enter Tryz.func188, Tryz.ntmps188
   go_wp2
   go_ret2
   exact ⟨rfl, hal _⟩
  | some a =>
   go_enter Tryz.func188, Tryz.ntmps188
   go_wp2
   go_ret2
   exact ⟨rfl, hal _⟩
def fileE (G : Gh) (p : ByteArray) (fits : Bool) : Int := if locE G p fits ≠ 0 then locE G p fits else if names p = [] then 5 else match atG G (names p) with | none => 3 | some u => if u.p.isSome = true then 5 else 0
def FilePost (G : Gh) (p : ByteArray) (fits : Bool) (w : World) (e : Ending) (w' : World) : Prop :=
 ((fileE G p fits ≠ 0 ∧ e = .returned (.tuple #[.int .i64 0, .int .i64 (fileE G p fits)])) ∨
  (fileE G p fits = 0 ∧ nmOk p = true ∧ ∃ u, atG G (names p) = some u ∧ u.p = none ∧ e = .returned (.tuple #[.int .i64 u.f, .int .i64 0]))) ∧ Below w.heap.size w w'
theorem spot_file {G : Gh} {rd : Nat} {ns : List ByteArray} {d : Option Addr} {n : ByteArray} {t : Bool} {u : VS} (h : SpotIs G rd ns d n t u) :
  (t = false ∧ ns ≠ [] ∧ atG G ns = none) ∨ (t = true ∧ u.p.isSome = true ∧ (ns = [] ∨ (ns ≠ [] ∧ atG G ns = some u))) ∨ (t = true ∧ u.p = none ∧ ns ≠ [] ∧ atG G ns = some u) := by
 rcases h with ⟨rfl, _, _, rfl, rfl⟩ | ⟨ds, db, rfl, _, _, rfl, rfl⟩
 ·exact .inr (.inl ⟨rfl, rfl, .inl rfl⟩)
 ·cases ha : atG G (ds ++ [n]) with
  | none => exact .inl ⟨rfl, by simp, rfl⟩
  | some u =>
   cases hu : u.p with
   | none => exact .inr (.inr ⟨rfl, by simpa using hu, by simp, rfl⟩)
   | some a => exact .inr (.inl ⟨rfl, by simp [hu], .inr ⟨by simp, rfl⟩⟩)
theorem locFile_code (w : World) (tb rd : Nat) (V : Nat → Value) (E : Nat → List (ByteArray × VS)) (vi : Value) (G : Gh) (I : List (Int × VF)) (C : Int → ByteArray) (h : TW w tb rd V E vi G I C) (hG : GOk G) (hGl : G.length ≤ 10000) (p : ByteArray) (hp : p.size ≤ 2000000) (fits : Bool) :
  Calls Tryz.prog 174 #[.pointer (some ⟨tb, 0, none⟩), .string p, .bool fits] w (FilePost G p fits w) := by
 have hloc := locate_code w tb rd V E vi G I C h hG hGl p hp fits
 go_enter Tryz.func174, Tryz.ntmps174
 go_wp2_with fail
 refine hloc.mono ?_
 rintro e w1 ⟨hpost, hb⟩
 clear hloc h
 rcases hpost with ⟨hne, rfl⟩ | ⟨he, hok, d, n, t, u, hsp, rfl⟩
 ·have HE : Hid (fileE G p fits = locE G p fits) := by show _ = _; unfold fileE; rw [if_pos hne]
  have HNE := hide hne
  have hne' : (locE G p fits != 0) = true := by simpa using hne
  clear hne
  unfold noSpot spotV
  go_wp2
  go_ret2
  exact ⟨.inl ⟨by rw [unhide HE]; exact unhide HNE, by rw [unhide HE]; rfl⟩, hb.alloc hb.size _⟩
 ·have HOK := hide hok
  have hsf := spot_file hsp
  have hfn := fun W => fnum_code d n t u W
  have HFN := hide hfn
  have HPOST : Hid (∀ W, Below w.heap.size w W → FilePost G p fits w (.returned (if t = false then .tuple #[.int .i64 0, .int .i64 3] else if u.p.isSome = true then .tuple #[.int .i64 0, .int .i64 5] else .tuple #[.int .i64 u.f, .int .i64 0])) W) := by
   intro W hW
   refine ⟨?_, hW⟩
   rcases hsf with ⟨rfl, h1, h2⟩ | ⟨rfl, h1, h2⟩ | ⟨rfl, h1, h2, h3⟩
   ·have : fileE G p fits = 3 := by unfold fileE; rw [if_neg (by simpa using he), if_neg h1, h2]
    exact .inl ⟨by rw [this]; decide, by rw [this]; rfl⟩
   ·have : fileE G p fits = 5 := by
     unfold fileE; rw [if_neg (by simpa using he)]
     rcases h2 with h2 | ⟨h2, h3⟩
     ·rw [if_pos h2]
     ·rw [if_neg h2, h3]; simp [h1]
    exact .inl ⟨by rw [this]; decide, by rw [this, if_neg (by simp), if_pos h1]⟩
   ·have : fileE G p fits = 0 := by unfold fileE; rw [if_neg (by simpa using he), if_neg h2, h3]; simp [h1]
    exact .inr ⟨this, unhide HOK, u, h3, h1, by rw [if_neg (by simp), if_neg (by simp [h1])]⟩
  clear hsp he hok hsf hfn
  unfold spotV
  go_wp2_with fail
  refine (unhide HFN _).mono ?_
  rintro e w2 ⟨rfl, hb2⟩
  have hb3 : Below w.heap.size w w2 := (hb.alloc hb.size _).trans (hb2.mono (by have := hb.size; simp; omega))
  have HP := unhide HPOST w2 hb3
  obtain ⟨x, y, hxy⟩ : ∃ x y, (if t = false then Value.tuple #[.int .i64 0, .int .i64 3] else if u.p.isSome = true then .tuple #[.int .i64 0, .int .i64 5] else .tuple #[.int .i64 u.f, .int .i64 0]) = .tuple #[.int .i64 x, .int .i64 y] := by
   split
   ·exact ⟨_, _, rfl⟩
   ·split <;> exact ⟨_, _, rfl⟩
  rw [hxy] at HP ⊢
  have HP' := hide HP
  clear HP hxy HPOST HFN
  go_wp2
  go_ret2
  exact unhide HP'
theorem sl_set5 {w : World} {e : TypeId} {sz : Nat} {v : Value} {n : Nat} {xs : List Value} {b : Nat} {t : TypeId} {L : List Value} (h : Sl w e sz v n xs) (hr : RowIs w b t L) (u0 u1 u2 u3 u4 : Value) (hte : e ≠ t := by decide) :
  Sl (((((w.setCell ⟨b, 0, none⟩ u0).setCell ⟨b, 1, none⟩ u1).setCell ⟨b, 2, none⟩ u2).setCell ⟨b, 3, none⟩ u3).setCell ⟨b, 4, none⟩ u4) e sz v n xs := by
 have hne : v.ownBlock ≠ some b := fun e' => by
  obtain ⟨R, hR⟩ := h.type e'
  exact hte (hR.type hr)
 exact ((((h.setCell ⟨b, 0, none⟩ u0 hne).setCell ⟨b, 1, none⟩ u1 hne).setCell ⟨b, 2, none⟩ u2 hne).setCell ⟨b, 3, none⟩ u3 hne).setCell ⟨b, 4, none⟩ u4 hne
def FirstPost (G : Gh) (rd : Nat) (p q : ByteArray) (w : World) (e : Ending) (w' : World) : Prop :=
 ((nmOk q = false ∧ e = .returned (.tuple #[noSpot, .slice none 0 0, .int .i64 1])) ∨
  (nmOk q = true ∧ ∃ a c, Sl w' 9 1 (.slice a (names q).length c) (names q).length ((names q).map .string) ∧
   ((locE G p true ≠ 0 ∧ e = .returned (.tuple #[noSpot, .slice a (names q).length c, .int .i64 (locE G p true)])) ∨
   (locE G p true = 0 ∧ nmOk p = true ∧ ∃ d n t u, SpotIs G rd (names p) d n t u ∧ e = .returned (.tuple #[spotV d n t u, .slice a (names q).length c, .int .i64 0]))))) ∧ Below w.heap.size w w'
theorem first_code (w : World) (tb rd : Nat) (V : Nat → Value) (E : Nat → List (ByteArray × VS)) (vi : Value) (G : Gh) (I : List (Int × VF)) (C : Int → ByteArray) (h : TW w tb rd V E vi G I C) (hG : GOk G) (hGl : G.length ≤ 10000) (p q : ByteArray) (hp : p.size ≤ 2000000) (hq : q.size ≤ 2000000) :
  Calls Tryz.prog 190 #[.pointer (some ⟨tb, 0, none⟩), .string p, .string q] w (FirstPost G rd p q w) := by
 obtain ⟨m, hm⟩ := h.pk.1
 have h0 : 0 < w.heap.size := World.block_lt_of_cell? _ _ hm
 have hal : ∀ o, Below w.heap.size w (w.alloc o) := fun o => (Below.refl _ _).alloc (Nat.le_refl _) o
 have hnm := fun o => names_code q m (w.alloc o) hq (((hal o).cell (p := ⟨0, 0, none⟩) h0).trans hm)
 have HR0 := hide (row_new w zeroL 262)
 go_enter Tryz.func190, Tryz.ntmps190
 go_wp2_with fail
 refine (hnm _).mono ?_
 rintro e w1 ⟨hpost, hb1⟩
 have hb : Below w.heap.size w w1 := (hal _).trans (hb1.mono (by simp))
 have hr1 : RowIs w1 w.heap.size 262 zeroL := (hb1.block _ (by simp)).trans (unhide HR0)
 have hlt : w.heap.size < w1.heap.size := hr1.lt
 have HH := hide h
 clear hnm hal h hb1 HR0
 rcases hpost with ⟨hn, rfl⟩ | ⟨hn, a, c, rfl, hSl⟩
 ·have HN := hide hn
  have b0 := hr1.cell 0; have b1 := hr1.cell 1; have b2 := hr1.cell 2; have b3 := hr1.cell 3; have b4 := hr1.cell 4
  have g0 := hr1.frozen 0; have g1 := hr1.frozen 1; have g2 := hr1.frozen 2; have g3 := hr1.frozen 3; have g4 := hr1.frozen 4
  clear hn
  go_wp2
  have hR := set5 hr1 (.pointer none) (.string ⟨#[]⟩) (.bool false) (.pointer none) (.int .i64 0)
  have r0 := hR.cell 0; have r1 := hR.cell 1; have r2 := hR.cell 2; have r3 := hR.cell 3; have r4 := hR.cell 4
  exact bodyPost_ret (v := .tuple #[noSpot, .slice none 0 0, .int .i64 1]) (by simp [results, Tryz.results190, go_sem, r0, r1, r2, r3, r4, noSpot, spotV]) rfl
   ⟨.inl ⟨unhide HN, rfl⟩, below_set5 hb (Nat.le_refl _) _ _ _ _ _⟩
 ·have HN := hide hn
  have h1 := (unhide HH).below hb (Nat.le_refl _)
  have hloc := locate_code w1 tb rd V E vi G I C h1 hG hGl p hp true
  obtain ⟨nl, hnl⟩ : ∃ nl, nl = (names q).length := ⟨_, rfl⟩
  have HNL := hide hnl
  rw [← hnl]
  clear hn h1 hnl
  go_wp2_with fail
  refine hloc.mono ?_
  rintro e w2 ⟨hpost, hb2⟩
  have hr2 : RowIs w2 w.heap.size 262 zeroL := (hb2.block _ hr1.lt).trans hr1
  have hb3 : Below w.heap.size w w2 := hb.trans (hb2.mono hb.size)
  have hSl2 : Sl w2 9 1 (.slice a (names q).length c) (names q).length ((names q).map .string) := hSl.kept (fun k hk _ => hb2.block k hk)
  have HSL := hide hSl2
  have hlt2 : w.heap.size < w2.heap.size := hr2.lt
  clear hloc hSl hSl2 hr1 hb hb2
  have hfin : ∀ (d : Option Addr) (n : ByteArray) (t : Bool) (u : VS) (W : World), w2.alloc (.cells (spotL d n t u).toArray 262) = W → RowIs W w2.heap.size 262 (spotL d n t u) ∧ RowIs W w.heap.size 262 zeroL ∧ Below w.heap.size w W ∧ Hid (Below w2.heap.size w2 W) := by
   intro d n t u W hW
   rw [← hW]
   exact ⟨row_new w2 _ _, hr2.alloc _, hb3.alloc hb3.size _, (Below.refl _ _).alloc (Nat.le_refl _) _⟩
  have HFIN := hide hfin
  clear hfin hr2 hb3
  rcases hpost with ⟨hne, rfl⟩ | ⟨he, hok, d, n, t, u, hsp, rfl⟩
  ·have HNE := hide hne
   clear hne
   unfold noSpot spotV
   go_upto_region 5 with fail
   obtain ⟨W, hW⟩ : ∃ W, w2.alloc (.cells (spotL none ⟨#[]⟩ false ⟨none, 0⟩).toArray 262) = W := ⟨_, rfl⟩
   obtain ⟨hx, hy, hb4, HBW⟩ := unhide HFIN _ _ _ _ W hW
   rw [hW]
   clear hW HFIN
   have a0 := hx.cell 0; have a1 := hx.cell 1; have a2 := hx.cell 2; have a3 := hx.cell 3; have a4 := hx.cell 4
   have b0 := hy.cell 0; have b1 := hy.cell 1; have b2 := hy.cell 2; have b3 := hy.cell 3; have b4 := hy.cell 4
   have g0 := hy.frozen 0; have g1 := hy.frozen 1; have g2 := hy.frozen 2; have g3 := hy.frozen 3; have g4 := hy.frozen 4
   go_wp2
   have hR := set5 hy (.pointer none) (.string ⟨#[]⟩) (.bool false) (.pointer none) (.int .i64 0)
   have r0 := hR.cell 0; have r1 := hR.cell 1; have r2 := hR.cell 2; have r3 := hR.cell 3; have r4 := hR.cell 4
   exact bodyPost_ret (v := .tuple #[noSpot, .slice a nl c, .int .i64 (locE G p true)]) (by simp [results, Tryz.results190, go_sem, r0, r1, r2, r3, r4, noSpot, spotV]) rfl
    ⟨.inr ⟨unhide HN, a, c, sl_set5 ((unhide HSL).kept (fun k hk _ => (unhide HBW).block k hk)) hy _ _ _ _ _, .inl ⟨unhide HNE, by rw [unhide HNL]⟩⟩, below_set5 hb4 (Nat.le_refl _) _ _ _ _ _⟩
  ·have HSP := hide hsp
   have HOK := hide hok
   have HE := hide he
   clear hsp hok he
   unfold spotV
   go_upto_region 5 with fail
   obtain ⟨W, hW⟩ : ∃ W, w2.alloc (.cells (spotL d n t u).toArray 262) = W := ⟨_, rfl⟩
   obtain ⟨hx, hy, hb4, HBW⟩ := unhide HFIN _ _ _ _ W hW
   rw [hW]
   clear hW HFIN
   have a0 := hx.cell 0; have a1 := hx.cell 1; have a2 := hx.cell 2; have a3 := hx.cell 3; have a4 := hx.cell 4
   have b0 := hy.cell 0; have b1 := hy.cell 1; have b2 := hy.cell 2; have b3 := hy.cell 3; have b4 := hy.cell 4
   have g0 := hy.frozen 0; have g1 := hy.frozen 1; have g2 := hy.frozen 2; have g3 := hy.frozen 3; have g4 := hy.frozen 4
   go_wp2
   have hR := set5 hy (.pointer d) (.string n) (.bool t) (.pointer u.p) (.int .i64 u.f)
   have r0 := hR.cell 0; have r1 := hR.cell 1; have r2 := hR.cell 2; have r3 := hR.cell 3; have r4 := hR.cell 4
   exact bodyPost_ret (v := .tuple #[spotV d n t u, .slice a nl c, .int .i64 0]) (by simp [results, Tryz.results190, go_sem, r0, r1, r2, r3, r4, spotV]) rfl
    ⟨.inr ⟨unhide HN, a, c, sl_set5 ((unhide HSL).kept (fun k hk _ => (unhide HBW).block k hk)) hy _ _ _ _ _, .inr ⟨unhide HE, unhide HOK, d, n, t, u, unhide HSP, by rw [unhide HNL]⟩⟩, below_set5 hb4 (Nat.le_refl _) _ _ _ _ _⟩
theorem clone_code (s : ByteArray) (w : World) (hs : s.size ≤ 2000000) : Calls Tryz.prog 223 #[.string s] w fun e w' => e = .returned (.string s) ∧ Below w.heap.size w w' := by
 have hc := Tryz.stringslite_Clone s w (by omega)
 go_enter Tryz.func223, Tryz.ntmps223
 go_wp2_with fail
 refine hc.mono ?_
 rintro e w' ⟨rfl, hb⟩
 go_wp2
 go_ret
 exact ⟨rfl, hb⟩
theorem isRoot_code (d : Option Addr) (n : ByteArray) (t : Bool) (u : VS) (w : World) : Calls Tryz.prog 193 #[spotV d n t u] w fun e w' => e = .returned (.bool d.isNone) ∧ Below w.heap.size w w' := by
 unfold spotV
 cases d with
 | none =>
  go_enter Tryz.func193, Tryz.ntmps193
  go_wp2
  go_ret
  exact ⟨rfl, (Below.refl _ _).alloc (Nat.le_refl _) _⟩
 | some a =>
  go_enter Tryz.func193, Tryz.ntmps193
  go_wp2
  go_ret
  exact ⟨rfl, (Below.refl _ _).alloc (Nat.le_refl _) _⟩
theorem isFull_code (w : World) (b : Nat) (v : Value) (n : Nat) (xs : List Value) (hr : RowIs w b 229 [v]) (hS : Sl w 310 3 v n xs) : Calls Tryz.prog 231 #[.pointer (some ⟨b, 0, none⟩)] w fun e w' => e = .returned (.bool (decide (20 ≤ n))) ∧ w' = w := by
 have hl := lenS w b 0 v n xs (hr.cell 0) hS
 go_enter Tryz.func231, Tryz.ntmps231
 go_wp2_with fail
 refine hl.mono ?_
 rintro e w' ⟨rfl, rfl⟩
 have hdec : decide ((20 : Int) ≤ (n : Int)) = decide (20 ≤ n) := by rw [decide_eq_decide]; omega
 have HD := hide hdec
 clear hdec hl
 go_wp2
 go_ret
 exact ⟨by rw [← unhide HD]; rfl, rfl⟩
theorem enter_low (w : World) (db : Nat) (n : ByteArray) (hn : n.size ≤ 2000000) (t : Bool) (u0 u : VS) (v : Value) (es : List (ByteArray × VS)) (hr : RowIs w db 229 [v]) (hS : Sl w 310 3 v es.length (cellsS es)) (hl : es.length ≤ 10000) (hs : SrtS es) (hno : ∀ x ∈ es, x.1 ≠ n) :
  Calls Tryz.prog 183 #[spotV (some ⟨db, 0, none⟩) n t u0, .agg #[.pointer u.p, .int .i64 u.f]] w fun e w' => e = .returned (.tuple #[]) ∧ ∃ v' es', RowIs w' db 229 [v'] ∧ Sl w' 310 3 v' es'.length (cellsS es') ∧
   SrtS es' ∧ es'.length = es.length + 1 ∧ (∀ x, x ∈ es' ↔ x = (n, u) ∨ x ∈ es) ∧ NewOr w v v' ∧ Fr (fun k => k = db ∨ v.ownBlock = some k) w w' := by
 unfold spotV
 go_enter Tryz.func183, Tryz.ntmps183
 go_wp2
 obtain ⟨W1, hW1, hx1, hk1, hsz1, hb1⟩ := alloc_name w (spotL (some ⟨db, 0, none⟩) n t u0) 262
 obtain ⟨W2, hW2, hx2, hk2, hsz2, hb2⟩ := alloc_name W1 [.pointer u.p, .int .i64 u.f] 260
 have hx := hk2 _ _ _ hx1
 rw [hsz1] at hx2
 have hb : Below w.heap.size w W2 := hb1.trans (hb2.mono (by omega))
 rw [hW1, hW2]
 have a0 := hx.cell 0; have a1 := hx.cell 1; have c0 := hx2.cell 0; have c1 := hx2.cell 1
 have HPUT : Hid (∀ W', Below w.heap.size w W' → Calls Tryz.prog 226 #[.pointer (some ⟨db, 0, none⟩), .string n, .agg #[.pointer u.p, .int .i64 u.f]] W' fun e w' => e = .returned (.tuple #[]) ∧ ∃ v' es', RowIs w' db 229 [v'] ∧ Sl w' 310 3 v' es'.length (cellsS es') ∧
   SrtS es' ∧ es'.length = es.length + 1 ∧ (∀ x, x ∈ es' ↔ x = (n, u) ∨ x ∈ es) ∧ NewOr w v v' ∧ Fr (fun k => k = db ∨ v.ownBlock = some k) w w' ∧ ∀ k, k < W'.heap.size → w.heap.size ≤ k → w'.heap[k]? = W'.heap[k]?) := by
  intro W' hb'
  have hr' : RowIs W' db 229 [v] := (hb'.block _ hr.lt).trans hr
  have hS' : Sl W' 310 3 v es.length (cellsS es) := hS.kept (fun k hk _ => hb'.block k hk)
  have hne : v.ownBlock ≠ some db := fun e => by obtain ⟨R, hR⟩ := hS.type e; have := hR.type hr; revert this; decide
  refine (putNewS W' db 0 v es n u (hr'.cell 0) (hr'.frozen 0) hne hS' hl hs hno).mono ?_
  rintro e w' ⟨rfl, v', es', q1, q2, q3, q4, q5, q6, q7⟩
  refine ⟨rfl, v', es', ?_, q2, q3, q4, q5, fun g hg => ?_, ?_, fun k hk hkw => q7.block k hk (fun e => by have := hr.lt; omega) (fun e => by have := hS.lt e; omega)⟩
  ·have h1 := q7.head
   have h2 := hr'.set 0 v'
   unfold RowIs at h2 ⊢
   rw [h1]; simpa using h2
  ·rcases q6 g hg with h | h
   ·exact .inl h
   ·exact .inr (Nat.le_trans hb'.size h)
  ·exact ⟨q7.os.trans hb'.os, q7.tape.trans hb'.tape, q7.output.trans hb'.output, Nat.le_trans hb'.size q7.size, fun k hk hX => (q7.block k (Nat.lt_of_lt_of_le hk hb'.size) (fun e => hX (.inl e)) (fun e => hX (.inr e))).trans (hb'.block k hk)⟩
 clear hW1 hW2 hx1 hk1 hk2 hb1 hb2 hr hS hl hs hno hx hx2
 go_region_held3 (fun W => W.cell? ⟨w.heap.size, 0, none⟩ = some (.pointer (some ⟨db, 0, none⟩)) ∧ W.cell? ⟨w.heap.size, 1, none⟩ = some (.string n) ∧ W.cell? ⟨w.heap.size + 1, 0, none⟩ = some (.pointer u.p) ∧ W.cell? ⟨w.heap.size + 1, 1, none⟩ = some (.int .i64 u.f)) (go_keep)
  (first | (go_at_call 223; refine (clone_code _ _ hn).mono ?_; rintro e w' ⟨rfl, hbc⟩; have hbd : Below w.heap.size w w' := (hb.drew).trans (hbc.mono (by have := hb.size; simp; omega)); have k0 := (hbc.cell (p := ⟨w.heap.size, 0, none⟩) (by simp; omega)).trans a0; have k1 := (hbc.cell (p := ⟨w.heap.size, 1, none⟩) (by simp; omega)).trans a1; have k2 := (hbc.cell (p := ⟨w.heap.size + 1, 0, none⟩) (by simp; omega)).trans c0; have k3 := (hbc.cell (p := ⟨w.heap.size + 1, 1, none⟩) (by simp; omega)).trans c1; clear hbc) | (go_at_call 226; refine (unhide HPUT _ (by assumption)).mono ?_; rintro e w'' ⟨rfl, v', es', q1, q2, q3, q4, q5, q6, q7, q8⟩; have m0 := (World.cell?_of_block (a := ⟨w.heap.size, 0, none⟩) (q8 _ (World.block_lt_of_cell? _ _ k0) (Nat.le_refl _))).trans k0; have m1 := (World.cell?_of_block (a := ⟨w.heap.size, 1, none⟩) (q8 _ (World.block_lt_of_cell? _ _ k1) (Nat.le_refl _))).trans k1; have m2 := (World.cell?_of_block (a := ⟨w.heap.size + 1, 0, none⟩) (q8 _ (World.block_lt_of_cell? _ _ k2) (Nat.le_succ _))).trans k2; have m3 := (World.cell?_of_block (a := ⟨w.heap.size + 1, 1, none⟩) (q8 _ (World.block_lt_of_cell? _ _ k3) (Nat.le_succ _))).trans k3))
 all_goals
  go_wp2
  go_end0
  exact ⟨rfl, v', es', q1, q2, q3, q4, q5, q6, q7⟩
theorem leave_low (w : World) (db : Nat) (n : ByteArray) (t : Bool) (u0 u : VS) (v : Value) (es : List (ByteArray × VS)) (hr : RowIs w db 229 [v]) (hS : Sl w 310 3 v es.length (cellsS es)) (hl : es.length ≤ 10000) (hs : SrtS es) (hin : (n, u) ∈ es) :
  Calls Tryz.prog 196 #[spotV (some ⟨db, 0, none⟩) n t u0] w fun e w' => e = .returned (.tuple #[]) ∧ ∃ v' es', RowIs w' db 229 [v'] ∧ Sl w' 310 3 v' es'.length (cellsS es') ∧
   SrtS es' ∧ es'.length + 1 = es.length ∧ (∀ x, x ∈ es' ↔ x ∈ es ∧ x.1 ≠ n) ∧ NewOr w v v' ∧ Fr (fun k => k = db ∨ v.ownBlock = some k) w w' := by
 unfold spotV
 go_enter Tryz.func196, Tryz.ntmps196
 go_wp2
 obtain ⟨W2, hW2, hx, hk1, hsz1, hb⟩ := alloc_name w (spotL (some ⟨db, 0, none⟩) n t u0) 262
 rw [hW2]
 have a0 := hx.cell 0; have a1 := hx.cell 1
 have HPUT : Hid (∀ W', Below w.heap.size w W' → Calls Tryz.prog 233 #[.pointer (some ⟨db, 0, none⟩), .string n] W' fun e w' => e = .returned (.tuple #[]) ∧ ∃ v' es', RowIs w' db 229 [v'] ∧ Sl w' 310 3 v' es'.length (cellsS es') ∧
   SrtS es' ∧ es'.length + 1 = es.length ∧ (∀ x, x ∈ es' ↔ x ∈ es ∧ x.1 ≠ n) ∧ NewOr w v v' ∧ Fr (fun k => k = db ∨ v.ownBlock = some k) w w' ∧ ∀ k, k < W'.heap.size → w.heap.size ≤ k → w'.heap[k]? = W'.heap[k]?) := by
  intro W' hb'
  have hr' : RowIs W' db 229 [v] := (hb'.block _ hr.lt).trans hr
  have hS' : Sl W' 310 3 v es.length (cellsS es) := hS.kept (fun k hk _ => hb'.block k hk)
  have hne : v.ownBlock ≠ some db := fun e => by obtain ⟨R, hR⟩ := hS.type e; have := hR.type hr; revert this; decide
  refine (dropS W' db 0 v es n u (hr'.cell 0) (hr'.frozen 0) hne hS' hl hs hin).mono ?_
  rintro e w' ⟨rfl, v', es', q1, q2, q3, q4, q5, q6, q7⟩
  refine ⟨rfl, v', es', ?_, q2, q3, q4, q5, fun g hg => ?_, ?_, fun k hk hkw => q7.block k hk (fun e => by have := hr.lt; omega) (fun e => by have := hS.lt e; omega)⟩
  ·have h1 := q7.head
   have h2 := hr'.set 0 v'
   unfold RowIs at h2 ⊢
   rw [h1]; simpa using h2
  ·rcases q6 g hg with h | h
   ·exact .inl h
   ·exact .inr (Nat.le_trans hb'.size h)
  ·exact ⟨q7.os.trans hb'.os, q7.tape.trans hb'.tape, q7.output.trans hb'.output, Nat.le_trans hb'.size q7.size, fun k hk hX => (q7.block k (Nat.lt_of_lt_of_le hk hb'.size) (fun e => hX (.inl e)) (fun e => hX (.inr e))).trans (hb'.block k hk)⟩
 clear hW2 hk1 hr hS hl hs hin hx
 go_region_held3 (fun W => W.cell? ⟨w.heap.size, 0, none⟩ = some (.pointer (some ⟨db, 0, none⟩)) ∧ W.cell? ⟨w.heap.size, 1, none⟩ = some (.string n)) (go_keep)
  (first | (go_at_call 233; refine (unhide HPUT _ hb.drew).mono ?_; rintro e w'' ⟨rfl, v', es', q1, q2, q3, q4, q5, q6, q7, q8⟩; have m0 := (World.cell?_of_block (a := ⟨w.heap.size, 0, none⟩) (q8 _ (World.block_lt_of_cell? _ _ a0) (Nat.le_refl _))).trans a0; have m1 := (World.cell?_of_block (a := ⟨w.heap.size, 1, none⟩) (q8 _ (World.block_lt_of_cell? _ _ a1) (Nat.le_refl _))).trans a1))
 all_goals
  go_wp2
  go_end0
  exact ⟨rfl, v', es', q1, q2, q3, q4, q5, q6, q7⟩
theorem mayLink_code (w : World) (tb rd : Nat) (V : Nat → Value) (E : Nat → List (ByteArray × VS)) (vi : Value) (G : Gh) (I : List (Int × VF)) (C : Int → ByteArray) (h : TW w tb rd V E vi G I C) (hG : GOk G) (hGl : G.length ≤ 10000) (ds : List ByteArray) (db : Nat) (hd : IsDir G rd ds db) :
  Calls Tryz.prog 225 #[.pointer (some ⟨tb, 0, none⟩), .pointer (some ⟨db, 0, none⟩)] w fun e w' => e = .returned (.bool (decide (G.countP (qIn ds) < 20 ∧ G.length < 100))) ∧ Below w.heap.size w w' := by
 have hcnt := count_code G hG hGl rd V E 6 [] rd w (by simp) (.inl ⟨rfl, rfl⟩) h.d
 rw [cE_root hG] at hcnt
 have hfull := fun (W : World) (hb : Below w.heap.size w W) => isFull_code W db (V db) (E db).length (cellsS (E db)) ((h.d.below hb (Nat.le_refl _)).row ds db hd) ((h.d.below hb (Nat.le_refl _)).sl ds db hd)
 rw [h.d.len hG hd] at hfull
 have hc0 := h.t.cell 0
 obtain ⟨c, hc⟩ : ∃ c, c = G.countP (qIn ds) := ⟨_, rfl⟩
 have hcl : c ≤ 10000 := by rw [hc]; exact Nat.le_trans List.countP_le_length hGl
 rw [← hc] at hfull ⊢
 have HF := hide hfull
 clear hfull hc
 go_enter Tryz.func225, Tryz.ntmps225
 go_wp2_with fail
 refine hcnt.mono ?_
 rintro e w1 ⟨rfl, hb⟩
 clear hcnt hc0
 by_cases h20 : 20 ≤ c
 ·have HD1 : Hid (decide (c < 20 ∧ G.length < 100) = false) := decide_eq_false (fun h => by omega)
  have hd1 : decide (20 ≤ c) = true := decide_eq_true h20
  go_wp2_with (first | (go_at_call 231; refine (unhide HF _ hb).mono ?_; rintro e w' ⟨rfl, hw⟩; rw [hw]; clear hw; rw [hd1]))
  go_ret
  exact ⟨by rw [unhide HD1]; rfl, hb⟩
 ·have hd1 : decide (20 ≤ c) = false := decide_eq_false h20
  have HD1 : Hid (decide (c < 20 ∧ G.length < 100) = decide ((G.length : Int) < 100)) := by show _ = _; rw [decide_eq_decide]; omega
  go_wp2_with (first | (go_at_call 231; refine (unhide HF _ hb).mono ?_; rintro e w' ⟨rfl, hw⟩; rw [hw]; clear hw; rw [hd1]))
  go_ret
  exact ⟨by rw [unhide HD1]; rfl, hb⟩
theorem nodes_code (w : World) (tb rd : Nat) (V : Nat → Value) (E : Nat → List (ByteArray × VS)) (vi : Value) (G : Gh) (I : List (Int × VF)) (C : Int → ByteArray) (h : TW w tb rd V E vi G I C) (hG : GOk G) (hGl : G.length ≤ 10000) (hIl : I.length ≤ 10000) :
  Calls Tryz.prog 81 #[.pointer (some ⟨tb, 0, none⟩)] w fun e w' => e = .returned (.int .i64 ((cD G [] + I.length : Nat) : Int)) ∧ Below w.heap.size w w' := by
 have hcnt := count_code G hG hGl rd V E 6 [] rd w (by simp) (.inl ⟨rfl, rfl⟩) h.d
 have hli := fun (W : World) (hb : Below w.heap.size w W) => lenI W tb 1 vi I.length (cellsI I) ((h.below hb (Nat.le_refl _)).t.cell 1) (h.below hb (Nat.le_refl _)).i
 have hc0 := h.t.cell 0
 have hcd := cD_le G []
 obtain ⟨cd, hcd'⟩ : ∃ c, c = cD G [] := ⟨_, rfl⟩
 rw [← hcd'] at hcnt hcd ⊢
 have HLI := hide hli
 clear hli hcd'
 go_enter Tryz.func81, Tryz.ntmps81
 go_wp2_with fail
 refine hcnt.mono ?_
 rintro e w1 ⟨rfl, hb⟩
 clear hcnt hc0
 go_wp2_with (first | (go_at_call 144; refine (unhide HLI _ hb).mono ?_; rintro e w' ⟨rfl, hw⟩; rw [hw]; clear hw))
 go_ret
 exact ⟨rfl, hb⟩
theorem mayMake_code (w : World) (tb rd : Nat) (V : Nat → Value) (E : Nat → List (ByteArray × VS)) (vi : Value) (G : Gh) (I : List (Int × VF)) (C : Int → ByteArray) (h : TW w tb rd V E vi G I C) (hG : GOk G) (hGl : G.length ≤ 10000) (hIl : I.length ≤ 10000) (ds : List ByteArray) (db : Nat) (hd : IsDir G rd ds db) :
  Calls Tryz.prog 182 #[.pointer (some ⟨tb, 0, none⟩), .pointer (some ⟨db, 0, none⟩)] w fun e w' => e = .returned (.bool (decide ((G.countP (qIn ds) < 20 ∧ G.length < 100) ∧ cD G [] + I.length < 60))) ∧ Below w.heap.size w w' := by
 have hml := mayLink_code w tb rd V E vi G I C h hG hGl ds db hd
 have hnd := fun (W : World) (hb : Below w.heap.size w W) => nodes_code W tb rd V E vi G I C (h.below hb (Nat.le_refl _)) hG hGl hIl
 obtain ⟨nd, hnd'⟩ : ∃ c, c = cD G [] + I.length := ⟨_, rfl⟩
 rw [← hnd'] at hnd ⊢
 have HN := hide hnd
 clear hnd hnd' h
 go_enter Tryz.func182, Tryz.ntmps182
 go_wp2_with fail
 refine hml.mono ?_
 rintro e w2 ⟨rfl, hb⟩
 clear hml
 by_cases hm : G.countP (qIn ds) < 20 ∧ G.length < 100
 ·have hd1 : decide (G.countP (qIn ds) < 20 ∧ G.length < 100) = true := decide_eq_true hm
  rw [hd1]
  have HD1 : Hid (decide ((G.countP (qIn ds) < 20 ∧ G.length < 100) ∧ nd < 60) = decide ((nd : Int) < 60)) := by show _ = _; rw [decide_eq_decide]; omega
  clear hd1
  go_wp2_with (first | (go_at_call 81; refine (unhide HN _ hb).mono ?_; rintro e w3 ⟨rfl, hb3⟩))
  go_ret
  exact ⟨by rw [unhide HD1]; rfl, hb.trans (hb3.mono hb.size)⟩
 ·have hd1 : decide (G.countP (qIn ds) < 20 ∧ G.length < 100) = false := decide_eq_false hm
  rw [hd1]
  have HD1 : Hid (decide ((G.countP (qIn ds) < 20 ∧ G.length < 100) ∧ nd < 60) = false) := decide_eq_false (fun h => hm h.1)
  clear hd1
  go_wp2
  go_ret
  exact ⟨by rw [unhide HD1]; rfl, hb⟩
end Go.Proofs.YtaieidcohdhgpaaGreatDoor
