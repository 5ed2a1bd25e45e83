/- Files. -/
import Derived.Test.YtaieidcohdhgpaaGreatDoorPAS
import Derived.LaidEqlPtr
namespace Go.Proofs.YtaieidcohdhgpaaGreatDoor
open Go.RowKit
set_option maxHeartbeats 1000000
set_option maxRecDepth 100000
def deepG (G : Gh) (a : List ByteArray) (m : Nat) : Bool := G.any (fun x => qB a x && decide (6 < x.1.length - a.length + m))
def mvB (G : Gh) (a : List ByteArray) (u : VS) (ba bt : Nat) (dt : List ByteArray) (m : Nat) : Bool := !(decide (bt ≠ ba) && decide (20 ≤ G.countP (qIn dt))) && (u.p.isNone || !deepG G a m)
theorem deep_iff {G : Gh} {a : List ByteArray} {h m : Nat} (hh : Hgt G (qB a) a.length h) (hm : m ≤ 6) : decide (m + h ≤ 6) = !deepG G a m := by
 rw [Bool.eq_iff_iff, decide_eq_true_eq, Bool.not_eq_true', ← Bool.not_eq_true]
 unfold deepG
 rw [List.any_eq_true]
 constructor
 ·rintro hle ⟨x, hx, hq⟩
  rw [Bool.and_eq_true, decide_eq_true_eq] at hq
  have := hh.1 x hx hq.1
  omega
 ·intro hno
  rcases hh.2 with h0 | ⟨x, hx, hq, e⟩
  ·omega
  ·apply Nat.le_of_not_lt
   intro hlt
   exact hno ⟨x, hx, by rw [Bool.and_eq_true, decide_eq_true_eq]; exact ⟨hq, by omega⟩⟩
theorem info131 : (Tryz.prog.info? 229).map (fun i => (i.zero, i.size, i.bytes)) = some (some (.agg #[.slice none 0 0]), 1, 24) := by kernel_rfl
theorem neq_same (W : World) (b : Nat) : (binOp .neq 209 (.pointer (some ⟨b, 0, none⟩)) (.pointer (some ⟨b, 0, none⟩))).run Tryz.prog W = .ok (.bool false) W := by
 obtain ⟨j, hj, _, _, _⟩ := info_parts info131
 have h : ∀ d : Nat, (Op.equalIn (d + 1) 209 (.pointer (some ⟨b, 0, none⟩)) (.pointer (some ⟨b, 0, none⟩))).run Tryz.prog W = .ok true W := fun d => by
  simp [Op.equalIn, run_underlying Tryz.underlying209, sizeOf, typeInfo, hj, run_sameAddr_same]
 simp only [binOp]
 simp [Op.equal, Op.maxDepth, h 9999]
theorem neq_other (W : World) {a b : Nat} {R R' : List Value} (hab : a ≠ b) (ha : RowIs W a 229 R) (hb : RowIs W b 229 R') : (binOp .neq 209 (.pointer (some ⟨a, 0, none⟩)) (.pointer (some ⟨b, 0, none⟩))).run Tryz.prog W = .ok (.bool true) W := by
 obtain ⟨j, hj, _, hsz, _⟩ := info_parts info131
 have hne : (⟨a, 0, none⟩ : Addr) ≠ ⟨b, 0, none⟩ := fun e => hab (congrArg Addr.block e)
 have h : ∀ d : Nat, (Op.equalIn (d + 1) 209 (.pointer (some ⟨a, 0, none⟩)) (.pointer (some ⟨b, 0, none⟩))).run Tryz.prog W = .ok false W := fun d => by
  simp [Op.equalIn, run_underlying Tryz.underlying209, sizeOf, typeInfo, hj, hsz, run_sameAddr_other W hne ha hb]
 simp only [binOp]
 simp [Op.equal, Op.maxDepth, h 9999]
theorem mayMove_code (w : World) (tb rd : Nat) (V : Nat → Value) (E : Nat → List (ByteArray × VS)) (vi : Value) (G : Gh) (I : List (Int × VF)) (C : Int → ByteArray) (h : TW w tb rd V E vi G I C) (hG : GOk G) (hGl : G.length ≤ 10000) (a da dt : List ByteArray) (ba bt : Nat) (na nt : ByteArray) (ta tt : Bool) (u ut : VS) (hu : u.p = none ∨ ∃ b, u = ⟨some ⟨b, 0, none⟩, 0⟩ ∧ IsDir G rd a b) (hda : IsDir G rd da ba) (hdt : IsDir G rd dt bt) (m : Nat) (hm : m ≤ 6) :
  Calls Tryz.prog 195 #[spotV (some ⟨ba, 0, none⟩) na ta u, spotV (some ⟨bt, 0, none⟩) nt tt ut, .int .i64 m] w fun e w' => e = .returned (.bool (mvB G a u ba bt dt m)) ∧ Below w.heap.size w w' := by
 have HFULL : Hid (∀ W, Below w.heap.size w W → Calls Tryz.prog 231 #[.pointer (some ⟨bt, 0, none⟩)] W fun e w' => e = .returned (.bool (decide (20 ≤ G.countP (qIn dt)))) ∧ w' = W) := fun W hb => by
  have h1 := h.d.below hb (Nat.le_refl _)
  rw [← h1.len hG hdt]
  exact isFull_code W bt (V bt) (E bt).length (cellsS (E bt)) (h1.row dt bt hdt) (h1.sl dt bt hdt)
 have HHT : Hid (∀ W b, Below w.heap.size w W → IsDir G rd a b → Calls Tryz.prog 232 #[.pointer (some ⟨b, 0, none⟩)] W fun e w' => ∃ h : Nat, e = .returned (.int .i64 h) ∧ Hid (decide (m + h ≤ 6) = !deepG G a m) ∧ h ≤ 6 ∧ Below W.heap.size W w') := fun W b hb hd => by
  refine (height_code G hG hGl rd V E 6 a b W (by omega) hd (h.d.below hb (Nat.le_refl _))).mono ?_
  rintro e w' ⟨k, rfl, hk, hb'⟩
  exact ⟨k, rfl, deep_iff hk hm, hgt_le hG hk, hb'⟩
 have HH := hide h
 clear h
 unfold spotV
 go_enter Tryz.func195, Tryz.ntmps195
 go_upto_region 1 with fail
 obtain ⟨W1, hW1, hx1, hk1, hsz1, hb1⟩ := alloc_name w (spotL (some ⟨ba, 0, none⟩) na ta u) 262
 obtain ⟨W2, hW2, hx2, hk2, hsz2, hb2⟩ := alloc_name W1 (spotL (some ⟨bt, 0, none⟩) nt tt ut) 262
 have hbw : Below w.heap.size w W2 := hb1.trans (hb2.mono (by omega))
 have y1 := hk2 _ _ _ hx1
 rw [hsz1] at hx2
 rw [hW1, hW2]
 have a0 := y1.cell 0; have a3 := y1.cell 3
 have c0 := hx2.cell 0
 obtain ⟨full, hfull⟩ : ∃ b, b = decide (20 ≤ G.countP (qIn dt)) := ⟨_, rfl⟩
 rw [← hfull] at HFULL
 have HB : Hid (mvB G a u ba bt dt m = (!(decide (bt ≠ ba) && full) && (u.p.isNone || !deepG G a m))) := by show _ = _; unfold mvB; rw [hfull]
 clear hW1 hW2 hk1 hk2 hb1 hb2 hx1 hsz1 hsz2 hfull
 have h2 := (unhide HH).below hbw (Nat.le_refl _)
 have hra := h2.d.row da ba hda
 have hrt := h2.d.row dt bt hdt
 obtain ⟨up, uf⟩ := u
 have hrest : (up = none) ∨ (∃ b, up = some ⟨b, 0, none⟩ ∧ IsDir G rd a b) := by
  rcases hu with h | ⟨b, h, hd⟩
  ·exact .inl h
  ·exact .inr ⟨b, by simpa using congrArg VS.p h, hd⟩
 clear hu h2
 by_cases hbb : bt = ba
 ·subst hbb
  have hq := neq_same W2 bt
  have HB2 : Hid (mvB G a ⟨up, uf⟩ bt bt dt m = (up.isNone || !deepG G a m)) := by show _ = _; rw [unhide HB]; simp
  clear HB
  rcases hrest with rfl | ⟨b, rfl, hd⟩
  ·go_wp2
   go_ret
   exact ⟨by rw [unhide HB2]; rfl, hbw⟩
  ·have HD := hide hd
   clear hd
   go_wp2_with (first | (go_at_call 232; refine (unhide HHT _ b hbw (unhide HD)).mono ?_; rintro e w' ⟨k, rfl, HK, hk6, hb'⟩))
   go_ret
   have hdec : decide ((m : Int) + (k : Int) ≤ 6) = decide (m + k ≤ 6) := by rw [decide_eq_decide]; omega
   exact ⟨by rw [unhide HB2, ← unhide (unhide HK), ← hdec]; rfl, hbw.trans (hb'.mono hbw.size)⟩
 ·have hq := neq_other W2 hbb hrt hra
  cases full with
  | true =>
   have HB2 : Hid (mvB G a ⟨up, uf⟩ ba bt dt m = false) := by show _ = _; rw [unhide HB, decide_eq_true hbb]; rfl
   clear HB
   go_wp2_with (first | (go_at_call 231; refine (unhide HFULL _ hbw).mono ?_; rintro e w' ⟨rfl, hw⟩; rw [hw]; clear hw))
   go_ret
   exact ⟨by rw [unhide HB2]; rfl, hbw⟩
  | false =>
   have HB2 : Hid (mvB G a ⟨up, uf⟩ ba bt dt m = (up.isNone || !deepG G a m)) := by show _ = _; rw [unhide HB]; simp
   clear HB
   rcases hrest with rfl | ⟨b, rfl, hd⟩
   ·go_wp2_with (first | (go_at_call 231; refine (unhide HFULL _ hbw).mono ?_; rintro e w' ⟨rfl, hw⟩; rw [hw]; clear hw))
    go_ret
    exact ⟨by rw [unhide HB2]; rfl, hbw⟩
   ·have HD := hide hd
    clear hd
    go_wp2_with (first | (go_at_call 231; refine (unhide HFULL _ hbw).mono ?_; rintro e w' ⟨rfl, hw⟩; rw [hw]; clear hw) | (go_at_call 232; refine (unhide HHT _ b hbw (unhide HD)).mono ?_; rintro e w' ⟨k, rfl, HK, hk6, hb'⟩))
    go_ret
    have hdec : decide ((m : Int) + (k : Int) ≤ 6) = decide (m + k ≤ 6) := by rw [decide_eq_decide]; omega
    exact ⟨by rw [unhide HB2, ← unhide (unhide HK), ← hdec]; rfl, hbw.trans (hb'.mono hbw.size)⟩
def hpB (q p : ByteArray) : Bool := Lib.hasPrefix q.data.toList (p ++ ⟨#[47]⟩ : ByteArray).data.toList
def mvE (G : Gh) (p q : ByteArray) : Int :=
 if nmOk q = false then 1 else if locE G p true ≠ 0 then locE G p true else if names p = [] then 7 else
 match atG G (names p) with
 | none => 3
 | some u => if u.p.isSome = true ∧ hpB q p = true then 7 else if gapE G (names q) ≠ 0 then gapE G (names q) else
  if ((decide ((names q).dropLast ≠ (names p).dropLast) && decide (20 ≤ G.countP (qIn (names q).dropLast))) || (u.p.isSome && deepG G (names p) (names q).length)) = true then 8 else 0
def MvPost (w : World) (tb : Nat) (G : Gh) (I : List (Int × VF)) (C : Int → ByteArray) (p q : ByteArray) (e : Ending) (w' : World) : Prop :=
 e = .returned (.int .i64 (mvE G p q)) ∧ Fr (ProgT tb w) w w' ∧ ((mvE G p q ≠ 0 ∧ PS w' tb G I C) ∨ (mvE G p q = 0 ∧ (∀ u, MvOk G (names p) (names q) u → PS w' tb (mvG G (names p) (names q)) I C)))
theorem moveT_code (w : World) (tb : Nat) (G : Gh) (I : List (Int × VF)) (C : Int → ByteArray) (h : PS w tb G I C) (hG : GOk G) (hGl : G.length ≤ 10000) (p q : ByteArray) (hp : p.size ≤ 2000000) (hq : q.size ≤ 2000000) :
  Calls Tryz.prog 126 #[.pointer (some ⟨tb, 0, none⟩), .string p, .string q] w (MvPost w tb G I C p q) := by
 obtain ⟨rd, V, E, vi, h⟩ := h
 have HSAME : Hid (∀ W, Below w.heap.size w W → mvE G p q ≠ 0 → MvPost w tb G I C p q (.returned (.int .i64 (mvE G p q))) W) := fun W hb hne => ⟨rfl, Fr.of_below hb, .inl ⟨hne, rd, V, E, vi, h.below hb (Nat.le_refl _)⟩⟩
 have hfi := first_code w tb rd V E vi G I C h hG hGl p q hp hq
 have HH := hide h
 clear h
 go_enter Tryz.func126, Tryz.ntmps126
 go_wp2_with fail
 refine hfi.mono ?_
 rintro e w1 ⟨hpost, hb⟩
 clear hfi
 rcases hpost with ⟨hn, rfl⟩ | ⟨hok, a, c, hSl, ⟨hne, rfl⟩ | ⟨he, hokp, d, n, t, u, hsp, rfl⟩⟩
 ·have HE : Hid (mvE G p q = 1) := by show _ = _; unfold mvE; rw [if_pos hn]
  clear hn
  unfold noSpot spotV
  go_wp2
  go_ret
  have := unhide HSAME _ (hb.alloc hb.size (.cells (spotL none ⟨#[]⟩ false ⟨none, 0⟩).toArray 262)) (by rw [unhide HE]; decide)
  rw [unhide HE] at this
  exact this
 ·have HE : Hid (mvE G p q = locE G p true) := by show _ = _; unfold mvE; rw [if_neg (by rw [hok]; simp), if_pos hne]
  have HNE := hide hne
  have hne' : (locE G p true != 0) = true := by simpa using hne
  obtain ⟨nl, hnl⟩ : ∃ nl, nl = (names q).length := ⟨_, rfl⟩
  rw [← hnl]
  clear hne hok hSl hnl
  unfold noSpot spotV
  go_wp2
  go_ret
  have := unhide HSAME _ (hb.alloc hb.size (.cells (spotL none ⟨#[]⟩ false ⟨none, 0⟩).toArray 262)) (by rw [unhide HE]; exact unhide HNE)
  rw [unhide HE] at this
  exact this
 ·have HE0 : Hid (mvE G p q = if names p = [] then 7 else match atG G (names p) with
   | none => 3
   | some u => if u.p.isSome = true ∧ hpB q p = true then 7 else if gapE G (names q) ≠ 0 then gapE G (names q) else
    if ((decide ((names q).dropLast ≠ (names p).dropLast) && decide (20 ≤ G.countP (qIn (names q).dropLast))) || (u.p.isSome && deepG G (names p) (names q).length)) = true then 8 else 0) := by
   show _ = _; unfold mvE; rw [if_neg (by rw [hok]; simp), if_neg (by rw [he]; simp)]
  have HSP := hide hsp
  have HOK := hide hok
  have HSL := hide hSl
  obtain ⟨nl, hnl⟩ : ∃ nl, nl = (names q).length := ⟨_, rfl⟩
  have HNL := hide hnl
  have hnl6 : nl ≤ 6 := by rw [hnl]; exact names_len hok
  rw [← hnl]
  have hcs := spot_cases (unhide HH).d hsp
  have hpl : p.size ≤ 78 := nmOk_size p hokp
  clear hsp he hok hnl hSl
  unfold spotV
  obtain ⟨W, hW, hx, hk, hsz, hbW⟩ := alloc_name w1 (spotL d n t u) 262
  have hbb : Below w.heap.size w W := hb.trans (hbW.mono hb.size)
  have HBW := hide hbW
  have HW := hide hW
  clear hW hk hbW hsz
  go_upto_if 20 with fail
  rw [unhide HW]
  clear HW
  have a0 := hx.cell 0; have a1 := hx.cell 1; have a2 := hx.cell 2; have a3 := hx.cell 3; have a4 := hx.cell 4
  rcases hcs with ⟨rfl, hne, hat⟩ | hcs
  ·have HE : Hid (mvE G p q = 3) := by show _ = _; rw [unhide HE0, if_neg hne, hat]
   clear hne hat
   go_wp2
   go_ret
   have := unhide HSAME _ hbb (by rw [unhide HE]; decide)
   rw [unhide HE] at this
   exact this
  ·obtain rfl : t = true := by rcases hcs with ⟨h1, _⟩ | ⟨h1, _⟩ <;> exact h1
   have hroot := fun W => isRoot_code d n true u W
   unfold spotV at hroot
   have HROOT := hide hroot
   clear hroot
   by_cases hne : names p = []
   ·have HE : Hid (mvE G p q = 7) := by show _ = _; rw [unhide HE0, if_pos hne]
    obtain rfl : d = none := by
     rcases unhide HSP with ⟨_, h1, _⟩ | ⟨ds, db, h1, _⟩
     ·exact h1
     ·rw [hne] at h1; simp at h1
    clear hne hcs
    go_wp2_with fail
    refine (unhide HROOT _).mono ?_
    rintro e w2 ⟨rfl, hb2⟩
    have hbw : Below w.heap.size w w2 := hbb.trans (hb2.mono hbb.size)
    clear HROOT
    go_wp2
    go_ret
    have := unhide HSAME _ hbw (by rw [unhide HE]; decide)
    rw [unhide HE] at this
    exact this
   ·obtain ⟨da, ba, hns, hda, rfl, hat⟩ := (unhide HSP).in hne
    have HE1 : Hid (mvE G p q = if u.p.isSome = true ∧ hpB q p = true then 7 else if gapE G (names q) ≠ 0 then gapE G (names q) else
     if ((decide ((names q).dropLast ≠ (names p).dropLast) && decide (20 ≤ G.countP (qIn (names q).dropLast))) || (u.p.isSome && deepG G (names p) (names q).length)) = true then 8 else 0) := by show _ = _; rw [unhide HE0, if_neg hne, hat]
    have hu : u.p = none ∨ ∃ b, u = ⟨some ⟨b, 0, none⟩, 0⟩ ∧ IsDir G rd (names p) b := by
     rcases hcs with ⟨_, _, _, h1⟩ | ⟨_, b, h1, h2, _⟩
     ·exact .inl h1
     ·exact .inr ⟨b, h1, h2⟩
    have HNS := hide hns
    have HDA := hide hda
    have HAT := hide hat
    have HU := hide hu
    clear hne hns hda hat hcs HE0 hu
    go_wp2_with fail
    refine (unhide HROOT _).mono ?_
    rintro e w2 ⟨rfl, hb2⟩
    have hbw : Below w.heap.size w w2 := hbb.trans (hb2.mono hbb.size)
    have hx2 : RowIs w2 w1.heap.size 262 _ := (hb2.block _ hx.lt).trans hx
    have HSL2 : Hid (Sl w2 9 1 (.slice a (names q).length c) (names q).length ((names q).map .string)) := ((unhide HSL).kept (fun k hk _ => (unhide HBW).block k hk)).kept (fun k hk _ => hb2.block k hk)
    clear HROOT a0 a1 a2 a3 a4 hx
    have a0 := hx2.cell 0; have a1 := hx2.cell 1; have a2 := hx2.cell 2; have a3 := hx2.cell 3; have a4 := hx2.cell 4
    have hgap := gap_code w2 tb rd V E vi G I C ((unhide HH).below hbw (Nat.le_refl _)) hG hGl (names q) (names_len (unhide HOK)) a c (unhide HSL2)
    rw [← unhide HNL] at hgap
    have HGAP := hide hgap
    clear hgap
    have hhp := fun W => Tryz.strings_HasPrefix q (p ++ ⟨#[47]⟩) W
    have HHP := hide hhp
    clear hhp
    obtain ⟨up, uf⟩ := u
    cases up with
    | none =>
     have HE2 : Hid (mvE G p q = if gapE G (names q) ≠ 0 then gapE G (names q) else
      if ((decide ((names q).dropLast ≠ (names p).dropLast) && decide (20 ≤ G.countP (qIn (names q).dropLast))) || ((none : Option Addr).isSome && deepG G (names p) (names q).length)) = true then 8 else 0) := by show _ = _; rw [unhide HE1, if_neg (by simp)]
     clear HE1
     go_wp2_with fail
     refine (unhide HGAP).mono ?_
     rintro e w3 ⟨hpost, hb3⟩
     have hbw3 : Below w.heap.size w w3 := hbw.trans (hb3.mono hbw.size)
     have hx3 : RowIs w3 w1.heap.size 262 _ := (hb3.block _ hx2.lt).trans hx2
     clear HGAP a0 a1 a2 a3 a4 hx2
     rcases hpost with ⟨hne, rfl⟩ | ⟨hge, dt, nt, bt, hnq, hdt, hatq, rfl⟩
     ·have HE3 : Hid (mvE G p q = gapE G (names q)) := by show _ = _; rw [unhide HE2, if_pos hne]
      have HNE := hide hne
      have hne' : (gapE G (names q) != 0) = true := by simpa using hne
      clear hne
      unfold noSpot spotV
      go_wp2
      go_ret
      have := unhide HSAME _ (hbw3.alloc hbw3.size (.cells (spotL none ⟨#[]⟩ false ⟨none, 0⟩).toArray 262)) (by rw [unhide HE3]; exact unhide HNE)
      rw [unhide HE3] at this
      exact this
     ·unfold spotV
      obtain ⟨W3, hW3, hy3, hk3, hsz3, hbW3⟩ := alloc_name w3 (spotL (some ⟨bt, 0, none⟩) nt false ⟨none, 0⟩) 262
      have hbb3 : Below w.heap.size w W3 := hbw3.trans (hbW3.mono hbw3.size)
      have hz3 := hk3 _ _ _ hx3
      have hmm := mayMove_code W3 tb rd V E vi G I C ((unhide HH).below hbb3 (Nat.le_refl _)) hG hGl (names p) da dt ba bt n nt true false ⟨none, uf⟩ ⟨none, 0⟩ (.inl rfl) (unhide HDA) hdt nl hnl6
      unfold spotV at hmm
      have HMM := hide hmm
      have HE3 : Hid (mvE G p q = if mvB G (names p) ⟨none, uf⟩ ba bt dt nl = true then 0 else 8) := by
       show _ = _
       rw [unhide HE2, if_neg (by rw [hge]; simp), hnq, List.dropLast_concat, unhide HNS, List.dropLast_concat, ← hnq, ← unhide HNS, ← unhide HNL]
       have e1 : decide (dt ≠ da) = decide (bt ≠ ba) := by
        rw [decide_eq_decide]
        constructor
        ·intro h1 e; subst e; exact h1 ((unhide HH).d.inj _ _ _ hdt (unhide HDA))
        ·intro h1 e; subst e; exact h1 (hdt.func hG (unhide HDA))
       rw [e1]
       unfold mvB
       cases decide (bt ≠ ba) <;> cases decide (20 ≤ G.countP (qIn dt)) <;> cases deepG G (names p) nl <;> rfl
      have HNQ := hide hnq
      have HDT := hide hdt
      have HATQ := hide hatq
      have HW3 := hide hW3
      clear hW3 hk3 hsz3 hmm hge hnq hdt hatq hx3
      go_upto_if 46 with fail
      rw [unhide HW3]
      clear HW3
      have a0 := hz3.cell 0; have a1 := hz3.cell 1; have a2 := hz3.cell 2; have a3 := hz3.cell 3; have a4 := hz3.cell 4
      have c0 := hy3.cell 0; have c1 := hy3.cell 1; have c2 := hy3.cell 2; have c3 := hy3.cell 3; have c4 := hy3.cell 4
      go_wp2_with fail
      refine (unhide HMM).mono ?_
      rintro e w4 ⟨rfl, hb4⟩
      have hx4 : RowIs w4 w1.heap.size 262 _ := (hb4.block _ hz3.lt).trans hz3
      have hy4 : RowIs w4 w3.heap.size 262 _ := (hb4.block _ hy3.lt).trans hy3
      have hbw4 : Below w.heap.size w w4 := hbb3.trans (hb4.mono hbb3.size)
      clear HMM a0 a1 a2 a3 a4 c0 c1 c2 c3 c4 hz3 hy3
      cases hmb : mvB G (names p) ⟨none, uf⟩ ba bt dt nl with
      | false =>
       have HE4 : Hid (mvE G p q = 8) := by show _ = _; rw [unhide HE3, hmb]; rfl
       go_wp2
       go_ret
       have := unhide HSAME w4 hbw4 (by rw [unhide HE4]; decide)
       rw [unhide HE4] at this
       exact this
      | true =>
       have HE4 : Hid (mvE G p q = 0) := by show _ = _; rw [unhide HE3, hmb]; rfl
       have a0 := hx4.cell 0; have a1 := hx4.cell 1; have a2 := hx4.cell 2; have a3 := hx4.cell 3; have a4 := hx4.cell 4
       have h4 := (unhide HH).below hbw4 (Nat.le_refl _)
       have hda := unhide HDA
       have hdt := unhide HDT
       have hmem : (n, ⟨none, uf⟩) ∈ E ba := (h4.d.en da ba hda n _).2 (by rw [← unhide HNS]; exact atG_mem (unhide HAT))
       have hlv := leave_low w4 ba n true ⟨none, uf⟩ ⟨none, uf⟩ (V ba) (E ba) (h4.d.row da ba hda) (h4.d.sl da ba hda) (Nat.le_trans (h4.d.le hG hda) hGl) (h4.d.srt da ba hda) hmem
       unfold spotV at hlv
       have HLV := hide hlv
       have H4 := hide h4
       have HX4 := hide hx4
       have HY4 := hide hy4
       clear hlv h4 hmem hx4 hy4 hmb
       go_wp2_with fail
       refine (unhide HLV).mono ?_
       rintro e w5 ⟨rfl, v1, es1, q1, q2, q3, q4, q5, q6, q7⟩
       have h4 := unhide H4
       have hrow := h4.d.row da ba hda
       have hsl := h4.d.sl da ba hda
       have hkeep : ∀ k t R, RowIs w4 k t R → t ≠ 229 → t ≠ 310 → RowIs w5 k t R := fun k t R hR h1 h2 => hR.fr q7 (fun e => by
        rcases e with rfl | e
        ·exact h1 (hR.type hrow)
        ·obtain ⟨R', hR'⟩ := hsl.type e; exact h2 (hR.type hR'))
       have h5 := TW.dirs h4 hrow hsl q7 (h4.d.del hG hda (G' := gone G (names p)) (n := n) (fun x => by rw [← unhide HNS]; exact gone_del G _ x) q1 q2 q3 q5 q6 q7)
       have h5H := h4.d.h.upd ⟨da, hda⟩ q1 q2 q3 q6 q7
       have hE1 : ∀ b, (∃ ns, IsDir G rd ns b) → ∀ x, x ∈ upd E ba es1 b ↔ x ∈ E b ∧ ¬ (b = ba ∧ x.1 = n) := fun b _ x => by
        by_cases e : b = ba
        ·subst e; rw [upd_same, q5 x]; simp
        ·rw [upd_other _ _ e]; simp [e]
       have hBt : ∃ ns, IsDir G rd ns bt := ⟨dt, hdt⟩
       have hent := enter_low w5 bt nt (name_size (unhide HOK) (unhide HNQ)) false ⟨none, 0⟩ ⟨none, uf⟩ (upd V ba v1 bt) (upd E ba es1 bt) (h5H.row bt hBt) (h5H.sl bt hBt) (by
         by_cases e : bt = ba
         ·subst e; rw [upd_same]; have := h4.d.le hG hda; omega
         ·rw [upd_other _ _ e]; exact Nat.le_trans (h4.d.le hG hdt) hGl) (h5H.srt bt hBt) (fun x hx e => by
         have hx' := ((hE1 bt hBt x).1 hx).1
         have := (h4.d.en dt bt hdt x.1 x.2).1 hx'
         rw [e] at this
         exact atG_none (G := G) (ns := dt ++ [nt]) (by rw [← unhide HNQ]; exact unhide HATQ) _ this)
       unfold spotV at hent
       have HENT := hide hent
       have H5 := hide h5
       have H5H := hide h5H
       have HE1' := hide hE1
       have HF5 : Hid (Fr (ProgT tb w) w w5) := Fr.prog hbw4 (Fr.progOne (h4.dlo hda) hrow hsl q7)
       have hx5 := hkeep _ _ _ (unhide HX4) (by decide) (by decide)
       have hy5 := hkeep _ _ _ (unhide HY4) (by decide) (by decide)
       have b3 := hx5.cell 3; have b4 := hx5.cell 4
       have c0 := hy5.cell 0; have c1 := hy5.cell 1; have c2 := hy5.cell 2; have c3 := hy5.cell 3; have c4 := hy5.cell 4
       clear hent h5 h5H hE1 hkeep hrow hsl h4 q1 q2 q3 q4 q5 q6 q7 HLV a0 a1 a2 a3 a4
       go_wp2_with fail
       refine (unhide HENT).mono ?_
       rintro e w6 ⟨rfl, v2, es2, q1, q2, q3, q4, q5, q6, q7⟩
       have HFIN : Hid (MvPost w tb G I C p q (.returned (.int .i64 0)) w6) := by
        refine ⟨by rw [unhide HE4], (unhide HF5).progTrans (Fr.progOne (⟨by have h1 := (unhide H5).lo.1; have h2 := ((unhide H5H).lo bt hBt).1; omega, fun g hg => by have h1 := (unhide H5).lo.1; have h2 := ((unhide H5H).lo bt hBt).2 g hg; omega⟩) ((unhide H5H).row bt hBt) ((unhide H5H).sl bt hBt) q7), .inr ⟨unhide HE4, fun u' hm => ?_⟩⟩
        have hu' : u' = ⟨none, uf⟩ := nodup_fst hG.nd hm.here (atG_mem (unhide HAT))
        subst hu'
        have h6H := (unhide H5H).upd hBt q1 q2 q3 q6 q7
        have hm2 := hm
        rw [unhide HNS, unhide HNQ] at hm2
        have hD := (unhide H4).d.move hm2 hda hdt h6H (fun b hb m x => by
         by_cases e : b = bt
         ·subst e
          rw [upd_same, q5, unhide HE1' b hb]
          simp
         ·rw [upd_other _ _ e, unhide HE1' b hb]
          simp [e])
        rw [← unhide HNS, ← unhide HNQ] at hD
        exact ⟨rd, _, _, vi, TW.dirs (unhide H5) ((unhide H5H).row bt hBt) ((unhide H5H).sl bt hBt) q7 hD⟩
       clear HENT q1 q2 q3 q4 q5 q6 q7
       go_wp2
       go_ret
       exact unhide HFIN
    | some au =>
     have HU2 : Hid (∃ b, (⟨some au, uf⟩ : VS) = ⟨some ⟨b, 0, none⟩, 0⟩ ∧ IsDir G rd (names p) b) := by
      rcases unhide HU with h | h
      ·cases h
      ·exact h
     obtain ⟨hpb, hhpb⟩ : ∃ b, b = hpB q p := ⟨_, rfl⟩
     have hcat : (p ++ ⟨#[47]⟩ : ByteArray).size ≤ 2000000 := by rw [ByteArray.size_append]; show p.size + 1 ≤ 2000000; omega
     have HHP2 : Hid (∀ W, Calls Tryz.prog 194 #[.string q, .string (p ++ ⟨#[47]⟩)] W fun e w' => e = .returned (.bool hpb) ∧ w' = W) := fun W => by rw [hhpb]; exact unhide HHP W
     clear HHP
     cases hpb with
     | true =>
      have HE2 : Hid (mvE G p q = 7) := by show _ = _; rw [unhide HE1, if_pos ⟨rfl, hhpb.symm⟩]
      clear hhpb
      go_wp2_with (first | (go_at_call 194; refine (unhide HHP2 _).mono ?_; rintro e w' ⟨rfl, hw⟩; rw [hw]; clear hw))
      go_ret
      have := unhide HSAME _ hbw (by rw [unhide HE2]; decide)
      rw [unhide HE2] at this
      exact this
     | false =>
      have HE2 : Hid (mvE G p q = if gapE G (names q) ≠ 0 then gapE G (names q) else
       if ((decide ((names q).dropLast ≠ (names p).dropLast) && decide (20 ≤ G.countP (qIn (names q).dropLast))) || ((some au : Option Addr).isSome && deepG G (names p) (names q).length)) = true then 8 else 0) := by show _ = _; rw [unhide HE1, if_neg (by rw [← hhpb]; simp)]
      clear HE1 hhpb
      go_wp2_with (first | (go_at_call 194; refine (unhide HHP2 _).mono ?_; rintro e w' ⟨rfl, hw⟩; rw [hw]; clear hw))
      refine (unhide HGAP).mono ?_
      rintro e w3 ⟨hpost, hb3⟩
      have hbw3 : Below w.heap.size w w3 := hbw.trans (hb3.mono hbw.size)
      have hx3 : RowIs w3 w1.heap.size 262 _ := (hb3.block _ hx2.lt).trans hx2
      clear HGAP a0 a1 a2 a3 a4 hx2
      rcases hpost with ⟨hne, rfl⟩ | ⟨hge, dt, nt, bt, hnq, hdt, hatq, rfl⟩
      ·have HE3 : Hid (mvE G p q = gapE G (names q)) := by show _ = _; rw [unhide HE2, if_pos hne]
       have HNE := hide hne
       have hne' : (gapE G (names q) != 0) = true := by simpa using hne
       clear hne
       unfold noSpot spotV
       go_wp2
       go_ret
       have := unhide HSAME _ (hbw3.alloc hbw3.size (.cells (spotL none ⟨#[]⟩ false ⟨none, 0⟩).toArray 262)) (by rw [unhide HE3]; exact unhide HNE)
       rw [unhide HE3] at this
       exact this
      ·unfold spotV
       obtain ⟨W3, hW3, hy3, hk3, hsz3, hbW3⟩ := alloc_name w3 (spotL (some ⟨bt, 0, none⟩) nt false ⟨none, 0⟩) 262
       have hbb3 : Below w.heap.size w W3 := hbw3.trans (hbW3.mono hbw3.size)
       have hz3 := hk3 _ _ _ hx3
       have hmm := mayMove_code W3 tb rd V E vi G I C ((unhide HH).below hbb3 (Nat.le_refl _)) hG hGl (names p) da dt ba bt n nt true false ⟨some au, uf⟩ ⟨none, 0⟩ (.inr (unhide HU2)) (unhide HDA) hdt nl hnl6
       unfold spotV at hmm
       have HMM := hide hmm
       have HE3 : Hid (mvE G p q = if mvB G (names p) ⟨some au, uf⟩ ba bt dt nl = true then 0 else 8) := by
        show _ = _
        rw [unhide HE2, if_neg (by rw [hge]; simp), hnq, List.dropLast_concat, unhide HNS, List.dropLast_concat, ← hnq, ← unhide HNS, ← unhide HNL]
        have e1 : decide (dt ≠ da) = decide (bt ≠ ba) := by
         rw [decide_eq_decide]
         constructor
         ·intro h1 e; subst e; exact h1 ((unhide HH).d.inj _ _ _ hdt (unhide HDA))
         ·intro h1 e; subst e; exact h1 (hdt.func hG (unhide HDA))
        rw [e1]
        unfold mvB
        cases decide (bt ≠ ba) <;> cases decide (20 ≤ G.countP (qIn dt)) <;> cases deepG G (names p) nl <;> rfl
       have HNQ := hide hnq
       have HDT := hide hdt
       have HATQ := hide hatq
       have HW3 := hide hW3
       clear hW3 hk3 hsz3 hmm hge hnq hdt hatq hx3
       go_upto_if 46 with fail
       rw [unhide HW3]
       clear HW3
       have a0 := hz3.cell 0; have a1 := hz3.cell 1; have a2 := hz3.cell 2; have a3 := hz3.cell 3; have a4 := hz3.cell 4
       have c0 := hy3.cell 0; have c1 := hy3.cell 1; have c2 := hy3.cell 2; have c3 := hy3.cell 3; have c4 := hy3.cell 4
       go_wp2_with fail
       refine (unhide HMM).mono ?_
       rintro e w4 ⟨rfl, hb4⟩
       have hx4 : RowIs w4 w1.heap.size 262 _ := (hb4.block _ hz3.lt).trans hz3
       have hy4 : RowIs w4 w3.heap.size 262 _ := (hb4.block _ hy3.lt).trans hy3
       have hbw4 : Below w.heap.size w w4 := hbb3.trans (hb4.mono hbb3.size)
       clear HMM a0 a1 a2 a3 a4 c0 c1 c2 c3 c4 hz3 hy3
       cases hmb : mvB G (names p) ⟨some au, uf⟩ ba bt dt nl with
       | false =>
        have HE4 : Hid (mvE G p q = 8) := by show _ = _; rw [unhide HE3, hmb]; rfl
        go_wp2
        go_ret
        have := unhide HSAME w4 hbw4 (by rw [unhide HE4]; decide)
        rw [unhide HE4] at this
        exact this
       | true =>
        have HE4 : Hid (mvE G p q = 0) := by show _ = _; rw [unhide HE3, hmb]; rfl
        have a0 := hx4.cell 0; have a1 := hx4.cell 1; have a2 := hx4.cell 2; have a3 := hx4.cell 3; have a4 := hx4.cell 4
        have h4 := (unhide HH).below hbw4 (Nat.le_refl _)
        have hda := unhide HDA
        have hdt := unhide HDT
        have hmem : (n, ⟨some au, uf⟩) ∈ E ba := (h4.d.en da ba hda n _).2 (by rw [← unhide HNS]; exact atG_mem (unhide HAT))
        have hlv := leave_low w4 ba n true ⟨some au, uf⟩ ⟨some au, uf⟩ (V ba) (E ba) (h4.d.row da ba hda) (h4.d.sl da ba hda) (Nat.le_trans (h4.d.le hG hda) hGl) (h4.d.srt da ba hda) hmem
        unfold spotV at hlv
        have HLV := hide hlv
        have H4 := hide h4
        have HX4 := hide hx4
        have HY4 := hide hy4
        clear hlv h4 hmem hx4 hy4 hmb
        go_wp2_with fail
        refine (unhide HLV).mono ?_
        rintro e w5 ⟨rfl, v1, es1, q1, q2, q3, q4, q5, q6, q7⟩
        have h4 := unhide H4
        have hrow := h4.d.row da ba hda
        have hsl := h4.d.sl da ba hda
        have hkeep : ∀ k t R, RowIs w4 k t R → t ≠ 229 → t ≠ 310 → RowIs w5 k t R := fun k t R hR h1 h2 => hR.fr q7 (fun e => by
         rcases e with rfl | e
         ·exact h1 (hR.type hrow)
         ·obtain ⟨R', hR'⟩ := hsl.type e; exact h2 (hR.type hR'))
        have h5 := TW.dirs h4 hrow hsl q7 (h4.d.del hG hda (G' := gone G (names p)) (n := n) (fun x => by rw [← unhide HNS]; exact gone_del G _ x) q1 q2 q3 q5 q6 q7)
        have h5H := h4.d.h.upd ⟨da, hda⟩ q1 q2 q3 q6 q7
        have hE1 : ∀ b, (∃ ns, IsDir G rd ns b) → ∀ x, x ∈ upd E ba es1 b ↔ x ∈ E b ∧ ¬ (b = ba ∧ x.1 = n) := fun b _ x => by
         by_cases e : b = ba
         ·subst e; rw [upd_same, q5 x]; simp
         ·rw [upd_other _ _ e]; simp [e]
        have hBt : ∃ ns, IsDir G rd ns bt := ⟨dt, hdt⟩
        have hent := enter_low w5 bt nt (name_size (unhide HOK) (unhide HNQ)) false ⟨none, 0⟩ ⟨some au, uf⟩ (upd V ba v1 bt) (upd E ba es1 bt) (h5H.row bt hBt) (h5H.sl bt hBt) (by
          by_cases e : bt = ba
          ·subst e; rw [upd_same]; have := h4.d.le hG hda; omega
          ·rw [upd_other _ _ e]; exact Nat.le_trans (h4.d.le hG hdt) hGl) (h5H.srt bt hBt) (fun x hx e => by
          have hx' := ((hE1 bt hBt x).1 hx).1
          have := (h4.d.en dt bt hdt x.1 x.2).1 hx'
          rw [e] at this
          exact atG_none (G := G) (ns := dt ++ [nt]) (by rw [← unhide HNQ]; exact unhide HATQ) _ this)
        unfold spotV at hent
        have HENT := hide hent
        have H5 := hide h5
        have H5H := hide h5H
        have HE1' := hide hE1
        have HF5 : Hid (Fr (ProgT tb w) w w5) := Fr.prog hbw4 (Fr.progOne (h4.dlo hda) hrow hsl q7)
        have hx5 := hkeep _ _ _ (unhide HX4) (by decide) (by decide)
        have hy5 := hkeep _ _ _ (unhide HY4) (by decide) (by decide)
        have b3 := hx5.cell 3; have b4 := hx5.cell 4
        have c0 := hy5.cell 0; have c1 := hy5.cell 1; have c2 := hy5.cell 2; have c3 := hy5.cell 3; have c4 := hy5.cell 4
        clear hent h5 h5H hE1 hkeep hrow hsl h4 q1 q2 q3 q4 q5 q6 q7 HLV a0 a1 a2 a3 a4
        go_wp2_with fail
        refine (unhide HENT).mono ?_
        rintro e w6 ⟨rfl, v2, es2, q1, q2, q3, q4, q5, q6, q7⟩
        have HFIN : Hid (MvPost w tb G I C p q (.returned (.int .i64 0)) w6) := by
         refine ⟨by rw [unhide HE4], (unhide HF5).progTrans (Fr.progOne (⟨by have h1 := (unhide H5).lo.1; have h2 := ((unhide H5H).lo bt hBt).1; omega, fun g hg => by have h1 := (unhide H5).lo.1; have h2 := ((unhide H5H).lo bt hBt).2 g hg; omega⟩) ((unhide H5H).row bt hBt) ((unhide H5H).sl bt hBt) q7), .inr ⟨unhide HE4, fun u' hm => ?_⟩⟩
         have hu' : u' = ⟨some au, uf⟩ := nodup_fst hG.nd hm.here (atG_mem (unhide HAT))
         subst hu'
         have h6H := (unhide H5H).upd hBt q1 q2 q3 q6 q7
         have hm2 := hm
         rw [unhide HNS, unhide HNQ] at hm2
         have hD := (unhide H4).d.move hm2 hda hdt h6H (fun b hb m x => by
          by_cases e : b = bt
          ·subst e
           rw [upd_same, q5, unhide HE1' b hb]
           simp
          ·rw [upd_other _ _ e, unhide HE1' b hb]
           simp [e])
         rw [← unhide HNS, ← unhide HNQ] at hD
         exact ⟨rd, _, _, vi, TW.dirs (unhide H5) ((unhide H5H).row bt hBt) ((unhide H5H).sl bt hBt) q7 hD⟩
        clear HENT q1 q2 q3 q4 q5 q6 q7
        go_wp2
        go_ret
        exact unhide HFIN
structure Rl (G : Gh) (I : List (Int × VF)) (C : Int → ByteArray) (ρ : Int → Nat) (L : List (ByteArray × Int)) (F : List ByteArray) : Prop where
 eqL : L = G.map (vw ρ)
 ok : GOk G
 num : NumOk I ρ L F
 fl : ∀ x ∈ G, x.2.p = none → ∃ r, (x.2.f, r) ∈ I
 con : ∀ x ∈ I, F[ρ x.1]? = some (C x.1)
 pos : ∀ x ∈ I, 0 ≤ x.1
 lG : G.length ≤ 100
 lI : I.length ≤ 60
 sz : ∀ s ∈ F, s.size ≤ 1280
theorem Rl.C_le {G : Gh} {I : List (Int × VF)} {C : Int → ByteArray} {ρ : Int → Nat} {L : List (ByteArray × Int)} {F : List ByteArray} (h : Rl G I C ρ L F) : ∀ x ∈ I, (C x.1).size ≤ 1280 := fun x hx => h.sz _ (List.mem_of_getElem? (h.con x hx))
theorem Rl.l_eq {G : Gh} {I : List (Int × VF)} {C : Int → ByteArray} {ρ : Int → Nat} {L : List (ByteArray × Int)} {F : List ByteArray} (h : Rl G I C ρ L F) : ∀ x ∈ I, x.2.l = (C x.1).size := fun x hx => by
 rw [h.num.size x hx, h.con x hx]; rfl
theorem Rl.lL {G : Gh} {I : List (Int × VF)} {C : Int → ByteArray} {ρ : Int → Nat} {L : List (ByteArray × Int)} {F : List ByteArray} (h : Rl G I C ρ L F) : L.length = G.length := by rw [h.eqL, List.length_map]
theorem Rl.flOk {G : Gh} {I : List (Int × VF)} {C : Int → ByteArray} {ρ : Int → Nat} {L : List (ByteArray × Int)} {F : List ByteArray} (h : Rl G I C ρ L F) : FlOk G I := fun x hx hp => by
 obtain ⟨r, hr⟩ := h.fl x hx hp
 refine ⟨r, hr, ?_, ?_⟩
 ·have h1 := h.num.links _ hr
  have h2 := h.num.live _ hr
  simp only at h1 h2
  omega
 ·have h1 := h.num.links _ hr
  have h2 : L.countP (qFile (ρ x.2.f)) ≤ L.length := List.countP_le_length
  have h3 := h.lL
  have h4 := h.lG
  simp only at h1
  omega
theorem root_iff {p : ByteArray} (h : nmOk p = true) : (p.toList == [47]) = true ↔ names p = [] := by
 constructor
 ·exact names_root
 ·intro hn
  cases hr : (p.toList == [47]) with
  | true => rfl
  | false => exact absurd hn (path_names h hr).2.2.1
theorem not_root {p : ByteArray} (_h : nmOk p = true) (hn : names p ≠ []) : (p.toList == [47]) = false := by
 cases hr : (p.toList == [47]) with
 | true => exact absurd (names_root hr) hn
 | false => rfl
theorem path_jn {p : ByteArray} (h : nmOk p = true) (hn : names p ≠ []) : p = jn (names p) ∧ Nms (names p) := by
 obtain ⟨h1, h2, _, _⟩ := path_names h (not_root h hn)
 exact ⟨h1, h2⟩
section
variable {G : Gh} {I : List (Int × VF)} {C : Int → ByteArray} {ρ : Int → Nat} {L : List (ByteArray × Int)} {F : List ByteArray}
theorem Rl.ah (h : Rl G I C ρ L F) {p : ByteArray} (hp : nmOk p = true) : aheadR L p = ahG G (heads [] (names p)) := by
 by_cases hn : names p = []
 ·rw [hn, aheadR_root L p ((root_iff hp).2 hn)]; rfl
 ·obtain ⟨e, hm⟩ := path_jn hp hn
  have := aheadR_vw h.ok ρ hm hn
  rw [h.eqL]
  rw [← e] at this
  exact this
theorem Rl.ask (h : Rl G I C ρ L F) (p : ByteArray) : askR L p = if nmOk p = false then 1 else ahG G (heads [] (names p)) := by
 unfold askR
 cases hp : nmOk p with
 | false => rfl
 | true =>
  have := h.ah hp
  unfold aheadR at this
  simp only [if_true, this, Bool.true_eq_false, if_false]
theorem Rl.lk (h : Rl G I C ρ L F) {p : ByteArray} (hp : nmOk p = true) (hn : names p ≠ []) : look L p = (atG G (names p)).map (nodeV ρ) := by
 obtain ⟨e, hm⟩ := path_jn hp hn
 have := look_vw h.ok ρ hm
 rw [h.eqL]
 rw [← e] at this
 exact this
theorem Rl.dir (h : Rl G I C ρ L F) {ns : List ByteArray} (hm : Nms ns) : L.countP (qDir (jn ns)) = G.countP (qIn ns) := by rw [h.eqL, dir_vw h.ok ρ hm]
theorem dirOf_path {p : ByteArray} (hp : nmOk p = true) (hn : names p ≠ []) : dirOf p = jn (names p).dropLast ∧ Nms (names p).dropLast := by
 obtain ⟨e, hm⟩ := path_jn hp hn
 obtain ⟨d, n, e2⟩ := split_last hn
 rw [e2] at e hm
 rw [e2, List.dropLast_concat]
 refine ⟨?_, hm.left⟩
 conv => lhs; rw [e]
 exact dirOf_jn d n (okName_nosl (hm n (by simp)))
theorem Rl.nodes (h : Rl G I C ρ L F) : nodesR L F = cD G [] + I.length := by
 unfold nodesR
 rw [cD_root h.ok, ← h.num.length]
 congr 2
 rw [h.eqL, dirs_vw]
theorem Rl.room (h : Rl G I C ρ L F) {p : ByteArray} (hp : nmOk p = true) (hn : names p ≠ []) (n : Nat) : roomR L F p n = decide (G.countP (qIn (names p).dropLast) < 20 ∧ G.length < 100 ∧ cD G [] + I.length + n ≤ 60) := by
 obtain ⟨e1, e2⟩ := dirOf_path hp hn
 unfold roomR
 rw [e1, h.dir e2, h.lL, h.nodes]
theorem Rl.may (h : Rl G I C ρ L F) {p : ByteArray} (hp : nmOk p = true) (hn : names p ≠ []) : roomR L F p 1 = mayB G I (names p).dropLast := by
 rw [h.room hp hn, mayB, decide_eq_decide]
 constructor
 ·rintro ⟨a, b, c⟩; exact ⟨⟨a, b⟩, by omega⟩
 ·rintro ⟨⟨a, b⟩, c⟩; exact ⟨a, b, by omega⟩
theorem Rl.mayLink (h : Rl G I C ρ L F) {p : ByteArray} (hp : nmOk p = true) (hn : names p ≠ []) (hnod : cD G [] + I.length ≤ 60) : roomR L F p 0 = lnkB G (names p).dropLast := by
 rw [h.room hp hn, lnkB, decide_eq_decide]
 constructor
 ·rintro ⟨a, b, c⟩; exact ⟨a, b⟩
 ·rintro ⟨a, b⟩; exact ⟨a, b, by omega⟩
theorem Rl.gap (h : Rl G I C ρ L F) {p : ByteArray} (hp : nmOk p = true) : gapE G (names p) = if aheadR L p ≠ 0 then aheadR L p else if (p.toList == [47]) = true ∨ (look L p).isSome = true then 6 else 0 := by
 unfold gapE
 rw [h.ah hp]
 by_cases h0 : ahG G (heads [] (names p)) = 0
 ·have hnn : ¬ (ahG G (heads [] (names p)) ≠ 0) := by simpa using h0
  rw [if_neg hnn, if_neg hnn]
  by_cases hn : names p = []
  ·rw [if_pos (.inl hn), if_pos (.inl ((root_iff hp).2 hn))]
  ·have e : ((names p = [] ∨ (atG G (names p)).isSome = true) ↔ ((p.toList == [47]) = true ∨ (look L p).isSome = true)) := by
    rw [h.lk hp hn, root_iff hp, Option.isSome_map]
   by_cases hc : names p = [] ∨ (atG G (names p)).isSome = true
   ·rw [if_pos hc, if_pos (e.1 hc)]
   ·rw [if_neg hc, if_neg (fun h => hc (e.2 h))]
 ·rw [if_pos h0, if_pos h0]
theorem Rl.mkdirE (h : Rl G I C ρ L F) (p : ByteArray) : mkE G I p = (mkdirR L F p).1 ∧ (mkE G I p ≠ 0 → (mkdirR L F p).2 = L) ∧ (mkE G I p = 0 → (mkdirR L F p).2 = L ++ [(p, -1)] ∧ nmOk p = true ∧ names p ≠ [] ∧ atG G (names p) = none ∧ gapE G (names p) = 0 ∧ mayB G I (names p).dropLast = true) := by
 unfold mkE mkdirR askR
 cases hp : nmOk p with
 | false => simp
 | true =>
  have hg := h.gap hp
  have ha : aheadP L (prefs p (p.size - 1) 1) = aheadR L p := rfl
  simp only [if_true, ha, Bool.true_eq_false, if_false]
  by_cases h0 : aheadR L p = 0
  ·rw [if_neg (show ¬ aheadR L p ≠ 0 by simpa using h0)] at hg ⊢
   by_cases h6 : (p.toList == [47]) = true ∨ (look L p).isSome = true
   ·rw [if_pos h6] at hg ⊢
    rw [hg]; simp
   ·rw [if_neg h6] at hg ⊢
    rw [hg]
    have hn : names p ≠ [] := fun e => h6 (.inl ((root_iff hp).2 e))
    have hat : atG G (names p) = none := by
     cases ha : atG G (names p) with
     | none => rfl
     | some u => exact absurd (.inr (by rw [h.lk hp hn, ha]; rfl)) h6
    rw [h.may hp hn]
    cases hm : mayB G I (names p).dropLast with
    | false => simp
    | true => simp [hn, hat]
  ·rw [if_pos h0] at hg
   rw [hg, if_pos h0, if_pos h0]
   exact ⟨rfl, fun _ => rfl, fun e => absurd e h0⟩
end
theorem ah_last {G : Gh} {ds : List ByteArray} {n : ByteArray} (h : ahG G (heads [] (ds ++ [n])) = 0) : ds = [] ∨ ∃ v, (ds, v) ∈ G ∧ v.p.isSome = true := by
 by_cases hne : ds = []
 ·exact .inl hne
 ·right
  have key : ∀ (A : List (List ByteArray)) (q : List ByteArray), ahG G (A ++ [q]) = 0 → ∃ v, atG G q = some v ∧ v.p.isSome = true := by
   intro A q
   induction A with
   | nil =>
    intro h
    rw [List.nil_append, ahG] at h
    cases ha : atG G q with
    | none => rw [ha] at h; simp at h
    | some u =>
     rw [ha] at h
     by_cases hu : u.p.isSome = true
     ·exact ⟨u, rfl, hu⟩
     ·simp [hu] at h
   | cons a A ih =>
    intro h
    rw [List.cons_append, ahG] at h
    cases ha : atG G a with
    | none => rw [ha] at h; simp at h
    | some u =>
     rw [ha] at h
     by_cases hu : u.p.isSome = true
     ·simp only [hu, if_true] at h; exact ih h
     ·simp [hu] at h
  rw [heads_app [] ds n [] hne] at h
  have e : heads ([] ++ ds) [n] = [] := rfl
  rw [e, List.nil_append] at h
  obtain ⟨v, hv, hs⟩ := key _ _ h
  exact ⟨v, atG_mem hv, hs⟩
theorem NumOk.congrL {I : List (Int × VF)} {ρ : Int → Nat} {L L' : List (ByteArray × Int)} {F : List ByteArray} (h : NumOk I ρ L F) (hc : ∀ f : Nat, L'.countP (qFile (f : Int)) = L.countP (qFile (f : Int))) : NumOk I ρ L' F :=
 ⟨h.nd, h.inj, h.lt, fun x hx => by rw [hc]; exact h.live x hx, fun f hf hl => h.all f hf (by rw [← hc]; exact hl), h.size, fun x hx => by rw [hc]; exact h.links x hx⟩
section
variable {G : Gh} {I : List (Int × VF)} {C : Int → ByteArray} {ρ : Int → Nat} {L : List (ByteArray × Int)} {F : List ByteArray}
theorem Rl.gokAdd (h : Rl G I C ρ L F) {p : ByteArray} (hp : nmOk p = true) (hn : names p ≠ []) (hat : atG G (names p) = none) (hg : gapE G (names p) = 0) (u : VS) : GOk (G ++ [(names p, u)]) := by
 have ha : ahG G (heads [] (names p)) = 0 := by
  unfold gapE at hg
  by_cases h0 : ahG G (heads [] (names p)) = 0
  ·exact h0
  ·rw [if_pos h0] at hg; exact hg
 refine h.ok.add (path_jn hp hn).2 hn (names_len hp) hat (fun ds n e => ?_) u
 rw [e] at ha
 exact ah_last ha
theorem Rl.addDir (h : Rl G I C ρ L F) {p : ByteArray} (hz : mkE G I p = 0) (nb : Nat) : Rl (G ++ [(names p, ⟨some ⟨nb, 0, none⟩, 0⟩)]) I C ρ (L ++ [(p, -1)]) F := by
 obtain ⟨_, hp, hn, hat, hg, hm⟩ := (h.mkdirE p).2.2 hz
 refine ⟨?_, h.gokAdd hp hn hat hg _, h.num.congrL (fun f => ?_), fun x hx hxp => ?_, h.con, h.pos, ?_, h.lI, h.sz⟩
 ·rw [List.map_append, h.eqL]
  congr 1
  show [(p, (-1 : Int))] = [(jn (names p), nodeV ρ ⟨some ⟨nb, 0, none⟩, 0⟩)]
  rw [← (path_jn hp hn).1]; rfl
 ·rw [List.countP_append]
  have : List.countP (qFile (f : Int)) [(p, (-1 : Int))] = 0 := by
   simp [qFile]
  omega
 ·rcases List.mem_append.1 hx with hx | hx
  ·exact h.fl x hx hxp
  ·rw [List.mem_singleton.1 hx] at hxp; cases hxp
 ·unfold mayB at hm
  have := (of_decide_eq_true hm).1.2
  simp; omega
theorem Rl.fE (h : Rl G I C ρ L F) {p : ByteArray} : fileE G p true = (if nmOk p = false then 1 else if aheadR L p ≠ 0 then aheadR L p else if (p.toList == [47]) = true then 5 else match look L p with | none => 3 | some f => if f < 0 then 5 else 0) := by
 unfold Go.Proofs.YtaieidcohdhgpaaGreatDoor.fileE locE
 cases hp : nmOk p with
 | false => simp
 | true =>
  have ha := h.ah hp
  simp only [Bool.true_eq_false, if_false, ha]
  by_cases h0 : ahG G (heads [] (names p)) = 0
  ·have hnn : ¬ (ahG G (heads [] (names p)) ≠ 0) := by simpa using h0
   rw [if_neg hnn, if_neg hnn]
   by_cases hn : names p = []
   ·rw [if_pos hn, if_pos ((root_iff hp).2 hn)]
   ·rw [if_neg hn, if_neg (fun e => hn ((root_iff hp).1 e)), h.lk hp hn]
    cases hat : atG G (names p) with
    | none => rfl
    | some u =>
     simp only [Option.map_some]
     by_cases hu : u.p.isSome = true
     ·rw [if_pos hu, if_pos ((nodeV_neg ρ u).2 hu)]
     ·rw [if_neg hu, if_neg (fun e => hu ((nodeV_neg ρ u).1 e))]
  ·rw [if_pos h0, if_pos h0]
theorem Rl.linkE (h : Rl G I C ρ L F) (hnod : cD G [] + I.length ≤ 60) (p q : ByteArray) : lnE G p q = (linkR L F p q).1 ∧ (lnE G p q ≠ 0 → (linkR L F p q).2 = L) ∧
  (lnE G p q = 0 → ∀ u, atG G (names p) = some u → u.p = none → (linkR L F p q).2 = L ++ [(q, (ρ u.f : Int))] ∧ nmOk q = true ∧ names q ≠ [] ∧ atG G (names q) = none ∧ gapE G (names q) = 0 ∧ lnkB G (names q).dropLast = true) := by
 unfold lnE linkR
 cases hq : nmOk q with
 | false => simp
 | true =>
  cases hp : nmOk p with
  | false =>
   have : Go.Proofs.YtaieidcohdhgpaaGreatDoor.fileE G p true = 1 := by rw [h.fE, if_pos hp]
   rw [this]; simp
  | true =>
   have hf := h.fE (p := p)
   rw [if_neg (by rw [hp]; simp)] at hf
   simp only [Bool.and_self, Bool.true_eq_false, if_false]
   by_cases h0 : aheadR L p = 0
   ·have hnn : ¬ (aheadR L p ≠ 0) := by simpa using h0
    rw [if_neg hnn] at hf ⊢
    by_cases hr : (p.toList == [47]) = true
    ·rw [if_pos hr] at hf ⊢; rw [hf]; simp
    ·rw [if_neg hr] at hf ⊢
     have hn : names p ≠ [] := fun e => hr ((root_iff hp).2 e)
     have hlk := h.lk hp hn
     cases hat : atG G (names p) with
     | none =>
      rw [hat] at hlk
      rw [hlk] at hf ⊢
      simp only [Option.map_none] at hf ⊢
      rw [hf]; simp
     | some u =>
      rw [hat] at hlk
      rw [hlk] at hf ⊢
      simp only [Option.map_some] at hf ⊢
      by_cases hneg : nodeV ρ u < 0
      ·rw [if_pos hneg] at hf ⊢; rw [hf]; simp
      ·rw [if_neg hneg] at hf ⊢
       rw [hf]
       have hg := h.gap hq
       have hz : ¬ ((0 : Int) ≠ 0) := by simp
       rw [if_neg hz]
       by_cases h1 : aheadR L q = 0
       ·have hnn1 : ¬ (aheadR L q ≠ 0) := by simpa using h1
        rw [if_neg hnn1] at hg ⊢
        by_cases h6 : (q.toList == [47]) = true ∨ (look L q).isSome = true
        ·rw [if_pos h6] at hg ⊢; rw [hg]; simp
        ·rw [if_neg h6] at hg ⊢
         rw [hg, if_neg hz]
         have hnq : names q ≠ [] := fun e => h6 (.inl ((root_iff hq).2 e))
         have hatq : atG G (names q) = none := by
          cases ha : atG G (names q) with
          | none => rfl
          | some v => exact absurd (.inr (by rw [h.lk hq hnq, ha]; rfl)) h6
         rw [h.mayLink hq hnq hnod]
         cases hm : lnkB G (names q).dropLast with
         | false => simp
         | true =>
          simp only [Bool.true_eq_false, if_false]
          refine ⟨by simp, by simp, fun _ v hv hvp => ?_⟩
          cases hv
          have e : nodeV ρ u = (ρ u.f : Int) := by unfold nodeV; rw [hvp]; rfl
          simp [e, hnq, hatq]
       ·rw [if_pos h1] at hg
        rw [hg, if_pos h1, if_pos h1]
        exact ⟨rfl, fun _ => rfl, fun e => absurd e h1⟩
   ·rw [if_pos h0] at hf
    rw [hf, if_pos h0, if_pos h0]
    exact ⟨rfl, fun _ => rfl, fun e => absurd e h0⟩
theorem IOver.keys {I I' : List (Int × VF)} {n : Int} {r r0 : VF} (h : IOver I I' n r) (hin : (n, r0) ∈ I) : (∀ x ∈ I', ∃ y ∈ I, y.1 = x.1) ∧ (∀ y ∈ I, ∃ x ∈ I', x.1 = y.1) := by
 refine ⟨fun x hx => ?_, fun y hy => ?_⟩
 ·rcases (h.2 x).1 hx with rfl | ⟨hx', _⟩
  ·exact ⟨_, hin, rfl⟩
  ·exact ⟨x, hx', rfl⟩
 ·by_cases e : y.1 = n
  ·exact ⟨_, (h.2 _).2 (.inl rfl), e.symm⟩
  ·exact ⟨y, (h.2 y).2 (.inr ⟨hy, e⟩), rfl⟩
theorem Rl.addLink (h : Rl G I C ρ L F) {q : ByteArray} (hq : nmOk q = true) (hn : names q ≠ []) (hat : atG G (names q) = none) (hg : gapE G (names q) = 0) (hl : lnkB G (names q).dropLast = true) {f : Int} {r : VF} (hin : (f, r) ∈ I) {I' : List (Int × VF)} (hio : IOver I I' f ⟨r.a, r.l, r.c, r.f + 1⟩) (hnd : (I'.map (·.1)).Nodup) :
  Rl (G ++ [(names q, ⟨none, f⟩)]) I' C ρ (L ++ [(q, (ρ f : Int))]) F := by
 obtain ⟨k1, k2⟩ := hio.keys hin
 have hc : ∀ g : Nat, (L ++ [(q, (ρ f : Int))]).countP (qFile (g : Int)) = L.countP (qFile (g : Int)) + if g = ρ f then 1 else 0 := fun g => by
  rw [List.countP_append, List.countP_singleton]
  congr 1
  unfold qFile
  by_cases e : g = ρ f
  ·simp [e]
  ·have : ¬ ((ρ f : Int) = (g : Int)) := fun e' => e (by omega)
   simp [e, this]
 refine ⟨?_, h.gokAdd hq hn hat hg _, ?_, fun x hx hxp => ?_, fun x hx => ?_, fun x hx => ?_, ?_, ?_, h.sz⟩
 ·rw [List.map_append, h.eqL]
  congr 1
  show [(q, (ρ f : Int))] = [(jn (names q), nodeV ρ ⟨none, f⟩)]
  rw [← (path_jn hq hn).1]; rfl
 ·refine ⟨hnd, fun x hx y hy e => ?_, fun x hx => ?_, fun x hx => ?_, fun g hg2 hlv => ?_, fun x hx => ?_, fun x hx => ?_⟩
  ·obtain ⟨x', hx', e1⟩ := k1 x hx
   obtain ⟨y', hy', e2⟩ := k1 y hy
   rw [← e1, ← e2] at e ⊢
   exact h.num.inj x' hx' y' hy' e
  ·obtain ⟨x', hx', e1⟩ := k1 x hx
   rw [← e1]; exact h.num.lt x' hx'
  ·obtain ⟨x', hx', e1⟩ := k1 x hx
   rw [← e1, hc]
   have := h.num.live x' hx'
   omega
  ·rw [hc] at hlv
   have : ∃ y ∈ I, ρ y.1 = g := by
    by_cases e : g = ρ f
    ·exact ⟨_, hin, e.symm⟩
    ·rw [if_neg e] at hlv
     exact h.num.all g hg2 (by omega)
   obtain ⟨y, hy, e⟩ := this
   obtain ⟨x, hx, e2⟩ := k2 y hy
   exact ⟨x, hx, by rw [e2]; exact e⟩
  ·rcases (hio.2 x).1 hx with rfl | ⟨hx', _⟩
   ·have := h.num.size (f, r) hin; exact this
   ·exact h.num.size x hx'
  ·rw [hc]
   rcases (hio.2 x).1 hx with rfl | ⟨hx', hne⟩
   ·have := h.num.links _ hin
    simp only [if_true] at this ⊢
    omega
   ·have hne' : ¬ ρ x.1 = ρ f := fun e => hne (h.num.inj x hx' _ hin e)
    rw [if_neg hne']
    exact h.num.links x hx'
 ·rcases List.mem_append.1 hx with hx | hx
  ·obtain ⟨r', hr'⟩ := h.fl x hx hxp
   obtain ⟨y, hy, e⟩ := k2 _ hr'
   exact ⟨y.2, by have e' : y.1 = x.2.f := e; rw [← e']; exact hy⟩
  ·rw [List.mem_singleton.1 hx]
   exact ⟨_, (hio.2 _).2 (.inl rfl)⟩
 ·obtain ⟨x', hx', e1⟩ := k1 x hx
  rw [← e1]; exact h.con x' hx'
 ·obtain ⟨x', hx', e1⟩ := k1 x hx
  rw [← e1]; exact h.pos x' hx'
 ·unfold lnkB at hl
  have := (of_decide_eq_true hl).2
  simp; omega
 ·rw [hio.1]; exact h.lI
end
def gErase (G : Gh) (ns : List ByteArray) : Gh := G.eraseP (fun x => decide (x.1 = ns))
theorem gErase_del {G : Gh} (hnd : (G.map (·.1)).Nodup) (ns : List ByteArray) : delG G (gErase G ns) ns := by
 induction G with
 | nil => intro x; simp [gErase]
 | cons y G ih =>
  rw [List.map_cons, List.nodup_cons] at hnd
  intro x
  unfold gErase
  by_cases hy : y.1 = ns
  ·rw [List.eraseP_cons_of_pos (by simpa using hy)]
   constructor
   ·intro hx
    exact ⟨List.mem_cons_of_mem _ hx, fun e => hnd.1 (by rw [hy, ← e]; exact List.mem_map_of_mem (f := (·.1)) hx)⟩
   ·rintro ⟨hx, hne⟩
    rcases List.mem_cons.1 hx with rfl | hx
    ·exact absurd hy hne
    ·exact hx
  ·rw [List.eraseP_cons_of_neg (by simpa using hy), List.mem_cons, List.mem_cons]
   have := ih hnd.2 x
   unfold gErase at this
   rw [this]
   constructor
   ·rintro (rfl | ⟨h1, h2⟩)
    ·exact ⟨.inl rfl, hy⟩
    ·exact ⟨.inr h1, h2⟩
   ·rintro ⟨rfl | h1, h2⟩
    ·exact .inl rfl
    ·exact .inr ⟨h1, h2⟩
theorem countP_gErase {G : Gh} (hnd : (G.map (·.1)).Nodup) {ns : List ByteArray} {u : VS} (h : (ns, u) ∈ G) (q : List ByteArray × VS → Bool) : G.countP q = (gErase G ns).countP q + if q (ns, u) = true then 1 else 0 := by
 induction G with
 | nil => cases h
 | cons y G ih =>
  rw [List.map_cons, List.nodup_cons] at hnd
  unfold gErase
  by_cases hy : y.1 = ns
  ·rw [List.eraseP_cons_of_pos (by simpa using hy), List.countP_cons]
   rcases List.mem_cons.1 h with rfl | h
   ·rfl
   ·exact absurd (List.mem_map_of_mem (f := (·.1)) h) (by rw [← hy] at *; exact hnd.1)
  ·rw [List.eraseP_cons_of_neg (by simpa using hy), List.countP_cons, List.countP_cons]
   rcases List.mem_cons.1 h with rfl | h
   ·exact absurd rfl hy
   ·have := ih hnd.2 h
    unfold gErase at this
    omega
theorem gErase_map {G : Gh} (hG : GOk G) (ρ : Int → Nat) {ns : List ByteArray} (hn : Nms ns) : remL (G.map (vw ρ)) (jn ns) = (gErase G ns).map (vw ρ) := by
 have key : ∀ (l : Gh), (∀ x ∈ l, Nms x.1) → (l.map (vw ρ)).eraseP (fun y => decide (y.1 = jn ns)) = (l.eraseP (fun x => decide (x.1 = ns))).map (vw ρ) := by
  intro l
  induction l with
  | nil => intro _; rfl
  | cons y l ih =>
   intro hl
   have hiff : (vw ρ y).1 = jn ns ↔ y.1 = ns := ⟨fun e => jn_inj (hl y (by simp)) hn e, fun e => by show jn y.1 = _; rw [e]⟩
   rw [List.map_cons]
   by_cases hy : y.1 = ns
   ·rw [List.eraseP_cons_of_pos (by simpa using hiff.2 hy), List.eraseP_cons_of_pos (by simpa using hy)]
   ·rw [List.eraseP_cons_of_neg (by simpa using fun e => hy (hiff.1 e)), List.eraseP_cons_of_neg (by simpa using hy), List.map_cons, ih (fun x hx => hl x (by simp [hx]))]
 unfold remL gErase
 exact key G hG.nms
theorem gErase_sub (G : Gh) (ns : List ByteArray) : List.Sublist (gErase G ns) G := List.eraseP_sublist
theorem GOk.erase {G : Gh} (h : GOk G) {ns : List ByteArray} {u : VS} (hu : (ns, u) ∈ G) (hno : u.p.isSome = true → G.countP (qIn ns) = 0) : GOk (gErase G ns) := by
 have hd := gErase_del h.nd ns
 refine ⟨fun x hx => h.nms x ((hd x).1 hx).1, fun x hx => h.ne x ((hd x).1 hx).1, fun x hx => h.le x ((hd x).1 hx).1, List.Nodup.sublist ((gErase_sub G ns).map _) h.nd, fun ds n v hx => ?_⟩
 have hx' := ((hd _).1 hx).1
 rcases h.up ds n v hx' with e | ⟨v', hv', hs⟩
 ·exact .inl e
 ·refine .inr ⟨v', (hd _).2 ⟨hv', fun e => ?_⟩, hs⟩
  simp only at e
  subst e
  rw [nodup_fst h.nd hv' hu] at hs
  have := hno hs
  rw [List.countP_eq_zero] at this
  exact this _ hx' (by simp [qIn])
section
variable {G : Gh} {I : List (Int × VF)} {C : Int → ByteArray} {ρ : Int → Nat} {L : List (ByteArray × Int)} {F : List ByteArray}
theorem Rl.removeE (h : Rl G I C ρ L F) (p : ByteArray) : rmE G p = (removeR L p).1 ∧ (rmE G p ≠ 0 → (removeR L p).2 = L) ∧ (rmE G p = 0 → ∀ u, atG G (names p) = some u → (removeR L p).2 = remL L p ∧ nmOk p = true ∧ names p ≠ [] ∧ (u.p.isSome = true → G.countP (qIn (names p)) = 0)) := by
 unfold rmE thE locE removeR
 rw [h.ask p]
 cases hp : nmOk p with
 | false => simp
 | true =>
  simp only [Bool.true_eq_false, if_false]
  by_cases h0 : ahG G (heads [] (names p)) = 0
  ·have hnn : ¬ (ahG G (heads [] (names p)) ≠ 0) := by simpa using h0
   have hz : ¬ ((0 : Int) ≠ 0) := by simp
   simp only [if_neg hnn]
   by_cases hn : names p = []
   ·have hr := (root_iff hp).2 hn
    have hnot : ¬ (names p ≠ [] ∧ atG G (names p) = none) := fun e => e.1 hn
    simp only [if_neg hnot, if_neg hz, if_pos hn, if_pos hr]
    simp
   ·have hr : ¬ (p.toList == [47]) = true := fun e => hn ((root_iff hp).1 e)
    obtain ⟨ep, hm⟩ := path_jn hp hn
    have hdir : L.countP (qDir p) = G.countP (qIn (names p)) := by have := h.dir hm; rw [← ep] at this; exact this
    rw [if_neg hr, h.lk hp hn]
    cases hat : atG G (names p) with
    | none => simp [hn]
    | some u =>
     simp only [Option.map_some]
     have hnot : ¬ (names p ≠ [] ∧ (some u : Option VS) = none) := fun e => by cases e.2
     simp only [if_neg hnot, if_neg hz, if_neg hn, hdir]
     have hiff : (nodeV ρ u < 0 ∧ 0 < G.countP (qIn (names p))) ↔ (u.p.isSome = true ∧ 0 < G.countP (qIn (names p))) := by rw [nodeV_neg]
     by_cases hc : u.p.isSome = true ∧ 0 < G.countP (qIn (names p))
     ·rw [if_pos hc, if_pos (hiff.2 hc)]; simp
     ·rw [if_neg hc, if_neg (fun e => hc (hiff.1 e))]
      refine ⟨rfl, by simp, fun _ v hv => ⟨rfl, trivial, hn, fun hs => ?_⟩⟩
      cases hv
      rcases Nat.eq_zero_or_pos (G.countP (qIn (names p))) with e | e
      ·exact e
      ·exact absurd ⟨hs, e⟩ hc
  ·simp only [if_pos h0]
   exact ⟨trivial, fun _ => trivial, fun e => absurd e h0⟩
theorem Rl.delDir (h : Rl G I C ρ L F) {p : ByteArray} (hp : nmOk p = true) (hn : names p ≠ []) {u : VS} (hat : atG G (names p) = some u) (hu : u.p.isSome = true) (h0 : G.countP (qIn (names p)) = 0) : Rl (gErase G (names p)) I C ρ (remL L p) F := by
 obtain ⟨ep, hm⟩ := path_jn hp hn
 have hin := atG_mem hat
 have hd := gErase_del h.ok.nd (names p)
 have hL' : remL L p = (gErase G (names p)).map (vw ρ) := by
  rw [h.eqL]
  conv => lhs; rw [ep]
  exact gErase_map h.ok ρ hm
 refine ⟨hL', h.ok.erase hin (fun _ => h0), h.num.congrL (fun f => ?_), fun x hx hxp => h.fl x ((hd x).1 hx).1 hxp, h.con, h.pos, Nat.le_trans (gErase_sub G _).length_le h.lG, h.lI, h.sz⟩
 rw [hL', h.eqL, List.countP_map, List.countP_map, countP_gErase h.ok.nd hin]
 have : ¬ ((qFile (f : Int)) ∘ vw ρ) (names p, u) = true := by
  show ¬ (nodeV ρ u == (f : Int)) = true
  have := (nodeV_neg ρ u).2 hu
  simp; omega
 rw [if_neg this]; rfl
theorem Rl.delFile (h : Rl G I C ρ L F) {p : ByteArray} (hp : nmOk p = true) (hn : names p ≠ []) {u : VS} (hat : atG G (names p) = some u) (hu : u.p = none) {r : VF} (hin : (u.f, r) ∈ I) {I' : List (Int × VF)} (hc : (r.f = 1 ∧ IDrop I I' u.f) ∨ (r.f ≠ 1 ∧ IOver I I' u.f ⟨r.a, r.l, r.c, r.f - 1⟩)) (hnd : (I'.map (·.1)).Nodup) :
  Rl (gErase G (names p)) I' C ρ (remL L p) F := by
 obtain ⟨ep, hm⟩ := path_jn hp hn
 have hG := atG_mem hat
 have hd := gErase_del h.ok.nd (names p)
 have hL' : remL L p = (gErase G (names p)).map (vw ρ) := by
  rw [h.eqL]
  conv => lhs; rw [ep]
  exact gErase_map h.ok ρ hm
 have hcnt : ∀ g : Nat, L.countP (qFile (g : Int)) = (remL L p).countP (qFile (g : Int)) + if g = ρ u.f then 1 else 0 := fun g => by
  rw [hL', h.eqL, List.countP_map, List.countP_map, countP_gErase h.ok.nd hG]
  congr 1
  have e : nodeV ρ u = (ρ u.f : Int) := by unfold nodeV; rw [hu]; rfl
  have : (((qFile (g : Int)) ∘ vw ρ) (names p, u) = true) ↔ g = ρ u.f := by
   show (nodeV ρ u == (g : Int)) = true ↔ _
   rw [e, beq_iff_eq]; omega
  by_cases hg : g = ρ u.f
  ·rw [if_pos (this.2 hg), if_pos hg]
  ·rw [if_neg (fun e => hg (this.1 e)), if_neg hg]
 have hl := h.num.links _ hin
 have hlv := h.num.live _ hin
 simp only at hl hlv
 have hcf := hcnt (ρ u.f)
 rw [if_pos rfl] at hcf
 have hok := h.ok.erase hG (fun hs => by rw [hu] at hs; cases hs)
 have hne : ∀ x ∈ I, x.1 ≠ u.f → ρ x.1 ≠ ρ u.f := fun x hx hx1 e => hx1 (h.num.inj x hx _ hin e)
 rcases hc with ⟨h1, hid⟩ | ⟨h1, hio⟩
 ·refine ⟨hL', hok, ⟨hnd, fun x hx y hy e => ?_, fun x hx => ?_, fun x hx => ?_, fun g hg hlg => ?_, fun x hx => ?_, fun x hx => ?_⟩, fun x hx hxp => ?_, fun x hx => ?_, fun x hx => ?_, Nat.le_trans (gErase_sub G _).length_le h.lG, ?_, h.sz⟩
  ·exact h.num.inj x ((hid.2 x).1 hx).1 y ((hid.2 y).1 hy).1 e
  ·exact h.num.lt x ((hid.2 x).1 hx).1
  ·obtain ⟨hx', hx1⟩ := (hid.2 x).1 hx
   have := h.num.live x hx'
   rw [hcnt, if_neg (hne x hx' hx1)] at this
   exact this
  ·have hgl : 0 < L.countP (qFile (g : Int)) := by rw [hcnt]; omega
   obtain ⟨x, hx, e⟩ := h.num.all g hg hgl
   refine ⟨x, (hid.2 x).2 ⟨hx, fun e1 => ?_⟩, e⟩
   rw [e1] at e
   rw [← e] at hlg
   omega
  ·exact h.num.size x ((hid.2 x).1 hx).1
  ·obtain ⟨hx', hx1⟩ := (hid.2 x).1 hx
   have := h.num.links x hx'
   rw [hcnt, if_neg (hne x hx' hx1)] at this
   exact this
  ·obtain ⟨hx1, hx2⟩ := (hd x).1 hx
   obtain ⟨r', hr'⟩ := h.fl x hx1 hxp
   refine ⟨r', (hid.2 _).2 ⟨hr', fun e => ?_⟩⟩
   simp only at e
   have hx3 : 0 < (remL L p).countP (qFile (ρ u.f : Int)) := by
    rw [hL', List.countP_pos_iff]
    refine ⟨vw ρ x, List.mem_map_of_mem hx, ?_⟩
    show (nodeV ρ x.2 == (ρ u.f : Int)) = true
    unfold nodeV; rw [hxp, e]; simp
   omega
  ·exact h.con x ((hid.2 x).1 hx).1
  ·exact h.pos x ((hid.2 x).1 hx).1
  ·have := hid.1; have := h.lI; omega
 ·obtain ⟨k1, k2⟩ := hio.keys hin
  refine ⟨hL', hok, ⟨hnd, fun x hx y hy e => ?_, fun x hx => ?_, fun x hx => ?_, fun g hg hlg => ?_, fun x hx => ?_, fun x hx => ?_⟩, fun x hx hxp => ?_, fun x hx => ?_, fun x hx => ?_, Nat.le_trans (gErase_sub G _).length_le h.lG, by rw [hio.1]; exact h.lI, h.sz⟩
  ·obtain ⟨x', hx', e1⟩ := k1 x hx
   obtain ⟨y', hy', e2⟩ := k1 y hy
   rw [← e1, ← e2] at e ⊢
   exact h.num.inj x' hx' y' hy' e
  ·obtain ⟨x', hx', e1⟩ := k1 x hx
   rw [← e1]; exact h.num.lt x' hx'
  ·rcases (hio.2 x).1 hx with rfl | ⟨hx', hx1⟩
   ·simp only; omega
   ·have := h.num.live x hx'
    rw [hcnt, if_neg (hne x hx' hx1)] at this
    exact this
  ·have hgl : 0 < L.countP (qFile (g : Int)) := by rw [hcnt]; omega
   obtain ⟨y, hy, e⟩ := h.num.all g hg hgl
   obtain ⟨x, hx, e2⟩ := k2 y hy
   exact ⟨x, hx, by rw [e2]; exact e⟩
  ·rcases (hio.2 x).1 hx with rfl | ⟨hx', _⟩
   ·have := h.num.size (u.f, r) hin; exact this
   ·exact h.num.size x hx'
  ·rcases (hio.2 x).1 hx with rfl | ⟨hx', hx1⟩
   ·simp only; omega
   ·have := h.num.links x hx'
    rw [hcnt, if_neg (hne x hx' hx1)] at this
    exact this
  ·obtain ⟨r', hr'⟩ := h.fl x ((hd x).1 hx).1 hxp
   obtain ⟨y, hy, e⟩ := k2 _ hr'
   exact ⟨y.2, by have e' : y.1 = x.2.f := e; rw [← e']; exact hy⟩
  ·obtain ⟨x', hx', e1⟩ := k1 x hx
   rw [← e1]; exact h.con x' hx'
  ·obtain ⟨x', hx', e1⟩ := k1 x hx
   rw [← e1]; exact h.pos x' hx'
end
end Go.Proofs.YtaieidcohdhgpaaGreatDoor
