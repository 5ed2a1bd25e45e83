/- Files: the program's Move. -/
import Derived.Test.YtfabjhgkigagpaaGreatDoorPAZ
import Derived.LaidEqlPtr
namespace Go.Proofs.YtfabjhgkigagpaaGreatDoor
open Go.RowKit

set_option maxHeartbeats 1000000
set_option maxRecDepth 100000
def deepG (G : Gh) (a : List ByteArray) (m : Nat) : Bool := G.any (fun x => qB a x && decide (6 < x.1.length - a.length + m))
def mvB (G : Gh) (a : List ByteArray) (u : VS) (ba bt : Nat) (dt : List ByteArray) (m : Nat) : Bool := !(decide (bt ≠ ba) && decide (20 ≤ G.countP (qIn dt))) && (u.p.isNone || !deepG G a m)
theorem deep_iff {G : Gh} {a : List ByteArray} {h m : Nat} (hh : Hgt G (qB a) a.length h) (hm : m ≤ 6) : decide (m + h ≤ 6) = !deepG G a m := by
  rw [Bool.eq_iff_iff, decide_eq_true_eq, Bool.not_eq_true', ← Bool.not_eq_true]
  unfold deepG
  rw [List.any_eq_true]
  constructor
  · rintro hle ⟨x, hx, hq⟩
    rw [Bool.and_eq_true, decide_eq_true_eq] at hq
    have := hh.1 x hx hq.1
    omega
  · intro hno
    rcases hh.2 with h0 | ⟨x, hx, hq, e⟩
    · omega
    · apply Nat.le_of_not_lt
      intro hlt
      exact hno ⟨x, hx, by rw [Bool.and_eq_true, decide_eq_true_eq]; exact ⟨hq, by omega⟩⟩
theorem info131 : (Tryz.prog.info? 131).map (fun i => (i.zero, i.size, i.bytes)) = some (some (.agg #[.slice none 0 0]), 1, 24) := by kernel_rfl
theorem neq_same (W : World) (b : Nat) : (binOp .neq 113 (.pointer (some ⟨b, 0, none⟩)) (.pointer (some ⟨b, 0, none⟩))).run Tryz.prog W = .ok (.bool false) W := by
  obtain ⟨j, hj, _, _, _⟩ := info_parts info131
  have h : ∀ d : Nat, (Op.equalIn (d + 1) 113 (.pointer (some ⟨b, 0, none⟩)) (.pointer (some ⟨b, 0, none⟩))).run Tryz.prog W = .ok true W := fun d => by
    simp [Op.equalIn, run_underlying Tryz.underlying113, sizeOf, typeInfo, hj, run_sameAddr_same]
  simp only [binOp]
  simp [Op.equal, Op.maxDepth, h 9999]
theorem neq_other (W : World) {a b : Nat} {R R' : List Value} (hab : a ≠ b) (ha : RowIs W a 131 R) (hb : RowIs W b 131 R') : (binOp .neq 113 (.pointer (some ⟨a, 0, none⟩)) (.pointer (some ⟨b, 0, none⟩))).run Tryz.prog W = .ok (.bool true) W := by
  obtain ⟨j, hj, _, hsz, _⟩ := info_parts info131
  have hne : (⟨a, 0, none⟩ : Addr) ≠ ⟨b, 0, none⟩ := fun e => hab (congrArg Addr.block e)
  have h : ∀ d : Nat, (Op.equalIn (d + 1) 113 (.pointer (some ⟨a, 0, none⟩)) (.pointer (some ⟨b, 0, none⟩))).run Tryz.prog W = .ok false W := fun d => by
    simp [Op.equalIn, run_underlying Tryz.underlying113, sizeOf, typeInfo, hj, hsz, run_sameAddr_other W hne ha hb]
  simp only [binOp]
  simp [Op.equal, Op.maxDepth, h 9999]
theorem mayMove_code (w : World) (tb rd : Nat) (V : Nat → Value) (E : Nat → List (ByteArray × VS)) (vi : Value) (G : Gh) (I : List (Int × VF)) (C : Int → ByteArray) (h : TW w tb rd V E vi G I C) (hG : GOk G) (hGl : G.length ≤ 10000) (a da dt : List ByteArray) (ba bt : Nat) (na nt : ByteArray) (ta tt : Bool) (u ut : VS) (hu : u.p = none ∨ ∃ b, u = ⟨some ⟨b, 0, none⟩, 0⟩ ∧ IsDir G rd a b) (hda : IsDir G rd da ba) (hdt : IsDir G rd dt bt) (m : Nat) (hm : m ≤ 6) :
    Calls Tryz.prog 106 #[spotV (some ⟨ba, 0, none⟩) na ta u, spotV (some ⟨bt, 0, none⟩) nt tt ut, .int .i64 m] w fun e w' => e = .returned (.bool (mvB G a u ba bt dt m)) ∧ Below w.heap.size w w' := by
  have HFULL : Hid (∀ W, Below w.heap.size w W → Calls Tryz.prog 130 #[.pointer (some ⟨bt, 0, none⟩)] W fun e w' => e = .returned (.bool (decide (20 ≤ G.countP (qIn dt)))) ∧ w' = W) := fun W hb => by
    have h1 := h.d.below hb (Nat.le_refl _)
    rw [← h1.len hG hdt]
    exact isFull_code W bt (V bt) (E bt).length (cellsS (E bt)) (h1.row dt bt hdt) (h1.sl dt bt hdt)
  have HHT : Hid (∀ W b, Below w.heap.size w W → IsDir G rd a b → Calls Tryz.prog 132 #[.pointer (some ⟨b, 0, none⟩)] W fun e w' => ∃ h : Nat, e = .returned (.int .i64 h) ∧ Hid (decide (m + h ≤ 6) = !deepG G a m) ∧ h ≤ 6 ∧ Below W.heap.size W w') := fun W b hb hd => by
    refine (height_code G hG hGl rd V E 6 a b W (by omega) hd (h.d.below hb (Nat.le_refl _))).mono ?_
    rintro e w' ⟨k, rfl, hk, hb'⟩
    exact ⟨k, rfl, deep_iff hk hm, hgt_le hG hk, hb'⟩
  have HH := hide h
  clear h
  unfold spotV
  go_enter Tryz.func106, Tryz.ntmps106
  go_upto_region 1 with fail
  obtain ⟨W1, hW1, hx1, hk1, hsz1, hb1⟩ := alloc_name w (spotL (some ⟨ba, 0, none⟩) na ta u) 124
  obtain ⟨W2, hW2, hx2, hk2, hsz2, hb2⟩ := alloc_name W1 (spotL (some ⟨bt, 0, none⟩) nt tt ut) 124
  have hbw : Below w.heap.size w W2 := hb1.trans (hb2.mono (by omega))
  have y1 := hk2 _ _ _ hx1
  rw [hsz1] at hx2
  rw [hW1, hW2]
  have a0 := y1.cell 0; have a3 := y1.cell 3
  have c0 := hx2.cell 0
  obtain ⟨full, hfull⟩ : ∃ b, b = decide (20 ≤ G.countP (qIn dt)) := ⟨_, rfl⟩
  rw [← hfull] at HFULL
  have HB : Hid (mvB G a u ba bt dt m = (!(decide (bt ≠ ba) && full) && (u.p.isNone || !deepG G a m))) := by show _ = _; unfold mvB; rw [hfull]
  clear hW1 hW2 hk1 hk2 hb1 hb2 hx1 hsz1 hsz2 hfull
  have h2 := (unhide HH).below hbw (Nat.le_refl _)
  have hra := h2.d.row da ba hda
  have hrt := h2.d.row dt bt hdt
  obtain ⟨up, uf⟩ := u
  have hrest : (up = none) ∨ (∃ b, up = some ⟨b, 0, none⟩ ∧ IsDir G rd a b) := by
    rcases hu with h | ⟨b, h, hd⟩
    · exact .inl h
    · exact .inr ⟨b, by simpa using congrArg VS.p h, hd⟩
  clear hu h2
  by_cases hbb : bt = ba
  · subst hbb
    have hq := neq_same W2 bt
    have HB2 : Hid (mvB G a ⟨up, uf⟩ bt bt dt m = (up.isNone || !deepG G a m)) := by show _ = _; rw [unhide HB]; simp
    clear HB
    rcases hrest with rfl | ⟨b, rfl, hd⟩
    · go_wp2
      go_ret
      exact ⟨by rw [unhide HB2]; rfl, hbw⟩
    · have HD := hide hd
      clear hd
      go_wp2_with (first | (go_at_call 132; refine (unhide HHT _ b hbw (unhide HD)).mono ?_; rintro e w' ⟨k, rfl, HK, hk6, hb'⟩))
      go_ret
      have hdec : decide ((m : Int) + (k : Int) ≤ 6) = decide (m + k ≤ 6) := by rw [decide_eq_decide]; omega
      exact ⟨by rw [unhide HB2, ← unhide (unhide HK), ← hdec]; rfl, hbw.trans (hb'.mono hbw.size)⟩
  · have hq := neq_other W2 hbb hrt hra
    cases full with
    | true =>
      have HB2 : Hid (mvB G a ⟨up, uf⟩ ba bt dt m = false) := by show _ = _; rw [unhide HB, decide_eq_true hbb]; rfl
      clear HB
      go_wp2_with (first | (go_at_call 130; refine (unhide HFULL _ hbw).mono ?_; rintro e w' ⟨rfl, hw⟩; rw [hw]; clear hw))
      go_ret
      exact ⟨by rw [unhide HB2]; rfl, hbw⟩
    | false =>
      have HB2 : Hid (mvB G a ⟨up, uf⟩ ba bt dt m = (up.isNone || !deepG G a m)) := by show _ = _; rw [unhide HB]; simp
      clear HB
      rcases hrest with rfl | ⟨b, rfl, hd⟩
      · go_wp2_with (first | (go_at_call 130; refine (unhide HFULL _ hbw).mono ?_; rintro e w' ⟨rfl, hw⟩; rw [hw]; clear hw))
        go_ret
        exact ⟨by rw [unhide HB2]; rfl, hbw⟩
      · have HD := hide hd
        clear hd
        go_wp2_with (first | (go_at_call 130; refine (unhide HFULL _ hbw).mono ?_; rintro e w' ⟨rfl, hw⟩; rw [hw]; clear hw) | (go_at_call 132; refine (unhide HHT _ b hbw (unhide HD)).mono ?_; rintro e w' ⟨k, rfl, HK, hk6, hb'⟩))
        go_ret
        have hdec : decide ((m : Int) + (k : Int) ≤ 6) = decide (m + k ≤ 6) := by rw [decide_eq_decide]; omega
        exact ⟨by rw [unhide HB2, ← unhide (unhide HK), ← hdec]; rfl, hbw.trans (hb'.mono hbw.size)⟩
def hpB (q p : ByteArray) : Bool := Lib.hasPrefix q.data.toList (p ++ ⟨#[47]⟩ : ByteArray).data.toList
/-- The blocks of the directories in which a path's last name stands. -/
def mvE (G : Gh) (p q : ByteArray) : Int :=
  if nmOk q = false then 1 else if locE G p true ≠ 0 then locE G p true else if names p = [] then 7 else
  match atG G (names p) with
  | none => 3
  | some u => if u.p.isSome = true ∧ hpB q p = true then 7 else if gapE G (names q) ≠ 0 then gapE G (names q) else
    if ((decide ((names q).dropLast ≠ (names p).dropLast) && decide (20 ≤ G.countP (qIn (names q).dropLast))) || (u.p.isSome && deepG G (names p) (names q).length)) = true then 8 else 0
def MvPost (w : World) (tb : Nat) (G : Gh) (I : List (Int × VF)) (C : Int → ByteArray) (p q : ByteArray) (e : Ending) (w' : World) : Prop :=
  e = .returned (.int .i64 (mvE G p q)) ∧ Fr (ProgT tb w) w w' ∧ ((mvE G p q ≠ 0 ∧ PS w' tb G I C) ∨ (mvE G p q = 0 ∧ (∀ u, MvOk G (names p) (names q) u → PS w' tb (mvG G (names p) (names q)) I C)))
theorem moveT_code (w : World) (tb : Nat) (G : Gh) (I : List (Int × VF)) (C : Int → ByteArray) (h : PS w tb G I C) (hG : GOk G) (hGl : G.length ≤ 10000) (p q : ByteArray) (hp : p.size ≤ 2000000) (hq : q.size ≤ 2000000) :
    Calls Tryz.prog 55 #[.pointer (some ⟨tb, 0, none⟩), .string p, .string q] w (MvPost w tb G I C p q) := by
  obtain ⟨rd, V, E, vi, h⟩ := h
  have HSAME : Hid (∀ W, Below w.heap.size w W → mvE G p q ≠ 0 → MvPost w tb G I C p q (.returned (.int .i64 (mvE G p q))) W) := fun W hb hne => ⟨rfl, Fr.of_below hb, .inl ⟨hne, rd, V, E, vi, h.below hb (Nat.le_refl _)⟩⟩
  have hfi := first_code w tb rd V E vi G I C h hG hGl p q hp hq
  have HH := hide h
  clear h
  go_enter Tryz.func55, Tryz.ntmps55
  go_wp2_with fail
  refine hfi.mono ?_
  rintro e w1 ⟨hpost, hb⟩
  clear hfi
  rcases hpost with ⟨hn, rfl⟩ | ⟨hok, a, c, hSl, ⟨hne, rfl⟩ | ⟨he, hokp, d, n, t, u, hsp, rfl⟩⟩
  · have HE : Hid (mvE G p q = 1) := by show _ = _; unfold mvE; rw [if_pos hn]
    clear hn
    unfold noSpot spotV
    go_wp2
    go_ret
    have := unhide HSAME _ (hb.alloc hb.size (.cells (spotL none ⟨#[]⟩ false ⟨none, 0⟩).toArray 124)) (by rw [unhide HE]; decide)
    rw [unhide HE] at this
    exact this
  · have HE : Hid (mvE G p q = locE G p true) := by show _ = _; unfold mvE; rw [if_neg (by rw [hok]; simp), if_pos hne]
    have HNE := hide hne
    have hne' : (locE G p true != 0) = true := by simpa using hne
    obtain ⟨nl, hnl⟩ : ∃ nl, nl = (names q).length := ⟨_, rfl⟩
    rw [← hnl]
    clear hne hok hSl hnl
    unfold noSpot spotV
    go_wp2
    go_ret
    have := unhide HSAME _ (hb.alloc hb.size (.cells (spotL none ⟨#[]⟩ false ⟨none, 0⟩).toArray 124)) (by rw [unhide HE]; exact unhide HNE)
    rw [unhide HE] at this
    exact this
  · have HE0 : Hid (mvE G p q = if names p = [] then 7 else match atG G (names p) with
      | none => 3
      | some u => if u.p.isSome = true ∧ hpB q p = true then 7 else if gapE G (names q) ≠ 0 then gapE G (names q) else
        if ((decide ((names q).dropLast ≠ (names p).dropLast) && decide (20 ≤ G.countP (qIn (names q).dropLast))) || (u.p.isSome && deepG G (names p) (names q).length)) = true then 8 else 0) := by
      show _ = _; unfold mvE; rw [if_neg (by rw [hok]; simp), if_neg (by rw [he]; simp)]
    have HSP := hide hsp
    have HOK := hide hok
    have HSL := hide hSl
    obtain ⟨nl, hnl⟩ : ∃ nl, nl = (names q).length := ⟨_, rfl⟩
    have HNL := hide hnl
    have hnl6 : nl ≤ 6 := by rw [hnl]; exact names_len hok
    rw [← hnl]
    have hcs := spot_cases (unhide HH).d hsp
    have hpl : p.size ≤ 78 := nmOk_size p hokp
    clear hsp he hok hnl hSl
    unfold spotV
    obtain ⟨W, hW, hx, hk, hsz, hbW⟩ := alloc_name w1 (spotL d n t u) 124
    have hbb : Below w.heap.size w W := hb.trans (hbW.mono hb.size)
    have HBW := hide hbW
    have HW := hide hW
    clear hW hk hbW hsz
    go_upto_if 20 with fail
    rw [unhide HW]
    clear HW
    have a0 := hx.cell 0; have a1 := hx.cell 1; have a2 := hx.cell 2; have a3 := hx.cell 3; have a4 := hx.cell 4
    rcases hcs with ⟨rfl, hne, hat⟩ | hcs
    · have HE : Hid (mvE G p q = 3) := by show _ = _; rw [unhide HE0, if_neg hne, hat]
      clear hne hat
      go_wp2
      go_ret
      have := unhide HSAME _ hbb (by rw [unhide HE]; decide)
      rw [unhide HE] at this
      exact this
    · obtain rfl : t = true := by rcases hcs with ⟨h1, _⟩ | ⟨h1, _⟩ <;> exact h1
      have hroot := fun W => isRoot_code d n true u W
      unfold spotV at hroot
      have HROOT := hide hroot
      clear hroot
      by_cases hne : names p = []
      · have HE : Hid (mvE G p q = 7) := by show _ = _; rw [unhide HE0, if_pos hne]
        obtain rfl : d = none := by
          rcases unhide HSP with ⟨_, h1, _⟩ | ⟨ds, db, h1, _⟩
          · exact h1
          · rw [hne] at h1; simp at h1
        clear hne hcs
        go_wp2_with fail
        refine (unhide HROOT _).mono ?_
        rintro e w2 ⟨rfl, hb2⟩
        have hbw : Below w.heap.size w w2 := hbb.trans (hb2.mono hbb.size)
        clear HROOT
        go_wp2
        go_ret
        have := unhide HSAME _ hbw (by rw [unhide HE]; decide)
        rw [unhide HE] at this
        exact this
      · obtain ⟨da, ba, hns, hda, rfl, hat⟩ := (unhide HSP).in hne
        have HE1 : Hid (mvE G p q = if u.p.isSome = true ∧ hpB q p = true then 7 else if gapE G (names q) ≠ 0 then gapE G (names q) else
          if ((decide ((names q).dropLast ≠ (names p).dropLast) && decide (20 ≤ G.countP (qIn (names q).dropLast))) || (u.p.isSome && deepG G (names p) (names q).length)) = true then 8 else 0) := by show _ = _; rw [unhide HE0, if_neg hne, hat]
        have hu : u.p = none ∨ ∃ b, u = ⟨some ⟨b, 0, none⟩, 0⟩ ∧ IsDir G rd (names p) b := by
          rcases hcs with ⟨_, _, _, h1⟩ | ⟨_, b, h1, h2, _⟩
          · exact .inl h1
          · exact .inr ⟨b, h1, h2⟩
        have HNS := hide hns
        have HDA := hide hda
        have HAT := hide hat
        have HU := hide hu
        clear hne hns hda hat hcs HE0 hu
        go_wp2_with fail
        refine (unhide HROOT _).mono ?_
        rintro e w2 ⟨rfl, hb2⟩
        have hbw : Below w.heap.size w w2 := hbb.trans (hb2.mono hbb.size)
        have hx2 : RowIs w2 w1.heap.size 124 _ := (hb2.block _ hx.lt).trans hx
        have HSL2 : Hid (Sl w2 9 1 (.slice a (names q).length c) (names q).length ((names q).map .string)) := ((unhide HSL).kept (fun k hk _ => (unhide HBW).block k hk)).kept (fun k hk _ => hb2.block k hk)
        clear HROOT a0 a1 a2 a3 a4 hx
        have a0 := hx2.cell 0; have a1 := hx2.cell 1; have a2 := hx2.cell 2; have a3 := hx2.cell 3; have a4 := hx2.cell 4
        have hgap := gap_code w2 tb rd V E vi G I C ((unhide HH).below hbw (Nat.le_refl _)) hG hGl (names q) (names_len (unhide HOK)) a c (unhide HSL2)
        rw [← unhide HNL] at hgap
        have HGAP := hide hgap
        clear hgap
        have hhp := fun W => Tryz.strings_HasPrefix q (p ++ ⟨#[47]⟩) W
        have HHP := hide hhp
        clear hhp
        obtain ⟨up, uf⟩ := u
        cases up with
        | none =>
          have HE2 : Hid (mvE G p q = if gapE G (names q) ≠ 0 then gapE G (names q) else
            if ((decide ((names q).dropLast ≠ (names p).dropLast) && decide (20 ≤ G.countP (qIn (names q).dropLast))) || ((none : Option Addr).isSome && deepG G (names p) (names q).length)) = true then 8 else 0) := by show _ = _; rw [unhide HE1, if_neg (by simp)]
          clear HE1
          go_wp2_with fail
          refine (unhide HGAP).mono ?_
          rintro e w3 ⟨hpost, hb3⟩
          have hbw3 : Below w.heap.size w w3 := hbw.trans (hb3.mono hbw.size)
          have hx3 : RowIs w3 w1.heap.size 124 _ := (hb3.block _ hx2.lt).trans hx2
          clear HGAP a0 a1 a2 a3 a4 hx2
          rcases hpost with ⟨hne, rfl⟩ | ⟨hge, dt, nt, bt, hnq, hdt, hatq, rfl⟩
          · have HE3 : Hid (mvE G p q = gapE G (names q)) := by show _ = _; rw [unhide HE2, if_pos hne]
            have HNE := hide hne
            have hne' : (gapE G (names q) != 0) = true := by simpa using hne
            clear hne
            unfold noSpot spotV
            go_wp2
            go_ret
            have := unhide HSAME _ (hbw3.alloc hbw3.size (.cells (spotL none ⟨#[]⟩ false ⟨none, 0⟩).toArray 124)) (by rw [unhide HE3]; exact unhide HNE)
            rw [unhide HE3] at this
            exact this
          · unfold spotV
            obtain ⟨W3, hW3, hy3, hk3, hsz3, hbW3⟩ := alloc_name w3 (spotL (some ⟨bt, 0, none⟩) nt false ⟨none, 0⟩) 124
            have hbb3 : Below w.heap.size w W3 := hbw3.trans (hbW3.mono hbw3.size)
            have hz3 := hk3 _ _ _ hx3
            have hmm := mayMove_code W3 tb rd V E vi G I C ((unhide HH).below hbb3 (Nat.le_refl _)) hG hGl (names p) da dt ba bt n nt true false ⟨none, uf⟩ ⟨none, 0⟩ (.inl rfl) (unhide HDA) hdt nl hnl6
            unfold spotV at hmm
            have HMM := hide hmm
            have HE3 : Hid (mvE G p q = if mvB G (names p) ⟨none, uf⟩ ba bt dt nl = true then 0 else 8) := by
              show _ = _
              rw [unhide HE2, if_neg (by rw [hge]; simp), hnq, List.dropLast_concat, unhide HNS, List.dropLast_concat, ← hnq, ← unhide HNS, ← unhide HNL]
              have e1 : decide (dt ≠ da) = decide (bt ≠ ba) := by
                rw [decide_eq_decide]
                constructor
                · intro h1 e; subst e; exact h1 ((unhide HH).d.inj _ _ _ hdt (unhide HDA))
                · intro h1 e; subst e; exact h1 (hdt.func hG (unhide HDA))
              rw [e1]
              unfold mvB
              cases decide (bt ≠ ba) <;> cases decide (20 ≤ G.countP (qIn dt)) <;> cases deepG G (names p) nl <;> rfl
            have HNQ := hide hnq
            have HDT := hide hdt
            have HATQ := hide hatq
            have HW3 := hide hW3
            clear hW3 hk3 hsz3 hmm hge hnq hdt hatq hx3
            go_upto_if 46 with fail
            rw [unhide HW3]
            clear HW3
            have a0 := hz3.cell 0; have a1 := hz3.cell 1; have a2 := hz3.cell 2; have a3 := hz3.cell 3; have a4 := hz3.cell 4
            have c0 := hy3.cell 0; have c1 := hy3.cell 1; have c2 := hy3.cell 2; have c3 := hy3.cell 3; have c4 := hy3.cell 4
            go_wp2_with fail
            refine (unhide HMM).mono ?_
            rintro e w4 ⟨rfl, hb4⟩
            have hx4 : RowIs w4 w1.heap.size 124 _ := (hb4.block _ hz3.lt).trans hz3
            have hy4 : RowIs w4 w3.heap.size 124 _ := (hb4.block _ hy3.lt).trans hy3
            have hbw4 : Below w.heap.size w w4 := hbb3.trans (hb4.mono hbb3.size)
            clear HMM a0 a1 a2 a3 a4 c0 c1 c2 c3 c4 hz3 hy3
            cases hmb : mvB G (names p) ⟨none, uf⟩ ba bt dt nl with
            | false =>
              have HE4 : Hid (mvE G p q = 8) := by show _ = _; rw [unhide HE3, hmb]; rfl
              go_wp2
              go_ret
              have := unhide HSAME w4 hbw4 (by rw [unhide HE4]; decide)
              rw [unhide HE4] at this
              exact this
            | true =>
              have HE4 : Hid (mvE G p q = 0) := by show _ = _; rw [unhide HE3, hmb]; rfl
              have a0 := hx4.cell 0; have a1 := hx4.cell 1; have a2 := hx4.cell 2; have a3 := hx4.cell 3; have a4 := hx4.cell 4
              have h4 := (unhide HH).below hbw4 (Nat.le_refl _)
              have hda := unhide HDA
              have hdt := unhide HDT
              have hmem : (n, ⟨none, uf⟩) ∈ E ba := (h4.d.en da ba hda n _).2 (by rw [← unhide HNS]; exact atG_mem (unhide HAT))
              have hlv := leave_low w4 ba n true ⟨none, uf⟩ ⟨none, uf⟩ (V ba) (E ba) (h4.d.row da ba hda) (h4.d.sl da ba hda) (Nat.le_trans (h4.d.le hG hda) hGl) (h4.d.srt da ba hda) hmem
              unfold spotV at hlv
              have HLV := hide hlv
              have H4 := hide h4
              have HX4 := hide hx4
              have HY4 := hide hy4
              clear hlv h4 hmem hx4 hy4 hmb
              go_wp2_with fail
              refine (unhide HLV).mono ?_
              rintro e w5 ⟨rfl, v1, es1, q1, q2, q3, q4, q5, q6, q7⟩
              have h4 := unhide H4
              have hrow := h4.d.row da ba hda
              have hsl := h4.d.sl da ba hda
              have hkeep : ∀ k t R, RowIs w4 k t R → t ≠ 131 → t ≠ 164 → RowIs w5 k t R := fun k t R hR h1 h2 => hR.fr q7 (fun e => by
                rcases e with rfl | e
                · exact h1 (hR.type hrow)
                · obtain ⟨R', hR'⟩ := hsl.type e; exact h2 (hR.type hR'))
              have h5 := TW.dirs h4 hrow hsl q7 (h4.d.del hG hda (G' := gone G (names p)) (n := n) (fun x => by rw [← unhide HNS]; exact gone_del G _ x) q1 q2 q3 q5 q6 q7)
              have h5H := h4.d.h.upd ⟨da, hda⟩ q1 q2 q3 q6 q7
              have hE1 : ∀ b, (∃ ns, IsDir G rd ns b) → ∀ x, x ∈ upd E ba es1 b ↔ x ∈ E b ∧ ¬ (b = ba ∧ x.1 = n) := fun b _ x => by
                by_cases e : b = ba
                · subst e; rw [upd_same, q5 x]; simp
                · rw [upd_other _ _ e]; simp [e]
              have hBt : ∃ ns, IsDir G rd ns bt := ⟨dt, hdt⟩
              have hent := enter_low w5 bt nt (name_size (unhide HOK) (unhide HNQ)) false ⟨none, 0⟩ ⟨none, uf⟩ (upd V ba v1 bt) (upd E ba es1 bt) (h5H.row bt hBt) (h5H.sl bt hBt) (by
                  by_cases e : bt = ba
                  · subst e; rw [upd_same]; have := h4.d.le hG hda; omega
                  · rw [upd_other _ _ e]; exact Nat.le_trans (h4.d.le hG hdt) hGl) (h5H.srt bt hBt) (fun x hx e => by
                  have hx' := ((hE1 bt hBt x).1 hx).1
                  have := (h4.d.en dt bt hdt x.1 x.2).1 hx'
                  rw [e] at this
                  exact atG_none (G := G) (ns := dt ++ [nt]) (by rw [← unhide HNQ]; exact unhide HATQ) _ this)
              unfold spotV at hent
              have HENT := hide hent
              have H5 := hide h5
              have H5H := hide h5H
              have HE1' := hide hE1
              have HF5 : Hid (Fr (ProgT tb w) w w5) := Fr.prog hbw4 (Fr.progOne (h4.dlo hda) hrow hsl q7)
              have hx5 := hkeep _ _ _ (unhide HX4) (by decide) (by decide)
              have hy5 := hkeep _ _ _ (unhide HY4) (by decide) (by decide)
              have b3 := hx5.cell 3; have b4 := hx5.cell 4
              have c0 := hy5.cell 0; have c1 := hy5.cell 1; have c2 := hy5.cell 2; have c3 := hy5.cell 3; have c4 := hy5.cell 4
              clear hent h5 h5H hE1 hkeep hrow hsl h4 q1 q2 q3 q4 q5 q6 q7 HLV a0 a1 a2 a3 a4
              go_wp2_with fail
              refine (unhide HENT).mono ?_
              rintro e w6 ⟨rfl, v2, es2, q1, q2, q3, q4, q5, q6, q7⟩
              have HFIN : Hid (MvPost w tb G I C p q (.returned (.int .i64 0)) w6) := by
                refine ⟨by rw [unhide HE4], (unhide HF5).progTrans (Fr.progOne (⟨by have h1 := (unhide H5).lo.1; have h2 := ((unhide H5H).lo bt hBt).1; omega, fun g hg => by have h1 := (unhide H5).lo.1; have h2 := ((unhide H5H).lo bt hBt).2 g hg; omega⟩) ((unhide H5H).row bt hBt) ((unhide H5H).sl bt hBt) q7), .inr ⟨unhide HE4, fun u' hm => ?_⟩⟩
                have hu' : u' = ⟨none, uf⟩ := nodup_fst hG.nd hm.here (atG_mem (unhide HAT))
                subst hu'
                have h6H := (unhide H5H).upd hBt q1 q2 q3 q6 q7
                have hm2 := hm
                rw [unhide HNS, unhide HNQ] at hm2
                have hD := (unhide H4).d.move hm2 hda hdt h6H (fun b hb m x => by
                  by_cases e : b = bt
                  · subst e
                    rw [upd_same, q5, unhide HE1' b hb]
                    simp
                  · rw [upd_other _ _ e, unhide HE1' b hb]
                    simp [e])
                rw [← unhide HNS, ← unhide HNQ] at hD
                exact ⟨rd, _, _, vi, TW.dirs (unhide H5) ((unhide H5H).row bt hBt) ((unhide H5H).sl bt hBt) q7 hD⟩
              clear HENT q1 q2 q3 q4 q5 q6 q7
              go_wp2
              go_ret
              exact unhide HFIN
        | some au =>
          have HU2 : Hid (∃ b, (⟨some au, uf⟩ : VS) = ⟨some ⟨b, 0, none⟩, 0⟩ ∧ IsDir G rd (names p) b) := by
            rcases unhide HU with h | h
            · cases h
            · exact h
          obtain ⟨hpb, hhpb⟩ : ∃ b, b = hpB q p := ⟨_, rfl⟩
          have hcat : (p ++ ⟨#[47]⟩ : ByteArray).size ≤ 2000000 := by rw [ByteArray.size_append]; show p.size + 1 ≤ 2000000; omega
          have HHP2 : Hid (∀ W, Calls Tryz.prog 105 #[.string q, .string (p ++ ⟨#[47]⟩)] W fun e w' => e = .returned (.bool hpb) ∧ w' = W) := fun W => by rw [hhpb]; exact unhide HHP W
          clear HHP
          cases hpb with
          | true =>
            have HE2 : Hid (mvE G p q = 7) := by show _ = _; rw [unhide HE1, if_pos ⟨rfl, hhpb.symm⟩]
            clear hhpb
            go_wp2_with (first | (go_at_call 105; refine (unhide HHP2 _).mono ?_; rintro e w' ⟨rfl, hw⟩; rw [hw]; clear hw))
            go_ret
            have := unhide HSAME _ hbw (by rw [unhide HE2]; decide)
            rw [unhide HE2] at this
            exact this
          | false =>
            have HE2 : Hid (mvE G p q = if gapE G (names q) ≠ 0 then gapE G (names q) else
              if ((decide ((names q).dropLast ≠ (names p).dropLast) && decide (20 ≤ G.countP (qIn (names q).dropLast))) || ((some au : Option Addr).isSome && deepG G (names p) (names q).length)) = true then 8 else 0) := by show _ = _; rw [unhide HE1, if_neg (by rw [← hhpb]; simp)]
            clear HE1 hhpb
            go_wp2_with (first | (go_at_call 105; refine (unhide HHP2 _).mono ?_; rintro e w' ⟨rfl, hw⟩; rw [hw]; clear hw))
            refine (unhide HGAP).mono ?_
            rintro e w3 ⟨hpost, hb3⟩
            have hbw3 : Below w.heap.size w w3 := hbw.trans (hb3.mono hbw.size)
            have hx3 : RowIs w3 w1.heap.size 124 _ := (hb3.block _ hx2.lt).trans hx2
            clear HGAP a0 a1 a2 a3 a4 hx2
            rcases hpost with ⟨hne, rfl⟩ | ⟨hge, dt, nt, bt, hnq, hdt, hatq, rfl⟩
            · have HE3 : Hid (mvE G p q = gapE G (names q)) := by show _ = _; rw [unhide HE2, if_pos hne]
              have HNE := hide hne
              have hne' : (gapE G (names q) != 0) = true := by simpa using hne
              clear hne
              unfold noSpot spotV
              go_wp2
              go_ret
              have := unhide HSAME _ (hbw3.alloc hbw3.size (.cells (spotL none ⟨#[]⟩ false ⟨none, 0⟩).toArray 124)) (by rw [unhide HE3]; exact unhide HNE)
              rw [unhide HE3] at this
              exact this
            · unfold spotV
              obtain ⟨W3, hW3, hy3, hk3, hsz3, hbW3⟩ := alloc_name w3 (spotL (some ⟨bt, 0, none⟩) nt false ⟨none, 0⟩) 124
              have hbb3 : Below w.heap.size w W3 := hbw3.trans (hbW3.mono hbw3.size)
              have hz3 := hk3 _ _ _ hx3
              have hmm := mayMove_code W3 tb rd V E vi G I C ((unhide HH).below hbb3 (Nat.le_refl _)) hG hGl (names p) da dt ba bt n nt true false ⟨some au, uf⟩ ⟨none, 0⟩ (.inr (unhide HU2)) (unhide HDA) hdt nl hnl6
              unfold spotV at hmm
              have HMM := hide hmm
              have HE3 : Hid (mvE G p q = if mvB G (names p) ⟨some au, uf⟩ ba bt dt nl = true then 0 else 8) := by
                show _ = _
                rw [unhide HE2, if_neg (by rw [hge]; simp), hnq, List.dropLast_concat, unhide HNS, List.dropLast_concat, ← hnq, ← unhide HNS, ← unhide HNL]
                have e1 : decide (dt ≠ da) = decide (bt ≠ ba) := by
                  rw [decide_eq_decide]
                  constructor
                  · intro h1 e; subst e; exact h1 ((unhide HH).d.inj _ _ _ hdt (unhide HDA))
                  · intro h1 e; subst e; exact h1 (hdt.func hG (unhide HDA))
                rw [e1]
                unfold mvB
                cases decide (bt ≠ ba) <;> cases decide (20 ≤ G.countP (qIn dt)) <;> cases deepG G (names p) nl <;> rfl
              have HNQ := hide hnq
              have HDT := hide hdt
              have HATQ := hide hatq
              have HW3 := hide hW3
              clear hW3 hk3 hsz3 hmm hge hnq hdt hatq hx3
              go_upto_if 46 with fail
              rw [unhide HW3]
              clear HW3
              have a0 := hz3.cell 0; have a1 := hz3.cell 1; have a2 := hz3.cell 2; have a3 := hz3.cell 3; have a4 := hz3.cell 4
              have c0 := hy3.cell 0; have c1 := hy3.cell 1; have c2 := hy3.cell 2; have c3 := hy3.cell 3; have c4 := hy3.cell 4
              go_wp2_with fail
              refine (unhide HMM).mono ?_
              rintro e w4 ⟨rfl, hb4⟩
              have hx4 : RowIs w4 w1.heap.size 124 _ := (hb4.block _ hz3.lt).trans hz3
              have hy4 : RowIs w4 w3.heap.size 124 _ := (hb4.block _ hy3.lt).trans hy3
              have hbw4 : Below w.heap.size w w4 := hbb3.trans (hb4.mono hbb3.size)
              clear HMM a0 a1 a2 a3 a4 c0 c1 c2 c3 c4 hz3 hy3
              cases hmb : mvB G (names p) ⟨some au, uf⟩ ba bt dt nl with
              | false =>
                have HE4 : Hid (mvE G p q = 8) := by show _ = _; rw [unhide HE3, hmb]; rfl
                go_wp2
                go_ret
                have := unhide HSAME w4 hbw4 (by rw [unhide HE4]; decide)
                rw [unhide HE4] at this
                exact this
              | true =>
                have HE4 : Hid (mvE G p q = 0) := by show _ = _; rw [unhide HE3, hmb]; rfl
                have a0 := hx4.cell 0; have a1 := hx4.cell 1; have a2 := hx4.cell 2; have a3 := hx4.cell 3; have a4 := hx4.cell 4
                have h4 := (unhide HH).below hbw4 (Nat.le_refl _)
                have hda := unhide HDA
                have hdt := unhide HDT
                have hmem : (n, ⟨some au, uf⟩) ∈ E ba := (h4.d.en da ba hda n _).2 (by rw [← unhide HNS]; exact atG_mem (unhide HAT))
                have hlv := leave_low w4 ba n true ⟨some au, uf⟩ ⟨some au, uf⟩ (V ba) (E ba) (h4.d.row da ba hda) (h4.d.sl da ba hda) (Nat.le_trans (h4.d.le hG hda) hGl) (h4.d.srt da ba hda) hmem
                unfold spotV at hlv
                have HLV := hide hlv
                have H4 := hide h4
                have HX4 := hide hx4
                have HY4 := hide hy4
                clear hlv h4 hmem hx4 hy4 hmb
                go_wp2_with fail
                refine (unhide HLV).mono ?_
                rintro e w5 ⟨rfl, v1, es1, q1, q2, q3, q4, q5, q6, q7⟩
                have h4 := unhide H4
                have hrow := h4.d.row da ba hda
                have hsl := h4.d.sl da ba hda
                have hkeep : ∀ k t R, RowIs w4 k t R → t ≠ 131 → t ≠ 164 → RowIs w5 k t R := fun k t R hR h1 h2 => hR.fr q7 (fun e => by
                  rcases e with rfl | e
                  · exact h1 (hR.type hrow)
                  · obtain ⟨R', hR'⟩ := hsl.type e; exact h2 (hR.type hR'))
                have h5 := TW.dirs h4 hrow hsl q7 (h4.d.del hG hda (G' := gone G (names p)) (n := n) (fun x => by rw [← unhide HNS]; exact gone_del G _ x) q1 q2 q3 q5 q6 q7)
                have h5H := h4.d.h.upd ⟨da, hda⟩ q1 q2 q3 q6 q7
                have hE1 : ∀ b, (∃ ns, IsDir G rd ns b) → ∀ x, x ∈ upd E ba es1 b ↔ x ∈ E b ∧ ¬ (b = ba ∧ x.1 = n) := fun b _ x => by
                  by_cases e : b = ba
                  · subst e; rw [upd_same, q5 x]; simp
                  · rw [upd_other _ _ e]; simp [e]
                have hBt : ∃ ns, IsDir G rd ns bt := ⟨dt, hdt⟩
                have hent := enter_low w5 bt nt (name_size (unhide HOK) (unhide HNQ)) false ⟨none, 0⟩ ⟨some au, uf⟩ (upd V ba v1 bt) (upd E ba es1 bt) (h5H.row bt hBt) (h5H.sl bt hBt) (by
                    by_cases e : bt = ba
                    · subst e; rw [upd_same]; have := h4.d.le hG hda; omega
                    · rw [upd_other _ _ e]; exact Nat.le_trans (h4.d.le hG hdt) hGl) (h5H.srt bt hBt) (fun x hx e => by
                    have hx' := ((hE1 bt hBt x).1 hx).1
                    have := (h4.d.en dt bt hdt x.1 x.2).1 hx'
                    rw [e] at this
                    exact atG_none (G := G) (ns := dt ++ [nt]) (by rw [← unhide HNQ]; exact unhide HATQ) _ this)
                unfold spotV at hent
                have HENT := hide hent
                have H5 := hide h5
                have H5H := hide h5H
                have HE1' := hide hE1
                have HF5 : Hid (Fr (ProgT tb w) w w5) := Fr.prog hbw4 (Fr.progOne (h4.dlo hda) hrow hsl q7)
                have hx5 := hkeep _ _ _ (unhide HX4) (by decide) (by decide)
                have hy5 := hkeep _ _ _ (unhide HY4) (by decide) (by decide)
                have b3 := hx5.cell 3; have b4 := hx5.cell 4
                have c0 := hy5.cell 0; have c1 := hy5.cell 1; have c2 := hy5.cell 2; have c3 := hy5.cell 3; have c4 := hy5.cell 4
                clear hent h5 h5H hE1 hkeep hrow hsl h4 q1 q2 q3 q4 q5 q6 q7 HLV a0 a1 a2 a3 a4
                go_wp2_with fail
                refine (unhide HENT).mono ?_
                rintro e w6 ⟨rfl, v2, es2, q1, q2, q3, q4, q5, q6, q7⟩
                have HFIN : Hid (MvPost w tb G I C p q (.returned (.int .i64 0)) w6) := by
                  refine ⟨by rw [unhide HE4], (unhide HF5).progTrans (Fr.progOne (⟨by have h1 := (unhide H5).lo.1; have h2 := ((unhide H5H).lo bt hBt).1; omega, fun g hg => by have h1 := (unhide H5).lo.1; have h2 := ((unhide H5H).lo bt hBt).2 g hg; omega⟩) ((unhide H5H).row bt hBt) ((unhide H5H).sl bt hBt) q7), .inr ⟨unhide HE4, fun u' hm => ?_⟩⟩
                  have hu' : u' = ⟨some au, uf⟩ := nodup_fst hG.nd hm.here (atG_mem (unhide HAT))
                  subst hu'
                  have h6H := (unhide H5H).upd hBt q1 q2 q3 q6 q7
                  have hm2 := hm
                  rw [unhide HNS, unhide HNQ] at hm2
                  have hD := (unhide H4).d.move hm2 hda hdt h6H (fun b hb m x => by
                    by_cases e : b = bt
                    · subst e
                      rw [upd_same, q5, unhide HE1' b hb]
                      simp
                    · rw [upd_other _ _ e, unhide HE1' b hb]
                      simp [e])
                  rw [← unhide HNS, ← unhide HNQ] at hD
                  exact ⟨rd, _, _, vi, TW.dirs (unhide H5) ((unhide H5H).row bt hBt) ((unhide H5H).sl bt hBt) q7 hD⟩
                clear HENT q1 q2 q3 q4 q5 q6 q7
                go_wp2
                go_ret
                exact unhide HFIN

end Go.Proofs.YtfabjhgkigagpaaGreatDoor
