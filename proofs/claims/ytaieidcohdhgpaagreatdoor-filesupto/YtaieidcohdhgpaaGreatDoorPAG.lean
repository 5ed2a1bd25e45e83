/- Files. -/
import Derived.Test.YtaieidcohdhgpaaGreatDoorPAF
import Derived.Deep.DeepCutAuto
namespace Go.Proofs.YtaieidcohdhgpaaGreatDoor
open Go.RowKit
set_option maxHeartbeats 2000000
set_option maxRecDepth 100000
def beginsB (p q : ByteArray) : Bool := decide (q.size < p.size) && (p.extract 0 q.size).toList == q.toList && p.data.toList[q.size]? == some 47
theorem slash_eq (p : ByteArray) (k : Nat) (h : k < p.size) : ((p[k].toNat : Int) == 47) = (p.data.toList[k]? == some 47) := by
 have := slash_iff p k h
 cases h1 : ((p[k].toNat : Int) == 47) with
 | true =>
  have h2 : ((p[k].toNat : Int) != 47) = false := by simp only [bne, h1]; rfl
  cases h3 : (p.data.toList[k]? == some 47) with
  | true => rfl
  | false =>
   have h4 := this.2 (by simpa using h3)
   rw [h2] at h4; cases h4
 | false =>
  have h2 : ((p[k].toNat : Int) != 47) = true := by simp only [bne, h1]; rfl
  have h4 := this.1 h2
  cases h3 : (p.data.toList[k]? == some 47) with
  | false => rfl
  | true => exact absurd (by simpa using h3) h4
theorem begins_ref (p q : ByteArray) (w : World) (_hp : p.size ≤ 2000000) (hq : q.size ≤ 2000000) : Calls Tryz.prog 147 #[.string p, .string q] w fun e w' => e = .returned (.bool (beginsB p q)) ∧ w' = w := by
 obtain ⟨r, hr⟩ : ∃ r, r = beginsB p q := ⟨_, rfl⟩
 rw [← hr]
 unfold beginsB at hr
 by_cases h1 : q.size < p.size
 ·cases h2 : ((p.extract 0 q.size).toList == q.toList) with
  | true =>
   have h3 := slash_eq p q.size h1
   have hr2 : r = ((p[q.size].toNat : Int) == 47) := by rw [hr, h3, h2]; simp [h1]
   have HR := hide hr2
   clear hr hr2 h3
   go_enter Tryz.func147, Tryz.ntmps147
   go_wp2
   go_ret
   exact ⟨by rw [unhide HR]; rfl, rfl⟩
  | false =>
   obtain rfl : r = false := by rw [hr, h2]; simp
   clear hr
   go_enter Tryz.func147, Tryz.ntmps147
   go_wp2
   go_ret
   exact ⟨rfl, rfl⟩
 ·obtain rfl : r = false := by rw [hr]; simp [h1]
  clear hr
  go_enter Tryz.func147, Tryz.ntmps147
  go_wp2
  go_ret
  exact ⟨by simp, rfl⟩
def mv (a b : ByteArray) (x : ByteArray × Int) : ByteArray × Int := if (beginsB x.1 a || decide (x.1 = a)) = true then (b ++ x.1.extract a.size x.1.size, x.2) else x
def deepB (a b : ByteArray) (x : ByteArray × Int) : Bool := beginsB x.1 a && decide (6 < ((names x.1).length : Int) - (names a).length + (names b).length)
def moveR (L : List (ByteArray × Int)) (a b : ByteArray) : Int × List (ByteArray × Int) :=
 if (nmOk a && nmOk b) = false then (1, L) else
 if aheadR L a ≠ 0 then (aheadR L a, L) else
 if (a.toList == [47]) = true then (7, L) else
 match look L a with
 | none => (3, L)
 | some f => if f < 0 ∧ beginsB b a = true then (7, L) else
  if aheadR L b ≠ 0 then (aheadR L b, L) else
  if (b.toList == [47]) = true ∨ (look L b).isSome = true then (6, L) else
  if ((dirOf a).toList != (dirOf b).toList) = true ∧ 20 ≤ L.countP (qDir (dirOf b)) then (8, L) else
  if L.any (deepB a b) = true then (8, L) else (0, L.map (mv a b))
theorem hasSl_mk {p : ByteArray} {k : Nat} (h : p.data.toList[k]? = some 47) : HasSl p := by
 cases hl : lastSl p.data.toList with
 | none => exact absurd h (lastSl_none hl k)
 | some j => exact ⟨j, hl⟩
theorem cellsL_set (es : List (ByteArray × Int)) (i : Nat) (p : ByteArray) (x : ByteArray × Int) (h : es[i]? = some x) : (cellsL es).set (i * 2) (.string p) = cellsL (es.set i (p, x.2)) := by
 induction es generalizing i with
 | nil => simp at h
 | cons a l ih =>
  cases i with
  | zero => simp at h; subst h; simp [cellsL, clL]
  | succ i =>
   simp at h
   have := ih i h
   simp only [cellsL, List.flatMap_cons, List.set_cons_succ] at this ⊢
   rw [← this, List.set_append_right _ _ (by simp [clL]; omega)]
   simp only [clL, List.length_cons, List.length_nil]
   rw [show (i + 1) * 2 - (0 + 1 + 1) = i * 2 by omega]
theorem RefW.setPath {w : World} {rb g cap : Nat} {vf : Value} {L : List (ByteArray × Int)} {F : List ByteArray} {n : Nat} (h : RefW w rb (.slice (some ⟨g, 0, none⟩) n cap) vf L F) (i : Nat) (x : ByteArray × Int) (hx : L[i]? = some x) (p : ByteArray) (hp : p.size ≤ 2000000) (hs : HasSl p)
  (W : World) (hW : W.heap = (w.setCell ⟨g, i * 2, none⟩ (.string p)).heap) : RefW W rb (.slice (some ⟨g, 0, none⟩) n cap) vf (L.set i (p, x.2)) F := by
 have hrg : rb ≠ g := fun e => h.nel (by simp [Value.ownBlock, e])
 have hbk : ∀ k, k ≠ g → W.heap[k]? = w.heap[k]? := fun k hk => by rw [hW, Below.heap_setCell _ _ _ _ hk]
 refine ⟨?_, ?_, ?_, by simpa using h.nl, h.nf, ?_, h.okf, h.sep⟩
 ·unfold RowIs; rw [hbk rb hrg]; exact h.hd
 ·refine ⟨by rw [cellsL_length], ?_⟩
  rcases h.sl.2 with ⟨e, _⟩ | ⟨g', cap', R, e, hR, h3, h4, h5, h6⟩
  ·cases e
  ·cases e
   refine .inr ⟨g, cap, R.set (i * 2) (.string p), by simp, ?_, by simpa using h3, h4, by simpa using h5, ?_⟩
   ·unfold RowIs; rw [hW]; exact hR.set _ _
   ·rw [List.take_set, List.length_set, h6, cellsL_set L i p x hx]
 ·exact h.sf.kept (fun k hk e => hbk k (fun e' => h.sep g rfl (by rw [← e']; exact e)))
 ·intro y hy
  rcases List.mem_or_eq_of_mem_set hy with hy | rfl
  ·exact h.ok y hy
  ·exact ⟨hp, hs⟩
theorem set_self {α : Type} (l : List α) (m : Nat) (x : α) (h : l[m]? = some x) : l.set m x = l := by
 apply List.ext_getElem?
 intro j
 rw [List.getElem?_set]
 by_cases e : m = j
 ·subst e; rw [if_pos rfl, h]; simp [(List.getElem?_eq_some_iff.1 h).1]
 ·rw [if_neg e]
def mvT (a b : ByteArray) (L : List (ByteArray × Int)) (m : Nat) : List (ByteArray × Int) := (L.take m).map (mv a b) ++ L.drop m
theorem mvT_at (a b : ByteArray) (L : List (ByteArray × Int)) (m : Nat) (h : m < L.length) : (mvT a b L m)[m]? = some L[m] := by
 unfold mvT
 rw [List.getElem?_append_right (by rw [List.length_map, List.length_take]; omega), List.length_map, List.length_take, Nat.min_eq_left (by omega), Nat.sub_self, List.getElem?_drop]
 simp [h]
theorem mvT_succ (a b : ByteArray) (L : List (ByteArray × Int)) (m : Nat) (h : m < L.length) : mvT a b L (m + 1) = (mvT a b L m).set m (mv a b L[m]) := by
 unfold mvT
 rw [List.set_append_right _ _ (by rw [List.length_map, List.length_take]; omega), List.length_map, List.length_take, Nat.min_eq_left (by omega), Nat.sub_self, List.take_succ_eq_append_getElem h, List.drop_eq_getElem_cons h, List.map_append, List.append_assoc]
 rfl
theorem move_ref (w : World) (rb : Nat) (vl vf : Value) (L : List (ByteArray × Int)) (F : List ByteArray) (h : RefW w rb vl vf L F) (a b : ByteArray) (ha : a.size ≤ 2000000) (hbs : b.size ≤ 2000000)
  (hval : ∀ x ∈ L, nmOk x.1 = true) (huniq : ∀ (i j : Nat) x y, L[i]? = some x → L[j]? = some y → x.1 = y.1 → i = j) :
  Calls Tryz.prog 88 #[.pointer (some ⟨rb, 0, none⟩), .string a, .string b] w fun e w' => e = .returned (.int .i64 (moveR L a b).1) ∧ RefPost w rb vl vf w' (moveR L a b).2 F := by
 obtain ⟨R, hR⟩ : ∃ R, R = moveR L a b := ⟨_, rfl⟩
 rw [← hR]
 unfold moveR at hR
 have HW := hide h
 have HHF : Hid (∀ p w1, Below w.heap.size w w1 → Calls Tryz.prog 101 #[.pointer (some ⟨rb, 0, none⟩), .string p] w1 fun e w'' => ∃ r, (e = .returned (.int .i64 r) ∧ FindIs L p r) ∧ w'' = w1) := fun p w1 hb => (h.at hb).find p
 have HHA : Hid (∀ p w1, p.size ≤ 2000000 → Below w.heap.size w w1 → Calls Tryz.prog 104 #[.pointer (some ⟨rb, 0, none⟩), .string p] w1 fun e w'' => e = .returned (.int .i64 (aheadR L p)) ∧ w'' = w1) := fun p w1 hp hb => (h.at hb).ahead p hp
 have HSM : Hid (∀ w', Below w.heap.size w w' → RefPost w rb vl vf w' L F) := fun w' hb => RefPost.same h hb
 have HWI : Hid (∀ d w1, Below w.heap.size w w1 → Calls Tryz.prog 149 #[.pointer (some ⟨rb, 0, none⟩), .string d] w1 fun e w' => e = .returned (.int .i64 (L.countP (qDir d) : Nat)) ∧ w' = w1) := fun d w1 hb => (h.at hb).within d
 have HVAL := hide hval
 have HUN := hide huniq
 have HOK := hide h.ok
 have hrbl := h.hd.lt
 have hnl := h.nl
 obtain ⟨av, cv, rfl, hrd⟩ := h.sl.rdL
 have HRD := hide hrd
 clear h hrd hval huniq
 go_enter Tryz.func88, Tryz.ntmps88
 go_wp2_with fail
 refine (names_ref a _ ha).mono ?_
 rintro e w1 ⟨a1, n1, c1, rfl, hn1, hb1⟩
 go_wp2_with fail
 refine (names_ref b _ hbs).mono ?_
 rintro e w2 ⟨a2, n2, c2, rfl, hn2, hb2⟩
 have hb := hb1.trans (hb2.mono hb1.size)
 have HN2 := hide hn2
 clear hn1 hn2
 cases hoa : nmOk a with
 | false =>
  have hR2 : R = (1, L) := by rw [hR, hoa]; rfl
  have HP : Hid (RefPost w rb (.slice av L.length cv) vf w2 R.2 F) := by rw [hR2]; exact unhide HSM _ hb
  have H1 : Hid (R.1 = 1) := by rw [hR2]; exact rfl
  clear hR hR2
  go_wp2
  go_ret
  exact ⟨by rw [unhide H1]; rfl, unhide HP⟩
 | true =>
 cases hob : nmOk b with
 | false =>
  have hR2 : R = (1, L) := by rw [hR, hoa, hob]; rfl
  have HP : Hid (RefPost w rb (.slice av L.length cv) vf w2 R.2 F) := by rw [hR2]; exact unhide HSM _ hb
  have H1 : Hid (R.1 = 1) := by rw [hR2]; exact rfl
  clear hR hR2
  go_wp2
  go_ret
  exact ⟨by rw [unhide H1]; rfl, unhide HP⟩
 | true =>
 rw [hoa, hob, if_neg (by simp)] at hR
 have hsla := hasSl_of_ok a hoa
 have hslb := hasSl_of_ok b hob
 obtain ⟨e1, he1⟩ : ∃ e1, e1 = aheadR L a := ⟨_, rfl⟩
 have hah := unhide HHA a w2 ha hb
 rw [← he1] at hR hah
 by_cases h0 : e1 ≠ 0
 ·rw [if_pos h0] at hR
  have hbb : (e1 != 0) = true := by rw [bne_iff_ne]; exact h0
  have HP : Hid (RefPost w rb (.slice av L.length cv) vf w2 R.2 F) := by rw [hR]; exact unhide HSM _ hb
  have H1 : Hid (R.1 = e1) := by rw [hR]; exact rfl
  clear hR h0 he1
  go_wp2_with (go_at_call 104; refine hah.mono ?_; rintro e w' ⟨rfl, hw⟩; rw [hw]; clear hw)
  go_ret
  exact ⟨by rw [unhide H1]; rfl, unhide HP⟩
 rw [if_neg h0] at hR
 obtain rfl : e1 = 0 := by omega
 go_wp2_with (go_at_call 104; refine hah.mono ?_; rintro e w' ⟨rfl, hw⟩; rw [hw]; clear hw)
 refine (unhide HHF a _ hb).mono ?_
 rintro e w' ⟨r, ⟨rfl, hfi⟩, hw⟩
 rw [hw]; clear hw
 have hcw := ((unhide HW).at hb).c.c0
 have hrb1 : rb < w2.heap.size := Nat.lt_of_lt_of_le hrbl hb.size
 clear hah he1 h0
 cases h1 : (a.toList == [47]) with
 | true =>
  rw [if_pos h1] at hR
  have h1' : (a.toList != [47]) = false := by simp only [bne, h1]; rfl
  have HP : Hid (RefPost w rb (.slice av L.length cv) vf w2 R.2 F) := by rw [hR]; exact unhide HSM _ hb
  have H1 : Hid (R.1 = 7) := by rw [hR]; exact rfl
  clear hR hfi
  go_wp2
  go_ret
  exact ⟨by rw [unhide H1]; rfl, unhide HP⟩
 | false =>
 rw [if_neg (by rw [h1]; simp)] at hR
 have h1' : (a.toList != [47]) = true := by simp only [bne, h1]; rfl
 rcases hfi with ⟨rfl, hno⟩ | ⟨k, x, rfl, hk', hx, hfst⟩
 ·have hl : look L a = none := (look_of_find (.inl ⟨rfl, hno⟩)).elim (fun h => h.2) (fun ⟨_, _, h, _⟩ => by omega)
  rw [hl] at hR
  have HP : Hid (RefPost w rb (.slice av L.length cv) vf w2 R.2 F) := by rw [hR]; exact unhide HSM _ hb
  have H1 : Hid (R.1 = 3) := by rw [hR]; exact rfl
  clear hR hl hno
  go_wp2
  go_ret
  exact ⟨by rw [unhide H1]; rfl, unhide HP⟩
 rw [FindIs.look hk' hx hfst] at hR
 have hkl := (List.getElem?_eq_some_iff.1 hk').1
 obtain ⟨g, rfl, q0, q1⟩ := (unhide HRD) k x hk'
 have hg : g < w.heap.size := (unhide HW).sl.lt rfl
 have hg2 : g < w2.heap.size := Nat.lt_of_lt_of_le hg hb.size
 have q1' := (hb.cell (p := ⟨g, k * 2 + 1, none⟩) hg).trans q1
 have HK := hide hk'
 have HX := hide hx
 clear hfst hx hk' q0 q1
 have hbeg := begins_ref b a w2 hbs ha
 by_cases hcase : x.2 < 0 ∧ beginsB b a = true
 ·have hR2 : R = (7, L) := by rw [hR]; simp [hcase]
  have HP : Hid (RefPost w rb (.slice (some ⟨g, 0, none⟩) L.length cv) vf w2 R.2 F) := by rw [hR2]; exact unhide HSM _ hb
  have H1 : Hid (R.1 = 7) := by rw [hR2]; exact rfl
  obtain ⟨hneg, hbt⟩ := hcase
  clear hR hR2
  go_wp2_with (go_at_call 147; refine hbeg.mono ?_; rintro e w' ⟨rfl, hw⟩; rw [hw]; clear hw)
  go_ret
  exact ⟨by rw [unhide H1]; rfl, unhide HP⟩
 simp only [if_neg hcase] at hR
 obtain ⟨e2, he2⟩ : ∃ e2, e2 = aheadR L b := ⟨_, rfl⟩
 have hah := unhide HHA b w2 hbs hb
 rw [← he2] at hR hah
 have hdec : (¬ x.2 < 0) ∨ (x.2 < 0 ∧ beginsB b a = false) := by
  by_cases h : x.2 < 0
  ·exact .inr ⟨h, by cases hq : beginsB b a with
    | false => rfl
    | true => exact absurd ⟨h, hq⟩ hcase⟩
  ·exact .inl h
 clear hcase
 have HMV : Hid (∀ (j : Nat) (y : ByteArray × Int), L[j]? = some y → ((beginsB y.1 a || ((j : Int) == (k : Int))) = true → mv a b y = (b ++ y.1.extract a.size y.1.size, y.2)) ∧ ((beginsB y.1 a || ((j : Int) == (k : Int))) = false → mv a b y = y)) := fun j y hy => by
  have hjk : ((j : Int) == (k : Int)) = decide (y.1 = a) := by
   by_cases e : y.1 = a
   ·have := unhide HUN j k y x hy (unhide HK) (e.trans (unhide HX).symm)
    subst this; simp [e]
   ·have : j ≠ k := fun e' => by subst e'; rw [unhide HK] at hy; cases hy; exact e (unhide HX)
    simp [e]; omega
  unfold mv
  rw [hjk]
  exact ⟨fun h => by rw [if_pos h], fun h => by rw [if_neg (by rw [h]; simp)]⟩
 go_upto_region 11 with fail
 go_cut [69] (fun t wc => t = .bool false ∧ wc = w2)
 case first =>
  rcases hdec with hneg | ⟨hneg, hbf⟩
  all_goals
   go_wp2_with (go_at_call 147; refine hbeg.mono ?_; rintro e w' ⟨rfl, hw⟩; rw [hw]; clear hw)
   go_meet
   exact ⟨rfl, rfl⟩
 case rest =>
  obtain ⟨rfl, hwc⟩ := hcut
  subst hwc
  by_cases h0 : e2 ≠ 0
  ·rw [if_pos h0] at hR
   have hbb : (e2 != 0) = true := by rw [bne_iff_ne]; exact h0
   have HP : Hid (RefPost w rb (.slice (some ⟨g, 0, none⟩) L.length cv) vf wc R.2 F) := by rw [hR]; exact unhide HSM _ hb
   have H1 : Hid (R.1 = e2) := by rw [hR]; exact rfl
   clear hR h0 he2
   go_wp2_with (go_at_call 104; refine hah.mono ?_; rintro e w' ⟨rfl, hw⟩; rw [hw]; clear hw)
   go_ret
   exact ⟨by rw [unhide H1]; rfl, unhide HP⟩
  rw [if_neg h0] at hR
  obtain rfl : e2 = 0 := by omega
  clear h0 he2 hdec
  cases h2 : (b.toList == [47]) with
  | true =>
   rw [if_pos (.inl h2)] at hR
   have HP : Hid (RefPost w rb (.slice (some ⟨g, 0, none⟩) L.length cv) vf wc R.2 F) := by rw [hR]; exact unhide HSM _ hb
   have H1 : Hid (R.1 = 6) := by rw [hR]; exact rfl
   clear hR
   go_wp2_with (go_at_call 104; refine hah.mono ?_; rintro e w' ⟨rfl, hw⟩; rw [hw]; clear hw)
   go_ret
   exact ⟨by rw [unhide H1]; rfl, unhide HP⟩
  | false =>
  go_wp2_with (go_at_call 104; refine hah.mono ?_; rintro e w' ⟨rfl, hw⟩; rw [hw]; clear hw)
  refine (unhide HHF b _ hb).mono ?_
  rintro e w' ⟨r, ⟨rfl, hfi⟩, hw⟩
  rw [hw]; clear hw hbeg hah
  rcases look_of_find hfi with ⟨rfl, hl⟩ | ⟨j, y, rfl, hj, hy, hl⟩
  rotate_left
  ·rw [if_pos (.inr (by simp [hl]))] at hR
   have HP : Hid (RefPost w rb (.slice (some ⟨g, 0, none⟩) L.length cv) vf wc R.2 F) := by rw [hR]; exact unhide HSM _ hb
   have H1 : Hid (R.1 = 6) := by rw [hR]; exact rfl
   clear hR hl hfi hj hy
   go_wp2
   go_ret
   exact ⟨by rw [unhide H1]; rfl, unhide HP⟩
  rw [if_neg (by simp [h2, hl])] at hR
  clear hl hfi
  have hda := dir_ref a wc ha hsla
  have hdb := dir_ref b wc hbs hslb
  have hwi := unhide HWI (dirOf b) wc hb
  have hcl : L.countP (qDir (dirOf b)) ≤ L.length := List.countP_le_length
  go_upto_region 18 with fail
  obtain ⟨t95, ht95⟩ : ∃ t : Bool, t = decide (((dirOf a).toList != (dirOf b).toList) = true ∧ 20 ≤ L.countP (qDir (dirOf b))) := ⟨_, rfl⟩
  go_cut [95] (fun t wd => t = .bool t95 ∧ wd = wc)
  case first =>
   cases hq : ((dirOf a).toList != (dirOf b).toList) with
   | false =>
    obtain rfl : t95 = false := by rw [ht95, hq]; simp
    have hq' : (dirOf a).toList = (dirOf b).toList := by simpa using hq
    have HQ := hide hq'
    clear ht95 hq' hR
    go_wp2_with fail
    refine hda.mono ?_
    rintro e w' ⟨rfl, hw⟩
    rw [hw]; clear hw hda
    go_wp2_with (first | (go_at_call 148; refine hdb.mono ?_; rintro e w' ⟨rfl, hw⟩; rw [hw]; clear hw) | (go_at_call 149; refine hwi.mono ?_; rintro e w' ⟨rfl, hw⟩; rw [hw]; clear hw))
    all_goals first | (exact absurd (unhide HQ) (by assumption)) | (go_meet; exact ⟨rfl, rfl⟩)
   | true =>
    have hq' : ¬ (dirOf a).toList = (dirOf b).toList := by simpa using hq
    have ht : t95 = decide (20 ≤ L.countP (qDir (dirOf b))) := by rw [ht95, hq]; simp
    have HT := hide ht
    clear ht95 hR ht
    go_wp2_with fail
    refine hda.mono ?_
    rintro e w' ⟨rfl, hw⟩
    rw [hw]; clear hw hda
    go_wp2_with (first | (go_at_call 148; refine hdb.mono ?_; rintro e w' ⟨rfl, hw⟩; rw [hw]; clear hw) | (go_at_call 149; refine hwi.mono ?_; rintro e w' ⟨rfl, hw⟩; rw [hw]; clear hw))
    go_meet
    exact ⟨by rw [unhide HT]; exact congrArg Value.bool (by rw [Bool.eq_iff_iff]; simp [hq']; omega), rfl⟩
  case rest =>
   obtain ⟨rfl, hwd⟩ := hcut
   subst hwd
   clear hda hdb hwi
   cases t95 with
   | true =>
    rw [if_pos (by simpa using ht95.symm)] at hR
    have HP : Hid (RefPost w rb (.slice (some ⟨g, 0, none⟩) L.length cv) vf wc R.2 F) := by rw [hR]; exact unhide HSM _ hb
    have H1 : Hid (R.1 = 8) := by rw [hR]; exact rfl
    clear hR ht95
    go_wp2
    go_ret
    exact ⟨by rw [unhide H1]; rfl, unhide HP⟩
   | false =>
   rw [if_neg (by simpa using ht95.symm)] at hR
   clear ht95
   have hna := names_ref a wc ha
   go_wp2_with fail
   refine hna.mono ?_
   rintro e w3 ⟨a3, n3, c3, rfl, hn3, hb3⟩
   clear hna
   have hn3' := hn3 hoa
   have hn2' := unhide HN2 hob
   have HN3 := hide hn3'
   have HN2' := hide hn2'
   have hba := hb.trans (hb3.mono hb.size)
   have hlen6 : n3 ≤ 6 ∧ n2 ≤ 6 := by
    have : ∀ p, nmOk p = true → (names p).length ≤ 6 := fun p hp => by
     unfold nmOk at hp
     unfold names
     split
     ·simp
     ·rename_i hne
      rw [Bool.or_eq_true] at hp
      rcases hp with hp | hp
      ·exact absurd hp hne
      ·simp only [Bool.and_eq_true, decide_eq_true_eq] at hp; exact hp.1.2
    exact ⟨by rw [hn3']; exact this a hoa, by rw [hn2']; exact this b hob⟩
   obtain ⟨h36, h26⟩ := hlen6
   clear hn3 hn3' hn2'
   have hbc := hb
   go_wp2_with fail
   go_loopw [15, 16, 17, 18] (fun i _ _ _ wr => ∃ m : Nat, m ≤ L.length ∧ i = .int .i64 m ∧ Hid ((L.take m).any (deepB a b) = false) ∧ Below w.heap.size w wr) (fun i _ _ _ _ => L.length - (intOf i).toNat)
   case atStart => exact ⟨0, Nat.zero_le _, rfl, rfl, hba⟩
   case round =>
    obtain ⟨m, hm, rfl, hdeep, hBr⟩ := hrel
    have hcr := ((unhide HW).at hBr).c.c0
    by_cases hlt : m < L.length
    ·have hLm : L[m]? = some L[m] := List.getElem?_eq_getElem hlt
     obtain ⟨g', hg', p0, p1⟩ := (unhide HRD) m _ hLm
     obtain rfl : g = g' := by simpa using hg'
     have p0' := (hBr.cell (p := ⟨g, m * 2, none⟩) hg).trans p0
     obtain ⟨hsz, _⟩ := unhide HOK L[m] (List.getElem_mem _)
     have hvm := unhide HVAL L[m] (List.getElem_mem _)
     have hbg := begins_ref L[m].1 a wr hsz ha
     have hnn := names_ref L[m].1 wr hsz
     have hany : (L.take (m + 1)).any (deepB a b) = ((L.take m).any (deepB a b) || deepB a b L[m]) := by
      rw [List.take_succ_eq_append_getElem hlt, List.any_append]; simp
     rw [unhide hdeep, Bool.false_or] at hany
     have HANY := hide hany
     clear hany hLm hg' p0 p1
     go_wp2_with fail
     refine hbg.mono ?_
     rintro e w' ⟨rfl, hw⟩
     rw [hw]; clear hw hbg
     go_wp2_with fail
     refine hnn.mono ?_
     rintro e w4 ⟨a4, n4, c4, rfl, hn4, hb4⟩
     have hn4' := hn4 hvm
     have HN4 := hide hn4'
     have hB4 := hBr.trans (hb4.mono hBr.size)
     clear hnn hn4 hn4'
     have h46 : n4 ≤ 2000001 := by
      rw [unhide HN4]; unfold names; split
      ·simp
      ·have := pc_bound (L[m].1.extract 1 L[m].1.size)
       have h2 : (L[m].1.extract 1 L[m].1.size).size ≤ L[m].1.size := by simp [ByteArray.size_extract]
       omega
     have hdp : deepB a b L[m] = (beginsB L[m].1 a && decide (6 < (n4 : Int) - n3 + n2)) := by
      unfold deepB; rw [unhide HN4, unhide HN3, unhide HN2']
     cases hbeg2 : beginsB L[m].1 a with
     | false =>
      have HNX : Hid ((L.take (m + 1)).any (deepB a b) = false) := by show _ = _; rw [unhide HANY, hdp, hbeg2]; rfl
      clear hdp HANY
      go_wp2
      go_roundw
      case rel => exact ⟨m + 1, by omega, by go_num, HNX, hB4⟩
      case measure => simp [intOf]; omega
     | true =>
      by_cases h6 : 6 < (n4 : Int) - n3 + n2
      ·have hany : L.any (deepB a b) = true := by
        rw [List.any_eq_true]
        exact ⟨L[m], List.getElem_mem _, by rw [hdp, hbeg2]; simp [h6]⟩
       rw [if_pos hany] at hR
       have HP : Hid (RefPost w rb (.slice (some ⟨g, 0, none⟩) L.length cv) vf w4 R.2 F) := by rw [hR]; exact unhide HSM _ hB4
       have H1 : Hid (R.1 = 8) := by rw [hR]; exact rfl
       clear hR hany hdp HANY
       go_wp2
       go_ret
       exact ⟨by rw [unhide H1]; rfl, unhide HP⟩
      ·have HNX : Hid ((L.take (m + 1)).any (deepB a b) = false) := by show _ = _; rw [unhide HANY, hdp, hbeg2]; simp; omega
       clear hdp HANY
       go_wp2
       go_roundw
       case rel => exact ⟨m + 1, by omega, by go_num, HNX, hB4⟩
       case measure => simp [intOf]; omega
    ·obtain rfl : m = L.length := by omega
     have hany : L.any (deepB a b) = false := by have := unhide hdeep; rwa [List.take_length] at this
     rw [if_neg (by rw [hany]; simp)] at hR
     clear hdeep hany
     have hrw := (unhide HW).at hBr
     have hszab : ∀ j (hj : j < L.length), (b ++ L[j].1.extract a.size L[j].1.size).size ≤ 2000000 ∧ HasSl (b ++ L[j].1.extract a.size L[j].1.size) := fun j hj => by
      have h1 := nmOk_size b hob
      have h2 := nmOk_size _ (unhide HVAL L[j] (List.getElem_mem _))
      refine ⟨by simp [ByteArray.size_append, ByteArray.size_extract]; omega, ?_⟩
      obtain ⟨kk, hkk⟩ := hslb
      have hk0 := (lastSl_some hkk).1
      refine hasSl_mk (k := kk) ?_
      have e : (b ++ L[j].1.extract a.size L[j].1.size).data.toList = b.data.toList ++ (L[j].1.extract a.size L[j].1.size).data.toList := by simp [ByteArray.data_append]
      rw [e, List.getElem?_append_left (List.getElem?_eq_some_iff.1 hk0).1]
      exact hk0
     have HSA := hide hszab
     clear hszab
     go_wp2_with fail
     go_loopw [19, 20] (fun i _ wr => ∃ m : Nat, m ≤ L.length ∧ i = .int .i64 m ∧ Hid (RefW wr rb (.slice (some ⟨g, 0, none⟩) L.length cv) vf (mvT a b L m) F) ∧ Hid (Fr (RefOwn rb (.slice (some ⟨g, 0, none⟩) L.length cv) vf) w wr)) (fun i _ _ => L.length - (intOf i).toNat)
     case atStart => exact ⟨0, Nat.zero_le _, rfl, by show RefW _ _ _ _ _ _; simpa [mvT] using hrw, Fr.of_below hBr⟩
     case round =>
      obtain ⟨m, hm, rfl, hRW, hFr⟩ := hrel
      have hcr := (unhide hRW).c.c0
      by_cases hlt : m < L.length
      ·have hLm := mvT_at a b L m hlt
       obtain ⟨a', c', e', hrd'⟩ := (unhide hRW).sl.rdL
       obtain ⟨g', hg', p0, p1⟩ := hrd' m _ hLm
       simp only [Value.slice.injEq] at e'
       obtain ⟨rfl, he2, rfl⟩ := e'
       clear he2
       obtain rfl : g = g' := by simpa using hg'
       obtain ⟨hsz, _⟩ := unhide HOK L[m] (List.getElem_mem _)
       have hbg := begins_ref L[m].1 a wr hsz ha
       have hmv := unhide HMV m _ (List.getElem?_eq_getElem hlt)
       have HMV2 := hide hmv
       have hgw : g < wr.heap.size := (unhide hRW).sl.lt rfl
       have hfz : wr.frozen? ⟨g, m * 2, none⟩ = false := by
        obtain ⟨R', hR'⟩ := (unhide hRW).sl.type (g := g) rfl
        exact hR'.frozen _
       have HLM := hide hLm
       have hms := mvT_succ a b L m hlt
       have HMS := hide hms
       clear hmv hrd' hLm hg' p1 hms
       cases hcase : (beginsB L[m].1 a || ((m : Int) == (k : Int))) with
       | false =>
        have hmvx := (unhide HMV2).2 hcase
        have HRW2 : Hid (RefW wr rb (.slice (some ⟨g, 0, none⟩) L.length cv) vf (mvT a b L (m + 1)) F) := by
         show RefW _ _ _ _ _ _
         rw [unhide HMS, hmvx, set_self _ _ _ (unhide HLM)]; exact unhide hRW
        obtain ⟨hc1, hc2⟩ := Bool.or_eq_false_iff.1 hcase
        clear hmvx hcase HMV2
        go_wp2_with (go_at_call 147; refine hbg.mono ?_; rintro e w' ⟨rfl, hw⟩; rw [hw]; clear hw)
        go_roundw
        case rel => first | exact ⟨m + 1, by omega, by go_num, HRW2, hFr⟩ | ((repeat apply Exists.intro); exact ⟨⟨m + 1, by omega, by go_num, HRW2, hFr⟩, rfl⟩)
        case measure => simp [intOf]; omega
       | true =>
        have hmvx := (unhide HMV2).1 hcase
        obtain ⟨hsa1, hsa2⟩ := unhide HSA m hlt
        have HRW2 : Hid (∀ W : World, W.heap = (wr.setCell ⟨g, m * 2, none⟩ (.string (b ++ L[m].1.extract a.size L[m].1.size))).heap → RefW W rb (.slice (some ⟨g, 0, none⟩) L.length cv) vf (mvT a b L (m + 1)) F) := fun W hW => by
         rw [unhide HMS, hmvx]
         exact (unhide hRW).setPath m _ (unhide HLM) _ hsa1 hsa2 W hW
        have HFR2 : Hid (∀ W : World, W.heap = (wr.setCell ⟨g, m * 2, none⟩ (.string (b ++ L[m].1.extract a.size L[m].1.size))).heap → W.os = wr.os → W.tape = wr.tape → W.output = wr.output → Fr (RefOwn rb (.slice (some ⟨g, 0, none⟩) L.length cv) vf) w W) := fun W hW h1 h2 h3 => by
         have := (unhide hFr).set ⟨g, m * 2, none⟩ (.string (b ++ L[m].1.extract a.size L[m].1.size)) (.inr (.inl rfl))
         exact ⟨h1.trans (unhide hFr).os, h2.trans (unhide hFr).tape, h3.trans (unhide hFr).output, by rw [hW]; exact this.size, fun i hi hn => by rw [hW]; exact this.block i hi hn⟩
        have hasz : a.size ≤ L[m].1.size := by
         rw [Bool.or_eq_true] at hcase
         rcases hcase with h | h
         ·unfold beginsB at h; simp only [Bool.and_eq_true, decide_eq_true_eq] at h; omega
         ·have e : m = k := by have := beq_iff_eq.1 h; omega
          subst e
          have := unhide HK; rw [List.getElem?_eq_getElem hlt] at this; cases this
          rw [unhide HX]; exact Nat.le_refl _
        have hd : beginsB L[m].1 a = true ∨ (beginsB L[m].1 a = false ∧ ((m : Int) == (k : Int)) = true) := by
         cases hq : beginsB L[m].1 a with
         | true => exact .inl rfl
         | false => rw [hq, Bool.false_or] at hcase; exact .inr ⟨rfl, hcase⟩
        clear hmvx hcase HMV2
        go_upto_region 32 with (go_at_call 147; refine hbg.mono ?_; rintro e w' ⟨rfl, hw⟩; rw [hw]; clear hw)
        go_cut [20, 168] (fun _ t wc => t = .bool true ∧ wc = wr)
        case first =>
         rcases hd with hd | ⟨hd1, hd2⟩
         all_goals
          go_wp2
          go_meet
          exact ⟨rfl, rfl⟩
        case rest =>
         obtain ⟨rfl, hwc⟩ := hcut
         subst hwc
         go_wp2_with fail
         go_region
         all_goals
          go_wp2
          go_roundw
          case rel => first | exact ⟨m + 1, by omega, by go_num, unhide HRW2 _ rfl, unhide HFR2 _ rfl rfl rfl rfl⟩ | ((repeat apply Exists.intro); exact ⟨⟨m + 1, by omega, by go_num, unhide HRW2 _ rfl, unhide HFR2 _ rfl rfl rfl rfl⟩, rfl⟩)
          case measure => simp [intOf]; omega
      ·obtain rfl : m = L.length := by omega
       have hfin : mvT a b L L.length = L.map (mv a b) := by simp [mvT]
       have HP : Hid (RefPost w rb (.slice (some ⟨g, 0, none⟩) L.length cv) vf wr R.2 F) := by
        rw [hR]
        have h1 := unhide hRW
        rw [hfin] at h1
        exact ⟨_, _, h1, unhide hFr, fun _ h => .inl h⟩
       have H1 : Hid (R.1 = 0) := by rw [hR]; exact rfl
       clear hR hfin hRW hFr
       go_wp2
       go_ret
       exact ⟨by rw [unhide H1]; rfl, unhide HP⟩
end Go.Proofs.YtaieidcohdhgpaaGreatDoor
