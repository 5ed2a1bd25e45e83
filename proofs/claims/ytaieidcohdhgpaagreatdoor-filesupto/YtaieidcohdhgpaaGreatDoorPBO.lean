/- Files. -/
import Derived.Test.YtaieidcohdhgpaaGreatDoorPBN
namespace Go.Proofs.YtaieidcohdhgpaaGreatDoor
open Go.RowKit
set_option maxHeartbeats 1000000
set_option maxRecDepth 100000
theorem sorted_eq {α : Type} (lt : α → α → Prop) (hirr : ∀ x, ¬ lt x x) (htr : ∀ x y z, lt x y → lt y z → lt x z) : ∀ (a b : List α), a.Pairwise lt → b.Pairwise lt → (∀ x, x ∈ a ↔ x ∈ b) → a = b
 | [], b, _, _, h => by
  cases b with
  | nil => rfl
  | cons y b => exact absurd ((h y).2 (List.mem_cons_self ..)) (by simp)
 | x :: a, [], _, _, h => absurd ((h x).1 (List.mem_cons_self ..)) (by simp)
 | x :: a, y :: b, ha, hb, h => by
  rw [List.pairwise_cons] at ha hb
  have hxy : x = y := by
   rcases List.mem_cons.1 ((h x).1 (List.mem_cons_self ..)) with e | hx
   ·exact e
   ·rcases List.mem_cons.1 ((h y).2 (List.mem_cons_self ..)) with e | hy
    ·exact e.symm
    ·exact absurd (htr _ _ _ (ha.1 y hy) (hb.1 x hx)) (hirr x)
  subst hxy
  rw [sorted_eq lt hirr htr a b ha.2 hb.2 (fun z => ?_)]
  constructor
  ·intro hz
   rcases List.mem_cons.1 ((h z).1 (List.mem_cons_of_mem _ hz)) with e | hz'
   ·subst e; exact absurd (ha.1 z hz) (hirr z)
   ·exact hz'
  ·intro hz
   rcases List.mem_cons.1 ((h z).2 (List.mem_cons_of_mem _ hz)) with e | hz'
   ·subst e; exact absurd (hb.1 z hz) (hirr z)
   ·exact hz'
def ltP (x y : ByteArray × Int) : Prop := ltS x.1 y.1 = true
theorem insO_cons (y : ByteArray × Int) (l : List (ByteArray × Int)) (x : ByteArray × Int) : insO (y :: l) x = if ltS y.1 x.1 = true then y :: insO l x else x :: y :: l := by
 unfold insO
 rw [placeOf]
 split <;> simp
theorem insO_srt (x : ByteArray × Int) : ∀ (l : List (ByteArray × Int)), l.Pairwise ltP → (∀ y ∈ l, y.1 ≠ x.1) → (insO l x).Pairwise ltP
 | [], _, _ => by simp [insO, placeOf]
 | y :: l, h, hne => by
  rw [insO_cons]
  rw [List.pairwise_cons] at h
  split
  ·rename_i hlt
   rw [List.pairwise_cons]
   refine ⟨fun z hz => ?_, insO_srt x l h.2 (fun z hz => hne z (List.mem_cons_of_mem _ hz))⟩
   rcases mem_insO.1 hz with rfl | hz
   ·exact hlt
   ·exact h.1 z hz
  ·rename_i hlt
   have hxy : ltS x.1 y.1 = true := ltS_total (by simpa using hlt) (hne y (List.mem_cons_self ..))
   rw [List.pairwise_cons, List.pairwise_cons]
   refine ⟨fun z hz => ?_, h⟩
   rcases List.mem_cons.1 hz with rfl | hz
   ·exact hxy
   ·exact ltS_trans hxy (h.1 z hz)
theorem insideT_srt {L : List (ByteArray × Int)} (hun : ∀ (i j : Nat) x y, L[i]? = some x → L[j]? = some y → x.1 = y.1 → i = j) (d : ByteArray) : ∀ k, k ≤ L.length → (insideT L d k).Pairwise ltP
 | 0, _ => List.Pairwise.nil
 | k + 1, hk => by
  have ih := insideT_srt hun d k (by omega)
  have hlt : k < L.length := by omega
  simp only [insideT, List.getElem?_eq_getElem hlt]
  split
  ·refine insO_srt _ _ ih (fun y hy e => ?_)
   have hy' := ((mem_insideT k (by omega)).1 hy).1
   obtain ⟨j, hj⟩ := List.mem_iff_getElem?.1 hy'
   rw [List.getElem?_take] at hj
   split at hj
   ·have := hun j k y L[k] hj (List.getElem?_eq_getElem hlt) e
    omega
   ·cases hj
  ·exact ih
theorem bl_append (p a b : List UInt8) : Op.bytesLess (p ++ a) (p ++ b) = Op.bytesLess a b := by
 induction p with
 | nil => rfl
 | cons x p ih => simp [Op.bytesLess, ih]
theorem ltS_jn (ns : List ByteArray) (a b : ByteArray) : ltS (jn (ns ++ [a])) (jn (ns ++ [b])) = ltS a b := by
 unfold ltS
 rw [jn_toList, jn_toList, jl_append, jl_append, bl_append, jl_one, jl_one, ByteArray.toList_eq, ByteArray.toList_eq]
 simp [Op.bytesLess]
section
variable {G : Gh} {I : List (Int × VF)} {C : Int → ByteArray} {ρ : Int → Nat} {L : List (ByteArray × Int)} {F : List ByteArray}
theorem Rl.insideE (h : Rl G I C ρ L F) {ns : List ByteArray} (hn : Nms ns) {es : List (ByteArray × VS)} (hs : SrtS es) (he : EnOk G ns es) : insideT L (jn ns) L.length = es.map (fun x => (jn (ns ++ [x.1]), nodeV ρ x.2)) := by
 refine sorted_eq ltP (fun x e => by unfold ltP at e; rw [ltS_irrefl] at e; cases e) (fun x y z h1 h2 => ltS_trans h1 h2) _ _ (insideT_srt h.jf.un _ _ (Nat.le_refl _)) ?_ (fun y => ?_)
 ·rw [List.pairwise_map, List.pairwise_iff_getElem]
  intro i j hi hj hij
  show ltS _ _ = true
  rw [ltS_jn]
  exact hs i j _ _ hij (List.getElem?_eq_getElem hi) (List.getElem?_eq_getElem hj)
 ·rw [mem_insideT _ (Nat.le_refl _), List.take_length]
  constructor
  ·rintro ⟨hy, hq⟩
   rw [h.eqL] at hy
   obtain ⟨z, hz, rfl⟩ := List.mem_map.1 hy
   obtain ⟨d, n, e⟩ := split_last (h.ok.ne z hz)
   have hnm := h.ok.nms z hz
   have hq' : (dirOf (jn z.1)).toList = (jn ns).toList := by simpa [qDir, vw] using hq
   rw [e] at hq' hnm
   rw [dirOf_jn d n (okName_nosl (hnm n (by simp)))] at hq'
   have hdn : d = ns := jn_inj hnm.left hn (toList_inj hq')
   subst hdn
   refine List.mem_map.2 ⟨(n, z.2), (he n z.2).2 (by rw [← e]; exact hz), ?_⟩
   show (jn (d ++ [n]), nodeV ρ z.2) = (jn z.1, nodeV ρ z.2)
   rw [e]
  ·intro hy
   obtain ⟨z, hz, rfl⟩ := List.mem_map.1 hy
   have hm := (he z.1 z.2).1 hz
   refine ⟨by rw [h.eqL]; exact List.mem_map.2 ⟨_, hm, rfl⟩, ?_⟩
   have hnm := h.ok.nms _ hm
   simp only [qDir]
   rw [dirOf_jn ns z.1 (okName_nosl (hnm z.1 (by simp)))]
   simp
theorem Rl.toldT (h : Rl G I C ρ L F) {ns : List ByteArray} {n : ByteArray} {u : VS} (hm : (ns ++ [n], u) ∈ G) {y : En} (ht : tellV G I (ns ++ [n]) n u (.agg #[.string y.n, .bool y.d, .int .i64 y.s, .int .i64 y.l])) : toldE L F (jn (ns ++ [n]), nodeV ρ u) = y := by
 have hnm := h.ok.nms _ hm
 have hname : nameOf (jn (ns ++ [n])) = n := nameOf_jn ns n (okName_nosl (hnm n (by simp)))
 have hdir : L.countP (qDir (jn (ns ++ [n]))) = G.countP (qIn (ns ++ [n])) := h.dir hnm
 unfold toldE
 simp only
 rw [hname, hdir]
 obtain ⟨yn, yd, ys, yl⟩ := y
 rcases ht with ⟨hs, e⟩ | ⟨hs, r, hr', e⟩
 ·rw [if_pos ((nodeV_neg ρ u).2 hs)]
  unfold dirV at e
  simp at e
  obtain ⟨rfl, rfl, rfl, rfl⟩ := e
  rfl
 ·have e2 : nodeV ρ u = (ρ u.f : Int) := by unfold nodeV; rw [hs]; rfl
  rw [if_neg (fun e => by have := (nodeV_neg ρ u).1 e; rw [hs] at this; cases this), e2]
  have h1 := h.num.size _ hr'
  have h2 := h.num.links _ hr'
  simp only at h1 h2
  unfold filV at e
  simp at e
  obtain ⟨rfl, rfl, rfl, rfl⟩ := e
  rw [h1, h2, Int.toNat_natCast]
theorem Rl.tellsE (h : Rl G I C ρ L F) {ns : List ByteArray} (hn : Nms ns) {xs : List (ByteArray × VS)} (hs : SrtS xs) (he : EnOk G ns xs) {es : List En} (ht : Tells G I ns xs es) : es = (insideT L (jn ns) L.length).map (toldE L F) := by
 rw [h.insideE hn hs he, List.map_map]
 apply List.ext_getElem?
 intro j
 rw [List.getElem?_map]
 cases hx : xs[j]? with
 | none =>
  have := List.getElem?_eq_none_iff.1 hx
  rw [List.getElem?_eq_none (by rw [ht.1]; exact this)]; rfl
 | some x =>
  have hj : j < es.length := by rw [ht.1]; exact (List.getElem?_eq_some_iff.1 hx).1
  rw [List.getElem?_eq_getElem hj]
  show some es[j] = some _
  congr 1
  exact (h.toldT ((he x.1 x.2).1 (List.mem_of_getElem? hx)) (ht.2 j x _ hx (List.getElem?_eq_getElem hj))).symm
def liE (G : Gh) (p : ByteArray) : Int := if thE G p ≠ 0 then thE G p else if names p = [] then 0 else match atG G (names p) with | none => 3 | some u => if u.p.isSome = true then 0 else 4
theorem Rl.listE (h : Rl G I C ρ L F) (p : ByteArray) : liE G p = (listR L F p).2 ∧ (liE G p ≠ 0 → (listR L F p).1 = []) ∧ (liE G p = 0 → nmOk p = true ∧ (listR L F p).1 = (insideT L (jn (names p)) L.length).map (toldE L F)) := by
 have key : ∀ (k : Int) (es : List En), liE G p = k → listR L F p = (es, k) → (k ≠ 0 → es = []) → (k = 0 → nmOk p = true ∧ es = (insideT L (jn (names p)) L.length).map (toldE L F)) → liE G p = (listR L F p).2 ∧ (liE G p ≠ 0 → (listR L F p).1 = []) ∧ (liE G p = 0 → nmOk p = true ∧ (listR L F p).1 = (insideT L (jn (names p)) L.length).map (toldE L F)) := fun k es h1 h2 h3 h4 => by
  rw [h1, h2]; exact ⟨rfl, h3, h4⟩
 have hask := h.ask p
 by_cases hp : nmOk p = false
 ·rw [hp] at hask
  simp only [if_true] at hask
  refine key 1 [] ?_ ?_ (fun _ => rfl) (fun e => by cases e)
  ·unfold liE thE locE; simp [hp]
  ·unfold listR; rw [hask]; rfl
 ·have hp : nmOk p = true := by simpa using hp
  rw [hp] at hask
  simp only [Bool.true_eq_false, if_false] at hask
  by_cases h0 : ahG G (heads [] (names p)) = 0
  ·rw [h0] at hask
   have hloc : locE G p true = 0 := by unfold locE; simp [hp, h0]
   by_cases hn : names p = []
   ·have hr := (root_iff hp).2 hn
    refine key 0 _ ?_ (show listR L F p = ((insideT L ⟨#[]⟩ L.length).map (toldE L F), 0) from ?_) (fun e => absurd rfl e) (fun _ => ⟨hp, by rw [hn]; rfl⟩)
    ·unfold liE thE; rw [hloc]; simp [hn]
    ·unfold listR; rw [hask]; simp [hr]
   ·have hr : ¬ (p.toList == [47]) = true := fun e => hn ((root_iff hp).1 e)
    have hlk := h.lk hp hn
    obtain ⟨ep, hm⟩ := path_jn hp hn
    cases hat : atG G (names p) with
    | none =>
     rw [hat] at hlk
     have hth : thE G p = 3 := by unfold thE; rw [hloc, hat]; simp [hn]
     refine key 3 [] ?_ ?_ (fun _ => rfl) (fun e => by cases e)
     ·unfold liE; rw [hth]; rfl
     ·unfold listR; rw [hask, if_neg (by simp), if_neg hr, hlk]; rfl
    | some u =>
     rw [hat] at hlk
     have hth : thE G p = 0 := by unfold thE; rw [hloc, hat]; simp
     cases hu : u.p with
     | none =>
      have e2 : nodeV ρ u = (ρ u.f : Int) := by unfold nodeV; rw [hu]; rfl
      refine key 4 [] ?_ ?_ (fun _ => rfl) (fun e => by cases e)
      ·unfold liE; rw [hth, hat]; simp [hn, hu]
      ·unfold listR
       rw [hask, if_neg (by simp), if_neg hr, hlk, Option.map_some, e2]
       show (if (0 : Int) ≤ (ρ u.f : Int) then _ else _) = _
       rw [if_pos (Int.natCast_nonneg _)]
     | some a =>
      have e2 : nodeV ρ u = -1 := by unfold nodeV; rw [hu]; rfl
      refine key 0 _ ?_ (show listR L F p = ((insideT L p L.length).map (toldE L F), 0) from ?_) (fun e => absurd rfl e) (fun _ => ⟨hp, by rw [← ep]⟩)
      ·unfold liE; rw [hth, hat]; simp [hn, hu]
      ·unfold listR
       rw [hask, if_neg (by simp), if_neg hr, hlk, Option.map_some, e2]
       rfl
  ·have hloc : locE G p true = ahG G (heads [] (names p)) := by unfold locE; simp [hp]
   have hth : thE G p = ahG G (heads [] (names p)) := by unfold thE; rw [hloc, if_pos h0]
   refine key (ahG G (heads [] (names p))) [] ?_ ?_ (fun _ => rfl) (fun e => absurd e h0)
   ·unfold liE; rw [hth, if_pos h0]
   ·unfold listR; rw [hask, if_pos h0]
end
end Go.Proofs.YtaieidcohdhgpaaGreatDoor
