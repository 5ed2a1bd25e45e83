/- Files. -/
import Derived.Test.YtaieidcohdhgpaaGreatDoorPAT
import Derived.Test.YtaieidcohdhgpaaGreatDoorPAC
import Derived.Lib.AppendZerosOnto
import Derived.BigRegion
namespace Go.Proofs.YtaieidcohdhgpaaGreatDoor
open Go.RowKit
set_option maxHeartbeats 1000000
set_option maxRecDepth 100000
theorem hp_begins {x a : List ByteArray} (_hx : Nms x) (_ha : Nms a) : hpB (jn x) (jn a) = beginsB (jn x) (jn a) := by
 rw [Bool.eq_iff_iff]
 unfold hpB Lib.hasPrefix beginsB
 rw [ByteArray.data_append, Array.toList_append, jn_data, jn_data]
 simp only [Bool.and_eq_true, decide_eq_true_eq, beq_iff_eq]
 rw [ByteArray.toList_eq, extract_eq_take, jn_toList, jn_data, jn_size, jn_size, List.isPrefixOf_iff_prefix]
 constructor
 ·rintro ⟨t, e⟩
  rw [← e]
  simp
 ·rintro ⟨⟨h1, h2⟩, h3⟩
  obtain ⟨hl, e⟩ := List.getElem?_eq_some_iff.1 h3
  refine ⟨(jl x).drop ((jl a).length + 1), ?_⟩
  have h4 := (List.take_append_drop (jl a).length (jl x))
  rw [h2, List.drop_eq_getElem_cons hl, e] at h4
  simpa using h4
theorem mv_vw {a t : List ByteArray} (ha : Nms a) (ρ : Int → Nat) {x : List ByteArray × VS} (hx : Nms x.1) : mv (jn a) (jn t) (vw ρ x) = vw ρ (mvP a t x.1, x.2) := by
 unfold mv
 by_cases hp : a <+: x.1
 ·obtain ⟨r, hr⟩ := hp
  have hcond : (beginsB (vw ρ x).1 (jn a) || decide ((vw ρ x).1 = jn a)) = true := by
   rw [Bool.or_eq_true]
   by_cases h0 : r = []
   ·right
    rw [decide_eq_true_eq]
    show jn x.1 = jn a
    rw [← hr, h0, List.append_nil]
   ·left
    exact (begins_jn hx ha).2 ⟨r, h0, hr.symm⟩
  rw [if_pos hcond]
  show (jn t ++ (jn x.1).extract (jn a).size (jn x.1).size, nodeV ρ x.2) = (jn (mvP a t x.1), nodeV ρ x.2)
  congr 1
  rw [← hr, mvP_in, jn_append t r]
  congr 1
  apply bytes_eq
  rw [tail_data, jn_data, jl_append, jn_size, jn_data]
  simp
 ·have hcond : ¬ (beginsB (vw ρ x).1 (jn a) || decide ((vw ρ x).1 = jn a)) = true := by
   rw [Bool.or_eq_true]
   rintro (h1 | h1)
   ·obtain ⟨r, _, e⟩ := (begins_jn hx ha).1 h1
    exact hp ⟨r, e.symm⟩
   ·rw [decide_eq_true_eq] at h1
    have := jn_inj hx ha h1
    exact hp (by rw [this]; exact List.prefix_refl _)
  rw [if_neg hcond, mvP_out hp]
theorem deep_vw {G : Gh} (hG : GOk G) (ρ : Int → Nat) {a t : List ByteArray} (ha : Nms a) (hne : a ≠ []) (ht : Nms t) (htne : t ≠ []) : (G.map (vw ρ)).any (deepB (jn a) (jn t)) = deepG G a t.length := by
 unfold deepG
 rw [List.any_map, Bool.eq_iff_iff, List.any_eq_true, List.any_eq_true]
 have key : ∀ x ∈ G, (deepB (jn a) (jn t) ∘ vw ρ) x = true ↔ (qB a x && decide (6 < x.1.length - a.length + t.length)) = true := by
  intro x hx
  show deepB (jn a) (jn t) (vw ρ x) = true ↔ _
  unfold deepB
  have hxn := hG.nms x hx
  have hxne := hG.ne x hx
  rw [Bool.and_eq_true, Bool.and_eq_true, decide_eq_true_eq, decide_eq_true_eq]
  have e1 : names (vw ρ x).1 = x.1 := names_jn hxn hxne
  have hb : beginsB (vw ρ x).1 (jn a) = true ↔ qB a x = true := by
   show beginsB (jn x.1) (jn a) = true ↔ _
   rw [begins_jn hxn ha]
   unfold qB
   rw [decide_eq_true_eq]
   constructor
   ·rintro ⟨r, hr, e⟩
    rw [e]
    refine ⟨?_, ⟨r, rfl⟩⟩
    cases r with
    | nil => exact absurd rfl hr
    | cons c r => simp
   ·rintro ⟨hl, r, e⟩
    refine ⟨r, fun h0 => ?_, e.symm⟩
    rw [← e, h0] at hl; simp at hl
  rw [hb, e1, names_jn ha hne, names_jn ht htne]
  constructor
  ·rintro ⟨h1, h2⟩
   refine ⟨h1, ?_⟩
   unfold qB at h1
   have := (of_decide_eq_true h1).1
   omega
  ·rintro ⟨h1, h2⟩
   refine ⟨h1, ?_⟩
   unfold qB at h1
   have := (of_decide_eq_true h1).1
   omega
 constructor
 ·rintro ⟨x, hx, hq⟩; exact ⟨x, hx, (key x hx).1 hq⟩
 ·rintro ⟨x, hx, hq⟩; exact ⟨x, hx, (key x hx).2 hq⟩
section
variable {G : Gh} {I : List (Int × VF)} {C : Int → ByteArray} {ρ : Int → Nat} {L : List (ByteArray × Int)} {F : List ByteArray}
theorem deep_file {u : VS} (hG : GOk G) {a : List ByteArray} (hu : (a, u) ∈ G) (m : Nat) : (u.p.isSome && deepG G a m) = deepG G a m := by
 cases hp : u.p with
 | some x => simp
 | none =>
  simp only [Option.isSome_none, Bool.false_and]
  symm
  rw [← Bool.not_eq_true]
  unfold deepG
  rw [List.any_eq_true]
  rintro ⟨x, hx, hq⟩
  rw [Bool.and_eq_true] at hq
  obtain ⟨v, hv, hs⟩ := hG.pre' hx (hG.ne _ hu) hq.1
  rw [nodup_fst hG.nd hv hu, hp] at hs; cases hs
theorem Rl.moveE (h : Rl G I C ρ L F) (p q : ByteArray) : mvE G p q = (moveR L p q).1 ∧ (mvE G p q ≠ 0 → (moveR L p q).2 = L) ∧
  (mvE G p q = 0 → ∃ u, MvOk G (names p) (names q) u ∧ (moveR L p q).2 = L.map (mv p q) ∧ nmOk p = true ∧ nmOk q = true ∧ names p ≠ [] ∧ names q ≠ []) := by
 unfold mvE moveR locE
 cases hq : nmOk q with
 | false => simp
 | true =>
  cases hp : nmOk p with
  | false => simp
  | true =>
   have hap := h.ah hp
   simp only [Bool.and_self, Bool.true_eq_false, if_false]
   rw [hap]
   by_cases h0 : ahG G (heads [] (names p)) = 0
   ·have hnn : ¬ (ahG G (heads [] (names p)) ≠ 0) := by simpa using h0
    rw [if_neg hnn, if_neg hnn]
    by_cases hn : names p = []
    ·rw [if_pos hn, if_pos ((root_iff hp).2 hn)]; simp
    ·have hr : ¬ (p.toList == [47]) = true := fun e => hn ((root_iff hp).1 e)
     rw [if_neg hn, if_neg hr, h.lk hp hn]
     obtain ⟨ep, hmp⟩ := path_jn hp hn
     cases hat : atG G (names p) with
     | none => simp
     | some u =>
      simp only [Option.map_some]
      have hin := atG_mem hat
      have hroot : ∀ {x : ByteArray}, nmOk x = true → names x = [] → hpB x p = false ∧ beginsB x p = false := by
       intro x hx hxn
       have hx1 : x.toList = [47] := by simpa using (root_iff hx).2 hxn
       have hx2 : x.data.toList = [47] := by rw [← ByteArray.toList_eq]; exact hx1
       have hxs : x.size = 1 := by have : x.data.toList.length = x.size := Array.length_toList; rw [hx2] at this; simpa using this.symm
       have hps : 2 ≤ p.size := by
        rw [ep, jn_size]
        cases hnp : names p with
        | nil => exact absurd hnp hn
        | cons c l =>
         rw [jl_cons]
         have h1 := okName_ne (hmp c (by rw [hnp]; simp))
         have : 0 < c.data.toList.length := List.length_pos_iff.2 h1
         simp only [List.length_append, List.length_cons]; omega
       refine ⟨?_, ?_⟩
       ·rw [← Bool.not_eq_true]
        unfold hpB Lib.hasPrefix
        rw [List.isPrefixOf_iff_prefix, hx2, ByteArray.data_append, Array.toList_append]
        intro hpre
        have := hpre.length_le
        have hpl : p.data.toList.length = p.size := Array.length_toList
        have h47 : ((⟨#[47]⟩ : ByteArray).data.toList).length = 1 := rfl
        rw [List.length_append, hpl, h47] at this
        have this' : p.size + 1 ≤ 1 := this
        omega
       ·unfold beginsB
        rw [hxs]
        have : ¬ p.size < 1 := by omega
        simp [this]
      have hhb : hpB q p = beginsB q p := by
       by_cases hqn : names q = []
       ·rw [(hroot hq hqn).1, (hroot hq hqn).2]
       ·obtain ⟨eq', hmq⟩ := path_jn hq hqn
        rw [ep, eq']
        exact hp_begins hmq hmp
      have hiff : (nodeV ρ u < 0 ∧ beginsB q p = true) ↔ (u.p.isSome = true ∧ hpB q p = true) := by rw [nodeV_neg, hhb]
      by_cases hc : u.p.isSome = true ∧ hpB q p = true
      ·rw [if_pos hc, if_pos (hiff.2 hc)]; simp
      ·rw [if_neg hc, if_neg (fun e => hc (hiff.1 e))]
       have hg := h.gap hq
       by_cases h1 : aheadR L q = 0
       ·have hnn1 : ¬ (aheadR L q ≠ 0) := by simpa using h1
        rw [if_neg hnn1] at hg ⊢
        by_cases h6 : (q.toList == [47]) = true ∨ (look L q).isSome = true
        ·rw [if_pos h6] at hg ⊢; rw [hg]; simp
        ·rw [if_neg h6] at hg ⊢
         rw [hg, if_neg (show ¬ ((0 : Int) ≠ 0) by simp)]
         have hqn : names q ≠ [] := fun e => h6 (.inl ((root_iff hq).2 e))
         have hatq : atG G (names q) = none := by
          cases ha : atG G (names q) with
          | none => rfl
          | some v => exact absurd (.inr (by rw [h.lk hq hqn, ha]; rfl)) h6
         obtain ⟨eq', hmq⟩ := path_jn hq hqn
         obtain ⟨dp1, dp2⟩ := dirOf_path hp hn
         obtain ⟨dq1, dq2⟩ := dirOf_path hq hqn
         have hne : (((dirOf p).toList != (dirOf q).toList) = true ∧ 20 ≤ L.countP (qDir (dirOf q))) ↔ (decide ((names q).dropLast ≠ (names p).dropLast) && decide (20 ≤ G.countP (qIn (names q).dropLast))) = true := by
          rw [dp1, dq1, h.dir dq2, jn_toList, jn_toList, Bool.and_eq_true, decide_eq_true_eq, decide_eq_true_eq, bne_iff_ne]
          constructor
          ·rintro ⟨a1, a2⟩; exact ⟨fun e => a1 (by rw [e]), a2⟩
          ·rintro ⟨a1, a2⟩; exact ⟨fun e => a1 (jn_inj_aux _ _ dp2.nosl dq2.nosl e).symm, a2⟩
         have hdp : L.any (deepB p q) = deepG G (names p) (names q).length := by
          rw [h.eqL]
          conv => lhs; rw [ep, eq']
          exact deep_vw h.ok ρ hmp hn hmq hqn
         rw [deep_file h.ok hin, hdp]
         by_cases hf : (decide ((names q).dropLast ≠ (names p).dropLast) && decide (20 ≤ G.countP (qIn (names q).dropLast))) = true
         ·rw [if_pos (hne.2 hf), hf]; simp
         ·rw [if_neg (fun e => hf (hne.1 e))]
          have hff : (decide ((names q).dropLast ≠ (names p).dropLast) && decide (20 ≤ G.countP (qIn (names q).dropLast))) = false := by simpa using hf
          rw [hff, Bool.false_or]
          by_cases hdd : deepG G (names p) (names q).length = true
          ·rw [if_pos hdd, if_pos hdd]; simp
          ·rw [if_neg hdd, if_neg hdd]
           refine ⟨rfl, by simp, fun _ => ⟨u, ?_, rfl, trivial, trivial, hn, hqn⟩⟩
           have hah : ahG G (heads [] (names q)) = 0 := by rw [← h.ah hq]; exact h1
           have hup : ∀ ds n, names q = ds ++ [n] → ds = [] ∨ ∃ v, (ds, v) ∈ G ∧ v.p.isSome = true := fun ds n e => by rw [e] at hah; exact ah_last hah
           have hgap : ∀ v, (names q, v) ∉ G := atG_none hatq
           refine ⟨h.ok, hin, hgap, fun hpre => ?_, hmq, hqn, names_len hq, hup, fun x hx hpx => ?_⟩
           ·have hneq : names p ≠ names q := fun e => hgap u (by rw [← e]; exact hin)
            obtain ⟨r, hr⟩ := hpre
            have hrne : r ≠ [] := fun e => hneq (by rw [← hr, e, List.append_nil])
            cases hpu : u.p with
            | some a0 =>
             refine hc ⟨by rw [hpu]; rfl, ?_⟩
             rw [hhb, ep, eq']
             exact (begins_jn hmq hmp).2 ⟨r, hrne, hr.symm⟩
            | none =>
             obtain ⟨r', m, e⟩ := split_last hrne
             have hqe : names q = (names p ++ r') ++ [m] := by rw [← hr, e, List.append_assoc]
             rcases hup _ _ hqe with e0 | ⟨v, hv, hs⟩
             ·simp at e0; exact hn e0.1
             ·by_cases hr0 : r' = []
              ·rw [hr0, List.append_nil] at hv
               rw [nodup_fst h.ok.nd hv hin, hpu] at hs; cases hs
              ·obtain ⟨v2, hv2, hs2⟩ := h.ok.pre' hv hn (by
                unfold qB; rw [decide_eq_true_eq]
                refine ⟨?_, ⟨r', rfl⟩⟩
                cases r' with
                | nil => exact absurd rfl hr0
                | cons c l => simp)
               rw [nodup_fst h.ok.nd hv2 hin, hpu] at hs2; cases hs2
           ·by_cases hl : (names p).length < x.1.length
            ·apply Nat.le_of_not_lt
             intro hlt
             apply hdd
             unfold deepG
             rw [List.any_eq_true]
             refine ⟨x, hx, ?_⟩
             rw [Bool.and_eq_true, decide_eq_true_eq]
             refine ⟨?_, hlt⟩
             unfold qB; rw [decide_eq_true_eq]; exact ⟨hl, hpx⟩
            ·have := names_len hq
             omega
       ·rw [if_pos h1] at hg
        rw [hg, if_pos h1, if_pos h1]
        exact ⟨rfl, fun _ => rfl, fun e => absurd e h1⟩
   ·rw [if_pos h0, if_pos h0]
    exact ⟨rfl, fun _ => rfl, fun e => absurd e h0⟩
theorem Rl.moved (h : Rl G I C ρ L F) {p q : ByteArray} {u : VS} (hm : MvOk G (names p) (names q) u) (hp : nmOk p = true) (hq : nmOk q = true) (hn : names p ≠ []) (hqn : names q ≠ []) : Rl (mvG G (names p) (names q)) I C ρ (L.map (mv p q)) F := by
 obtain ⟨ep, hmp⟩ := path_jn hp hn
 obtain ⟨eq', hmq⟩ := path_jn hq hqn
 have hL' : L.map (mv p q) = (mvG G (names p) (names q)).map (vw ρ) := by
  rw [h.eqL]
  unfold mvG
  rw [List.map_map, List.map_map]
  refine List.map_congr_left (fun x hx => ?_)
  show mv p q (vw ρ x) = vw ρ (mvP (names p) (names q) x.1, x.2)
  conv => lhs; rw [ep, eq']
  exact mv_vw hmp ρ (h.ok.nms x hx)
 refine ⟨hL', hm.gok, h.num.congrL (fun f => ?_), fun x hx hxp => ?_, h.con, h.pos, by unfold mvG; rw [List.length_map]; exact h.lG, h.lI, h.sz⟩
 ·rw [hL', h.eqL]
  unfold mvG
  rw [List.map_map, List.countP_map, List.countP_map]
  rfl
 ·obtain ⟨y, hy, rfl⟩ := List.mem_map.1 hx
  exact h.fl y hy hxp
end
theorem perm_of_len {α : Type} : ∀ (J K : List α), J.Nodup → (∀ x ∈ J, x ∈ K) → K.length ≤ J.length → List.Perm J K
 | [], K, _, _, hl => by
  have : K = [] := List.eq_nil_of_length_eq_zero (by simpa using hl)
  rw [this]
 | a :: J, K, hnd, hs, hl => by
  rw [List.nodup_cons] at hnd
  obtain ⟨s, t, rfl⟩ := List.append_of_mem (hs a (by simp))
  have ih := perm_of_len J (s ++ t) hnd.2 (fun x hx => by
   have := hs x (by simp [hx])
   rcases List.mem_append.1 this with h | h
   ·exact List.mem_append_left _ h
   ·rcases List.mem_cons.1 h with rfl | h
    ·exact absurd hx hnd.1
    ·exact List.mem_append_right _ h) (by simp at hl ⊢; omega)
  exact (ih.cons a).trans List.perm_middle.symm
theorem IOver.nd {I I' : List (Int × VF)} {n : Int} {r r0 : VF} (h : IOver I I' n r) (hnd : (I.map (·.1)).Nodup) (_hin : (n, r0) ∈ I) : (I'.map (·.1)).Nodup := by
 have hJ : ((I.map (fun x => if x.1 = n then (n, r) else x)).map (·.1)) = I.map (·.1) := by
  rw [List.map_map]
  refine List.map_congr_left (fun x _ => ?_)
  show (if x.1 = n then (n, r) else x).1 = x.1
  split
  ·rename_i e; exact e.symm
  ·rfl
 have hnJ : ((I.map (fun x => if x.1 = n then (n, r) else x)).map (·.1)).Nodup := by rw [hJ]; exact hnd
 have hp := perm_of_len _ I' (nodup_of_fst hnJ) (fun x hx => by
  obtain ⟨y, hy, rfl⟩ := List.mem_map.1 hx
  by_cases e : y.1 = n
  ·rw [if_pos e]; exact (h.2 _).2 (.inl rfl)
  ·rw [if_neg e]; exact (h.2 _).2 (.inr ⟨hy, e⟩)) (by rw [List.length_map, h.1]; exact Nat.le_refl _)
 exact (hp.map (·.1)).nodup hnJ
theorem use_eq (I : List (Int × VF)) : useU (I.map (·.2.l)) = useI I := by unfold useU useI; rw [List.map_map]; rfl
section
variable {G : Gh} {I : List (Int × VF)} {C : Int → ByteArray} {ρ : Int → Nat} {L : List (ByteArray × Int)} {F : List ByteArray}
theorem Rl.fEb (h : Rl G I C ρ L F) {p : ByteArray} (b : Bool) : fileE G p b = (if nmOk p = false then 1 else if b = false then 2 else if aheadR L p ≠ 0 then aheadR L p else if (p.toList == [47]) = true then 5 else match look L p with | none => 3 | some f => if f < 0 then 5 else 0) := by
 cases b with
 | true =>
  rw [h.fE]
  simp only [Bool.true_eq_false, if_false]
  cases look L p <;> rfl
 | false =>
  unfold Go.Proofs.YtaieidcohdhgpaaGreatDoor.fileE locE
  cases hp : nmOk p <;> simp
theorem Rl.file0 (h : Rl G I C ρ L F) {p : ByteArray} {b : Bool} (hz : fileE G p b = 0) {u : VS} (hat : atG G (names p) = some u) (hu : u.p = none) : b = true ∧ nmOk p = true ∧ names p ≠ [] ∧ aheadR L p = 0 ∧ look L p = some (ρ u.f : Int) ∧ F[ρ u.f]? = some (C u.f) := by
 have hb := fileE_fits hz
 subst hb
 have hf := h.fE (p := p)
 rw [hz] at hf
 cases hp : nmOk p with
 | false => rw [if_pos hp] at hf; exact absurd hf (by decide)
 | true =>
  rw [if_neg (by rw [hp]; simp)] at hf
  by_cases h0 : aheadR L p = 0
  ·have hnn : ¬ (aheadR L p ≠ 0) := by simpa using h0
   rw [if_neg hnn] at hf
   by_cases hr : (p.toList == [47]) = true
   ·rw [if_pos hr] at hf; exact absurd hf (by decide)
   ·have hn : names p ≠ [] := fun e => hr ((root_iff hp).2 e)
    have hlk := h.lk hp hn
    rw [hat] at hlk
    have e : nodeV ρ u = (ρ u.f : Int) := by unfold nodeV; rw [hu]; rfl
    obtain ⟨r, hr'⟩ := h.fl _ (atG_mem hat) hu
    exact ⟨rfl, rfl, hn, h0, by rw [hlk]; show some (nodeV ρ u) = _; rw [e], h.con _ hr'⟩
  ·rw [if_pos h0] at hf; exact absurd hf.symm h0
theorem Rl.readE (h : Rl G I C ρ L F) (p : ByteArray) (i n : Int) : rdE G p i n = (readR L F p i n).2 ∧ (rdE G p i n ≠ 0 → (readR L F p i n).1 = ⟨#[]⟩) ∧ (rdE G p i n = 0 → ∀ u, atG G (names p) = some u → u.p = none → (readR L F p i n).1 = cutR (C u.f) i n) := by
 have hf := h.fEb (p := p) (decide (0 ≤ i ∧ 0 ≤ n))
 have key : rdE G p i n = (readR L F p i n).2 ∧ (rdE G p i n ≠ 0 → (readR L F p i n).1 = ⟨#[]⟩) := by
  unfold rdE readR
  rw [hf]
  cases hp : nmOk p with
  | false => simp
  | true =>
   simp only [Bool.true_eq_false, if_false]
   by_cases hr : i < 0 ∨ n < 0
   ·have : decide (0 ≤ i ∧ 0 ≤ n) = false := decide_eq_false (by omega)
    rw [this, if_pos rfl, if_pos hr]; simp
   ·have : decide (0 ≤ i ∧ 0 ≤ n) = true := decide_eq_true (by omega)
    rw [this, if_neg hr]
    simp only [Bool.true_eq_false, if_false]
    by_cases h0 : aheadR L p ≠ 0
    ·rw [if_pos h0, if_pos h0]; simp
    ·rw [if_neg h0, if_neg h0]
     by_cases hro : (p.toList == [47]) = true
     ·rw [if_pos hro, if_pos hro]; simp
     ·rw [if_neg hro, if_neg hro]
      cases hl : look L p with
      | none => simp
      | some f =>
       simp only
       by_cases hneg : f < 0
       ·rw [if_pos hneg, if_pos hneg]; simp
       ·rw [if_neg hneg, if_neg hneg]; simp
 refine ⟨key.1, key.2, fun hz u hat hu => ?_⟩
 obtain ⟨hb, hp, hn, h0, hlk, hF⟩ := h.file0 hz hat hu
 have hin := of_decide_eq_true hb
 unfold readR
 rw [if_neg (by rw [hp]; simp), if_neg (by omega), if_neg (by simpa using h0), if_neg (by rw [not_root hp hn]; simp), hlk]
 simp only
 rw [if_neg (by omega)]
 simp [hF]
theorem Rl.fillNum (h : Rl G I C ρ L F) {f : Int} {r : VF} (hin : (f, r) ∈ I) {I' : List (Int × VF)} {a : Option Addr} {c : Nat} {s : ByteArray} (hio : IOver I I' f ⟨a, s.size, c, r.f⟩) : NumOk I' ρ L (F.set (ρ f) s) := by
 obtain ⟨k1, k2⟩ := hio.keys hin
 have hlt := h.num.lt _ hin
 simp only at hlt
 refine ⟨hio.nd h.num.nd hin, fun x hx y hy e => ?_, fun x hx => ?_, fun x hx => ?_, fun g hg hlg => ?_, fun x hx => ?_, fun x hx => ?_⟩
 ·obtain ⟨x', hx', e1⟩ := k1 x hx
  obtain ⟨y', hy', e2⟩ := k1 y hy
  rw [← e1, ← e2] at e ⊢
  exact h.num.inj x' hx' y' hy' e
 ·obtain ⟨x', hx', e1⟩ := k1 x hx
  rw [← e1, List.length_set]; exact h.num.lt x' hx'
 ·obtain ⟨x', hx', e1⟩ := k1 x hx
  rw [← e1]; exact h.num.live x' hx'
 ·rw [List.length_set] at hg
  obtain ⟨y, hy, e⟩ := h.num.all g hg hlg
  obtain ⟨x, hx, e2⟩ := k2 y hy
  exact ⟨x, hx, by rw [e2]; exact e⟩
 ·rcases (hio.2 x).1 hx with rfl | ⟨hx', hne⟩
  ·simp only
   rw [List.getElem?_set_self hlt]; rfl
  ·have hne' : ρ f ≠ ρ x.1 := fun e => hne (h.num.inj x hx' _ hin e.symm)
   rw [List.getElem?_set_ne hne']
   exact h.num.size x hx'
 ·rcases (hio.2 x).1 hx with rfl | ⟨hx', _⟩
  ·have := h.num.links (f, r) hin; exact this
  ·exact h.num.links x hx'
theorem Rl.filled (h : Rl G I C ρ L F) {f : Int} {r : VF} (hin : (f, r) ∈ I) {I' : List (Int × VF)} {a : Option Addr} {c : Nat} {s : ByteArray} (hs : s.size ≤ 1280) (hio : IOver I I' f ⟨a, s.size, c, r.f⟩) : Rl G I' (fun k => if k = f then s else C k) ρ L (F.set (ρ f) s) := by
 obtain ⟨k1, k2⟩ := hio.keys hin
 have hlt := h.num.lt _ hin
 simp only at hlt
 refine ⟨h.eqL, h.ok, h.fillNum hin hio, fun x hx hxp => ?_, fun x hx => ?_, fun x hx => ?_, h.lG, by rw [hio.1]; exact h.lI, fun t ht => ?_⟩
 ·obtain ⟨r', hr'⟩ := h.fl x hx hxp
  obtain ⟨y, hy, e⟩ := k2 _ hr'
  exact ⟨y.2, by have e' : y.1 = x.2.f := e; rw [← e']; exact hy⟩
 ·rcases (hio.2 x).1 hx with rfl | ⟨hx', hne⟩
  ·simp only [if_true]; exact List.getElem?_set_self hlt
  ·have hne' : ρ f ≠ ρ x.1 := fun e => hne (h.num.inj x hx' _ hin e.symm)
   rw [List.getElem?_set_ne hne']
   show F[ρ x.1]? = some (if x.1 = f then s else C x.1)
   rw [if_neg hne]
   exact h.con x hx'
 ·obtain ⟨x', hx', e1⟩ := k1 x hx
  rw [← e1]; exact h.pos x' hx'
 ·rcases List.mem_or_eq_of_mem_set ht with ht | rfl
  ·exact h.sz t ht
  ·exact hs
theorem Rl.congrI (h : Rl G I C ρ L F) {I'' : List (Int × VF)} (hl : I''.length = I.length) (hm : ∀ x, x ∈ I'' ↔ x ∈ I) (hnd : (I''.map (·.1)).Nodup) {C' : Int → ByteArray} (hC : ∀ x ∈ I, C' x.1 = C x.1) : Rl G I'' C' ρ L F :=
 ⟨h.eqL, h.ok, ⟨hnd, fun x hx y hy => h.num.inj x ((hm x).1 hx) y ((hm y).1 hy), fun x hx => h.num.lt x ((hm x).1 hx), fun x hx => h.num.live x ((hm x).1 hx), fun g hg hlg => let ⟨x, hx, e⟩ := h.num.all g hg hlg; ⟨x, (hm x).2 hx, e⟩, fun x hx => h.num.size x ((hm x).1 hx), fun x hx => h.num.links x ((hm x).1 hx)⟩,
  fun x hx hxp => let ⟨r, hr⟩ := h.fl x hx hxp; ⟨r, (hm _).2 hr⟩, fun x hx => by rw [hC x ((hm x).1 hx)]; exact h.con x ((hm x).1 hx), fun x hx => h.pos x ((hm x).1 hx), h.lG, by rw [hl]; exact h.lI, h.sz⟩
theorem Rl.cutE (h : Rl G I C ρ L F) (p : ByteArray) (n : Int) : (ctE G p n ≠ 0 → ctE G p n = (trimR L F p n).1 ∧ (trimR L F p n).2 = F) ∧
  (ctE G p n = 0 → ∀ u, atG G (names p) = some u → u.p = none → trimR L F p n = if 160 < usageR L (F.set (ρ u.f) (longR (C u.f) n.toNat)) then (9, F) else (0, F.set (ρ u.f) (longR (C u.f) n.toNat))) := by
 refine ⟨fun hne => ?_, fun hz u hat hu => ?_⟩
 ·have hf := h.fEb (p := p) (decide (0 ≤ n ∧ n ≤ 1280))
  unfold ctE at hne ⊢
  unfold trimR
  cases hp : nmOk p with
  | false => rw [if_pos hp] at hf; rw [hf, if_pos rfl]; exact ⟨rfl, rfl⟩
  | true =>
   rw [if_neg (by rw [hp]; simp)] at hf
   simp only [Bool.true_eq_false, if_false]
   by_cases hr : n < 0 ∨ 1280 < n
   ·have : decide (0 ≤ n ∧ n ≤ 1280) = false := decide_eq_false (by omega)
    rw [this] at hf hne ⊢
    rw [if_pos rfl] at hf
    rw [hf, if_pos hr]; exact ⟨rfl, rfl⟩
   ·have : decide (0 ≤ n ∧ n ≤ 1280) = true := decide_eq_true (by omega)
    rw [this] at hf hne ⊢
    rw [if_neg (by simp)] at hf
    rw [if_neg hr]
    by_cases h0 : aheadR L p ≠ 0
    ·rw [if_pos h0] at hf ⊢; rw [hf]; exact ⟨rfl, rfl⟩
    ·rw [if_neg h0] at hf ⊢
     by_cases hro : (p.toList == [47]) = true
     ·rw [if_pos hro] at hf ⊢; rw [hf]; exact ⟨rfl, rfl⟩
     ·rw [if_neg hro] at hf ⊢
      cases hl : look L p with
      | none => rw [hl] at hf; simp only at hf ⊢; rw [hf]; first | exact ⟨rfl, rfl⟩ | exact ⟨rfl, trivial⟩ | exact ⟨trivial, trivial⟩
      | some f =>
       rw [hl] at hf
       simp only at hf ⊢
       by_cases hneg : f < 0
       ·rw [if_pos hneg] at hf ⊢; rw [hf]; exact ⟨rfl, rfl⟩
       ·rw [if_neg hneg] at hf; exact absurd hf hne
 ·obtain ⟨hb, hp, hn, h0, hlk, hF⟩ := h.file0 hz hat hu
  have hin := of_decide_eq_true hb
  unfold trimR
  rw [if_neg (by rw [hp]; simp), if_neg (by omega), if_neg (by simpa using h0), if_neg (by rw [not_root hp hn]; simp), hlk]
  simp only
  rw [if_neg (by omega)]
  simp [hF]
end
section
variable {G : Gh} {I : List (Int × VF)} {C : Int → ByteArray} {ρ : Int → Nat} {L : List (ByteArray × Int)} {F : List ByteArray}
theorem Rl.val_lt (h : Rl G I C ρ L F) : ∀ x ∈ L, x.2 < F.length := fun x hx => by
 rw [h.eqL] at hx
 obtain ⟨y, hy, rfl⟩ := List.mem_map.1 hx
 show nodeV ρ y.2 < _
 unfold nodeV
 by_cases hp : y.2.p.isSome = true
 ·rw [if_pos hp]; omega
 ·rw [if_neg hp]
  obtain ⟨r, hr⟩ := h.fl y hy (by simpa using hp)
  have := h.num.lt _ hr
  simp only at this
  omega
theorem put_set {F : List ByteArray} {f : Nat} {s : ByteArray} (hF : F[f]? = some s) (i : Int) (d : ByteArray) : putR F f i.toNat d = F.set f (ovR s i d) := by
 unfold putR ovR
 rw [hF]
 by_cases h0 : d.size = 0
 ·rw [if_neg (by omega), if_pos h0]
  exact (set_self F f s hF).symm
 ·rw [if_pos (by omega), if_neg h0]; rfl
theorem put_new (F : List ByteArray) (i : Int) (d : ByteArray) : putR (F ++ [⟨#[]⟩]) F.length i.toNat d = F ++ [ovR ⟨#[]⟩ i d] := by
 rw [put_set (s := ⟨#[]⟩) (by simp)]
 rw [List.set_append_right _ _ (Nat.le_refl _)]
 simp
theorem Rl.writeE (h : Rl G I C ρ L F) (p : ByteArray) (i : Int) (d : ByteArray) :
  (wrE G I p i d ≠ 0 → wrE G I p i d = (writeR L F p i d).1 ∧ (writeR L F p i d).2 = (L, F)) ∧
  (wrE G I p i d = 0 → (∀ u, atG G (names p) = some u → u.p = none → writeR L F p i d = writeEnd L F L (F.set (ρ u.f) (ovR (C u.f) i d))) ∧
   (atG G (names p) = none → writeR L F p i d = writeEnd L F (L ++ [(p, (F.length : Int))]) (F ++ [ovR ⟨#[]⟩ i d]) ∧ nmOk p = true ∧ names p ≠ [] ∧ gapE G (names p) = 0 ∧ mayB G I (names p).dropLast = true)) := by
 unfold wrE locE writeR
 cases hp : nmOk p with
 | false => simp
 | true =>
  simp only [Bool.true_eq_false, if_false]
  have hap := h.ah hp
  by_cases hr : i < 0 ∨ 1280 < i ∨ 1280 < i + (d.size : Int)
  ·have hw : wrFits i d = false := decide_eq_false (by omega)
   rw [hw, if_pos hr]; simp
  ·have hw : wrFits i d = true := decide_eq_true (by omega)
   rw [hw, if_neg hr, hap]
   simp only [Bool.true_eq_false, if_false]
   by_cases h0 : ahG G (heads [] (names p)) = 0
   ·have hnn : ¬ (ahG G (heads [] (names p)) ≠ 0) := by simpa using h0
    rw [if_neg hnn, if_neg hnn]
    by_cases hn : names p = []
    ·rw [if_pos hn, if_pos ((root_iff hp).2 hn)]; simp
    ·have hro : ¬ (p.toList == [47]) = true := fun e => hn ((root_iff hp).1 e)
     rw [if_neg hn, if_neg hro, h.lk hp hn]
     cases hat : atG G (names p) with
     | none =>
      simp only [Option.map_none]
      rw [h.may hp hn]
      have hg : gapE G (names p) = 0 := by unfold gapE; rw [if_neg hnn, if_neg (fun e => by rcases e with e | e; exact hn e; rw [hat] at e; cases e)]
      cases hm : mayB G I (names p).dropLast with
      | false => simp
      | true =>
       simp only [Bool.true_eq_false, if_false]
       refine ⟨fun e => absurd rfl e, fun _ => ⟨fun u hu => (by cases hu), fun _ => ⟨?_, trivial, hn, hg, trivial⟩⟩⟩
       rw [put_new]
     | some u =>
      simp only [Option.map_some]
      by_cases hu : u.p.isSome = true
      ·rw [if_pos hu, if_pos ((nodeV_neg ρ u).2 hu)]; simp
      ·rw [if_neg hu, if_neg (fun e => hu ((nodeV_neg ρ u).1 e))]
       refine ⟨fun e => absurd rfl e, fun _ => ⟨fun v hv hvp => ?_, fun e => (by cases e)⟩⟩
       cases hv
       have e : nodeV ρ u = (ρ u.f : Int) := by unfold nodeV; rw [hvp]; rfl
       obtain ⟨r, hr'⟩ := h.fl _ (atG_mem hat) hvp
       have hF := h.con _ hr'
       rw [e, Int.toNat_natCast, put_set hF]
   ·rw [if_pos h0, if_pos h0]
    exact ⟨fun _ => ⟨rfl, rfl⟩, fun e => absurd e h0⟩
theorem made_nd {I I1 : List (Int × VF)} (hnd : (I.map (·.1)).Nodup) {f : Int} {r : VF} (hf : ∀ x ∈ I, x.1 ≠ f) (hl : I1.length = I.length + 1) (hm : ∀ x, x ∈ I1 ↔ x = (f, r) ∨ x ∈ I) : (I1.map (·.1)).Nodup := by
 have hJ : (((f, r) :: I).map (·.1)).Nodup := by
  rw [List.map_cons, List.nodup_cons]
  refine ⟨fun hx => ?_, hnd⟩
  obtain ⟨x, hx, e⟩ := List.mem_map.1 hx
  exact hf x hx e
 have hp := perm_of_len ((f, r) :: I) I1 (nodup_of_fst hJ) (fun x hx => (hm x).2 (by simpa using hx)) (by simp; omega)
 exact (hp.map (·.1)).nodup hJ
theorem Rl.made (h : Rl G I C ρ L F) {p : ByteArray} (hp : nmOk p = true) (hn : names p ≠ []) (hat : atG G (names p) = none) (hg : gapE G (names p) = 0) (hm : mayB G I (names p).dropLast = true) {f : Nat} (hf : ∀ x ∈ I, x.1 ≠ (f : Int)) {I1 I2 : List (Int × VF)} (hl1 : I1.length = I.length + 1) (hm1 : ∀ x, x ∈ I1 ↔ x = ((f : Int), ⟨none, 0, 0, 1⟩) ∨ x ∈ I)
  {a : Option Addr} {c : Nat} {s : ByteArray} (hs : s.size ≤ 1280) (hio : IOver I1 I2 f ⟨a, s.size, c, 1⟩) {C2 : Int → ByteArray} (hC2 : C2 f = s) (hC : ∀ x ∈ I, C2 x.1 = C x.1) :
  Rl (G ++ [(names p, ⟨none, (f : Int)⟩)]) I2 C2 (fun k => if k = (f : Int) then F.length else ρ k) (L ++ [(p, (F.length : Int))]) (F ++ [s]) := by
 have hnd1 := made_nd h.num.nd hf hl1 hm1
 have hin1 : ((f : Int), (⟨none, 0, 0, 1⟩ : VF)) ∈ I1 := (hm1 _).2 (.inl rfl)
 have hnd2 := hio.nd hnd1 hin1
 have hm2 : ∀ x, x ∈ I2 ↔ x = ((f : Int), ⟨a, s.size, c, 1⟩) ∨ x ∈ I := fun x => by
  rw [hio.2 x, hm1 x]
  constructor
  ·rintro (e | ⟨e | hx, hne⟩)
   ·exact .inl e
   ·rw [e] at hne; exact absurd rfl hne
   ·exact .inr hx
  ·rintro (e | hx)
   ·exact .inl e
   ·exact .inr ⟨.inr hx, hf x hx⟩
 have hρ : ∀ x ∈ I, (if x.1 = (f : Int) then F.length else ρ x.1) = ρ x.1 := fun x hx => if_neg (hf x hx)
 have hcnt : ∀ g : Nat, (L ++ [(p, (F.length : Int))]).countP (qFile (g : Int)) = L.countP (qFile (g : Int)) + if g = F.length then 1 else 0 := fun g => by
  rw [List.countP_append, List.countP_singleton]
  congr 1
  unfold qFile
  by_cases e : g = F.length
  ·simp [e]
  ·have : ¬ ((F.length : Int) = (g : Int)) := fun e' => e (by omega)
   simp [e, this]
 have hnew0 : L.countP (qFile (F.length : Int)) = 0 := by
  rw [List.countP_eq_zero]
  intro x hx
  have := h.val_lt x hx
  unfold qFile
  simp; omega
 have hmb := of_decide_eq_true hm
 refine ⟨?_, h.gokAdd hp hn hat hg _, ⟨hnd2, fun x hx y hy e => ?_, fun x hx => ?_, fun x hx => ?_, fun g hg2 hlg => ?_, fun x hx => ?_, fun x hx => ?_⟩, fun x hx hxp => ?_, fun x hx => ?_, fun x hx => ?_, by simp; omega, by rw [hio.1, hl1]; omega, fun t ht => ?_⟩
 ·rw [List.map_append, h.eqL]
  congr 1
  ·refine List.map_congr_left (fun x hx => ?_)
   show (jn x.1, nodeV ρ x.2) = (jn x.1, nodeV _ x.2)
   congr 1
   unfold nodeV
   by_cases hxp : x.2.p.isSome = true
   ·rw [if_pos hxp, if_pos hxp]
   ·rw [if_neg hxp, if_neg hxp]
    obtain ⟨r, hr⟩ := h.fl x hx (by simpa using hxp)
    have := hρ _ hr
    simp only at this
    show _ = ((if x.2.f = (f : Int) then F.length else ρ x.2.f : Nat) : Int)
    rw [this]
  ·show [(p, (F.length : Int))] = [(jn (names p), nodeV _ ⟨none, (f : Int)⟩)]
   rw [← (path_jn hp hn).1]
   unfold nodeV
   simp
 ·rcases (hm2 x).1 hx with rfl | hx'
  ·rcases (hm2 y).1 hy with rfl | hy'
   ·rfl
   ·simp only [if_true] at e
    rw [hρ y hy'] at e
    have := h.num.lt y hy'
    omega
  ·rcases (hm2 y).1 hy with rfl | hy'
   ·simp only [if_true] at e
    rw [hρ x hx'] at e
    have := h.num.lt x hx'
    omega
   ·(try simp only at e)
    rw [hρ x hx', hρ y hy'] at e
    exact h.num.inj x hx' y hy' e
 ·rw [List.length_append]
  rcases (hm2 x).1 hx with rfl | hx'
  ·simp
  ·(try simp only)
   rw [hρ x hx']
   have := h.num.lt x hx'
   omega
 ·rw [hcnt]
  rcases (hm2 x).1 hx with rfl | hx'
  ·simp
  ·(try simp only)
   rw [hρ x hx']
   have := h.num.live x hx'
   omega
 ·rw [List.length_append, List.length_singleton] at hg2
  rw [hcnt] at hlg
  by_cases e : g = F.length
  ·exact ⟨_, (hm2 _).2 (.inl rfl), by simp [e]⟩
  ·rw [if_neg e] at hlg
   obtain ⟨y, hy, e2⟩ := h.num.all g (by omega) (by omega)
   exact ⟨y, (hm2 y).2 (.inr hy), by (try simp only); rw [hρ y hy]; exact e2⟩
 ·rcases (hm2 x).1 hx with rfl | hx'
  ·simp
  ·(try simp only)
   rw [hρ x hx', List.getElem?_append_left (h.num.lt x hx')]
   exact h.num.size x hx'
 ·rw [hcnt]
  rcases (hm2 x).1 hx with rfl | hx'
  ·simp only [if_true, hnew0]; rfl
  ·(try simp only)
   rw [hρ x hx']
   have h1 := h.num.links x hx'
   have h2 := h.num.lt x hx'
   rw [if_neg (by omega)]
   exact h1
 ·rcases List.mem_append.1 hx with hx | hx
  ·obtain ⟨r, hr⟩ := h.fl x hx hxp
   exact ⟨r, (hm2 _).2 (.inr hr)⟩
  ·rw [List.mem_singleton.1 hx]
   exact ⟨_, (hm2 _).2 (.inl rfl)⟩
 ·rcases (hm2 x).1 hx with rfl | hx'
  ·simp [hC2]
  ·(try simp only)
   rw [hρ x hx', List.getElem?_append_left (h.num.lt x hx'), hC x hx']
   exact h.con x hx'
 ·rcases (hm2 x).1 hx with rfl | hx'
  ·simp
  ·exact h.pos x hx'
 ·rcases List.mem_append.1 ht with ht | ht
  ·exact h.sz t ht
  ·rw [List.mem_singleton.1 ht]; exact hs
theorem Rl.statE (h : Rl G I C ρ L F) (p : ByteArray) : thE G p = (statR L F p).2 ∧ (thE G p ≠ 0 → (statR L F p).1 = noEntry) ∧
  (thE G p = 0 → ∀ v, ((names p = [] ∧ v = dirV ⟨#[]⟩ (G.countP (qIn []))) ∨ ∃ ds n u, names p = ds ++ [n] ∧ atG G (names p) = some u ∧ tellV G I (names p) n u v) → (statR L F p).1 = v) := by
 unfold thE locE statR
 rw [h.ask p]
 cases hp : nmOk p with
 | false => simp
 | true =>
  simp only [Bool.true_eq_false, if_false]
  by_cases h0 : ahG G (heads [] (names p)) = 0
  ·have hnn : ¬ (ahG G (heads [] (names p)) ≠ 0) := by simpa using h0
   rw [if_neg hnn, if_neg hnn]
   by_cases hn : names p = []
   ·have hr := (root_iff hp).2 hn
    rw [if_pos hr, if_neg (fun e => e.1 hn)]
    refine ⟨rfl, fun e => absurd rfl e, fun _ v hv => ?_⟩
    rcases hv with ⟨_, rfl⟩ | ⟨ds, n, u, e, _⟩
    ·have := h.dir (ns := []) (fun n hn => by cases hn)
     show Value.agg #[.string ⟨#[]⟩, .bool true, .int .i64 (L.countP (qDir ⟨#[]⟩) : Nat), .int .i64 1] = _
     have e2 : jn [] = ⟨#[]⟩ := rfl
     rw [e2] at this
     rw [this]; rfl
    ·rw [hn] at e; simp at e
   ·have hr : ¬ (p.toList == [47]) = true := fun e => hn ((root_iff hp).1 e)
    rw [if_neg hr, h.lk hp hn]
    obtain ⟨ep, hm⟩ := path_jn hp hn
    cases hat : atG G (names p) with
    | none =>
     rw [if_pos ⟨hn, rfl⟩]
     simp
    | some u =>
     rw [if_neg (fun e => by cases e.2)]
     simp only [Option.map_some]
     refine ⟨by simp, fun e => absurd rfl e, fun _ v hv => ?_⟩
     rcases hv with ⟨e, _⟩ | ⟨ds, n, u', e, hu', htv⟩
     ·exact absurd e hn
     ·cases hu'
      have hnm : nameOf p = n := by
       have hm' := hm
       rw [e] at hm'
       have := nameOf_jn ds n (okName_nosl (hm' n (by simp)))
       rw [← e, ← ep] at this
       exact this
      have hdir : L.countP (qDir p) = G.countP (qIn (names p)) := by have := h.dir hm; rw [← ep] at this; exact this
      unfold toldV
      simp only
      rw [hnm]
      rcases htv with ⟨hs, rfl⟩ | ⟨hs, r, hr', rfl⟩
      ·rw [if_pos ((nodeV_neg ρ u).2 hs), hdir]; rfl
      ·have e2 : nodeV ρ u = (ρ u.f : Int) := by unfold nodeV; rw [hs]; rfl
       rw [if_neg (fun e => by have := (nodeV_neg ρ u).1 e; rw [hs] at this; cases this), e2]
       have h1 := h.num.size _ hr'
       have h2 := h.num.links _ hr'
       simp only at h1 h2
       unfold filV
       rw [h1, h2, Int.toNat_natCast]
  ·rw [if_pos h0, if_pos h0]
   exact ⟨rfl, fun _ => rfl, fun e => absurd e h0⟩
end
theorem infoR : (Tryz.prog.info? 350).map (fun i => (i.zero, i.size, i.bytes)) = some (some (.agg #[.int .u64 0, .int .i64 0]), 2, 16) := by kernel_rfl
theorem sizeR : (Tryz.prog.info? 350).map (fun i => i.size) = some 2 := by kernel_rfl
theorem insEndR (w : World) (v : Value) (n : Nat) (xs : List Value) (vb : Nat) (news : List Value) (hown : Sl w 350 2 v n xs) (hn : n ≤ 10000)
  (hnews : RowIs w vb 350 news) (hnl : news.length = 2) (h1 : ∀ u ∈ news, u.oneCell' = true) :
  Calls Tryz.prog 274 #[v, .int .i64 n, .slice (some ⟨vb, 0, none⟩) 1 1] w fun e w' => ∃ v', e = .returned v' ∧ Sl w' 350 2 v' (n + 1) (xs ++ news) ∧ w.grownBy w' v.ownBlock ∧ NewOr w v v' := by
 obtain ⟨i0, hi, hz0, hz1, hz2⟩ := info_parts infoR
 have hrun := fun ty => append_new (P := Tryz.prog) w 170 ty 350 i0 _ 2 16 Tryz.underlying170 hi hz0 hz1 hz2 rfl (by decide) v n xs hown ⟨vb, 0, none⟩ 1 1 news (by omega)
  (fun j u hu => by rw [Addr.add_lit, Nat.zero_add, hnews.cell]; exact hu) h1 (by unfold maxLen; omega) (by omega)
 obtain ⟨v', w', hr, hS, hg, hnew⟩ := hrun 170
 have hv : (v = .slice none 0 0 ∧ n = 0) ∨ ∃ g cap, v = .slice (some ⟨g, 0, none⟩) n cap ∧ n ≤ cap := by
  rcases hown.2 with h | ⟨g, cap, L, h, _, hc, _⟩
  ·exact .inl h
  ·exact .inr ⟨g, cap, h, hc⟩
 clear hrun
 rcases hv with ⟨rfl, rfl⟩ | ⟨g, cap, rfl, hc⟩
 ·go_enter Tryz.func274, Tryz.ntmps274
  go_wp2_with (at_builtin; refine Lib.wpList_append_run _ rfl _ _ 170 170 rfl _ _ rfl rfl _ _ hr ?_)
  go_ret
  exact ⟨_, rfl, hS, hg, hnew⟩
 ·go_enter Tryz.func274, Tryz.ntmps274
  go_wp2_with (at_builtin; refine Lib.wpList_append_run _ rfl _ _ 170 170 rfl _ _ rfl rfl _ _ hr ?_)
  all_goals (go_ret; exact ⟨_, rfl, hS, hg, hnew⟩)
theorem insMidR (w : World) (g n cap : Nat) (xs L : List Value) (i vb : Nat) (news : List Value) (hL : RowIs w g 350 L) (hLl : L.length = cap * 2) (hxs : L.take (n * 2) = xs) (hi : i < n) (hcap : n + 1 ≤ cap) (hcm : cap ≤ maxLen) (hn : n ≤ 10000)
  (hnews : RowIs w vb 350 news) (hnl : news.length = 2) (h1x : ∀ u ∈ xs, u.oneCell' = true) (h1 : ∀ u ∈ news, u.oneCell' = true) (hne : vb ≠ g) :
  Calls Tryz.prog 274 #[.slice (some ⟨g, 0, none⟩) n cap, .int .i64 i, .slice (some ⟨vb, 0, none⟩) 1 1] w fun e w' => e = .returned (.slice (some ⟨g, 0, none⟩) (n + 1) cap) ∧ RowIs w' g 350 (spl (spl L ((i + 1) * 2) (xs.drop (i * 2))) (i * 2) news) ∧ w.grownBy w' (some g) := by
 have hxl : xs.length = n * 2 := by rw [← hxs, List.length_take]; omega
 have hdl : (xs.drop (i * 2)).length = (n - i) * 2 := by rw [List.length_drop, hxl]; omega
 obtain ⟨W1, hr1, hR1, hg1⟩ := run_copy_spl (P := Tryz.prog) w.drew 170 170 3 350 2 g ((i + 1) * 2) (n - i) (cap - (i + 1)) ⟨g, i * 2, none⟩ (n + 1 - i) (cap - i) L 350 (xs.drop (i * 2)) Tryz.underlying170 sizeR hL
  (by rw [hdl]; simp only [Nat.min_def]; split <;> omega)
  (fun j u hu => by
   rw [Addr.add_lit, show (w.drew.cell? ⟨g, i * 2 + j, none⟩) = L[i * 2 + j]? from hL.cell _]
   rw [List.getElem?_drop, ← hxs, List.getElem?_take] at hu
   split at hu
   ·exact hu
   ·cases hu) (by rw [hdl]; omega) (fun u hu => h1x u (List.mem_of_mem_drop hu))
 have hnews1 : RowIs W1 vb 350 news := (show RowIs w.drew vb 350 news from hnews).kept hg1 (by simpa using hne)
 obtain ⟨W2, hr2, hR2, hg2⟩ := run_copy_spl (P := Tryz.prog) W1 170 170 3 350 2 g (i * 2) (n + 1 - i) (cap - i) ⟨vb, 0, none⟩ 1 1 _ 350 news Tryz.underlying170 sizeR hR1
  (by rw [hnl]; simp only [Nat.min_def]; split <;> omega)
  (fun j u hu => by rw [Addr.add_lit, Nat.zero_add, hnews1.cell]; exact hu) (by rw [spl_length (by rw [hdl]; omega), hnl]; omega) h1
 have hov : ∀ lb cb, (callFunc 306 #[.slice (some ⟨vb, 0, none⟩) 1 1, .slice (some ⟨g, (i + 1) * 2, none⟩) lb cb]).run Tryz.prog w = .ok (.value (.bool false)) w := fun lb cb => by
  rw [run_callFunc_extern Tryz.func306 (by kernel_rfl) (by kernel_rfl) (by kernel_rfl) (e := Extern.SlicesOverlaps.overlaps #[170, 170] #[4]) (by kernel_rfl),
   Lib.run_overlaps_apart w 170 4 350 Tryz.underlying170 2 (fun _ => by kernel_rfl) ⟨vb, 0, none⟩ ⟨g, (i + 1) * 2, none⟩ 1 1 lb cb hne 350 350 2 (cap * 2) (by unfold World.shape?; rw [hnews]; simp [hnl]) (by unfold World.shape?; rw [hL]; simp [hLl]) (by omega) (hnews.frozen 0) (hnews.frozen 2)]
  rfl
 have hcm' : cap ≤ 9223372036854775807 := by unfold maxLen at hcm; omega
 have fin : RowIs W2 g 350 (spl (spl L ((i + 1) * 2) (xs.drop (i * 2))) (i * 2) news) ∧ w.grownBy W2 (some g) := ⟨hR2, grownBy_trans (show w.grownBy w.drew (some g) from grownBy_drew (grownBy_refl _ _)) (grownBy_trans hg1 hg2)⟩
 have FIN := hide fin
 clear fin hR1 hR2 hg1 hg2 hnews1 h1x h1 hcm hxs hdl hxl hLl hnl hnews hL
 have hw1 : IntKind.i64.wrap ((i : Int) + 1) = (i : Int) + 1 := by rw [IntKind.wrap_i64]; omega
 have hb1 : (0 : Int) ≤ (i : Int) + 1 := by omega
 have hin : i ≤ n := by omega
 have htn : ((i : Int) + 1).toNat = i + 1 := by omega
 have hb2 : ¬ (cap = i + 1) := by omega
 have hb3 : (i : Int) ≤ (n : Int) + 1 := by omega
 have hb4 : ¬ (cap = i) := by omega
 go_enter Tryz.func274, Tryz.ntmps274
 go_wp2_with (simp only [hov])
 go_region_law (refine step_copy_run rfl _ _ 170 170 rfl _ _ (by simp [Act.eval, Act.put]) (by simp [Act.eval, Act.put]) hr1 ?_)
 go_wp2_with (at_builtin; refine wpList_copy_run _ rfl _ _ 170 170 rfl _ _ rfl rfl hr2 ?_)
 go_ret
 exact ⟨rfl, unhide FIN⟩
theorem insGrowR (w : World) (g n cap : Nat) (xs L : List Value) (i vb : Nat) (news : List Value) (hL : RowIs w g 350 L) (hLl : L.length = cap * 2) (hxs : L.take (n * 2) = xs) (hi : i < n) (hnc : n ≤ cap) (hcap : cap < n + 1) (hn : n ≤ 10000)
  (hnews : RowIs w vb 350 news) (hnl : news.length = 2) (h1x : ∀ u ∈ xs, u.oneCell' = true) (h1 : ∀ u ∈ news, u.oneCell' = true) :
  Calls Tryz.prog 274 #[.slice (some ⟨g, 0, none⟩) n cap, .int .i64 i, .slice (some ⟨vb, 0, none⟩) 1 1] w fun e w' => ∃ G Z, e = .returned (.slice (some ⟨w.heap.size, 0, none⟩) (n + 1) G) ∧ n + 1 ≤ G ∧ G ≤ maxLen ∧ (xs.take (i * 2) ++ Z).length = G * 2 ∧
   RowIs w' w.heap.size 350 (spl (spl (xs.take (i * 2) ++ Z) (i * 2) news) ((i + 1) * 2) (xs.drop (i * 2))) ∧ w.grownBy w' (some w.heap.size) := by
 have hxl : xs.length = n * 2 := by rw [← hxs, List.length_take]; omega
 have hdl : (xs.drop (i * 2)).length = (n - i) * 2 := by rw [List.length_drop, hxl]; omega
 obtain ⟨i0, hi0, hz0, hzs, hzb⟩ := info_parts infoR
 have hxc : ∀ j u, xs[j]? = some u → w.cell? ⟨g, j, none⟩ = some u := fun j u hu => by
  rw [hL.cell]
  rw [← hxs, List.getElem?_take] at hu
  split at hu
  ·exact hu
  ·cases hu
 have hold : (Builtin.firstCells i0.size i (.slice (some ⟨g, 0, none⟩) i cap)).run Tryz.prog w.drew = .ok (xs.take (i * 2)).toArray w.drew := by
  rw [hzs]
  exact run_firstCells_some w.drew 2 i ⟨g, 0, none⟩ i cap (xs.take (i * 2)) (by rw [List.length_take]; omega) (fun j v hj => by
   rw [Addr.add_lit, Nat.zero_add]
   rw [List.getElem?_take] at hj
   split at hj
   ·exact hxc j v hj
   ·cases hj)
 have hik : i + (n + 1 - i) = n + 1 := by omega
 have hkk : (n : Int) + 1 - (i : Int) = ((n + 1 - i : Nat) : Int) := by omega
 obtain ⟨G, hG⟩ : ∃ G, G = grownCap w (n + 1) cap 350 := ⟨_, rfl⟩
 obtain ⟨Z, hZ⟩ : ∃ Z : Array Value, Z = Builtin.zeroCells (Value.agg #[.int .u64 0, .int .i64 0]).cells (n + 1 - i) ++ Builtin.zeroCells (Value.agg #[.int .u64 0, .int .i64 0]).cells (G - (n + 1)) := ⟨_, rfl⟩
 have hrz : ∀ ty, (Builtin.append_ #[170, 3] ty #[.slice (some ⟨g, 0, none⟩) i cap, .int .i64 ((n : Int) + 1 - (i : Int))]).run Tryz.prog w =
   .ok (.slice (some ⟨w.heap.size, 0, none⟩) (n + 1) G) (w.drew.alloc (.cells (xs.take (i * 2) ++ Z.toList).toArray 350)) := fun ty => by
  have h := Lib.run_append_grow_zeros w 170 3 ty 350 i0 _ .i64 .i64 Tryz.underlying170 Tryz.underlying3 hi0 hz0 (some ⟨g, 0, none⟩) i cap (xs.take (i * 2)) hold (n + 1 - i) (by omega) (by omega) (by omega) (by omega) (by rw [hzb]; omega) (by rw [hzb, hik]; exact growslice_fits (by omega) (by omega))
  rw [hik, ← hG] at h
  rw [hkk, h, hZ]
  congr 2
  simp [Array.append_assoc]
 have hGn : n + 1 ≤ G := by rw [hG]; exact grownCap_ge w _ _ _
 have hGm : G ≤ maxLen := by rw [hG]; exact grownCap_le_maxLen w _ _ _ (by unfold maxLen; omega)
 have hZl : (xs.take (i * 2) ++ Z.toList).length = G * 2 := by
  have e1 : Z.size = (n + 1 - i) * 2 + (G - (n + 1)) * 2 := by rw [hZ, Array.size_append, size_zeroCells, size_zeroCells]; rfl
  have e2 : Z.toList.length = Z.size := Array.length_toList
  rw [List.length_append, List.length_take, e2, e1]
  omega
 have hR0 : RowIs (w.drew.alloc (.cells (xs.take (i * 2) ++ Z.toList).toArray 350)) w.heap.size 350 (xs.take (i * 2) ++ Z.toList) := heap_alloc_new w.drew _
 have hg0 : w.grownBy (w.drew.alloc (.cells (xs.take (i * 2) ++ Z.toList).toArray 350)) (some w.heap.size) := ⟨rfl, rfl, rfl, by simp, fun k hk _ => Below.heap_alloc w.drew _ k hk⟩
 obtain ⟨W0, hW0⟩ : ∃ W0, W0 = w.drew.alloc (.cells (xs.take (i * 2) ++ Z.toList).toArray 350) := ⟨_, rfl⟩
 rw [← hW0] at hrz hR0 hg0
 have hnews0 : RowIs W0 vb 350 news := hnews.kept hg0 (by have := hnews.lt; simp; omega)
 obtain ⟨W1, hr1, hR1, hg1⟩ := run_copy_spl (P := Tryz.prog) W0 170 170 3 350 2 w.heap.size (i * 2) (n + 1 - i) (G - i) ⟨vb, 0, none⟩ 1 1 _ 350 news Tryz.underlying170 sizeR hR0
  (by rw [hnl]; simp only [Nat.min_def]; split <;> omega)
  (fun j u hu => by rw [Addr.add_lit, Nat.zero_add, hnews0.cell]; exact hu) (by rw [hZl, hnl]; omega) h1
 have hL1 : RowIs W1 g 350 L := (hL.kept hg0 (by have := hL.lt; simp; omega)).kept hg1 (by have := hL.lt; simp; omega)
 obtain ⟨W2, hr2, hR2, hg2⟩ := run_copy_spl (P := Tryz.prog) W1.drew 170 170 3 350 2 w.heap.size ((i + 1) * 2) (n - i) (G - (i + 1)) ⟨g, i * 2, none⟩ (n - i) (cap - i) _ 350 (xs.drop (i * 2)) Tryz.underlying170 sizeR hR1
  (by rw [hdl]; simp only [Nat.min_def]; split <;> omega)
  (fun j u hu => by
   rw [Addr.add_lit, show (W1.drew.cell? ⟨g, i * 2 + j, none⟩) = L[i * 2 + j]? from hL1.cell _]
   rw [List.getElem?_drop, ← hxs, List.getElem?_take] at hu
   split at hu
   ·exact hu
   ·cases hu) (by rw [spl_length (by rw [hZl, hnl]; omega), hZl, hdl]; omega) (fun u hu => h1x u (List.mem_of_mem_drop hu))
 have fin : (xs.take (i * 2) ++ Z.toList).length = G * 2 ∧ RowIs W2 w.heap.size 350 (spl (spl (xs.take (i * 2) ++ Z.toList) (i * 2) news) ((i + 1) * 2) (xs.drop (i * 2))) ∧ w.grownBy W2 (some w.heap.size) :=
  ⟨hZl, hR2, grownBy_trans hg0 (grownBy_trans hg1 (grownBy_trans (grownBy_drew (grownBy_refl W1 _)) hg2))⟩
 have FIN := hide fin
 have hGm' : G ≤ 9223372036854775807 := by unfold maxLen at hGm; omega
 have hGi : ¬ (G = i) := by omega
 have hGi1 : ¬ (G = i + 1) := by omega
 have hci : ¬ (cap = i) := by omega
 have hw1 : IntKind.i64.wrap ((i : Int) + 1) = (i : Int) + 1 := by rw [IntKind.wrap_i64]; omega
 have hb1 : (0 : Int) ≤ (i : Int) + 1 := by omega
 have hin : i ≤ n := by omega
 have htn : ((i : Int) + 1).toNat = i + 1 := by omega
 have hb3 : (i : Int) ≤ (n : Int) := by omega
 clear fin hZl hR0 hR1 hR2 hg0 hg1 hg2 hnews0 hL1 h1x h1 hxs hdl hxl hLl hnl hnews hL hxc hold hW0 hG hZ hik hkk hi0 hz0 hzs hzb
 have hGM := hide hGm
 clear hGm
 go_enter Tryz.func274, Tryz.ntmps274
 go_wp2_with (first
  | (at_builtin; refine Lib.wpList_append_run _ rfl _ _ _ _ rfl _ _ rfl rfl _ _ (hrz _) ?_)
  | (at_builtin; refine wpList_copy_run _ rfl _ _ 170 170 rfl _ _ rfl rfl hr1 ?_))
 go_region_law (refine step_copy_run rfl _ _ 170 170 rfl _ _ (by simp [Act.eval, Act.put]) (by simp [Act.eval, Act.put]) hr2 ?_)
 go_wp2
 go_ret
 exact ⟨G, Z.toList, rfl, hGn, unhide hGM, unhide FIN⟩
theorem isNaNR (s : Int) (w : World) : Calls Tryz.prog 320 #[.int .u64 s] w fun e w' => e = .returned (.bool false) ∧ w' = w := by
 go_enter Tryz.func320, Tryz.ntmps320
 go_wp2
 go_ret
 exact ⟨by simp, rfl⟩
theorem compareR (a b : Int) (w : World) : Calls Tryz.prog 305 #[.int .u64 a, .int .u64 b] w fun e w' => e = .returned (.int .i64 (cmpI a b)) ∧ w' = w := by
 have hu : cmpI a b = if a < b then -1 else if a = b then 0 else 1 := rfl
 have H := hide hu; clear hu
 by_cases h1 : a < b
 ·go_enter Tryz.func305, Tryz.ntmps305
  go_wp2_with (go_at_call 320; refine (isNaNR _ _).mono ?_; rintro e w' ⟨rfl, rfl⟩)
  go_ret
  exact ⟨by rw [unhide H, if_pos h1]; rfl, rfl⟩
 ·by_cases h2 : b < a
  ·go_enter Tryz.func305, Tryz.ntmps305
   go_wp2_with (go_at_call 320; refine (isNaNR _ _).mono ?_; rintro e w' ⟨rfl, rfl⟩)
   go_ret
   exact ⟨by rw [unhide H, if_neg (by omega), if_neg (by omega)]; rfl, rfl⟩
  ·go_enter Tryz.func305, Tryz.ntmps305
   go_wp2_with (go_at_call 320; refine (isNaNR _ _).mono ?_; rintro e w' ⟨rfl, rfl⟩)
   go_ret
   exact ⟨by rw [unhide H, if_neg (by omega), if_pos (by omega)]; rfl, rfl⟩
def clR (x : Int × Int) : List Value := [.int .u64 x.1, .int .i64 x.2]
def cellsR (es : List (Int × Int)) : List Value := es.flatMap clR
theorem cellsR_length (es : List (Int × Int)) : (cellsR es).length = es.length * 2 := by
 induction es with
 | nil => rfl
 | cons a l ih => simp [cellsR, clR] at ih ⊢; omega
theorem cellsR_append (a b : List (Int × Int)) : cellsR (a ++ b) = cellsR a ++ cellsR b := by simp [cellsR]
theorem cellsR_take (es : List (Int × Int)) (i : Nat) : (cellsR es).take (i * 2) = cellsR (es.take i) := by
 induction es generalizing i with
 | nil => simp [cellsR]
 | cons a l ih =>
  cases i with
  | zero => simp [cellsR]
  | succ i =>
   have := ih i
   simp only [cellsR, List.flatMap_cons, List.take_succ_cons] at this ⊢
   rw [← this, show (i + 1) * 2 = (clR a).length + i * 2 by simp [clR]; omega, List.take_length_add_append]
theorem cellsR_drop (es : List (Int × Int)) (i : Nat) : (cellsR es).drop (i * 2) = cellsR (es.drop i) := by
 induction es generalizing i with
 | nil => simp [cellsR]
 | cons a l ih =>
  cases i with
  | zero => simp [cellsR]
  | succ i =>
   have := ih i
   simp only [cellsR, List.flatMap_cons, List.drop_succ_cons] at this ⊢
   rw [← this, show (i + 1) * 2 = (clR a).length + i * 2 by simp [clR]; omega, List.drop_length_add_append]
theorem cellsR_one (es : List (Int × Int)) : ∀ u ∈ cellsR es, u.oneCell' = true := by
 intro u hu
 simp only [cellsR, List.mem_flatMap, clR, List.mem_cons, List.mem_nil_iff, or_false] at hu
 obtain ⟨x, _, rfl | rfl⟩ := hu <;> simp [Value.oneCell']
theorem cellsR_at (es : List (Int × Int)) (k : Nat) (x : Int × Int) (h : es[k]? = some x) : (cellsR es)[k * 2]? = some (.int .u64 x.1) ∧ (cellsR es)[k * 2 + 1]? = some (.int .i64 x.2) := by
 induction es generalizing k with
 | nil => simp at h
 | cons a l ih =>
  cases k with
  | zero => simp at h; subst h; simp [cellsR, clR]
  | succ k =>
   simp at h
   have := ih k h
   simp only [cellsR, List.flatMap_cons] at this ⊢
   have e : ∀ r, (clR a ++ List.flatMap clR l)[(k + 1) * 2 + r]? = (List.flatMap clR l)[k * 2 + r]? := fun r => by
    rw [List.getElem?_append_right (by simp [clR]; omega)]; congr 1; simp [clR]; omega
   have e0 := e 0
   simp only [Nat.add_zero] at e0
   rw [e0, e 1]; exact this
def SrtR (es : List (Int × Int)) : Prop := ∀ (j k : Nat) (x y : Int × Int), j < k → es[j]? = some x → es[k]? = some y → ltI x.1 y.1 = true
def AtR (es : List (Int × Int)) (t : Int) (i : Nat) (b : Bool) : Prop :=
 i ≤ es.length ∧ (∀ k x, k < i → es[k]? = some x → ltI x.1 t = true) ∧ (∀ k x, i ≤ k → es[k]? = some x → ltI x.1 t = false) ∧ (b = true ↔ ∃ x, es[i]? = some x ∧ x.1 = t)
theorem find1R (x : Int × Int) (key : Int) (w : World) : Calls Tryz.prog 304 #[.agg #[.int .u64 x.1, .int .i64 x.2], .int .u64 key] w fun e w' => e = .returned (.int .i64 (cmpI x.1 key)) ∧ Below w.heap.size w w' := by
 go_enter Tryz.func304, Tryz.ntmps304
 go_wp2_with (go_at_call 305; refine (compareR _ _ _).mono ?_; rintro e w' ⟨rfl, rfl⟩)
 go_ret
 exact ⟨rfl, (Below.refl _ _).alloc (Nat.le_refl _) _⟩
theorem bsrR (g n cap : Nat) (en : Nat → Int × Int) (tgt : Int) (w : World) (hn : n ≤ 10000)
 (hc0 : ∀ k, k < n → w.cell? ⟨g, k * 2, none⟩ = some (.int .u64 (en k).1))
 (hc1 : ∀ k, k < n → w.cell? ⟨g, k * 2 + 1, none⟩ = some (.int .i64 (en k).2))
 (hs : ∀ j k, j < k → k < n → ltI (en j).1 (en k).1 = true) :
  Calls Tryz.prog 303 #[.slice (some ⟨g, 0, none⟩) n cap, .int .u64 tgt, .func (.func 304) #[] #[]] w fun e w' => ∃ (i : Nat) (b : Bool), e = .returned (.tuple #[.int .i64 i, .bool b]) ∧
   (i ≤ n ∧ (∀ k, k < i → ltI (en k).1 tgt = true) ∧ (∀ k, i ≤ k → k < n → ltI (en k).1 tgt = false) ∧ (b = true ↔ i < n ∧ (en i).1 = tgt)) ∧ Below w.heap.size w w' := by
 have HS := hide hs; clear hs
 go_enter Tryz.func303, Tryz.ntmps303
 go_wp2_with fail
 go_loopw [9, 10] (fun i j wr => ∃ a b : Nat, i = .int .i64 a ∧ j = .int .i64 b ∧ a ≤ b ∧ b ≤ n ∧ Hid (∀ k, k < a → ltI (en k).1 tgt = true) ∧ Hid (∀ k, b ≤ k → k < n → ltI (en k).1 tgt = false) ∧ Below w.heap.size w wr) (fun i j _ => (intOf j - intOf i).toNat)
 case atStart => exact ⟨0, n, rfl, rfl, Nat.zero_le _, Nat.le_refl _, fun _ h => absurd h (Nat.not_lt_zero _), fun k h1 h2 => absurd h2 (by omega), Below.refl _ _⟩
 case round =>
  obtain ⟨a, b, rfl, rfl, hab, hbn, hlo, hhi, hB⟩ := hrel
  by_cases hlt : a < b
  ·have hm : (a + b) / 2 < n := by omega
   have hg : g < w.heap.size := World.block_lt_of_cell? _ _ (hc0 _ hm)
   have q0 := (hB.cell (p := ⟨g, (a + b) / 2 * 2, none⟩) hg).trans (hc0 _ hm)
   have q1 := (hB.cell (p := ⟨g, (a + b) / 2 * 2 + 1, none⟩) hg).trans (hc1 _ hm)
   have hc0' := hide hc0; have hc1' := hide hc1; clear hc0 hc1
   go_wp2_with fail
   refine (find1R (en ((a + b) / 2)) _ _).mono ?_
   rintro e w' ⟨rfl, hb⟩
   by_cases hcm : cmpI (en ((a + b) / 2)).1 tgt < 0
   ·have hl := (cmpI_lt _ _).1 hcm
    have HL := hide hl; clear hl
    go_wp2
    go_roundw
    case rel =>
     refine ⟨(a + b) / 2 + 1, b, by go_num, rfl, by omega, hbn, fun k hk => ?_, hhi, hB.trans (hb.mono hB.size)⟩
     rcases Nat.lt_or_ge k ((a + b) / 2) with h | h
     ·exact ltI_trans (unhide HS _ _ h hm) (unhide HL)
     ·obtain rfl : k = (a + b) / 2 := by omega
      exact unhide HL
    case measure => simp [intOf]; omega
   ·have hl : ltI (en ((a + b) / 2)).1 tgt = false := by
     cases h : ltI (en ((a + b) / 2)).1 tgt with
     | false => rfl
     | true => exact absurd ((cmpI_lt _ _).2 h) hcm
    have HL := hide hl; clear hl
    go_wp2
    go_roundw
    case rel =>
     refine ⟨a, (a + b) / 2, rfl, by go_num, by omega, by omega, hlo, fun k h1 h2 => ?_, hB.trans (hb.mono hB.size)⟩
     rcases Nat.lt_or_ge ((a + b) / 2) k with h | h
     ·cases hq : ltI (en k).1 tgt with
      | false => rfl
      | true => exact absurd (ltI_trans (unhide HS _ _ h h2) hq) (by rw [unhide HL]; simp)
     ·obtain rfl : k = (a + b) / 2 := by omega
      exact unhide HL
    case measure => simp [intOf]; omega
  ·obtain rfl : a = b := by omega
   by_cases han : a < n
   ·have hg : g < w.heap.size := World.block_lt_of_cell? _ _ (hc0 _ han)
    have q0 := (hB.cell (p := ⟨g, a * 2, none⟩) hg).trans (hc0 _ han)
    have q1 := (hB.cell (p := ⟨g, a * 2 + 1, none⟩) hg).trans (hc1 _ han)
    have hc0' := hide hc0; have hc1' := hide hc1; clear hc0 hc1
    go_wp2_with fail
    refine (find1R (en a) _ _).mono ?_
    rintro e w' ⟨rfl, hb⟩
    have hz := cmpI_zero (en a).1 tgt
    have HZ := hide hz; clear hz
    go_wp2
    go_ret2
    refine ⟨a, _, rfl, ⟨hbn, hlo, hhi, ?_⟩, hB.trans (hb.mono hB.size)⟩
    simp [unhide HZ, han]
   ·have hq : decide (((a : Nat) : Int) < (n : Int)) = false := by simp; omega
    have hc0' := hide hc0; have hc1' := hide hc1; clear hc0 hc1
    go_wp2
    go_ret2
    exact ⟨a, _, rfl, ⟨hbn, hlo, hhi, by simp [han]⟩, hB⟩
theorem srchR (v : Value) (es : List (Int × Int)) (tgt : Int) (w : World) (hS : Sl w 350 2 v es.length (cellsR es)) (hn : es.length ≤ 10000) (hs : SrtR es) :
  Calls Tryz.prog 303 #[v, .int .u64 tgt, .func (.func 304) #[] #[]] w fun e w' => ∃ (i : Nat) (b : Bool), e = .returned (.tuple #[.int .i64 i, .bool b]) ∧ AtR es tgt i b ∧ Below w.heap.size w w' := by
 rcases hS.2 with ⟨rfl, h0⟩ | ⟨g, cap, L, rfl, hR, hc, hcm, hL, hT⟩
 ·have : es = [] := List.eq_nil_of_length_eq_zero h0
  subst this
  go_enter Tryz.func303, Tryz.ntmps303
  go_wp2_with fail
  go_loopw [9, 10] (fun i j wr => i = .int .i64 0 ∧ j = .int .i64 0 ∧ wr = w) (fun _ _ _ => 0)
  case atStart => exact ⟨rfl, rfl, rfl⟩
  case round =>
   obtain ⟨rfl, rfl, rfl⟩ := hrel
   go_wp2
   go_ret2
   exact ⟨0, false, rfl, ⟨Nat.zero_le _, fun k x h _ => absurd h (Nat.not_lt_zero _), fun k x _ h => by simp at h, by simp⟩, Below.refl _ _⟩
 ·have hcell : ∀ j u, (cellsR es)[j]? = some u → w.cell? ⟨g, j, none⟩ = some u := fun j u hu => by
   rw [hR.cell]
   rw [← hT, List.getElem?_take] at hu
   split at hu
   ·exact hu
   ·cases hu
  cases hes : es with
  | nil => 
   subst hes
   refine (bsrR g 0 cap (fun _ => (0, 0)) tgt w (by omega) (fun k h => absurd h (by omega)) (fun k h => absurd h (by omega)) (fun j k _ h => absurd h (by omega))).mono ?_
   rintro e w' ⟨i, b, rfl, ⟨h1, h2, h3, h4⟩, hb⟩
   obtain rfl : i = 0 := by omega
   exact ⟨0, b, rfl, ⟨Nat.le_refl _, fun k x h _ => absurd h (by omega), fun k x _ h => by simp at h, by rw [h4]; simp⟩, hb⟩
  | cons x0 l0 =>
   rw [← hes]
   have hget : ∀ k, k < es.length → es[k]? = some (es.getD k x0) := fun k hk => by simp [List.getD, List.getElem?_eq_getElem hk]
   refine (bsrR g es.length cap (fun k => es.getD k x0) tgt w hn (fun k hk => hcell _ _ (cellsR_at es k _ (hget k hk)).1) (fun k hk => hcell _ _ (cellsR_at es k _ (hget k hk)).2)
    (fun j k hjk hk => hs j k _ _ hjk (hget j (by omega)) (hget k hk))).mono ?_
   rintro e w' ⟨i, b, rfl, ⟨h1, h2, h3, h4⟩, hb⟩
   have hlt : ∀ k x, es[k]? = some x → k < es.length := fun k x h => (List.getElem?_eq_some_iff.1 h).1
   have hx : ∀ k x, es[k]? = some x → x = es.getD k x0 := fun k x h => by have := hget k (hlt k x h); rw [h] at this; exact Option.some.inj this
   refine ⟨i, b, rfl, ⟨h1, fun k x hk he => ?_, fun k x hk he => ?_, ?_⟩, hb⟩
   ·rw [hx k x he]; exact h2 k hk
   ·rw [hx k x he]; exact h3 k hk (hlt k x he)
   ·rw [h4]
    constructor
    ·rintro ⟨hi, e⟩; exact ⟨_, hget i hi, e⟩
    ·rintro ⟨x, he, e⟩; exact ⟨hlt i x he, by rw [← e, hx i x he]⟩
end Go.Proofs.YtaieidcohdhgpaaGreatDoor
