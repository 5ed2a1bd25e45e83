/- Files: what the steps leave: Move. Pure. Files: what the steps answer and leave: Read, Stat, Cut, Write. Pure. Files: what the steps answer and leave: Write, Stat. Pure. -/
import Derived.Test.YtfabjhgkigagpaaGreatDoorPBB
namespace Go.Proofs.YtfabjhgkigagpaaGreatDoor
open Go.RowKit

set_option maxHeartbeats 1000000
set_option maxRecDepth 100000
theorem hp_begins {x a : List ByteArray} (_hx : Nms x) (_ha : Nms a) : hpB (jn x) (jn a) = beginsB (jn x) (jn a) := by
  rw [Bool.eq_iff_iff]
  unfold hpB Lib.hasPrefix beginsB
  rw [ByteArray.data_append, Array.toList_append, jn_data, jn_data]
  simp only [Bool.and_eq_true, decide_eq_true_eq, beq_iff_eq]
  rw [ByteArray.toList_eq, extract_eq_take, jn_toList, jn_data, jn_size, jn_size, List.isPrefixOf_iff_prefix]
  constructor
  · rintro ⟨t, e⟩
    rw [← e]
    simp
  · rintro ⟨⟨h1, h2⟩, h3⟩
    obtain ⟨hl, e⟩ := List.getElem?_eq_some_iff.1 h3
    refine ⟨(jl x).drop ((jl a).length + 1), ?_⟩
    have h4 := (List.take_append_drop (jl a).length (jl x))
    rw [h2, List.drop_eq_getElem_cons hl, e] at h4
    simpa using h4
theorem mv_vw {a t : List ByteArray} (ha : Nms a) (ρ : Int → Nat) {x : List ByteArray × VS} (hx : Nms x.1) : mv (jn a) (jn t) (vw ρ x) = vw ρ (mvP a t x.1, x.2) := by
  unfold mv
  by_cases hp : a <+: x.1
  · obtain ⟨r, hr⟩ := hp
    have hcond : (beginsB (vw ρ x).1 (jn a) || decide ((vw ρ x).1 = jn a)) = true := by
      rw [Bool.or_eq_true]
      by_cases h0 : r = []
      · right
        rw [decide_eq_true_eq]
        show jn x.1 = jn a
        rw [← hr, h0, List.append_nil]
      · left
        exact (begins_jn hx ha).2 ⟨r, h0, hr.symm⟩
    rw [if_pos hcond]
    show (jn t ++ (jn x.1).extract (jn a).size (jn x.1).size, nodeV ρ x.2) = (jn (mvP a t x.1), nodeV ρ x.2)
    congr 1
    rw [← hr, mvP_in, jn_append t r]
    congr 1
    apply bytes_eq
    rw [tail_data, jn_data, jl_append, jn_size, jn_data]
    simp
  · have hcond : ¬ (beginsB (vw ρ x).1 (jn a) || decide ((vw ρ x).1 = jn a)) = true := by
      rw [Bool.or_eq_true]
      rintro (h1 | h1)
      · obtain ⟨r, _, e⟩ := (begins_jn hx ha).1 h1
        exact hp ⟨r, e.symm⟩
      · rw [decide_eq_true_eq] at h1
        have := jn_inj hx ha h1
        exact hp (by rw [this]; exact List.prefix_refl _)
    rw [if_neg hcond, mvP_out hp]
theorem deep_vw {G : Gh} (hG : GOk G) (ρ : Int → Nat) {a t : List ByteArray} (ha : Nms a) (hne : a ≠ []) (ht : Nms t) (htne : t ≠ []) : (G.map (vw ρ)).any (deepB (jn a) (jn t)) = deepG G a t.length := by
  unfold deepG
  rw [List.any_map, Bool.eq_iff_iff, List.any_eq_true, List.any_eq_true]
  have key : ∀ x ∈ G, (deepB (jn a) (jn t) ∘ vw ρ) x = true ↔ (qB a x && decide (6 < x.1.length - a.length + t.length)) = true := by
    intro x hx
    show deepB (jn a) (jn t) (vw ρ x) = true ↔ _
    unfold deepB
    have hxn := hG.nms x hx
    have hxne := hG.ne x hx
    rw [Bool.and_eq_true, Bool.and_eq_true, decide_eq_true_eq, decide_eq_true_eq]
    have e1 : names (vw ρ x).1 = x.1 := names_jn hxn hxne
    have hb : beginsB (vw ρ x).1 (jn a) = true ↔ qB a x = true := by
      show beginsB (jn x.1) (jn a) = true ↔ _
      rw [begins_jn hxn ha]
      unfold qB
      rw [decide_eq_true_eq]
      constructor
      · rintro ⟨r, hr, e⟩
        rw [e]
        refine ⟨?_, ⟨r, rfl⟩⟩
        cases r with
        | nil => exact absurd rfl hr
        | cons c r => simp
      · rintro ⟨hl, r, e⟩
        refine ⟨r, fun h0 => ?_, e.symm⟩
        rw [← e, h0] at hl; simp at hl
    rw [hb, e1, names_jn ha hne, names_jn ht htne]
    constructor
    · rintro ⟨h1, h2⟩
      refine ⟨h1, ?_⟩
      unfold qB at h1
      have := (of_decide_eq_true h1).1
      omega
    · rintro ⟨h1, h2⟩
      refine ⟨h1, ?_⟩
      unfold qB at h1
      have := (of_decide_eq_true h1).1
      omega
  constructor
  · rintro ⟨x, hx, hq⟩; exact ⟨x, hx, (key x hx).1 hq⟩
  · rintro ⟨x, hx, hq⟩; exact ⟨x, hx, (key x hx).2 hq⟩
section
variable {G : Gh} {I : List (Int × VF)} {C : Int → ByteArray} {ρ : Int → Nat} {L : List (ByteArray × Int)} {F : List ByteArray}
theorem deep_file {u : VS} (hG : GOk G) {a : List ByteArray} (hu : (a, u) ∈ G) (m : Nat) : (u.p.isSome && deepG G a m) = deepG G a m := by
  cases hp : u.p with
  | some x => simp
  | none =>
    simp only [Option.isSome_none, Bool.false_and]
    symm
    rw [← Bool.not_eq_true]
    unfold deepG
    rw [List.any_eq_true]
    rintro ⟨x, hx, hq⟩
    rw [Bool.and_eq_true] at hq
    obtain ⟨v, hv, hs⟩ := hG.pre' hx (hG.ne _ hu) hq.1
    rw [nodup_fst hG.nd hv hu, hp] at hs; cases hs
theorem Rl.moveE (h : Rl G I C ρ L F) (p q : ByteArray) : mvE G p q = (moveR L p q).1 ∧ (mvE G p q ≠ 0 → (moveR L p q).2 = L) ∧
    (mvE G p q = 0 → ∃ u, MvOk G (names p) (names q) u ∧ (moveR L p q).2 = L.map (mv p q) ∧ nmOk p = true ∧ nmOk q = true ∧ names p ≠ [] ∧ names q ≠ []) := by
  unfold mvE moveR locE
  cases hq : nmOk q with
  | false => simp
  | true =>
    cases hp : nmOk p with
    | false => simp
    | true =>
      have hap := h.ah hp
      simp only [Bool.and_self, Bool.true_eq_false, if_false]
      rw [hap]
      by_cases h0 : ahG G (heads [] (names p)) = 0
      · have hnn : ¬ (ahG G (heads [] (names p)) ≠ 0) := by simpa using h0
        rw [if_neg hnn, if_neg hnn]
        by_cases hn : names p = []
        · rw [if_pos hn, if_pos ((root_iff hp).2 hn)]; simp
        · have hr : ¬ (p.toList == [47]) = true := fun e => hn ((root_iff hp).1 e)
          rw [if_neg hn, if_neg hr, h.lk hp hn]
          obtain ⟨ep, hmp⟩ := path_jn hp hn
          cases hat : atG G (names p) with
          | none => simp
          | some u =>
            simp only [Option.map_some]
            have hin := atG_mem hat
            have hroot : ∀ {x : ByteArray}, nmOk x = true → names x = [] → hpB x p = false ∧ beginsB x p = false := by
              intro x hx hxn
              have hx1 : x.toList = [47] := by simpa using (root_iff hx).2 hxn
              have hx2 : x.data.toList = [47] := by rw [← ByteArray.toList_eq]; exact hx1
              have hxs : x.size = 1 := by have : x.data.toList.length = x.size := Array.length_toList; rw [hx2] at this; simpa using this.symm
              have hps : 2 ≤ p.size := by
                rw [ep, jn_size]
                cases hnp : names p with
                | nil => exact absurd hnp hn
                | cons c l =>
                  rw [jl_cons]
                  have h1 := okName_ne (hmp c (by rw [hnp]; simp))
                  have : 0 < c.data.toList.length := List.length_pos_iff.2 h1
                  simp only [List.length_append, List.length_cons]; omega
              refine ⟨?_, ?_⟩
              · rw [← Bool.not_eq_true]
                unfold hpB Lib.hasPrefix
                rw [List.isPrefixOf_iff_prefix, hx2, ByteArray.data_append, Array.toList_append]
                intro hpre
                have := hpre.length_le
                have hpl : p.data.toList.length = p.size := Array.length_toList
                have h47 : ((⟨#[47]⟩ : ByteArray).data.toList).length = 1 := rfl
                rw [List.length_append, hpl, h47] at this
                have this' : p.size + 1 ≤ 1 := this
                omega
              · unfold beginsB
                rw [hxs]
                have : ¬ p.size < 1 := by omega
                simp [this]
            have hhb : hpB q p = beginsB q p := by
              by_cases hqn : names q = []
              · rw [(hroot hq hqn).1, (hroot hq hqn).2]
              · obtain ⟨eq', hmq⟩ := path_jn hq hqn
                rw [ep, eq']
                exact hp_begins hmq hmp
            have hiff : (nodeV ρ u < 0 ∧ beginsB q p = true) ↔ (u.p.isSome = true ∧ hpB q p = true) := by rw [nodeV_neg, hhb]
            by_cases hc : u.p.isSome = true ∧ hpB q p = true
            · rw [if_pos hc, if_pos (hiff.2 hc)]; simp
            · rw [if_neg hc, if_neg (fun e => hc (hiff.1 e))]
              have hg := h.gap hq
              by_cases h1 : aheadR L q = 0
              · have hnn1 : ¬ (aheadR L q ≠ 0) := by simpa using h1
                rw [if_neg hnn1] at hg ⊢
                by_cases h6 : (q.toList == [47]) = true ∨ (look L q).isSome = true
                · rw [if_pos h6] at hg ⊢; rw [hg]; simp
                · rw [if_neg h6] at hg ⊢
                  rw [hg, if_neg (show ¬ ((0 : Int) ≠ 0) by simp)]
                  have hqn : names q ≠ [] := fun e => h6 (.inl ((root_iff hq).2 e))
                  have hatq : atG G (names q) = none := by
                    cases ha : atG G (names q) with
                    | none => rfl
                    | some v => exact absurd (.inr (by rw [h.lk hq hqn, ha]; rfl)) h6
                  obtain ⟨eq', hmq⟩ := path_jn hq hqn
                  obtain ⟨dp1, dp2⟩ := dirOf_path hp hn
                  obtain ⟨dq1, dq2⟩ := dirOf_path hq hqn
                  have hne : (((dirOf p).toList != (dirOf q).toList) = true ∧ 20 ≤ L.countP (qDir (dirOf q))) ↔ (decide ((names q).dropLast ≠ (names p).dropLast) && decide (20 ≤ G.countP (qIn (names q).dropLast))) = true := by
                    rw [dp1, dq1, h.dir dq2, jn_toList, jn_toList, Bool.and_eq_true, decide_eq_true_eq, decide_eq_true_eq, bne_iff_ne]
                    constructor
                    · rintro ⟨a1, a2⟩; exact ⟨fun e => a1 (by rw [e]), a2⟩
                    · rintro ⟨a1, a2⟩; exact ⟨fun e => a1 (jn_inj_aux _ _ dp2.nosl dq2.nosl e).symm, a2⟩
                  have hdp : L.any (deepB p q) = deepG G (names p) (names q).length := by
                    rw [h.eqL]
                    conv => lhs; rw [ep, eq']
                    exact deep_vw h.ok ρ hmp hn hmq hqn
                  rw [deep_file h.ok hin, hdp]
                  by_cases hf : (decide ((names q).dropLast ≠ (names p).dropLast) && decide (20 ≤ G.countP (qIn (names q).dropLast))) = true
                  · rw [if_pos (hne.2 hf), hf]; simp
                  · rw [if_neg (fun e => hf (hne.1 e))]
                    have hff : (decide ((names q).dropLast ≠ (names p).dropLast) && decide (20 ≤ G.countP (qIn (names q).dropLast))) = false := by simpa using hf
                    rw [hff, Bool.false_or]
                    by_cases hdd : deepG G (names p) (names q).length = true
                    · rw [if_pos hdd, if_pos hdd]; simp
                    · rw [if_neg hdd, if_neg hdd]
                      refine ⟨rfl, by simp, fun _ => ⟨u, ?_, rfl, trivial, trivial, hn, hqn⟩⟩
                      have hah : ahG G (heads [] (names q)) = 0 := by rw [← h.ah hq]; exact h1
                      have hup : ∀ ds n, names q = ds ++ [n] → ds = [] ∨ ∃ v, (ds, v) ∈ G ∧ v.p.isSome = true := fun ds n e => by rw [e] at hah; exact ah_last hah
                      have hgap : ∀ v, (names q, v) ∉ G := atG_none hatq
                      refine ⟨h.ok, hin, hgap, fun hpre => ?_, hmq, hqn, names_len hq, hup, fun x hx hpx => ?_⟩
                      · have hneq : names p ≠ names q := fun e => hgap u (by rw [← e]; exact hin)
                        obtain ⟨r, hr⟩ := hpre
                        have hrne : r ≠ [] := fun e => hneq (by rw [← hr, e, List.append_nil])
                        cases hpu : u.p with
                        | some a0 =>
                          refine hc ⟨by rw [hpu]; rfl, ?_⟩
                          rw [hhb, ep, eq']
                          exact (begins_jn hmq hmp).2 ⟨r, hrne, hr.symm⟩
                        | none =>
                          obtain ⟨r', m, e⟩ := split_last hrne
                          have hqe : names q = (names p ++ r') ++ [m] := by rw [← hr, e, List.append_assoc]
                          rcases hup _ _ hqe with e0 | ⟨v, hv, hs⟩
                          · simp at e0; exact hn e0.1
                          · by_cases hr0 : r' = []
                            · rw [hr0, List.append_nil] at hv
                              rw [nodup_fst h.ok.nd hv hin, hpu] at hs; cases hs
                            · obtain ⟨v2, hv2, hs2⟩ := h.ok.pre' hv hn (by
                                unfold qB; rw [decide_eq_true_eq]
                                refine ⟨?_, ⟨r', rfl⟩⟩
                                cases r' with
                                | nil => exact absurd rfl hr0
                                | cons c l => simp)
                              rw [nodup_fst h.ok.nd hv2 hin, hpu] at hs2; cases hs2
                      · by_cases hl : (names p).length < x.1.length
                        · apply Nat.le_of_not_lt
                          intro hlt
                          apply hdd
                          unfold deepG
                          rw [List.any_eq_true]
                          refine ⟨x, hx, ?_⟩
                          rw [Bool.and_eq_true, decide_eq_true_eq]
                          refine ⟨?_, hlt⟩
                          unfold qB; rw [decide_eq_true_eq]; exact ⟨hl, hpx⟩
                        · have := names_len hq
                          omega
              · rw [if_pos h1] at hg
                rw [hg, if_pos h1, if_pos h1]
                exact ⟨rfl, fun _ => rfl, fun e => absurd e h1⟩
      · rw [if_pos h0, if_pos h0]
        exact ⟨rfl, fun _ => rfl, fun e => absurd e h0⟩
theorem Rl.moved (h : Rl G I C ρ L F) {p q : ByteArray} {u : VS} (hm : MvOk G (names p) (names q) u) (hp : nmOk p = true) (hq : nmOk q = true) (hn : names p ≠ []) (hqn : names q ≠ []) : Rl (mvG G (names p) (names q)) I C ρ (L.map (mv p q)) F := by
  obtain ⟨ep, hmp⟩ := path_jn hp hn
  obtain ⟨eq', hmq⟩ := path_jn hq hqn
  have hL' : L.map (mv p q) = (mvG G (names p) (names q)).map (vw ρ) := by
    rw [h.eqL]
    unfold mvG
    rw [List.map_map, List.map_map]
    refine List.map_congr_left (fun x hx => ?_)
    show mv p q (vw ρ x) = vw ρ (mvP (names p) (names q) x.1, x.2)
    conv => lhs; rw [ep, eq']
    exact mv_vw hmp ρ (h.ok.nms x hx)
  refine ⟨hL', hm.gok, h.num.congrL (fun f => ?_), fun x hx hxp => ?_, h.con, h.pos, by unfold mvG; rw [List.length_map]; exact h.lG, h.lI, h.sz⟩
  · rw [hL', h.eqL]
    unfold mvG
    rw [List.map_map, List.countP_map, List.countP_map]
    rfl
  · obtain ⟨y, hy, rfl⟩ := List.mem_map.1 hx
    exact h.fl y hy hxp
end
end Go.Proofs.YtfabjhgkigagpaaGreatDoor
namespace Go.Proofs.YtfabjhgkigagpaaGreatDoor
open Go.RowKit

set_option maxHeartbeats 1000000
set_option maxRecDepth 100000
theorem perm_of_len {α : Type} : ∀ (J K : List α), J.Nodup → (∀ x ∈ J, x ∈ K) → K.length ≤ J.length → List.Perm J K
  | [], K, _, _, hl => by
    have : K = [] := List.eq_nil_of_length_eq_zero (by simpa using hl)
    rw [this]
  | a :: J, K, hnd, hs, hl => by
    rw [List.nodup_cons] at hnd
    obtain ⟨s, t, rfl⟩ := List.append_of_mem (hs a (by simp))
    have ih := perm_of_len J (s ++ t) hnd.2 (fun x hx => by
      have := hs x (by simp [hx])
      rcases List.mem_append.1 this with h | h
      · exact List.mem_append_left _ h
      · rcases List.mem_cons.1 h with rfl | h
        · exact absurd hx hnd.1
        · exact List.mem_append_right _ h) (by simp at hl ⊢; omega)
    exact (ih.cons a).trans List.perm_middle.symm
theorem IOver.nd {I I' : List (Int × VF)} {n : Int} {r r0 : VF} (h : IOver I I' n r) (hnd : (I.map (·.1)).Nodup) (_hin : (n, r0) ∈ I) : (I'.map (·.1)).Nodup := by
  have hJ : ((I.map (fun x => if x.1 = n then (n, r) else x)).map (·.1)) = I.map (·.1) := by
    rw [List.map_map]
    refine List.map_congr_left (fun x _ => ?_)
    show (if x.1 = n then (n, r) else x).1 = x.1
    split
    · rename_i e; exact e.symm
    · rfl
  have hnJ : ((I.map (fun x => if x.1 = n then (n, r) else x)).map (·.1)).Nodup := by rw [hJ]; exact hnd
  have hp := perm_of_len _ I' (nodup_of_fst hnJ) (fun x hx => by
    obtain ⟨y, hy, rfl⟩ := List.mem_map.1 hx
    by_cases e : y.1 = n
    · rw [if_pos e]; exact (h.2 _).2 (.inl rfl)
    · rw [if_neg e]; exact (h.2 _).2 (.inr ⟨hy, e⟩)) (by rw [List.length_map, h.1]; exact Nat.le_refl _)
  exact (hp.map (·.1)).nodup hnJ
theorem use_eq (I : List (Int × VF)) : useU (I.map (·.2.l)) = useI I := by unfold useU useI; rw [List.map_map]; rfl
section
variable {G : Gh} {I : List (Int × VF)} {C : Int → ByteArray} {ρ : Int → Nat} {L : List (ByteArray × Int)} {F : List ByteArray}
theorem Rl.fEb (h : Rl G I C ρ L F) {p : ByteArray} (b : Bool) : fileE G p b = (if nmOk p = false then 1 else if b = false then 2 else if aheadR L p ≠ 0 then aheadR L p else if (p.toList == [47]) = true then 5 else match look L p with | none => 3 | some f => if f < 0 then 5 else 0) := by
  cases b with
  | true =>
    rw [h.fE]
    simp only [Bool.true_eq_false, if_false]
    cases look L p <;> rfl
  | false =>
    unfold Go.Proofs.YtfabjhgkigagpaaGreatDoor.fileE locE
    cases hp : nmOk p <;> simp
/-- What fileE = 0 says. -/
theorem Rl.file0 (h : Rl G I C ρ L F) {p : ByteArray} {b : Bool} (hz : fileE G p b = 0) {u : VS} (hat : atG G (names p) = some u) (hu : u.p = none) : b = true ∧ nmOk p = true ∧ names p ≠ [] ∧ aheadR L p = 0 ∧ look L p = some (ρ u.f : Int) ∧ F[ρ u.f]? = some (C u.f) := by
  have hb := fileE_fits hz
  subst hb
  have hf := h.fE (p := p)
  rw [hz] at hf
  cases hp : nmOk p with
  | false => rw [if_pos hp] at hf; exact absurd hf (by decide)
  | true =>
    rw [if_neg (by rw [hp]; simp)] at hf
    by_cases h0 : aheadR L p = 0
    · have hnn : ¬ (aheadR L p ≠ 0) := by simpa using h0
      rw [if_neg hnn] at hf
      by_cases hr : (p.toList == [47]) = true
      · rw [if_pos hr] at hf; exact absurd hf (by decide)
      · have hn : names p ≠ [] := fun e => hr ((root_iff hp).2 e)
        have hlk := h.lk hp hn
        rw [hat] at hlk
        have e : nodeV ρ u = (ρ u.f : Int) := by unfold nodeV; rw [hu]; rfl
        obtain ⟨r, hr'⟩ := h.fl _ (atG_mem hat) hu
        exact ⟨rfl, rfl, hn, h0, by rw [hlk]; show some (nodeV ρ u) = _; rw [e], h.con _ hr'⟩
    · rw [if_pos h0] at hf; exact absurd hf.symm h0
theorem Rl.readE (h : Rl G I C ρ L F) (p : ByteArray) (i n : Int) : rdE G p i n = (readR L F p i n).2 ∧ (rdE G p i n ≠ 0 → (readR L F p i n).1 = ⟨#[]⟩) ∧ (rdE G p i n = 0 → ∀ u, atG G (names p) = some u → u.p = none → (readR L F p i n).1 = cutR (C u.f) i n) := by
  have hf := h.fEb (p := p) (decide (0 ≤ i ∧ 0 ≤ n))
  have key : rdE G p i n = (readR L F p i n).2 ∧ (rdE G p i n ≠ 0 → (readR L F p i n).1 = ⟨#[]⟩) := by
    unfold rdE readR
    rw [hf]
    cases hp : nmOk p with
    | false => simp
    | true =>
      simp only [Bool.true_eq_false, if_false]
      by_cases hr : i < 0 ∨ n < 0
      · have : decide (0 ≤ i ∧ 0 ≤ n) = false := decide_eq_false (by omega)
        rw [this, if_pos rfl, if_pos hr]; simp
      · have : decide (0 ≤ i ∧ 0 ≤ n) = true := decide_eq_true (by omega)
        rw [this, if_neg hr]
        simp only [Bool.true_eq_false, if_false]
        by_cases h0 : aheadR L p ≠ 0
        · rw [if_pos h0, if_pos h0]; simp
        · rw [if_neg h0, if_neg h0]
          by_cases hro : (p.toList == [47]) = true
          · rw [if_pos hro, if_pos hro]; simp
          · rw [if_neg hro, if_neg hro]
            cases hl : look L p with
            | none => simp
            | some f =>
              simp only
              by_cases hneg : f < 0
              · rw [if_pos hneg, if_pos hneg]; simp
              · rw [if_neg hneg, if_neg hneg]; simp
  refine ⟨key.1, key.2, fun hz u hat hu => ?_⟩
  obtain ⟨hb, hp, hn, h0, hlk, hF⟩ := h.file0 hz hat hu
  have hin := of_decide_eq_true hb
  unfold readR
  rw [if_neg (by rw [hp]; simp), if_neg (by omega), if_neg (by simpa using h0), if_neg (by rw [not_root hp hn]; simp), hlk]
  simp only
  rw [if_neg (by omega)]
  simp [hF]
theorem Rl.fillNum (h : Rl G I C ρ L F) {f : Int} {r : VF} (hin : (f, r) ∈ I) {I' : List (Int × VF)} {a : Option Addr} {c : Nat} {s : ByteArray} (hio : IOver I I' f ⟨a, s.size, c, r.f⟩) : NumOk I' ρ L (F.set (ρ f) s) := by
  obtain ⟨k1, k2⟩ := hio.keys hin
  have hlt := h.num.lt _ hin
  simp only at hlt
  refine ⟨hio.nd h.num.nd hin, fun x hx y hy e => ?_, fun x hx => ?_, fun x hx => ?_, fun g hg hlg => ?_, fun x hx => ?_, fun x hx => ?_⟩
  · obtain ⟨x', hx', e1⟩ := k1 x hx
    obtain ⟨y', hy', e2⟩ := k1 y hy
    rw [← e1, ← e2] at e ⊢
    exact h.num.inj x' hx' y' hy' e
  · obtain ⟨x', hx', e1⟩ := k1 x hx
    rw [← e1, List.length_set]; exact h.num.lt x' hx'
  · obtain ⟨x', hx', e1⟩ := k1 x hx
    rw [← e1]; exact h.num.live x' hx'
  · rw [List.length_set] at hg
    obtain ⟨y, hy, e⟩ := h.num.all g hg hlg
    obtain ⟨x, hx, e2⟩ := k2 y hy
    exact ⟨x, hx, by rw [e2]; exact e⟩
  · rcases (hio.2 x).1 hx with rfl | ⟨hx', hne⟩
    · simp only
      rw [List.getElem?_set_self hlt]; rfl
    · have hne' : ρ f ≠ ρ x.1 := fun e => hne (h.num.inj x hx' _ hin e.symm)
      rw [List.getElem?_set_ne hne']
      exact h.num.size x hx'
  · rcases (hio.2 x).1 hx with rfl | ⟨hx', _⟩
    · have := h.num.links (f, r) hin; exact this
    · exact h.num.links x hx'
theorem Rl.filled (h : Rl G I C ρ L F) {f : Int} {r : VF} (hin : (f, r) ∈ I) {I' : List (Int × VF)} {a : Option Addr} {c : Nat} {s : ByteArray} (hs : s.size ≤ 1280) (hio : IOver I I' f ⟨a, s.size, c, r.f⟩) : Rl G I' (fun k => if k = f then s else C k) ρ L (F.set (ρ f) s) := by
  obtain ⟨k1, k2⟩ := hio.keys hin
  have hlt := h.num.lt _ hin
  simp only at hlt
  refine ⟨h.eqL, h.ok, h.fillNum hin hio, fun x hx hxp => ?_, fun x hx => ?_, fun x hx => ?_, h.lG, by rw [hio.1]; exact h.lI, fun t ht => ?_⟩
  · obtain ⟨r', hr'⟩ := h.fl x hx hxp
    obtain ⟨y, hy, e⟩ := k2 _ hr'
    exact ⟨y.2, by have e' : y.1 = x.2.f := e; rw [← e']; exact hy⟩
  · rcases (hio.2 x).1 hx with rfl | ⟨hx', hne⟩
    · simp only [if_true]; exact List.getElem?_set_self hlt
    · have hne' : ρ f ≠ ρ x.1 := fun e => hne (h.num.inj x hx' _ hin e.symm)
      rw [List.getElem?_set_ne hne']
      show F[ρ x.1]? = some (if x.1 = f then s else C x.1)
      rw [if_neg hne]
      exact h.con x hx'
  · obtain ⟨x', hx', e1⟩ := k1 x hx
    rw [← e1]; exact h.pos x' hx'
  · rcases List.mem_or_eq_of_mem_set ht with ht | rfl
    · exact h.sz t ht
    · exact hs
/-- Another list of the same numbers. -/
theorem Rl.congrI (h : Rl G I C ρ L F) {I'' : List (Int × VF)} (hl : I''.length = I.length) (hm : ∀ x, x ∈ I'' ↔ x ∈ I) (hnd : (I''.map (·.1)).Nodup) {C' : Int → ByteArray} (hC : ∀ x ∈ I, C' x.1 = C x.1) : Rl G I'' C' ρ L F :=
  ⟨h.eqL, h.ok, ⟨hnd, fun x hx y hy => h.num.inj x ((hm x).1 hx) y ((hm y).1 hy), fun x hx => h.num.lt x ((hm x).1 hx), fun x hx => h.num.live x ((hm x).1 hx), fun g hg hlg => let ⟨x, hx, e⟩ := h.num.all g hg hlg; ⟨x, (hm x).2 hx, e⟩, fun x hx => h.num.size x ((hm x).1 hx), fun x hx => h.num.links x ((hm x).1 hx)⟩,
   fun x hx hxp => let ⟨r, hr⟩ := h.fl x hx hxp; ⟨r, (hm _).2 hr⟩, fun x hx => by rw [hC x ((hm x).1 hx)]; exact h.con x ((hm x).1 hx), fun x hx => h.pos x ((hm x).1 hx), h.lG, by rw [hl]; exact h.lI, h.sz⟩
theorem Rl.cutE (h : Rl G I C ρ L F) (p : ByteArray) (n : Int) : (ctE G p n ≠ 0 → ctE G p n = (trimR L F p n).1 ∧ (trimR L F p n).2 = F) ∧
    (ctE G p n = 0 → ∀ u, atG G (names p) = some u → u.p = none → trimR L F p n = if 160 < usageR L (F.set (ρ u.f) (longR (C u.f) n.toNat)) then (9, F) else (0, F.set (ρ u.f) (longR (C u.f) n.toNat))) := by
  refine ⟨fun hne => ?_, fun hz u hat hu => ?_⟩
  · have hf := h.fEb (p := p) (decide (0 ≤ n ∧ n ≤ 1280))
    unfold ctE at hne ⊢
    unfold trimR
    cases hp : nmOk p with
    | false => rw [if_pos hp] at hf; rw [hf, if_pos rfl]; exact ⟨rfl, rfl⟩
    | true =>
      rw [if_neg (by rw [hp]; simp)] at hf
      simp only [Bool.true_eq_false, if_false]
      by_cases hr : n < 0 ∨ 1280 < n
      · have : decide (0 ≤ n ∧ n ≤ 1280) = false := decide_eq_false (by omega)
        rw [this] at hf hne ⊢
        rw [if_pos rfl] at hf
        rw [hf, if_pos hr]; exact ⟨rfl, rfl⟩
      · have : decide (0 ≤ n ∧ n ≤ 1280) = true := decide_eq_true (by omega)
        rw [this] at hf hne ⊢
        rw [if_neg (by simp)] at hf
        rw [if_neg hr]
        by_cases h0 : aheadR L p ≠ 0
        · rw [if_pos h0] at hf ⊢; rw [hf]; exact ⟨rfl, rfl⟩
        · rw [if_neg h0] at hf ⊢
          by_cases hro : (p.toList == [47]) = true
          · rw [if_pos hro] at hf ⊢; rw [hf]; exact ⟨rfl, rfl⟩
          · rw [if_neg hro] at hf ⊢
            cases hl : look L p with
            | none => rw [hl] at hf; simp only at hf ⊢; rw [hf]; first | exact ⟨rfl, rfl⟩ | exact ⟨rfl, trivial⟩ | exact ⟨trivial, trivial⟩
            | some f =>
              rw [hl] at hf
              simp only at hf ⊢
              by_cases hneg : f < 0
              · rw [if_pos hneg] at hf ⊢; rw [hf]; exact ⟨rfl, rfl⟩
              · rw [if_neg hneg] at hf; exact absurd hf hne
  · obtain ⟨hb, hp, hn, h0, hlk, hF⟩ := h.file0 hz hat hu
    have hin := of_decide_eq_true hb
    unfold trimR
    rw [if_neg (by rw [hp]; simp), if_neg (by omega), if_neg (by simpa using h0), if_neg (by rw [not_root hp hn]; simp), hlk]
    simp only
    rw [if_neg (by omega)]
    simp [hF]
end
end Go.Proofs.YtfabjhgkigagpaaGreatDoor
namespace Go.Proofs.YtfabjhgkigagpaaGreatDoor
open Go.RowKit

set_option maxHeartbeats 1000000
set_option maxRecDepth 100000
section
variable {G : Gh} {I : List (Int × VF)} {C : Int → ByteArray} {ρ : Int → Nat} {L : List (ByteArray × Int)} {F : List ByteArray}
theorem Rl.val_lt (h : Rl G I C ρ L F) : ∀ x ∈ L, x.2 < F.length := fun x hx => by
  rw [h.eqL] at hx
  obtain ⟨y, hy, rfl⟩ := List.mem_map.1 hx
  show nodeV ρ y.2 < _
  unfold nodeV
  by_cases hp : y.2.p.isSome = true
  · rw [if_pos hp]; omega
  · rw [if_neg hp]
    obtain ⟨r, hr⟩ := h.fl y hy (by simpa using hp)
    have := h.num.lt _ hr
    simp only at this
    omega
theorem put_set {F : List ByteArray} {f : Nat} {s : ByteArray} (hF : F[f]? = some s) (i : Int) (d : ByteArray) : putR F f i.toNat d = F.set f (ovR s i d) := by
  unfold putR ovR
  rw [hF]
  by_cases h0 : d.size = 0
  · rw [if_neg (by omega), if_pos h0]
    exact (set_self F f s hF).symm
  · rw [if_pos (by omega), if_neg h0]; rfl
theorem put_new (F : List ByteArray) (i : Int) (d : ByteArray) : putR (F ++ [⟨#[]⟩]) F.length i.toNat d = F ++ [ovR ⟨#[]⟩ i d] := by
  rw [put_set (s := ⟨#[]⟩) (by simp)]
  rw [List.set_append_right _ _ (Nat.le_refl _)]
  simp
theorem Rl.writeE (h : Rl G I C ρ L F) (p : ByteArray) (i : Int) (d : ByteArray) :
    (wrE G I p i d ≠ 0 → wrE G I p i d = (writeR L F p i d).1 ∧ (writeR L F p i d).2 = (L, F)) ∧
    (wrE G I p i d = 0 → (∀ u, atG G (names p) = some u → u.p = none → writeR L F p i d = writeEnd L F L (F.set (ρ u.f) (ovR (C u.f) i d))) ∧
      (atG G (names p) = none → writeR L F p i d = writeEnd L F (L ++ [(p, (F.length : Int))]) (F ++ [ovR ⟨#[]⟩ i d]) ∧ nmOk p = true ∧ names p ≠ [] ∧ gapE G (names p) = 0 ∧ mayB G I (names p).dropLast = true)) := by
  unfold wrE locE writeR
  cases hp : nmOk p with
  | false => simp
  | true =>
    simp only [Bool.true_eq_false, if_false]
    have hap := h.ah hp
    by_cases hr : i < 0 ∨ 1280 < i ∨ 1280 < i + (d.size : Int)
    · have hw : wrFits i d = false := decide_eq_false (by omega)
      rw [hw, if_pos hr]; simp
    · have hw : wrFits i d = true := decide_eq_true (by omega)
      rw [hw, if_neg hr, hap]
      simp only [Bool.true_eq_false, if_false]
      by_cases h0 : ahG G (heads [] (names p)) = 0
      · have hnn : ¬ (ahG G (heads [] (names p)) ≠ 0) := by simpa using h0
        rw [if_neg hnn, if_neg hnn]
        by_cases hn : names p = []
        · rw [if_pos hn, if_pos ((root_iff hp).2 hn)]; simp
        · have hro : ¬ (p.toList == [47]) = true := fun e => hn ((root_iff hp).1 e)
          rw [if_neg hn, if_neg hro, h.lk hp hn]
          cases hat : atG G (names p) with
          | none =>
            simp only [Option.map_none]
            rw [h.may hp hn]
            have hg : gapE G (names p) = 0 := by unfold gapE; rw [if_neg hnn, if_neg (fun e => by rcases e with e | e; exact hn e; rw [hat] at e; cases e)]
            cases hm : mayB G I (names p).dropLast with
            | false => simp
            | true =>
              simp only [Bool.true_eq_false, if_false]
              refine ⟨fun e => absurd rfl e, fun _ => ⟨fun u hu => (by cases hu), fun _ => ⟨?_, trivial, hn, hg, trivial⟩⟩⟩
              rw [put_new]
          | some u =>
            simp only [Option.map_some]
            by_cases hu : u.p.isSome = true
            · rw [if_pos hu, if_pos ((nodeV_neg ρ u).2 hu)]; simp
            · rw [if_neg hu, if_neg (fun e => hu ((nodeV_neg ρ u).1 e))]
              refine ⟨fun e => absurd rfl e, fun _ => ⟨fun v hv hvp => ?_, fun e => (by cases e)⟩⟩
              cases hv
              have e : nodeV ρ u = (ρ u.f : Int) := by unfold nodeV; rw [hvp]; rfl
              obtain ⟨r, hr'⟩ := h.fl _ (atG_mem hat) hvp
              have hF := h.con _ hr'
              rw [e, Int.toNat_natCast, put_set hF]
      · rw [if_pos h0, if_pos h0]
        exact ⟨fun _ => ⟨rfl, rfl⟩, fun e => absurd e h0⟩
theorem made_nd {I I1 : List (Int × VF)} (hnd : (I.map (·.1)).Nodup) {f : Int} {r : VF} (hf : ∀ x ∈ I, x.1 ≠ f) (hl : I1.length = I.length + 1) (hm : ∀ x, x ∈ I1 ↔ x = (f, r) ∨ x ∈ I) : (I1.map (·.1)).Nodup := by
  have hJ : (((f, r) :: I).map (·.1)).Nodup := by
    rw [List.map_cons, List.nodup_cons]
    refine ⟨fun hx => ?_, hnd⟩
    obtain ⟨x, hx, e⟩ := List.mem_map.1 hx
    exact hf x hx e
  have hp := perm_of_len ((f, r) :: I) I1 (nodup_of_fst hJ) (fun x hx => (hm x).2 (by simpa using hx)) (by simp; omega)
  exact (hp.map (·.1)).nodup hJ
theorem Rl.made (h : Rl G I C ρ L F) {p : ByteArray} (hp : nmOk p = true) (hn : names p ≠ []) (hat : atG G (names p) = none) (hg : gapE G (names p) = 0) (hm : mayB G I (names p).dropLast = true) {f : Nat} (hf : ∀ x ∈ I, x.1 ≠ (f : Int)) {I1 I2 : List (Int × VF)} (hl1 : I1.length = I.length + 1) (hm1 : ∀ x, x ∈ I1 ↔ x = ((f : Int), ⟨none, 0, 0, 1⟩) ∨ x ∈ I)
    {a : Option Addr} {c : Nat} {s : ByteArray} (hs : s.size ≤ 1280) (hio : IOver I1 I2 f ⟨a, s.size, c, 1⟩) {C2 : Int → ByteArray} (hC2 : C2 f = s) (hC : ∀ x ∈ I, C2 x.1 = C x.1) :
    Rl (G ++ [(names p, ⟨none, (f : Int)⟩)]) I2 C2 (fun k => if k = (f : Int) then F.length else ρ k) (L ++ [(p, (F.length : Int))]) (F ++ [s]) := by
  have hnd1 := made_nd h.num.nd hf hl1 hm1
  have hin1 : ((f : Int), (⟨none, 0, 0, 1⟩ : VF)) ∈ I1 := (hm1 _).2 (.inl rfl)
  have hnd2 := hio.nd hnd1 hin1
  have hm2 : ∀ x, x ∈ I2 ↔ x = ((f : Int), ⟨a, s.size, c, 1⟩) ∨ x ∈ I := fun x => by
    rw [hio.2 x, hm1 x]
    constructor
    · rintro (e | ⟨e | hx, hne⟩)
      · exact .inl e
      · rw [e] at hne; exact absurd rfl hne
      · exact .inr hx
    · rintro (e | hx)
      · exact .inl e
      · exact .inr ⟨.inr hx, hf x hx⟩
  have hρ : ∀ x ∈ I, (if x.1 = (f : Int) then F.length else ρ x.1) = ρ x.1 := fun x hx => if_neg (hf x hx)
  have hcnt : ∀ g : Nat, (L ++ [(p, (F.length : Int))]).countP (qFile (g : Int)) = L.countP (qFile (g : Int)) + if g = F.length then 1 else 0 := fun g => by
    rw [List.countP_append, List.countP_singleton]
    congr 1
    unfold qFile
    by_cases e : g = F.length
    · simp [e]
    · have : ¬ ((F.length : Int) = (g : Int)) := fun e' => e (by omega)
      simp [e, this]
  have hnew0 : L.countP (qFile (F.length : Int)) = 0 := by
    rw [List.countP_eq_zero]
    intro x hx
    have := h.val_lt x hx
    unfold qFile
    simp; omega
  have hmb := of_decide_eq_true hm
  refine ⟨?_, h.gokAdd hp hn hat hg _, ⟨hnd2, fun x hx y hy e => ?_, fun x hx => ?_, fun x hx => ?_, fun g hg2 hlg => ?_, fun x hx => ?_, fun x hx => ?_⟩, fun x hx hxp => ?_, fun x hx => ?_, fun x hx => ?_, by simp; omega, by rw [hio.1, hl1]; omega, fun t ht => ?_⟩
  · rw [List.map_append, h.eqL]
    congr 1
    · refine List.map_congr_left (fun x hx => ?_)
      show (jn x.1, nodeV ρ x.2) = (jn x.1, nodeV _ x.2)
      congr 1
      unfold nodeV
      by_cases hxp : x.2.p.isSome = true
      · rw [if_pos hxp, if_pos hxp]
      · rw [if_neg hxp, if_neg hxp]
        obtain ⟨r, hr⟩ := h.fl x hx (by simpa using hxp)
        have := hρ _ hr
        simp only at this
        show _ = ((if x.2.f = (f : Int) then F.length else ρ x.2.f : Nat) : Int)
        rw [this]
    · show [(p, (F.length : Int))] = [(jn (names p), nodeV _ ⟨none, (f : Int)⟩)]
      rw [← (path_jn hp hn).1]
      unfold nodeV
      simp
  · rcases (hm2 x).1 hx with rfl | hx'
    · rcases (hm2 y).1 hy with rfl | hy'
      · rfl
      · simp only [if_true] at e
        rw [hρ y hy'] at e
        have := h.num.lt y hy'
        omega
    · rcases (hm2 y).1 hy with rfl | hy'
      · simp only [if_true] at e
        rw [hρ x hx'] at e
        have := h.num.lt x hx'
        omega
      · (try simp only at e)
        rw [hρ x hx', hρ y hy'] at e
        exact h.num.inj x hx' y hy' e
  · rw [List.length_append]
    rcases (hm2 x).1 hx with rfl | hx'
    · simp
    · (try simp only)
      rw [hρ x hx']
      have := h.num.lt x hx'
      omega
  · rw [hcnt]
    rcases (hm2 x).1 hx with rfl | hx'
    · simp
    · (try simp only)
      rw [hρ x hx']
      have := h.num.live x hx'
      omega
  · rw [List.length_append, List.length_singleton] at hg2
    rw [hcnt] at hlg
    by_cases e : g = F.length
    · exact ⟨_, (hm2 _).2 (.inl rfl), by simp [e]⟩
    · rw [if_neg e] at hlg
      obtain ⟨y, hy, e2⟩ := h.num.all g (by omega) (by omega)
      exact ⟨y, (hm2 y).2 (.inr hy), by (try simp only); rw [hρ y hy]; exact e2⟩
  · rcases (hm2 x).1 hx with rfl | hx'
    · simp
    · (try simp only)
      rw [hρ x hx', List.getElem?_append_left (h.num.lt x hx')]
      exact h.num.size x hx'
  · rw [hcnt]
    rcases (hm2 x).1 hx with rfl | hx'
    · simp only [if_true, hnew0]; rfl
    · (try simp only)
      rw [hρ x hx']
      have h1 := h.num.links x hx'
      have h2 := h.num.lt x hx'
      rw [if_neg (by omega)]
      exact h1
  · rcases List.mem_append.1 hx with hx | hx
    · obtain ⟨r, hr⟩ := h.fl x hx hxp
      exact ⟨r, (hm2 _).2 (.inr hr)⟩
    · rw [List.mem_singleton.1 hx]
      exact ⟨_, (hm2 _).2 (.inl rfl)⟩
  · rcases (hm2 x).1 hx with rfl | hx'
    · simp [hC2]
    · (try simp only)
      rw [hρ x hx', List.getElem?_append_left (h.num.lt x hx'), hC x hx']
      exact h.con x hx'
  · rcases (hm2 x).1 hx with rfl | hx'
    · simp
    · exact h.pos x hx'
  · rcases List.mem_append.1 ht with ht | ht
    · exact h.sz t ht
    · rw [List.mem_singleton.1 ht]; exact hs
theorem Rl.statE (h : Rl G I C ρ L F) (p : ByteArray) : thE G p = (statR L F p).2 ∧ (thE G p ≠ 0 → (statR L F p).1 = noEntry) ∧
    (thE G p = 0 → ∀ v, ((names p = [] ∧ v = dirV ⟨#[]⟩ (G.countP (qIn []))) ∨ ∃ ds n u, names p = ds ++ [n] ∧ atG G (names p) = some u ∧ tellV G I (names p) n u v) → (statR L F p).1 = v) := by
  unfold thE locE statR
  rw [h.ask p]
  cases hp : nmOk p with
  | false => simp
  | true =>
    simp only [Bool.true_eq_false, if_false]
    by_cases h0 : ahG G (heads [] (names p)) = 0
    · have hnn : ¬ (ahG G (heads [] (names p)) ≠ 0) := by simpa using h0
      rw [if_neg hnn, if_neg hnn]
      by_cases hn : names p = []
      · have hr := (root_iff hp).2 hn
        rw [if_pos hr, if_neg (fun e => e.1 hn)]
        refine ⟨rfl, fun e => absurd rfl e, fun _ v hv => ?_⟩
        rcases hv with ⟨_, rfl⟩ | ⟨ds, n, u, e, _⟩
        · have := h.dir (ns := []) (fun n hn => by cases hn)
          show Value.agg #[.string ⟨#[]⟩, .bool true, .int .i64 (L.countP (qDir ⟨#[]⟩) : Nat), .int .i64 1] = _
          have e2 : jn [] = ⟨#[]⟩ := rfl
          rw [e2] at this
          rw [this]; rfl
        · rw [hn] at e; simp at e
      · have hr : ¬ (p.toList == [47]) = true := fun e => hn ((root_iff hp).1 e)
        rw [if_neg hr, h.lk hp hn]
        obtain ⟨ep, hm⟩ := path_jn hp hn
        cases hat : atG G (names p) with
        | none =>
          rw [if_pos ⟨hn, rfl⟩]
          simp
        | some u =>
          rw [if_neg (fun e => by cases e.2)]
          simp only [Option.map_some]
          refine ⟨by simp, fun e => absurd rfl e, fun _ v hv => ?_⟩
          rcases hv with ⟨e, _⟩ | ⟨ds, n, u', e, hu', htv⟩
          · exact absurd e hn
          · cases hu'
            have hnm : nameOf p = n := by
              have hm' := hm
              rw [e] at hm'
              have := nameOf_jn ds n (okName_nosl (hm' n (by simp)))
              rw [← e, ← ep] at this
              exact this
            have hdir : L.countP (qDir p) = G.countP (qIn (names p)) := by have := h.dir hm; rw [← ep] at this; exact this
            unfold toldV
            simp only
            rw [hnm]
            rcases htv with ⟨hs, rfl⟩ | ⟨hs, r, hr', rfl⟩
            · rw [if_pos ((nodeV_neg ρ u).2 hs), hdir]; rfl
            · have e2 : nodeV ρ u = (ρ u.f : Int) := by unfold nodeV; rw [hs]; rfl
              rw [if_neg (fun e => by have := (nodeV_neg ρ u).1 e; rw [hs] at this; cases this), e2]
              have h1 := h.num.size _ hr'
              have h2 := h.num.links _ hr'
              simp only at h1 h2
              unfold filV
              rw [h1, h2, Int.toNat_natCast]
    · rw [if_pos h0, if_pos h0]
      exact ⟨rfl, fun _ => rfl, fun e => absurd e h0⟩
end
end Go.Proofs.YtfabjhgkigagpaaGreatDoor
