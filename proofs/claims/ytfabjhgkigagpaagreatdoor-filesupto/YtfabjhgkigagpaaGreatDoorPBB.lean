/- Files: the program's list of entries against the document's: what a step answers, and what it leaves. Pure. Files: what the steps leave: Mkdir, Link, Remove. Pure. Files: what the steps leave: Remove. Pure. -/
import Derived.Test.YtfabjhgkigagpaaGreatDoorPBA
namespace Go.Proofs.YtfabjhgkigagpaaGreatDoor
open Go.RowKit

set_option maxHeartbeats 1000000
set_option maxRecDepth 100000
structure Rl (G : Gh) (I : List (Int × VF)) (C : Int → ByteArray) (ρ : Int → Nat) (L : List (ByteArray × Int)) (F : List ByteArray) : Prop where
  eqL : L = G.map (vw ρ)
  ok : GOk G
  num : NumOk I ρ L F
  fl : ∀ x ∈ G, x.2.p = none → ∃ r, (x.2.f, r) ∈ I
  con : ∀ x ∈ I, F[ρ x.1]? = some (C x.1)
  pos : ∀ x ∈ I, 0 ≤ x.1
  lG : G.length ≤ 100
  lI : I.length ≤ 60
  sz : ∀ s ∈ F, s.size ≤ 1280
theorem Rl.C_le {G : Gh} {I : List (Int × VF)} {C : Int → ByteArray} {ρ : Int → Nat} {L : List (ByteArray × Int)} {F : List ByteArray} (h : Rl G I C ρ L F) : ∀ x ∈ I, (C x.1).size ≤ 1280 := fun x hx => h.sz _ (List.mem_of_getElem? (h.con x hx))
theorem Rl.l_eq {G : Gh} {I : List (Int × VF)} {C : Int → ByteArray} {ρ : Int → Nat} {L : List (ByteArray × Int)} {F : List ByteArray} (h : Rl G I C ρ L F) : ∀ x ∈ I, x.2.l = (C x.1).size := fun x hx => by
  rw [h.num.size x hx, h.con x hx]; rfl
theorem Rl.lL {G : Gh} {I : List (Int × VF)} {C : Int → ByteArray} {ρ : Int → Nat} {L : List (ByteArray × Int)} {F : List ByteArray} (h : Rl G I C ρ L F) : L.length = G.length := by rw [h.eqL, List.length_map]
theorem Rl.flOk {G : Gh} {I : List (Int × VF)} {C : Int → ByteArray} {ρ : Int → Nat} {L : List (ByteArray × Int)} {F : List ByteArray} (h : Rl G I C ρ L F) : FlOk G I := fun x hx hp => by
  obtain ⟨r, hr⟩ := h.fl x hx hp
  refine ⟨r, hr, ?_, ?_⟩
  · have h1 := h.num.links _ hr
    have h2 := h.num.live _ hr
    simp only at h1 h2
    omega
  · have h1 := h.num.links _ hr
    have h2 : L.countP (qFile (ρ x.2.f)) ≤ L.length := List.countP_le_length
    have h3 := h.lL
    have h4 := h.lG
    simp only at h1
    omega
theorem root_iff {p : ByteArray} (h : nmOk p = true) : (p.toList == [47]) = true ↔ names p = [] := by
  constructor
  · exact names_root
  · intro hn
    cases hr : (p.toList == [47]) with
    | true => rfl
    | false => exact absurd hn (path_names h hr).2.2.1
theorem not_root {p : ByteArray} (_h : nmOk p = true) (hn : names p ≠ []) : (p.toList == [47]) = false := by
  cases hr : (p.toList == [47]) with
  | true => exact absurd (names_root hr) hn
  | false => rfl
theorem path_jn {p : ByteArray} (h : nmOk p = true) (hn : names p ≠ []) : p = jn (names p) ∧ Nms (names p) := by
  obtain ⟨h1, h2, _, _⟩ := path_names h (not_root h hn)
  exact ⟨h1, h2⟩
section
variable {G : Gh} {I : List (Int × VF)} {C : Int → ByteArray} {ρ : Int → Nat} {L : List (ByteArray × Int)} {F : List ByteArray}
theorem Rl.ah (h : Rl G I C ρ L F) {p : ByteArray} (hp : nmOk p = true) : aheadR L p = ahG G (heads [] (names p)) := by
  by_cases hn : names p = []
  · rw [hn, aheadR_root L p ((root_iff hp).2 hn)]; rfl
  · obtain ⟨e, hm⟩ := path_jn hp hn
    have := aheadR_vw h.ok ρ hm hn
    rw [h.eqL]
    rw [← e] at this
    exact this
theorem Rl.ask (h : Rl G I C ρ L F) (p : ByteArray) : askR L p = if nmOk p = false then 1 else ahG G (heads [] (names p)) := by
  unfold askR
  cases hp : nmOk p with
  | false => rfl
  | true =>
    have := h.ah hp
    unfold aheadR at this
    simp only [if_true, this, Bool.true_eq_false, if_false]
theorem Rl.lk (h : Rl G I C ρ L F) {p : ByteArray} (hp : nmOk p = true) (hn : names p ≠ []) : look L p = (atG G (names p)).map (nodeV ρ) := by
  obtain ⟨e, hm⟩ := path_jn hp hn
  have := look_vw h.ok ρ hm
  rw [h.eqL]
  rw [← e] at this
  exact this
theorem Rl.dir (h : Rl G I C ρ L F) {ns : List ByteArray} (hm : Nms ns) : L.countP (qDir (jn ns)) = G.countP (qIn ns) := by rw [h.eqL, dir_vw h.ok ρ hm]
theorem dirOf_path {p : ByteArray} (hp : nmOk p = true) (hn : names p ≠ []) : dirOf p = jn (names p).dropLast ∧ Nms (names p).dropLast := by
  obtain ⟨e, hm⟩ := path_jn hp hn
  obtain ⟨d, n, e2⟩ := split_last hn
  rw [e2] at e hm
  rw [e2, List.dropLast_concat]
  refine ⟨?_, hm.left⟩
  conv => lhs; rw [e]
  exact dirOf_jn d n (okName_nosl (hm n (by simp)))
theorem Rl.nodes (h : Rl G I C ρ L F) : nodesR L F = cD G [] + I.length := by
  unfold nodesR
  rw [cD_root h.ok, ← h.num.length]
  congr 2
  rw [h.eqL, dirs_vw]
theorem Rl.room (h : Rl G I C ρ L F) {p : ByteArray} (hp : nmOk p = true) (hn : names p ≠ []) (n : Nat) : roomR L F p n = decide (G.countP (qIn (names p).dropLast) < 20 ∧ G.length < 100 ∧ cD G [] + I.length + n ≤ 60) := by
  obtain ⟨e1, e2⟩ := dirOf_path hp hn
  unfold roomR
  rw [e1, h.dir e2, h.lL, h.nodes]
theorem Rl.may (h : Rl G I C ρ L F) {p : ByteArray} (hp : nmOk p = true) (hn : names p ≠ []) : roomR L F p 1 = mayB G I (names p).dropLast := by
  rw [h.room hp hn, mayB, decide_eq_decide]
  constructor
  · rintro ⟨a, b, c⟩; exact ⟨⟨a, b⟩, by omega⟩
  · rintro ⟨⟨a, b⟩, c⟩; exact ⟨a, b, by omega⟩
theorem Rl.mayLink (h : Rl G I C ρ L F) {p : ByteArray} (hp : nmOk p = true) (hn : names p ≠ []) (hnod : cD G [] + I.length ≤ 60) : roomR L F p 0 = lnkB G (names p).dropLast := by
  rw [h.room hp hn, lnkB, decide_eq_decide]
  constructor
  · rintro ⟨a, b, c⟩; exact ⟨a, b⟩
  · rintro ⟨a, b⟩; exact ⟨a, b, by omega⟩
/-- The gap at a path: as the document tells it. -/
theorem Rl.gap (h : Rl G I C ρ L F) {p : ByteArray} (hp : nmOk p = true) : gapE G (names p) = if aheadR L p ≠ 0 then aheadR L p else if (p.toList == [47]) = true ∨ (look L p).isSome = true then 6 else 0 := by
  unfold gapE
  rw [h.ah hp]
  by_cases h0 : ahG G (heads [] (names p)) = 0
  · have hnn : ¬ (ahG G (heads [] (names p)) ≠ 0) := by simpa using h0
    rw [if_neg hnn, if_neg hnn]
    by_cases hn : names p = []
    · rw [if_pos (.inl hn), if_pos (.inl ((root_iff hp).2 hn))]
    · have e : ((names p = [] ∨ (atG G (names p)).isSome = true) ↔ ((p.toList == [47]) = true ∨ (look L p).isSome = true)) := by
        rw [h.lk hp hn, root_iff hp, Option.isSome_map]
      by_cases hc : names p = [] ∨ (atG G (names p)).isSome = true
      · rw [if_pos hc, if_pos (e.1 hc)]
      · rw [if_neg hc, if_neg (fun h => hc (e.2 h))]
  · rw [if_pos h0, if_pos h0]
theorem Rl.mkdirE (h : Rl G I C ρ L F) (p : ByteArray) : mkE G I p = (mkdirR L F p).1 ∧ (mkE G I p ≠ 0 → (mkdirR L F p).2 = L) ∧ (mkE G I p = 0 → (mkdirR L F p).2 = L ++ [(p, -1)] ∧ nmOk p = true ∧ names p ≠ [] ∧ atG G (names p) = none ∧ gapE G (names p) = 0 ∧ mayB G I (names p).dropLast = true) := by
  unfold mkE mkdirR askR
  cases hp : nmOk p with
  | false => simp
  | true =>
    have hg := h.gap hp
    have ha : aheadP L (prefs p (p.size - 1) 1) = aheadR L p := rfl
    simp only [if_true, ha, Bool.true_eq_false, if_false]
    by_cases h0 : aheadR L p = 0
    · rw [if_neg (show ¬ aheadR L p ≠ 0 by simpa using h0)] at hg ⊢
      by_cases h6 : (p.toList == [47]) = true ∨ (look L p).isSome = true
      · rw [if_pos h6] at hg ⊢
        rw [hg]; simp
      · rw [if_neg h6] at hg ⊢
        rw [hg]
        have hn : names p ≠ [] := fun e => h6 (.inl ((root_iff hp).2 e))
        have hat : atG G (names p) = none := by
          cases ha : atG G (names p) with
          | none => rfl
          | some u => exact absurd (.inr (by rw [h.lk hp hn, ha]; rfl)) h6
        rw [h.may hp hn]
        cases hm : mayB G I (names p).dropLast with
        | false => simp
        | true => simp [hn, hat]
    · rw [if_pos h0] at hg
      rw [hg, if_pos h0, if_pos h0]
      exact ⟨rfl, fun _ => rfl, fun e => absurd e h0⟩
end
end Go.Proofs.YtfabjhgkigagpaaGreatDoor
namespace Go.Proofs.YtfabjhgkigagpaaGreatDoor
open Go.RowKit

set_option maxHeartbeats 1000000
set_option maxRecDepth 100000
theorem ah_last {G : Gh} {ds : List ByteArray} {n : ByteArray} (h : ahG G (heads [] (ds ++ [n])) = 0) : ds = [] ∨ ∃ v, (ds, v) ∈ G ∧ v.p.isSome = true := by
  by_cases hne : ds = []
  · exact .inl hne
  · right
    have key : ∀ (A : List (List ByteArray)) (q : List ByteArray), ahG G (A ++ [q]) = 0 → ∃ v, atG G q = some v ∧ v.p.isSome = true := by
      intro A q
      induction A with
      | nil =>
        intro h
        rw [List.nil_append, ahG] at h
        cases ha : atG G q with
        | none => rw [ha] at h; simp at h
        | some u =>
          rw [ha] at h
          by_cases hu : u.p.isSome = true
          · exact ⟨u, rfl, hu⟩
          · simp [hu] at h
      | cons a A ih =>
        intro h
        rw [List.cons_append, ahG] at h
        cases ha : atG G a with
        | none => rw [ha] at h; simp at h
        | some u =>
          rw [ha] at h
          by_cases hu : u.p.isSome = true
          · simp only [hu, if_true] at h; exact ih h
          · simp [hu] at h
    rw [heads_app [] ds n [] hne] at h
    have e : heads ([] ++ ds) [n] = [] := rfl
    rw [e, List.nil_append] at h
    obtain ⟨v, hv, hs⟩ := key _ _ h
    exact ⟨v, atG_mem hv, hs⟩
theorem NumOk.congrL {I : List (Int × VF)} {ρ : Int → Nat} {L L' : List (ByteArray × Int)} {F : List ByteArray} (h : NumOk I ρ L F) (hc : ∀ f : Nat, L'.countP (qFile (f : Int)) = L.countP (qFile (f : Int))) : NumOk I ρ L' F :=
  ⟨h.nd, h.inj, h.lt, fun x hx => by rw [hc]; exact h.live x hx, fun f hf hl => h.all f hf (by rw [← hc]; exact hl), h.size, fun x hx => by rw [hc]; exact h.links x hx⟩
section
variable {G : Gh} {I : List (Int × VF)} {C : Int → ByteArray} {ρ : Int → Nat} {L : List (ByteArray × Int)} {F : List ByteArray}
theorem Rl.gokAdd (h : Rl G I C ρ L F) {p : ByteArray} (hp : nmOk p = true) (hn : names p ≠ []) (hat : atG G (names p) = none) (hg : gapE G (names p) = 0) (u : VS) : GOk (G ++ [(names p, u)]) := by
  have ha : ahG G (heads [] (names p)) = 0 := by
    unfold gapE at hg
    by_cases h0 : ahG G (heads [] (names p)) = 0
    · exact h0
    · rw [if_pos h0] at hg; exact hg
  refine h.ok.add (path_jn hp hn).2 hn (names_len hp) hat (fun ds n e => ?_) u
  rw [e] at ha
  exact ah_last ha
theorem Rl.addDir (h : Rl G I C ρ L F) {p : ByteArray} (hz : mkE G I p = 0) (nb : Nat) : Rl (G ++ [(names p, ⟨some ⟨nb, 0, none⟩, 0⟩)]) I C ρ (L ++ [(p, -1)]) F := by
  obtain ⟨_, hp, hn, hat, hg, hm⟩ := (h.mkdirE p).2.2 hz
  refine ⟨?_, h.gokAdd hp hn hat hg _, h.num.congrL (fun f => ?_), fun x hx hxp => ?_, h.con, h.pos, ?_, h.lI, h.sz⟩
  · rw [List.map_append, h.eqL]
    congr 1
    show [(p, (-1 : Int))] = [(jn (names p), nodeV ρ ⟨some ⟨nb, 0, none⟩, 0⟩)]
    rw [← (path_jn hp hn).1]; rfl
  · rw [List.countP_append]
    have : List.countP (qFile (f : Int)) [(p, (-1 : Int))] = 0 := by
      simp [qFile]
    omega
  · rcases List.mem_append.1 hx with hx | hx
    · exact h.fl x hx hxp
    · rw [List.mem_singleton.1 hx] at hxp; cases hxp
  · unfold mayB at hm
    have := (of_decide_eq_true hm).1.2
    simp; omega
theorem Rl.fE (h : Rl G I C ρ L F) {p : ByteArray} : fileE G p true = (if nmOk p = false then 1 else if aheadR L p ≠ 0 then aheadR L p else if (p.toList == [47]) = true then 5 else match look L p with | none => 3 | some f => if f < 0 then 5 else 0) := by
  unfold Go.Proofs.YtfabjhgkigagpaaGreatDoor.fileE locE
  cases hp : nmOk p with
  | false => simp
  | true =>
    have ha := h.ah hp
    simp only [Bool.true_eq_false, if_false, ha]
    by_cases h0 : ahG G (heads [] (names p)) = 0
    · have hnn : ¬ (ahG G (heads [] (names p)) ≠ 0) := by simpa using h0
      rw [if_neg hnn, if_neg hnn]
      by_cases hn : names p = []
      · rw [if_pos hn, if_pos ((root_iff hp).2 hn)]
      · rw [if_neg hn, if_neg (fun e => hn ((root_iff hp).1 e)), h.lk hp hn]
        cases hat : atG G (names p) with
        | none => rfl
        | some u =>
          simp only [Option.map_some]
          by_cases hu : u.p.isSome = true
          · rw [if_pos hu, if_pos ((nodeV_neg ρ u).2 hu)]
          · rw [if_neg hu, if_neg (fun e => hu ((nodeV_neg ρ u).1 e))]
    · rw [if_pos h0, if_pos h0]
theorem Rl.linkE (h : Rl G I C ρ L F) (hnod : cD G [] + I.length ≤ 60) (p q : ByteArray) : lnE G p q = (linkR L F p q).1 ∧ (lnE G p q ≠ 0 → (linkR L F p q).2 = L) ∧
    (lnE G p q = 0 → ∀ u, atG G (names p) = some u → u.p = none → (linkR L F p q).2 = L ++ [(q, (ρ u.f : Int))] ∧ nmOk q = true ∧ names q ≠ [] ∧ atG G (names q) = none ∧ gapE G (names q) = 0 ∧ lnkB G (names q).dropLast = true) := by
  unfold lnE linkR
  cases hq : nmOk q with
  | false => simp
  | true =>
    cases hp : nmOk p with
    | false =>
      have : Go.Proofs.YtfabjhgkigagpaaGreatDoor.fileE G p true = 1 := by rw [h.fE, if_pos hp]
      rw [this]; simp
    | true =>
      have hf := h.fE (p := p)
      rw [if_neg (by rw [hp]; simp)] at hf
      simp only [Bool.and_self, Bool.true_eq_false, if_false]
      by_cases h0 : aheadR L p = 0
      · have hnn : ¬ (aheadR L p ≠ 0) := by simpa using h0
        rw [if_neg hnn] at hf ⊢
        by_cases hr : (p.toList == [47]) = true
        · rw [if_pos hr] at hf ⊢; rw [hf]; simp
        · rw [if_neg hr] at hf ⊢
          have hn : names p ≠ [] := fun e => hr ((root_iff hp).2 e)
          have hlk := h.lk hp hn
          cases hat : atG G (names p) with
          | none =>
            rw [hat] at hlk
            rw [hlk] at hf ⊢
            simp only [Option.map_none] at hf ⊢
            rw [hf]; simp
          | some u =>
            rw [hat] at hlk
            rw [hlk] at hf ⊢
            simp only [Option.map_some] at hf ⊢
            by_cases hneg : nodeV ρ u < 0
            · rw [if_pos hneg] at hf ⊢; rw [hf]; simp
            · rw [if_neg hneg] at hf ⊢
              rw [hf]
              have hg := h.gap hq
              have hz : ¬ ((0 : Int) ≠ 0) := by simp
              rw [if_neg hz]
              by_cases h1 : aheadR L q = 0
              · have hnn1 : ¬ (aheadR L q ≠ 0) := by simpa using h1
                rw [if_neg hnn1] at hg ⊢
                by_cases h6 : (q.toList == [47]) = true ∨ (look L q).isSome = true
                · rw [if_pos h6] at hg ⊢; rw [hg]; simp
                · rw [if_neg h6] at hg ⊢
                  rw [hg, if_neg hz]
                  have hnq : names q ≠ [] := fun e => h6 (.inl ((root_iff hq).2 e))
                  have hatq : atG G (names q) = none := by
                    cases ha : atG G (names q) with
                    | none => rfl
                    | some v => exact absurd (.inr (by rw [h.lk hq hnq, ha]; rfl)) h6
                  rw [h.mayLink hq hnq hnod]
                  cases hm : lnkB G (names q).dropLast with
                  | false => simp
                  | true =>
                    simp only [Bool.true_eq_false, if_false]
                    refine ⟨by simp, by simp, fun _ v hv hvp => ?_⟩
                    cases hv
                    have e : nodeV ρ u = (ρ u.f : Int) := by unfold nodeV; rw [hvp]; rfl
                    simp [e, hnq, hatq]
              · rw [if_pos h1] at hg
                rw [hg, if_pos h1, if_pos h1]
                exact ⟨rfl, fun _ => rfl, fun e => absurd e h1⟩
      · rw [if_pos h0] at hf
        rw [hf, if_pos h0, if_pos h0]
        exact ⟨rfl, fun _ => rfl, fun e => absurd e h0⟩
/-- A number's file put over, its key as it was. -/
theorem IOver.keys {I I' : List (Int × VF)} {n : Int} {r r0 : VF} (h : IOver I I' n r) (hin : (n, r0) ∈ I) : (∀ x ∈ I', ∃ y ∈ I, y.1 = x.1) ∧ (∀ y ∈ I, ∃ x ∈ I', x.1 = y.1) := by
  refine ⟨fun x hx => ?_, fun y hy => ?_⟩
  · rcases (h.2 x).1 hx with rfl | ⟨hx', _⟩
    · exact ⟨_, hin, rfl⟩
    · exact ⟨x, hx', rfl⟩
  · by_cases e : y.1 = n
    · exact ⟨_, (h.2 _).2 (.inl rfl), e.symm⟩
    · exact ⟨y, (h.2 y).2 (.inr ⟨hy, e⟩), rfl⟩
theorem Rl.addLink (h : Rl G I C ρ L F) {q : ByteArray} (hq : nmOk q = true) (hn : names q ≠ []) (hat : atG G (names q) = none) (hg : gapE G (names q) = 0) (hl : lnkB G (names q).dropLast = true) {f : Int} {r : VF} (hin : (f, r) ∈ I) {I' : List (Int × VF)} (hio : IOver I I' f ⟨r.a, r.l, r.c, r.f + 1⟩) (hnd : (I'.map (·.1)).Nodup) :
    Rl (G ++ [(names q, ⟨none, f⟩)]) I' C ρ (L ++ [(q, (ρ f : Int))]) F := by
  obtain ⟨k1, k2⟩ := hio.keys hin
  have hc : ∀ g : Nat, (L ++ [(q, (ρ f : Int))]).countP (qFile (g : Int)) = L.countP (qFile (g : Int)) + if g = ρ f then 1 else 0 := fun g => by
    rw [List.countP_append, List.countP_singleton]
    congr 1
    unfold qFile
    by_cases e : g = ρ f
    · simp [e]
    · have : ¬ ((ρ f : Int) = (g : Int)) := fun e' => e (by omega)
      simp [e, this]
  refine ⟨?_, h.gokAdd hq hn hat hg _, ?_, fun x hx hxp => ?_, fun x hx => ?_, fun x hx => ?_, ?_, ?_, h.sz⟩
  · rw [List.map_append, h.eqL]
    congr 1
    show [(q, (ρ f : Int))] = [(jn (names q), nodeV ρ ⟨none, f⟩)]
    rw [← (path_jn hq hn).1]; rfl
  · refine ⟨hnd, fun x hx y hy e => ?_, fun x hx => ?_, fun x hx => ?_, fun g hg2 hlv => ?_, fun x hx => ?_, fun x hx => ?_⟩
    · obtain ⟨x', hx', e1⟩ := k1 x hx
      obtain ⟨y', hy', e2⟩ := k1 y hy
      rw [← e1, ← e2] at e ⊢
      exact h.num.inj x' hx' y' hy' e
    · obtain ⟨x', hx', e1⟩ := k1 x hx
      rw [← e1]; exact h.num.lt x' hx'
    · obtain ⟨x', hx', e1⟩ := k1 x hx
      rw [← e1, hc]
      have := h.num.live x' hx'
      omega
    · rw [hc] at hlv
      have : ∃ y ∈ I, ρ y.1 = g := by
        by_cases e : g = ρ f
        · exact ⟨_, hin, e.symm⟩
        · rw [if_neg e] at hlv
          exact h.num.all g hg2 (by omega)
      obtain ⟨y, hy, e⟩ := this
      obtain ⟨x, hx, e2⟩ := k2 y hy
      exact ⟨x, hx, by rw [e2]; exact e⟩
    · rcases (hio.2 x).1 hx with rfl | ⟨hx', _⟩
      · have := h.num.size (f, r) hin; exact this
      · exact h.num.size x hx'
    · rw [hc]
      rcases (hio.2 x).1 hx with rfl | ⟨hx', hne⟩
      · have := h.num.links _ hin
        simp only [if_true] at this ⊢
        omega
      · have hne' : ¬ ρ x.1 = ρ f := fun e => hne (h.num.inj x hx' _ hin e)
        rw [if_neg hne']
        exact h.num.links x hx'
  · rcases List.mem_append.1 hx with hx | hx
    · obtain ⟨r', hr'⟩ := h.fl x hx hxp
      obtain ⟨y, hy, e⟩ := k2 _ hr'
      exact ⟨y.2, by have e' : y.1 = x.2.f := e; rw [← e']; exact hy⟩
    · rw [List.mem_singleton.1 hx]
      exact ⟨_, (hio.2 _).2 (.inl rfl)⟩
  · obtain ⟨x', hx', e1⟩ := k1 x hx
    rw [← e1]; exact h.con x' hx'
  · obtain ⟨x', hx', e1⟩ := k1 x hx
    rw [← e1]; exact h.pos x' hx'
  · unfold lnkB at hl
    have := (of_decide_eq_true hl).2
    simp; omega
  · rw [hio.1]; exact h.lI
end
end Go.Proofs.YtfabjhgkigagpaaGreatDoor
namespace Go.Proofs.YtfabjhgkigagpaaGreatDoor
open Go.RowKit

set_option maxHeartbeats 1000000
set_option maxRecDepth 100000
def gErase (G : Gh) (ns : List ByteArray) : Gh := G.eraseP (fun x => decide (x.1 = ns))
theorem gErase_del {G : Gh} (hnd : (G.map (·.1)).Nodup) (ns : List ByteArray) : delG G (gErase G ns) ns := by
  induction G with
  | nil => intro x; simp [gErase]
  | cons y G ih =>
    rw [List.map_cons, List.nodup_cons] at hnd
    intro x
    unfold gErase
    by_cases hy : y.1 = ns
    · rw [List.eraseP_cons_of_pos (by simpa using hy)]
      constructor
      · intro hx
        exact ⟨List.mem_cons_of_mem _ hx, fun e => hnd.1 (by rw [hy, ← e]; exact List.mem_map_of_mem (f := (·.1)) hx)⟩
      · rintro ⟨hx, hne⟩
        rcases List.mem_cons.1 hx with rfl | hx
        · exact absurd hy hne
        · exact hx
    · rw [List.eraseP_cons_of_neg (by simpa using hy), List.mem_cons, List.mem_cons]
      have := ih hnd.2 x
      unfold gErase at this
      rw [this]
      constructor
      · rintro (rfl | ⟨h1, h2⟩)
        · exact ⟨.inl rfl, hy⟩
        · exact ⟨.inr h1, h2⟩
      · rintro ⟨rfl | h1, h2⟩
        · exact .inl rfl
        · exact .inr ⟨h1, h2⟩
theorem countP_gErase {G : Gh} (hnd : (G.map (·.1)).Nodup) {ns : List ByteArray} {u : VS} (h : (ns, u) ∈ G) (q : List ByteArray × VS → Bool) : G.countP q = (gErase G ns).countP q + if q (ns, u) = true then 1 else 0 := by
  induction G with
  | nil => cases h
  | cons y G ih =>
    rw [List.map_cons, List.nodup_cons] at hnd
    unfold gErase
    by_cases hy : y.1 = ns
    · rw [List.eraseP_cons_of_pos (by simpa using hy), List.countP_cons]
      rcases List.mem_cons.1 h with rfl | h
      · rfl
      · exact absurd (List.mem_map_of_mem (f := (·.1)) h) (by rw [← hy] at *; exact hnd.1)
    · rw [List.eraseP_cons_of_neg (by simpa using hy), List.countP_cons, List.countP_cons]
      rcases List.mem_cons.1 h with rfl | h
      · exact absurd rfl hy
      · have := ih hnd.2 h
        unfold gErase at this
        omega
theorem gErase_map {G : Gh} (hG : GOk G) (ρ : Int → Nat) {ns : List ByteArray} (hn : Nms ns) : remL (G.map (vw ρ)) (jn ns) = (gErase G ns).map (vw ρ) := by
  have key : ∀ (l : Gh), (∀ x ∈ l, Nms x.1) → (l.map (vw ρ)).eraseP (fun y => decide (y.1 = jn ns)) = (l.eraseP (fun x => decide (x.1 = ns))).map (vw ρ) := by
    intro l
    induction l with
    | nil => intro _; rfl
    | cons y l ih =>
      intro hl
      have hiff : (vw ρ y).1 = jn ns ↔ y.1 = ns := ⟨fun e => jn_inj (hl y (by simp)) hn e, fun e => by show jn y.1 = _; rw [e]⟩
      rw [List.map_cons]
      by_cases hy : y.1 = ns
      · rw [List.eraseP_cons_of_pos (by simpa using hiff.2 hy), List.eraseP_cons_of_pos (by simpa using hy)]
      · rw [List.eraseP_cons_of_neg (by simpa using fun e => hy (hiff.1 e)), List.eraseP_cons_of_neg (by simpa using hy), List.map_cons, ih (fun x hx => hl x (by simp [hx]))]
  unfold remL gErase
  exact key G hG.nms
theorem gErase_sub (G : Gh) (ns : List ByteArray) : List.Sublist (gErase G ns) G := List.eraseP_sublist
theorem GOk.erase {G : Gh} (h : GOk G) {ns : List ByteArray} {u : VS} (hu : (ns, u) ∈ G) (hno : u.p.isSome = true → G.countP (qIn ns) = 0) : GOk (gErase G ns) := by
  have hd := gErase_del h.nd ns
  refine ⟨fun x hx => h.nms x ((hd x).1 hx).1, fun x hx => h.ne x ((hd x).1 hx).1, fun x hx => h.le x ((hd x).1 hx).1, List.Nodup.sublist ((gErase_sub G ns).map _) h.nd, fun ds n v hx => ?_⟩
  have hx' := ((hd _).1 hx).1
  rcases h.up ds n v hx' with e | ⟨v', hv', hs⟩
  · exact .inl e
  · refine .inr ⟨v', (hd _).2 ⟨hv', fun e => ?_⟩, hs⟩
    simp only at e
    subst e
    rw [nodup_fst h.nd hv' hu] at hs
    have := hno hs
    rw [List.countP_eq_zero] at this
    exact this _ hx' (by simp [qIn])
section
variable {G : Gh} {I : List (Int × VF)} {C : Int → ByteArray} {ρ : Int → Nat} {L : List (ByteArray × Int)} {F : List ByteArray}
theorem Rl.removeE (h : Rl G I C ρ L F) (p : ByteArray) : rmE G p = (removeR L p).1 ∧ (rmE G p ≠ 0 → (removeR L p).2 = L) ∧ (rmE G p = 0 → ∀ u, atG G (names p) = some u → (removeR L p).2 = remL L p ∧ nmOk p = true ∧ names p ≠ [] ∧ (u.p.isSome = true → G.countP (qIn (names p)) = 0)) := by
  unfold rmE thE locE removeR
  rw [h.ask p]
  cases hp : nmOk p with
  | false => simp
  | true =>
    simp only [Bool.true_eq_false, if_false]
    by_cases h0 : ahG G (heads [] (names p)) = 0
    · have hnn : ¬ (ahG G (heads [] (names p)) ≠ 0) := by simpa using h0
      have hz : ¬ ((0 : Int) ≠ 0) := by simp
      simp only [if_neg hnn]
      by_cases hn : names p = []
      · have hr := (root_iff hp).2 hn
        have hnot : ¬ (names p ≠ [] ∧ atG G (names p) = none) := fun e => e.1 hn
        simp only [if_neg hnot, if_neg hz, if_pos hn, if_pos hr]
        simp
      · have hr : ¬ (p.toList == [47]) = true := fun e => hn ((root_iff hp).1 e)
        obtain ⟨ep, hm⟩ := path_jn hp hn
        have hdir : L.countP (qDir p) = G.countP (qIn (names p)) := by have := h.dir hm; rw [← ep] at this; exact this
        rw [if_neg hr, h.lk hp hn]
        cases hat : atG G (names p) with
        | none => simp [hn]
        | some u =>
          simp only [Option.map_some]
          have hnot : ¬ (names p ≠ [] ∧ (some u : Option VS) = none) := fun e => by cases e.2
          simp only [if_neg hnot, if_neg hz, if_neg hn, hdir]
          have hiff : (nodeV ρ u < 0 ∧ 0 < G.countP (qIn (names p))) ↔ (u.p.isSome = true ∧ 0 < G.countP (qIn (names p))) := by rw [nodeV_neg]
          by_cases hc : u.p.isSome = true ∧ 0 < G.countP (qIn (names p))
          · rw [if_pos hc, if_pos (hiff.2 hc)]; simp
          · rw [if_neg hc, if_neg (fun e => hc (hiff.1 e))]
            refine ⟨rfl, by simp, fun _ v hv => ⟨rfl, trivial, hn, fun hs => ?_⟩⟩
            cases hv
            rcases Nat.eq_zero_or_pos (G.countP (qIn (names p))) with e | e
            · exact e
            · exact absurd ⟨hs, e⟩ hc
    · simp only [if_pos h0]
      exact ⟨trivial, fun _ => trivial, fun e => absurd e h0⟩
theorem Rl.delDir (h : Rl G I C ρ L F) {p : ByteArray} (hp : nmOk p = true) (hn : names p ≠ []) {u : VS} (hat : atG G (names p) = some u) (hu : u.p.isSome = true) (h0 : G.countP (qIn (names p)) = 0) : Rl (gErase G (names p)) I C ρ (remL L p) F := by
  obtain ⟨ep, hm⟩ := path_jn hp hn
  have hin := atG_mem hat
  have hd := gErase_del h.ok.nd (names p)
  have hL' : remL L p = (gErase G (names p)).map (vw ρ) := by
    rw [h.eqL]
    conv => lhs; rw [ep]
    exact gErase_map h.ok ρ hm
  refine ⟨hL', h.ok.erase hin (fun _ => h0), h.num.congrL (fun f => ?_), fun x hx hxp => h.fl x ((hd x).1 hx).1 hxp, h.con, h.pos, Nat.le_trans (gErase_sub G _).length_le h.lG, h.lI, h.sz⟩
  rw [hL', h.eqL, List.countP_map, List.countP_map, countP_gErase h.ok.nd hin]
  have : ¬ ((qFile (f : Int)) ∘ vw ρ) (names p, u) = true := by
    show ¬ (nodeV ρ u == (f : Int)) = true
    have := (nodeV_neg ρ u).2 hu
    simp; omega
  rw [if_neg this]; rfl
theorem Rl.delFile (h : Rl G I C ρ L F) {p : ByteArray} (hp : nmOk p = true) (hn : names p ≠ []) {u : VS} (hat : atG G (names p) = some u) (hu : u.p = none) {r : VF} (hin : (u.f, r) ∈ I) {I' : List (Int × VF)} (hc : (r.f = 1 ∧ IDrop I I' u.f) ∨ (r.f ≠ 1 ∧ IOver I I' u.f ⟨r.a, r.l, r.c, r.f - 1⟩)) (hnd : (I'.map (·.1)).Nodup) :
    Rl (gErase G (names p)) I' C ρ (remL L p) F := by
  obtain ⟨ep, hm⟩ := path_jn hp hn
  have hG := atG_mem hat
  have hd := gErase_del h.ok.nd (names p)
  have hL' : remL L p = (gErase G (names p)).map (vw ρ) := by
    rw [h.eqL]
    conv => lhs; rw [ep]
    exact gErase_map h.ok ρ hm
  have hcnt : ∀ g : Nat, L.countP (qFile (g : Int)) = (remL L p).countP (qFile (g : Int)) + if g = ρ u.f then 1 else 0 := fun g => by
    rw [hL', h.eqL, List.countP_map, List.countP_map, countP_gErase h.ok.nd hG]
    congr 1
    have e : nodeV ρ u = (ρ u.f : Int) := by unfold nodeV; rw [hu]; rfl
    have : (((qFile (g : Int)) ∘ vw ρ) (names p, u) = true) ↔ g = ρ u.f := by
      show (nodeV ρ u == (g : Int)) = true ↔ _
      rw [e, beq_iff_eq]; omega
    by_cases hg : g = ρ u.f
    · rw [if_pos (this.2 hg), if_pos hg]
    · rw [if_neg (fun e => hg (this.1 e)), if_neg hg]
  have hl := h.num.links _ hin
  have hlv := h.num.live _ hin
  simp only at hl hlv
  have hcf := hcnt (ρ u.f)
  rw [if_pos rfl] at hcf
  have hok := h.ok.erase hG (fun hs => by rw [hu] at hs; cases hs)
  have hne : ∀ x ∈ I, x.1 ≠ u.f → ρ x.1 ≠ ρ u.f := fun x hx hx1 e => hx1 (h.num.inj x hx _ hin e)
  rcases hc with ⟨h1, hid⟩ | ⟨h1, hio⟩
  · refine ⟨hL', hok, ⟨hnd, fun x hx y hy e => ?_, fun x hx => ?_, fun x hx => ?_, fun g hg hlg => ?_, fun x hx => ?_, fun x hx => ?_⟩, fun x hx hxp => ?_, fun x hx => ?_, fun x hx => ?_, Nat.le_trans (gErase_sub G _).length_le h.lG, ?_, h.sz⟩
    · exact h.num.inj x ((hid.2 x).1 hx).1 y ((hid.2 y).1 hy).1 e
    · exact h.num.lt x ((hid.2 x).1 hx).1
    · obtain ⟨hx', hx1⟩ := (hid.2 x).1 hx
      have := h.num.live x hx'
      rw [hcnt, if_neg (hne x hx' hx1)] at this
      exact this
    · have hgl : 0 < L.countP (qFile (g : Int)) := by rw [hcnt]; omega
      obtain ⟨x, hx, e⟩ := h.num.all g hg hgl
      refine ⟨x, (hid.2 x).2 ⟨hx, fun e1 => ?_⟩, e⟩
      rw [e1] at e
      rw [← e] at hlg
      omega
    · exact h.num.size x ((hid.2 x).1 hx).1
    · obtain ⟨hx', hx1⟩ := (hid.2 x).1 hx
      have := h.num.links x hx'
      rw [hcnt, if_neg (hne x hx' hx1)] at this
      exact this
    · obtain ⟨hx1, hx2⟩ := (hd x).1 hx
      obtain ⟨r', hr'⟩ := h.fl x hx1 hxp
      refine ⟨r', (hid.2 _).2 ⟨hr', fun e => ?_⟩⟩
      simp only at e
      have hx3 : 0 < (remL L p).countP (qFile (ρ u.f : Int)) := by
        rw [hL', List.countP_pos_iff]
        refine ⟨vw ρ x, List.mem_map_of_mem hx, ?_⟩
        show (nodeV ρ x.2 == (ρ u.f : Int)) = true
        unfold nodeV; rw [hxp, e]; simp
      omega
    · exact h.con x ((hid.2 x).1 hx).1
    · exact h.pos x ((hid.2 x).1 hx).1
    · have := hid.1; have := h.lI; omega
  · obtain ⟨k1, k2⟩ := hio.keys hin
    refine ⟨hL', hok, ⟨hnd, fun x hx y hy e => ?_, fun x hx => ?_, fun x hx => ?_, fun g hg hlg => ?_, fun x hx => ?_, fun x hx => ?_⟩, fun x hx hxp => ?_, fun x hx => ?_, fun x hx => ?_, Nat.le_trans (gErase_sub G _).length_le h.lG, by rw [hio.1]; exact h.lI, h.sz⟩
    · obtain ⟨x', hx', e1⟩ := k1 x hx
      obtain ⟨y', hy', e2⟩ := k1 y hy
      rw [← e1, ← e2] at e ⊢
      exact h.num.inj x' hx' y' hy' e
    · obtain ⟨x', hx', e1⟩ := k1 x hx
      rw [← e1]; exact h.num.lt x' hx'
    · rcases (hio.2 x).1 hx with rfl | ⟨hx', hx1⟩
      · simp only; omega
      · have := h.num.live x hx'
        rw [hcnt, if_neg (hne x hx' hx1)] at this
        exact this
    · have hgl : 0 < L.countP (qFile (g : Int)) := by rw [hcnt]; omega
      obtain ⟨y, hy, e⟩ := h.num.all g hg hgl
      obtain ⟨x, hx, e2⟩ := k2 y hy
      exact ⟨x, hx, by rw [e2]; exact e⟩
    · rcases (hio.2 x).1 hx with rfl | ⟨hx', _⟩
      · have := h.num.size (u.f, r) hin; exact this
      · exact h.num.size x hx'
    · rcases (hio.2 x).1 hx with rfl | ⟨hx', hx1⟩
      · simp only; omega
      · have := h.num.links x hx'
        rw [hcnt, if_neg (hne x hx' hx1)] at this
        exact this
    · obtain ⟨r', hr'⟩ := h.fl x ((hd x).1 hx).1 hxp
      obtain ⟨y, hy, e⟩ := k2 _ hr'
      exact ⟨y.2, by have e' : y.1 = x.2.f := e; rw [← e']; exact hy⟩
    · obtain ⟨x', hx', e1⟩ := k1 x hx
      rw [← e1]; exact h.con x' hx'
    · obtain ⟨x', hx', e1⟩ := k1 x hx
      rw [← e1]; exact h.pos x' hx'
end
end Go.Proofs.YtfabjhgkigagpaaGreatDoor
