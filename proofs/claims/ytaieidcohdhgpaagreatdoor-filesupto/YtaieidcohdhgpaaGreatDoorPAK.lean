/- Files. -/
import Derived.Test.YtaieidcohdhgpaaGreatDoorPAJ
namespace Go.Proofs.YtaieidcohdhgpaaGreatDoor
open Go.RowKit
set_option maxHeartbeats 1000000
set_option maxRecDepth 100000
def qB (ns : List ByteArray) (x : List ByteArray × VS) : Bool := decide (ns.length < x.1.length ∧ ns <+: x.1)
def qP (ns : List ByteArray) (x : List ByteArray × VS) : Bool := decide (ns <+: x.1)
theorem countP_or_disj {α : Type} (p q : α → Bool) : ∀ (l : List α), (∀ x ∈ l, ¬ (p x = true ∧ q x = true)) → l.countP (fun x => p x || q x) = l.countP p + l.countP q
 | [], _ => rfl
 | a :: l, h => by
  rw [List.countP_cons, List.countP_cons, List.countP_cons, countP_or_disj p q l (fun x hx => h x (by simp [hx]))]
  have := h a (by simp)
  cases hp : p a <;> cases hq : q a <;> simp [hp, hq] at this ⊢ <;> omega
theorem countP_congr' {α : Type} {p q : α → Bool} {l : List α} (h : ∀ x ∈ l, p x = q x) : l.countP p = l.countP q := List.countP_congr (fun x hx => by rw [h x hx])
def cntK (G : Gh) (r : List ByteArray × VS → Bool) (ns : List ByteArray) (ks : List ByteArray) : Nat := G.countP (fun x => r x && ks.any (fun n => qP (ns ++ [n]) x))
theorem pre_uniq {ns : List ByteArray} {n m : ByteArray} {x : List ByteArray} (h1 : ns ++ [n] <+: x) (h2 : ns ++ [m] <+: x) : n = m := by
 obtain ⟨r, rfl⟩ := h1
 obtain ⟨s, e⟩ := h2
 rw [List.append_assoc, List.append_assoc] at e
 have := List.append_cancel_left e
 simp at this; exact this.1.symm
theorem cntK_snoc (G : Gh) (r : List ByteArray × VS → Bool) (ns : List ByteArray) (ks : List ByteArray) (n : ByteArray) (hn : n ∉ ks) :
  cntK G r ns (ks ++ [n]) = cntK G r ns ks + G.countP (fun x => r x && qP (ns ++ [n]) x) := by
 unfold cntK
 rw [← countP_or_disj]
 ·refine countP_congr' (fun x _ => ?_)
  rw [List.any_append]
  cases r x <;> simp
 ·rintro x _ ⟨h1, h2⟩
  simp only [Bool.and_eq_true, List.any_eq_true] at h1 h2
  obtain ⟨_, m, hm, hp⟩ := h1
  have h3 := h2.2
  unfold qP at hp h3
  rw [decide_eq_true_eq] at hp h3
  rw [pre_uniq h3 hp] at hn
  exact hn hm
theorem countP_one {G : Gh} (hnd : (G.map (·.1)).Nodup) (r : List ByteArray × VS → Bool) {ns : List ByteArray} {u : VS} (h : (ns, u) ∈ G) : G.countP (fun x => r x && decide (x.1 = ns)) = if r (ns, u) = true then 1 else 0 := by
 induction G with
 | nil => cases h
 | cons y G ih =>
  rw [List.map_cons, List.nodup_cons] at hnd
  rw [List.countP_cons]
  rcases List.mem_cons.1 h with rfl | h
  ·have : G.countP (fun x => r x && decide (x.1 = ns)) = 0 := by
    rw [List.countP_eq_zero]
    intro x hx
    have : x.1 ≠ ns := fun e => hnd.1 (by rw [← e]; exact List.mem_map_of_mem (f := (·.1)) hx)
    simp [this]
   rw [this]
   cases hr : r (ns, u) <;> simp
  ·rw [ih hnd.2 h]
   have : y.1 ≠ ns := fun e => hnd.1 (by rw [e]; exact List.mem_map_of_mem (f := (·.1)) h)
   simp [this]
theorem countP_at {G : Gh} (hnd : (G.map (·.1)).Nodup) (r : List ByteArray × VS → Bool) {ns : List ByteArray} {u : VS} (h : (ns, u) ∈ G) :
  G.countP (fun x => r x && qP ns x) = (if r (ns, u) = true then 1 else 0) + G.countP (fun x => r x && qB ns x) := by
 rw [← countP_one hnd r h, ← countP_or_disj]
 ·refine countP_congr' (fun x _ => ?_)
  have : qP ns x = (decide (x.1 = ns) || qB ns x) := by
   unfold qP qB
   rw [Bool.eq_iff_iff, Bool.or_eq_true, decide_eq_true_eq, decide_eq_true_eq, decide_eq_true_eq]
   constructor
   ·intro hp
    rcases Nat.lt_or_ge ns.length x.1.length with hl | hl
    ·exact .inr ⟨hl, hp⟩
    ·exact .inl (hp.eq_of_length_le hl).symm
   ·rintro (e | ⟨_, hp⟩)
    ·rw [e]; exact List.prefix_refl _
    ·exact hp
  rw [this]
  cases r x <;> simp
 ·rintro x _ ⟨h1, h2⟩
  simp only [Bool.and_eq_true, decide_eq_true_eq, qB] at h1 h2
  rw [h1.2] at h2; omega
theorem GOk.pre {G : Gh} (h : GOk G) : ∀ (k : Nat) (x : List ByteArray × VS), x ∈ G → ∀ ns, ns ≠ [] → ns <+: x.1 → x.1.length = ns.length + k → 0 < k → ∃ v, (ns, v) ∈ G ∧ v.p.isSome = true := by
 intro k
 induction k with
 | zero => intro _ _ _ _ _ _ h0; omega
 | succ k ih =>
  intro x hx ns hne hp hl _
  obtain ⟨d, n, e⟩ := split_last (h.ne x hx)
  have hx' : (d ++ [n], x.2) ∈ G := by rw [← e]; exact hx
  have hpd : ns <+: d := by
   rw [e] at hp hl
   exact List.prefix_of_prefix_length_le hp (List.prefix_append d [n]) (by simp at hl; omega)
  have hd : d ≠ [] := fun e2 => by rw [e2] at hpd; exact hne (List.prefix_nil.1 hpd)
  rcases h.up d n x.2 hx' with e2 | ⟨v, hv, hd2⟩
  ·exact absurd e2 hd
  ·have hl2 : d.length = ns.length + k := by rw [e] at hl; simp at hl; omega
   cases k with
   | zero => exact ⟨v, by rw [hpd.eq_of_length_le (by omega)]; exact hv, hd2⟩
   | succ k => exact ih (d, v) hv ns hne hpd hl2 (by omega)
theorem GOk.pre' {G : Gh} (h : GOk G) {x : List ByteArray × VS} (hx : x ∈ G) {ns : List ByteArray} (hne : ns ≠ []) (hq : qB ns x = true) : ∃ v, (ns, v) ∈ G ∧ v.p.isSome = true := by
 unfold qB at hq
 rw [decide_eq_true_eq] at hq
 exact h.pre (x.1.length - ns.length) x hx ns hne hq.2 (by omega) (by omega)
theorem below_file {G : Gh} (h : GOk G) (r : List ByteArray × VS → Bool) {ns : List ByteArray} {u : VS} (hu : (ns, u) ∈ G) (hf : u.p = none) : G.countP (fun x => r x && qB ns x) = 0 := by
 rw [List.countP_eq_zero]
 intro x hx hq
 rw [Bool.and_eq_true] at hq
 obtain ⟨v, hv, hs⟩ := h.pre' hx (h.ne _ hu) hq.2
 rw [nodup_fst h.nd hv hu, hf] at hs; cases hs
def keys (es : List (ByteArray × VS)) : List ByteArray := es.map (·.1)
theorem cntK_all {G : Gh} (h : GOk G) (r : List ByteArray × VS → Bool) {ns : List ByteArray} {es : List (ByteArray × VS)} (he : EnOk G ns es) : cntK G r ns (keys es) = G.countP (fun x => r x && qB ns x) := by
 unfold cntK
 refine countP_congr' (fun x hx => ?_)
 have : (keys es).any (fun n => qP (ns ++ [n]) x) = qB ns x := by
  rw [Bool.eq_iff_iff, List.any_eq_true]
  unfold qB qP
  constructor
  ·rintro ⟨n, hn, hp⟩
   rw [decide_eq_true_eq] at hp ⊢
   have hl := hp.length_le
   simp at hl
   exact ⟨by omega, (List.prefix_append ns [n]).trans hp⟩
  ·intro hq
   rw [decide_eq_true_eq] at hq
   obtain ⟨hl, t, ht⟩ := hq
   cases t with
   | nil => rw [← ht] at hl; simp at hl
   | cons n t =>
    refine ⟨n, ?_, by rw [decide_eq_true_eq, ← ht]; exact ⟨t, by simp⟩⟩
    have : ∃ u, (ns ++ [n], u) ∈ G := by
     by_cases ht2 : t = []
     ·subst ht2; exact ⟨x.2, by rw [ht]; exact hx⟩
     ·obtain ⟨v, hv, _⟩ := h.pre' hx (ns := ns ++ [n]) (by simp) (by
       unfold qB; rw [decide_eq_true_eq, ← ht]
       refine ⟨?_, ⟨t, by simp⟩⟩
       cases t with
       | nil => exact absurd rfl ht2
       | cons m t => simp)
      exact ⟨v, hv⟩
    obtain ⟨u, hu⟩ := this
    exact List.mem_map.2 ⟨(n, u), (he n u).2 hu, rfl⟩
 rw [this]
def cD (G : Gh) (ns : List ByteArray) : Nat := 1 + G.countP (fun x => x.2.p.isSome && qB ns x)
def cE (G : Gh) (ns : List ByteArray) : Nat := G.countP (fun x => true && qB ns x)
theorem keys_take (es : List (ByteArray × VS)) (k : Nat) (h : k < es.length) : keys (es.take (k + 1)) = keys (es.take k) ++ [es[k].1] := by
 unfold keys
 have : es.take (k + 1) = es.take k ++ [es[k]] := by rw [List.take_add_one, List.getElem?_eq_getElem h]; rfl
 rw [this, List.map_append]; rfl
theorem key_new {es : List (ByteArray × VS)} (hs : SrtS es) (k : Nat) (h : k < es.length) : es[k].1 ∉ keys (es.take k) := fun hm => by
 unfold keys at hm
 obtain ⟨y, hy, e⟩ := List.mem_map.1 hm
 obtain ⟨j, hj, e2⟩ := List.getElem_of_mem hy
 have hj' : j < k := by simp at hj; omega
 have := hs j k y es[k] hj' (by rw [← e2, List.getElem_take]; exact List.getElem?_eq_getElem _) (List.getElem?_eq_getElem h)
 rw [e, ltS_irr] at this; cases this
theorem cnt_step {G : Gh} (hG : GOk G) (r : List ByteArray × VS → Bool) {ns : List ByteArray} {es : List (ByteArray × VS)} (hs : SrtS es) (he : EnOk G ns es) (k : Nat) (h : k < es.length) :
  cntK G r ns (keys (es.take (k + 1))) = cntK G r ns (keys (es.take k)) + ((if r (ns ++ [es[k].1], es[k].2) = true then 1 else 0) + G.countP (fun x => r x && qB (ns ++ [es[k].1]) x)) := by
 rw [keys_take es k h, cntK_snoc _ _ _ _ _ (key_new hs k h), countP_at hG.nd r ((he es[k].1 es[k].2).1 (List.getElem_mem h))]
theorem cE_root {G : Gh} (h : GOk G) : cE G [] = G.length := by
 unfold cE
 refine List.countP_eq_length.2 (fun x hx => ?_)
 have := h.ne x hx
 simp only [qB, Bool.true_and, decide_eq_true_eq]
 exact ⟨by cases hx1 : x.1 with
  | nil => exact absurd hx1 this
  | cons a l => simp, List.nil_prefix⟩
theorem cD_root {G : Gh} (h : GOk G) : cD G [] = 1 + G.countP (fun x => x.2.p.isSome) := by
 unfold cD
 congr 1
 refine countP_congr' (fun x hx => ?_)
 have := h.ne x hx
 have : qB [] x = true := by
  simp only [qB, decide_eq_true_eq]
  exact ⟨by cases hx1 : x.1 with
   | nil => exact absurd hx1 this
   | cons a l => simp, List.nil_prefix⟩
 rw [this, Bool.and_true]
def Hgt (G : Gh) (q : List ByteArray × VS → Bool) (m h : Nat) : Prop := (∀ x ∈ G, q x = true → x.1.length ≤ m + h) ∧ (h = 0 ∨ ∃ x ∈ G, q x = true ∧ x.1.length = m + h)
structure NumOk (I : List (Int × VF)) (ρ : Int → Nat) (L : List (ByteArray × Int)) (F : List ByteArray) : Prop where
 nd : (I.map (·.1)).Nodup
 inj : ∀ x ∈ I, ∀ y ∈ I, ρ x.1 = ρ y.1 → x.1 = y.1
 lt : ∀ x ∈ I, ρ x.1 < F.length
 live : ∀ x ∈ I, 0 < L.countP (qFile (ρ x.1))
 all : ∀ f : Nat, f < F.length → 0 < L.countP (qFile f) → ∃ x ∈ I, ρ x.1 = f
 size : ∀ x ∈ I, x.2.l = (F[ρ x.1]?.getD ⟨#[]⟩).size
 links : ∀ x ∈ I, x.2.f = (L.countP (qFile (ρ x.1)) : Nat)
theorem NumOk.perm {I : List (Int × VF)} {ρ : Int → Nat} {L : List (ByteArray × Int)} {F : List ByteArray} (h : NumOk I ρ L F) :
  List.Perm (I.map (fun x => ρ x.1)) ((List.range F.length).filter (fun f : Nat => decide (0 < L.countP (qFile (f : Int))))) := by
 refine (List.perm_ext_iff_of_nodup (nodup_map_inj _ (nodup_of_fst h.nd) (fun x hx y hy e => ?_)) (List.nodup_range.filter _)).2 (fun f => ?_)
 ·have e1 := h.inj x hx y hy e
  have : x.2 = y.2 := nodup_fst h.nd (a := x.1) hx (by rw [e1]; exact hy)
  exact Prod.ext e1 this
 ·rw [List.mem_map, List.mem_filter, List.mem_range, decide_eq_true_eq]
  constructor
  ·rintro ⟨x, hx, rfl⟩; exact ⟨h.lt x hx, h.live x hx⟩
  ·rintro ⟨h1, h2⟩; obtain ⟨x, hx, e⟩ := h.all f h1 h2; exact ⟨x, hx, e⟩
theorem NumOk.length {I : List (Int × VF)} {ρ : Int → Nat} {L : List (ByteArray × Int)} {F : List ByteArray} (h : NumOk I ρ L F) : I.length = liveT L F.length := by
 unfold liveT
 rw [List.countP_eq_length_filter, ← h.perm.length_eq, List.length_map]
theorem useT_sum (L : List (ByteArray × Int)) (F : List ByteArray) (k : Nat) : useT L F k = (((List.range k).filter (fun f : Nat => decide (0 < L.countP (qFile (f : Int))))).map (fun f => ((F[f]?.getD ⟨#[]⟩).size + 63) / 64)).sum := by
 induction k with
 | zero => rfl
 | succ k ih =>
  rw [useT, ih, List.range_succ, List.filter_append, List.map_append, List.sum_append]
  by_cases h : 0 < L.countP (qFile (k : Int))
  ·simp [h]
  ·simp [h]
def useI (I : List (Int × VF)) : Nat := (I.map (fun x => (x.2.l + 63) / 64)).sum
theorem NumOk.usage {I : List (Int × VF)} {ρ : Int → Nat} {L : List (ByteArray × Int)} {F : List ByteArray} (h : NumOk I ρ L F) : useI I = usageR L F := by
 unfold useI usageR
 rw [useT_sum, ← (h.perm.map _).sum_nat, List.map_map]
 congr 1
 refine List.map_congr_left (fun x hx => ?_)
 show (x.2.l + 63) / 64 = _
 rw [h.size x hx]; rfl
end Go.Proofs.YtaieidcohdhgpaaGreatDoor
