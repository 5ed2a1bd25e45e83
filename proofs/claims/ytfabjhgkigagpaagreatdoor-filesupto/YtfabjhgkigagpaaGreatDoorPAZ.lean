/- Files: how the directories in memory follow a move. -/
import Derived.Test.YtfabjhgkigagpaaGreatDoorPAY
namespace Go.Proofs.YtfabjhgkigagpaaGreatDoor
open Go.RowKit

set_option maxHeartbeats 1000000
set_option maxRecDepth 100000
def mvP (a t ns : List ByteArray) : List ByteArray := if a <+: ns then t ++ ns.drop a.length else ns
def mvG (G : Gh) (a t : List ByteArray) : Gh := G.map (fun x => (mvP a t x.1, x.2))
theorem mvP_in (a t r : List ByteArray) : mvP a t (a ++ r) = t ++ r := by unfold mvP; rw [if_pos ⟨r, rfl⟩]; simp
theorem mvP_out {a t ns : List ByteArray} (h : ¬ a <+: ns) : mvP a t ns = ns := by unfold mvP; rw [if_neg h]
/-- What a move asks. -/
structure MvOk (G : Gh) (a t : List ByteArray) (u : VS) : Prop where
  ok : GOk G
  here : (a, u) ∈ G
  gap : ∀ v, (t, v) ∉ G
  nt : ¬ a <+: t
  nms : Nms t
  ne : t ≠ []
  le : t.length ≤ 6
  up : ∀ ds n, t = ds ++ [n] → ds = [] ∨ ∃ v, (ds, v) ∈ G ∧ v.p.isSome = true
  deep : ∀ x ∈ G, a <+: x.1 → x.1.length - a.length + t.length ≤ 6
theorem MvOk.noT {G : Gh} {a t : List ByteArray} {u : VS} (h : MvOk G a t u) {x : List ByteArray × VS} (hx : x ∈ G) : ¬ t <+: x.1 := fun hp => by
  rcases Nat.lt_or_ge t.length x.1.length with hl | hl
  · obtain ⟨v, hv, _⟩ := h.ok.pre' hx h.ne (by unfold qB; rw [decide_eq_true_eq]; exact ⟨hl, hp⟩)
    exact h.gap v hv
  · have e := hp.eq_of_length_le hl
    exact h.gap x.2 (by rw [e]; exact hx)
theorem MvOk.inj {G : Gh} {a t : List ByteArray} {u : VS} (h : MvOk G a t u) {x y : List ByteArray × VS} (hx : x ∈ G) (hy : y ∈ G) (e : mvP a t x.1 = mvP a t y.1) : x.1 = y.1 := by
  by_cases hax : a <+: x.1
  · obtain ⟨r, hr⟩ := hax
    rw [← hr, mvP_in] at e
    by_cases hay : a <+: y.1
    · obtain ⟨s, hs⟩ := hay
      rw [← hs, mvP_in] at e
      rw [← hr, ← hs, List.append_cancel_left e]
    · rw [mvP_out hay] at e
      exact absurd ⟨r, e⟩ (h.noT hy)
  · rw [mvP_out hax] at e
    by_cases hay : a <+: y.1
    · obtain ⟨s, hs⟩ := hay
      rw [← hs, mvP_in] at e
      exact absurd ⟨s, e.symm⟩ (h.noT hx)
    · rw [mvP_out hay] at e; exact e
theorem mem_mvG {G : Gh} {a t : List ByteArray} {ns : List ByteArray} {v : VS} : (ns, v) ∈ mvG G a t ↔ ∃ y, (y, v) ∈ G ∧ mvP a t y = ns := by
  unfold mvG
  rw [List.mem_map]
  constructor
  · rintro ⟨x, hx, e⟩
    obtain ⟨e1, e2⟩ := Prod.mk.inj e
    exact ⟨x.1, by rw [← e2]; exact hx, e1⟩
  · rintro ⟨y, hy, e⟩
    exact ⟨(y, v), hy, by rw [← e]⟩
theorem MvOk.gok {G : Gh} {a t : List ByteArray} {u : VS} (h : MvOk G a t u) : GOk (mvG G a t) := by
  refine ⟨fun x hx => ?_, fun x hx => ?_, fun x hx => ?_, ?_, fun ds n v hx => ?_⟩
  · obtain ⟨y, hy, rfl⟩ := List.mem_map.1 hx
    show Nms (mvP a t y.1)
    by_cases ha : a <+: y.1
    · obtain ⟨r, hr⟩ := ha
      rw [← hr, mvP_in]
      have := h.ok.nms y hy
      rw [← hr] at this
      exact h.nms.append this.right
    · rw [mvP_out ha]; exact h.ok.nms y hy
  · obtain ⟨y, hy, rfl⟩ := List.mem_map.1 hx
    show mvP a t y.1 ≠ []
    by_cases ha : a <+: y.1
    · obtain ⟨r, hr⟩ := ha
      rw [← hr, mvP_in]; simp [h.ne]
    · rw [mvP_out ha]; exact h.ok.ne y hy
  · obtain ⟨y, hy, rfl⟩ := List.mem_map.1 hx
    show (mvP a t y.1).length ≤ 6
    by_cases ha : a <+: y.1
    · have hd := h.deep y hy ha
      obtain ⟨r, hr⟩ := ha
      rw [← hr, mvP_in]
      rw [← hr] at hd
      simp at hd ⊢; omega
    · rw [mvP_out ha]; exact h.ok.le y hy
  · unfold mvG
    rw [List.map_map]
    exact nodup_map_inj _ (nodup_of_fst h.ok.nd) (fun x hx y hy e => by
      have e1 := h.inj hx hy e
      have : x.2 = y.2 := nodup_fst h.ok.nd (a := x.1) hx (by rw [e1]; exact hy)
      exact Prod.ext e1 this)
  · obtain ⟨y, hy, e⟩ := mem_mvG.1 hx
    by_cases ha : a <+: y
    · obtain ⟨r, rfl⟩ := ha
      rw [mvP_in] at e
      by_cases hr : r = []
      · subst hr
        rw [List.append_nil] at e
        rcases h.up ds n e with e1 | ⟨v', hv', hs⟩
        · exact .inl e1
        · refine .inr ⟨v', mem_mvG.2 ⟨ds, hv', mvP_out (fun hp => h.nt (by rw [e]; exact hp.trans (List.prefix_append ds [n])))⟩, hs⟩
      · obtain ⟨r', m, rfl⟩ := split_last hr
        rw [← List.append_assoc] at e
        obtain ⟨e1, _⟩ := snoc_inj e
        rw [← List.append_assoc] at hy
        rcases h.ok.up _ _ _ hy with e2 | ⟨v', hv', hs⟩
        · have := h.ok.ne _ h.here
          simp at e2
          exact absurd e2.1 this
        · exact .inr ⟨v', mem_mvG.2 ⟨_, hv', by rw [mvP_in, e1]⟩, hs⟩
    · rw [mvP_out ha] at e
      subst e
      rcases h.ok.up _ _ _ hy with e2 | ⟨v', hv', hs⟩
      · exact .inl e2
      · exact .inr ⟨v', mem_mvG.2 ⟨ds, hv', mvP_out (fun hp => ha (hp.trans (List.prefix_append ds [n])))⟩, hs⟩
theorem MvOk.isDir {G : Gh} {a t : List ByteArray} {u : VS} (h : MvOk G a t u) {rd : Nat} {ns' : List ByteArray} {b : Nat} (hd : IsDir (mvG G a t) rd ns' b) : ∃ ns, IsDir G rd ns b ∧ ns' = mvP a t ns := by
  rcases hd with ⟨rfl, rfl⟩ | hx
  · refine ⟨[], .inl ⟨rfl, rfl⟩, (mvP_out (fun hp => ?_)).symm⟩
    exact h.ok.ne _ h.here (List.prefix_nil.1 hp)
  · obtain ⟨y, hy, e⟩ := mem_mvG.1 hx
    exact ⟨y, .inr hy, e.symm⟩
theorem DirW.move {w w2 : World} {G : Gh} {rd : Nat} {V : Nat → Value} {E : Nat → List (ByteArray × VS)} (h : DirW w G rd V E) {da dt : List ByteArray} {na nt : ByteArray} {u : VS} (hm : MvOk G (da ++ [na]) (dt ++ [nt]) u) {ba bt : Nat} (hda : IsDir G rd da ba) (hdt : IsDir G rd dt bt)
    {V2 : Nat → Value} {E2 : Nat → List (ByteArray × VS)} (hH : DirH w2 rd (fun b => ∃ ns, IsDir G rd ns b) V2 E2)
    (hE : ∀ b, (∃ ns, IsDir G rd ns b) → ∀ m x, (m, x) ∈ E2 b ↔ (b = bt ∧ (m, x) = (nt, u)) ∨ ((m, x) ∈ E b ∧ ¬ (b = ba ∧ m = na))) : DirW w2 (mvG G (da ++ [na]) (dt ++ [nt])) rd V2 E2 := by
  refine hH.w (fun ns b hd => ?_) (fun x hx => ?_) (fun ns' b hd => ?_) (fun ns1 ns2 b h1 h2 => ?_)
  · obtain ⟨ns, hd', _⟩ := hm.isDir hd; exact ⟨ns, hd'⟩
  · obtain ⟨y, hy, rfl⟩ := List.mem_map.1 hx
    exact h.shp y hy
  · obtain ⟨ns, hd', rfl⟩ := hm.isDir hd
    intro m x
    rw [hE b ⟨ns, hd'⟩ m x]
    have hndt : ¬ (da ++ [na]) <+: dt := fun hp => hm.nt (hp.trans (List.prefix_append dt [nt]))
    constructor
    · rintro (⟨rfl, e⟩ | ⟨hx, hn⟩)
      · obtain ⟨rfl, rfl⟩ := Prod.mk.inj e
        obtain rfl := h.inj ns dt b hd' hdt
        rw [mvP_out hndt]
        exact mem_mvG.2 ⟨_, hm.here, by have := mvP_in (da ++ [na]) (ns ++ [m]) []; simpa using this⟩
      · have hx' := (h.en ns b hd' m x).1 hx
        refine mem_mvG.2 ⟨_, hx', ?_⟩
        by_cases hp : (da ++ [na]) <+: ns
        · obtain ⟨r, rfl⟩ := hp
          rw [mvP_in, List.append_assoc (da ++ [na]), mvP_in]; simp
        · rw [mvP_out hp]
          refine mvP_out (fun hq => ?_)
          rcases List.prefix_concat_iff.1 hq with e | hq'
          · obtain ⟨e1, e2⟩ := snoc_inj e
            subst e1
            exact hn ⟨hd'.func hm.ok hda, e2.symm⟩
          · exact hp hq'
    · intro hx
      obtain ⟨y, hy, e⟩ := mem_mvG.1 hx
      by_cases hay : (da ++ [na]) <+: y
      · obtain ⟨r, rfl⟩ := hay
        rw [mvP_in] at e
        by_cases hr : r = []
        · subst hr
          rw [List.append_nil] at e hy
          obtain ⟨e1, e2⟩ := snoc_inj e
          left
          have hns : ns = dt := by
            by_cases hp : (da ++ [na]) <+: ns
            · obtain ⟨r, rfl⟩ := hp
              rw [mvP_in] at e1
              have := congrArg List.length e1
              simp at this
            · rw [mvP_out hp] at e1; exact e1.symm
          subst hns
          exact ⟨hd'.func hm.ok hdt, by rw [e2, nodup_fst hm.ok.nd hy hm.here]⟩
        · obtain ⟨r', m', rfl⟩ := split_last hr
          rw [← List.append_assoc] at e
          obtain ⟨e1, e2⟩ := snoc_inj e
          subst e2
          right
          by_cases hp : (da ++ [na]) <+: ns
          · obtain ⟨r2, rfl⟩ := hp
            rw [mvP_in] at e1
            have := List.append_cancel_left e1
            subst this
            refine ⟨(h.en _ b hd' m' x).2 (by rw [← List.append_assoc] at hy; exact hy), fun ⟨hb, _⟩ => ?_⟩
            subst hb
            have := h.inj _ _ _ hd' hda
            have := congrArg List.length this
            simp at this
          · rw [mvP_out hp] at e1
            exfalso
            rcases hd' with ⟨h0, _⟩ | hd'
            · rw [h0] at e1; simp at e1
            · exact hm.noT hd' ⟨r', e1⟩
      · rw [mvP_out hay] at e
        by_cases hp : (da ++ [na]) <+: ns
        · obtain ⟨r, rfl⟩ := hp
          rw [mvP_in, List.append_assoc] at e
          exact absurd ⟨r ++ [m], e.symm⟩ (hm.noT hy)
        · rw [mvP_out hp] at e
          subst e
          right
          refine ⟨(h.en ns b hd' m x).2 hy, fun ⟨hb, he⟩ => ?_⟩
          subst hb he
          have := h.inj _ _ _ hd' hda
          subst this
          exact hay (List.prefix_refl _)
  · obtain ⟨n1, d1, rfl⟩ := hm.isDir h1
    obtain ⟨n2, d2, rfl⟩ := hm.isDir h2
    rw [h.inj n1 n2 b d1 d2]
end Go.Proofs.YtfabjhgkigagpaaGreatDoor
