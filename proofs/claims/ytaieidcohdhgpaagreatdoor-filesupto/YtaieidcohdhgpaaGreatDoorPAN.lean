/- Files. -/
import Derived.Test.YtaieidcohdhgpaaGreatDoorPAK
import Derived.Test.YtaieidcohdhgpaaGreatDoorPAF
namespace Go.Proofs.YtaieidcohdhgpaaGreatDoor
open Go.RowKit
set_option maxHeartbeats 1000000
set_option maxRecDepth 100000
def IsDir (G : Gh) (rd : Nat) (ns : List ByteArray) (b : Nat) : Prop := (ns = [] ∧ b = rd) ∨ (ns, (⟨some ⟨b, 0, none⟩, 0⟩ : VS)) ∈ G
structure DirW (w : World) (G : Gh) (rd : Nat) (V : Nat → Value) (E : Nat → List (ByteArray × VS)) : Prop where
 shp : ∀ x ∈ G, x.2.p = none ∨ ∃ b, x.2 = ⟨some ⟨b, 0, none⟩, 0⟩
 row : ∀ ns b, IsDir G rd ns b → RowIs w b 229 [V b]
 sl : ∀ ns b, IsDir G rd ns b → Sl w 310 3 (V b) (E b).length (cellsS (E b))
 srt : ∀ ns b, IsDir G rd ns b → SrtS (E b)
 en : ∀ ns b, IsDir G rd ns b → EnOk G ns (E b)
 inj : ∀ ns ns' b, IsDir G rd ns b → IsDir G rd ns' b → ns = ns'
 own : ∀ ns ns' b b' g, IsDir G rd ns b → IsDir G rd ns' b' → (V b).ownBlock = some g → (V b').ownBlock = some g → b = b'
 lo : ∀ ns b, IsDir G rd ns b → rd ≤ b ∧ ∀ g, (V b).ownBlock = some g → rd ≤ g
theorem DirW.fr {X : Nat → Prop} {w w' : World} {G : Gh} {rd : Nat} {V : Nat → Value} {E : Nat → List (ByteArray × VS)} (h : DirW w G rd V E) (hf : Fr X w w') (hX : ∀ k t R, X k → RowIs w k t R → t ≠ 229 ∧ t ≠ 310) : DirW w' G rd V E :=
 ⟨h.shp, fun ns b hd => (h.row ns b hd).fr hf (fun e => (hX _ _ _ e (h.row ns b hd)).1 rfl),
  fun ns b hd => (h.sl ns b hd).fr hf (fun g hg e => by obtain ⟨R, hR⟩ := (h.sl ns b hd).type hg; exact (hX _ _ _ e hR).2 rfl),
  h.srt, h.en, h.inj, h.own, h.lo⟩
theorem DirW.below {w w' : World} {G : Gh} {rd : Nat} {V : Nat → Value} {E : Nat → List (ByteArray × VS)} (h : DirW w G rd V E) {B : Nat} (hb : Below B w w') (hB : w.heap.size ≤ B) : DirW w' G rd V E :=
 h.fr (X := fun _ => False) (Fr.of_below (hb.mono hB)) (fun _ _ _ e => e.elim)
theorem DirW.len {w : World} {G : Gh} {rd : Nat} {V : Nat → Value} {E : Nat → List (ByteArray × VS)} (h : DirW w G rd V E) (hG : GOk G) {ns : List ByteArray} {b : Nat} (hd : IsDir G rd ns b) : (E b).length = G.countP (qIn ns) := (h.en ns b hd).length hG (h.srt ns b hd)
theorem DirW.le {w : World} {G : Gh} {rd : Nat} {V : Nat → Value} {E : Nat → List (ByteArray × VS)} (h : DirW w G rd V E) (hG : GOk G) {ns : List ByteArray} {b : Nat} (hd : IsDir G rd ns b) : (E b).length ≤ G.length := by
 rw [h.len hG hd]; exact List.countP_le_length
theorem DirW.sub {w : World} {G : Gh} {rd : Nat} {V : Nat → Value} {E : Nat → List (ByteArray × VS)} (h : DirW w G rd V E) {ns : List ByteArray} {b : Nat} (hd : IsDir G rd ns b) {x : ByteArray × VS} (hx : x ∈ E b) :
  x.2.p = none ∨ ∃ b', x.2 = ⟨some ⟨b', 0, none⟩, 0⟩ ∧ IsDir G rd (ns ++ [x.1]) b' := by
 have hm := (h.en ns b hd x.1 x.2).1 hx
 rcases h.shp _ hm with h0 | ⟨b', e⟩
 ·exact .inl h0
 ·exact .inr ⟨b', e, .inr (by rw [← e]; exact hm)⟩
def fD (G : Gh) (ns : List ByteArray) (x : ByteArray × VS) : Nat := if x.2.p.isSome = true then cD G (ns ++ [x.1]) else 0
def fE (G : Gh) (ns : List ByteArray) (x : ByteArray × VS) : Nat := if x.2.p.isSome = true then cE G (ns ++ [x.1]) else 0
def sumF (f : ByteArray × VS → Nat) (l : List (ByteArray × VS)) : Nat := (l.map f).sum
theorem sumF_snoc (f : ByteArray × VS → Nat) (l : List (ByteArray × VS)) (x : ByteArray × VS) : sumF f (l ++ [x]) = sumF f l + f x := by simp [sumF]
theorem sumF_le (f : ByteArray × VS → Nat) (m : Nat) (hf : ∀ x, f x ≤ m) (l : List (ByteArray × VS)) : sumF f l ≤ l.length * m := by
 induction l with
 | nil => simp [sumF]
 | cons a l ih =>
  have h1 : sumF f (a :: l) = f a + sumF f l := by simp [sumF]
  have := hf a
  rw [h1, List.length_cons, Nat.add_mul]; omega
theorem cD_le (G : Gh) (ns : List ByteArray) : cD G ns ≤ 1 + G.length := by
 unfold cD; exact Nat.add_le_add_left List.countP_le_length 1
theorem cE_le (G : Gh) (ns : List ByteArray) : cE G ns ≤ G.length := by unfold cE; exact List.countP_le_length
theorem fD_le (G : Gh) (ns : List ByteArray) (x : ByteArray × VS) : fD G ns x ≤ 1 + G.length := by
 unfold fD; split
 ·exact cD_le _ _
 ·omega
theorem fE_le (G : Gh) (ns : List ByteArray) (x : ByteArray × VS) : fE G ns x ≤ G.length := by
 unfold fE; split
 ·exact cE_le _ _
 ·omega
theorem sum_take {G : Gh} (hG : GOk G) {ns : List ByteArray} {es : List (ByteArray × VS)} (hs : SrtS es) (he : EnOk G ns es) : ∀ k, k ≤ es.length →
  cntK G (fun x => x.2.p.isSome) ns (keys (es.take k)) = sumF (fD G ns) (es.take k) ∧ cntK G (fun _ => true) ns (keys (es.take k)) = k + sumF (fE G ns) (es.take k) := by
 intro k
 induction k with
 | zero =>
  intro _
  have : ∀ r, cntK G r ns [] = 0 := fun r => by unfold cntK; rw [List.countP_eq_zero]; intro x _; simp
  simp [keys, sumF, this]
 | succ k ih =>
  intro hk
  obtain ⟨i1, i2⟩ := ih (by omega)
  have hk' : k < es.length := by omega
  have ht : es.take (k + 1) = es.take k ++ [es[k]] := by rw [List.take_add_one, List.getElem?_eq_getElem hk']; rfl
  have hm := (he es[k].1 es[k].2).1 (List.getElem_mem hk')
  rw [cnt_step hG _ hs he k hk', cnt_step hG _ hs he k hk', i1, i2, ht, sumF_snoc, sumF_snoc]
  unfold fD fE cD cE
  cases hp : es[k].2.p with
  | none =>
   rw [below_file hG (fun x => x.2.p.isSome) hm hp, below_file hG (fun _ => true) hm hp]
   simp; omega
  | some a => simp; omega
theorem sum_all {G : Gh} (hG : GOk G) {ns : List ByteArray} {es : List (ByteArray × VS)} (hs : SrtS es) (he : EnOk G ns es) : 1 + sumF (fD G ns) es = cD G ns ∧ es.length + sumF (fE G ns) es = cE G ns := by
 obtain ⟨h1, h2⟩ := sum_take hG hs he es.length (Nat.le_refl _)
 rw [List.take_length, cntK_all hG _ he] at h1 h2
 exact ⟨by rw [← h1]; rfl, by rw [← h2]; rfl⟩
end Go.Proofs.YtaieidcohdhgpaaGreatDoor
