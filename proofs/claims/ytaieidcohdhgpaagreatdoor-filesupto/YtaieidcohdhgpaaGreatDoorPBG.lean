/- Files. -/
import Derived.Test.YtaieidcohdhgpaaGreatDoorPBF
namespace Go.Proofs.YtaieidcohdhgpaaGreatDoor
open Go.RowKit Go.Shelf
attribute [local go_sem] Oper.semAt_some
set_option maxHeartbeats 8000000
set_option maxRecDepth 100000
def nil0 : ByteArray := ⟨#[0]⟩
def tab0 : ByteArray := blkK 3 nil0 63 0
def St1 (pb db sb so : Nat) (nd : Nat → Int) (cl : Bool) (hd p : Nat) (s : ByteArray) (pre : List Nat) (O : Nat → Prop) (W : World) : Prop :=
 W.cell? ⟨sb, so, none⟩ = some (.slice none 0 0) ∧ (∀ k, O k → ∃ cs t, W.heap[k]? = some (.cells cs t (0, 0))) ∧ ∃ va es vp, (∀ k, (k = pb ∨ Own va k ∨ Own vp k) → O k) ∧ ((pre = [] ∧ va = .slice none 0 0 ∧ vp = .slice none 0 0 ∧ es = [] ∧ PlanW W pb db sb so nd cl hd va es 0 0 vp []) ∨ (∃ x, pre = [x] ∧ PlanW W pb db sb so nd cl (p + 1) va es 0 0 vp [(p, blkK 3 s 63 x)] ∧ es = [(((roleN 3 0 0 : Nat) : Int), (p : Int))]))
theorem Sl.cellsKept {W W' : World} {e : TypeId} {sz : Nat} {v : Value} {n : Nat} {xs : List Value} (h : Sl W e sz v n xs) (kb : ∀ (j : Nat) (cs : Array Value) (t : TypeId), W.heap[j]? = some (Obj.cells cs t (0, 0)) → W'.heap[j]? = some (Obj.cells cs t (0, 0))) : Sl W' e sz v n xs := by
 rcases h.2 with ⟨e0, h0⟩ | ⟨g', c', L', e0, hR, q⟩
 ·exact ⟨h.1, .inl ⟨e0, h0⟩⟩
 ·exact ⟨h.1, .inr ⟨g', c', L', e0, kb _ _ _ hR, q⟩⟩
theorem Sl.isCells {W : World} {e : TypeId} {sz : Nat} {v : Value} {n : Nat} {xs : List Value} (h : Sl W e sz v n xs) {k : Nat} (hk : Own v k) : ∃ cs t, W.heap[k]? = some (Obj.cells cs t (0, 0)) := by
 rcases h.2 with ⟨e0, h0⟩ | ⟨g', c', L', e0, hR, q⟩
 ·rw [e0] at hk; simp [Own, Value.ownBlock] at hk
 ·rw [e0] at hk; simp [Own, Value.ownBlock] at hk; subst hk; exact ⟨_, _, hR⟩
theorem PlanW.cellsKept {w w' : World} {pb db sb so : Nat} {nd : Nat → Int} {cl : Bool} {hd : Nat} {va : Value} {es : List (Int × Int)} {tp tx : Int} {vp : Value} {ps : List (Nat × ByteArray)} (h : PlanW w pb db sb so nd cl hd va es tp tx vp ps) (kb : ∀ (j : Nat) (cs : Array Value) (t : TypeId), w.heap[j]? = some (Obj.cells cs t (0, 0)) → w'.heap[j]? = some (Obj.cells cs t (0, 0))) : PlanW w' pb db sb so nd cl hd va es tp tx vp ps :=
 ⟨kb _ _ _ h.row, h.sa.cellsKept kb, Sl.cellsKept h.sp kb, h.oa, h.op, h.ap⟩
theorem PlanW.fr {w w' : World} {pb db sb so : Nat} {nd : Nat → Int} {cl : Bool} {hd : Nat} {va : Value} {es : List (Int × Int)} {tp tx : Int} {vp : Value} {ps : List (Nat × ByteArray)} (h : PlanW w pb db sb so nd cl hd va es tp tx vp ps) {Z : Nat → Prop} (hf : Fr Z w w') (hZ : ∀ k, (k = pb ∨ Own va k ∨ Own vp k) → ¬ Z k) : PlanW w' pb db sb so nd cl hd va es tp tx vp ps :=
 ⟨h.row.fr hf (hZ _ (.inl rfl)), h.sa.fr hf (fun _g hg => hZ _ (.inr (.inl hg))), Sl.fr h.sp hf (fun _g hg => hZ _ (.inr (.inr hg))), h.oa, h.op, h.ap⟩
theorem PlanW.isCells {w : World} {pb db sb so : Nat} {nd : Nat → Int} {cl : Bool} {hd : Nat} {va : Value} {es : List (Int × Int)} {tp tx : Int} {vp : Value} {ps : List (Nat × ByteArray)} (h : PlanW w pb db sb so nd cl hd va es tp tx vp ps) (k : Nat) (hk : k = pb ∨ Own va k ∨ Own vp k) : ∃ cs t, w.heap[k]? = some (Obj.cells cs t (0, 0)) := by
 rcases hk with rfl | hk | hk
 ·exact ⟨_, _, h.row⟩
 ·exact h.sa.isCells hk
 ·exact Sl.isCells h.sp hk
theorem cell_cells {W : World} {a : Addr} {v : Value} (h : W.cell? a = some v) : ∃ cs t z, W.heap[a.block]? = some (Obj.cells cs t z) := by
 unfold World.cell? at h
 cases hb : W.heap[a.block]? with
 | none => rw [hb] at h; cases h
 | some o => cases o with
  | cells cs t z => exact ⟨cs, t, z, rfl⟩
  | _ => rw [hb] at h; cases h
theorem single {es : List (Int × Int)} {y : Int × Int} (h1 : es.length = 1) (h2 : ∀ x, x ∈ es ↔ x = y ∨ x ∈ ([] : List (Int × Int))) : es = [y] := by
 obtain ⟨z, rfl⟩ := List.length_eq_one_iff.1 h1
 have := (h2 z).1 (by simp)
 simp at this; rw [this]
theorem putLaw1 (n0 pb db sb so : Nat) (nd : Nat → Int) (cl : Bool) (hd : Nat) (s : ByteArray) (hsb : sb < n0) (hne : sb ≠ pb) (hh : hd ≤ 1536) (hz : ∃ k, k < 96 ∧ nd ((hd / 16 + k) % 96) ≤ 0) :
  PutLaw 1 n0 pb 3 0 s 63 (fun _ _ => skipP nd 96 hd % 1536) (fun _ x => fnvN (blkK 3 s 63 x)) (St1 pb db sb so nd cl hd (skipP nd 96 hd % 1536) s) where
 abides := fun pre O W W' row h hg hr => by
  have kb : ∀ (j : Nat) (cs : Array Value) (t : TypeId) (z : Nat × Nat), W.heap[j]? = some (Obj.cells cs t z) → W'.heap[j]? = some (Obj.cells cs t z) := fun j cs t z hj => (hg.block j (Array.getElem?_eq_some_iff.1 hj).1 (fun e => by obtain ⟨o, h1, h2⟩ := hr j e.symm; rw [hj] at h1; cases h1; cases h2)).trans hj
  obtain ⟨h1, h2, va, es, vp, h3, h4⟩ := h
  refine ⟨?_, fun k hk => ?_, va, es, vp, h3, ?_⟩
  ·obtain ⟨cs, t, z, hb⟩ := cell_cells h1
   exact (World.cell?_of_block ((kb _ _ _ _ hb).trans hb.symm)).trans h1
  ·obtain ⟨cs, t, hb⟩ := h2 k hk; exact ⟨cs, t, kb _ _ _ _ hb⟩
  ·rcases h4 with ⟨q1, q2, q3, q4, q5⟩ | ⟨x, q1, q2, q3⟩
   ·exact .inl ⟨q1, q2, q3, q4, q5.cellsKept (fun j cs t => kb j cs t _)⟩
   ·exact .inr ⟨x, q1, q2.cellsKept (fun j cs t => kb j cs t _), q3⟩
 keeps := fun pre O W W' Z h hf hZ => by
  obtain ⟨h1, h2, va, es, vp, h3, h4⟩ := h
  refine ⟨(World.cell?_of_block (hf.block sb (World.block_lt_of_cell? _ _ h1) (fun e => by have := (hZ _ e).2; omega))).trans h1, fun k hk => ?_, va, es, vp, h3, ?_⟩
  ·obtain ⟨cs, t, hb⟩ := h2 k hk; exact ⟨cs, t, (hf.block k (Array.getElem?_eq_some_iff.1 hb).1 (fun e => (hZ _ e).1 hk)).trans hb⟩
  ·rcases h4 with ⟨q1, q2, q3, q4, q5⟩ | ⟨x, q1, q2, q3⟩
   ·exact .inl ⟨q1, q2, q3, q4, q5.fr hf (fun k hk e => (hZ _ e).1 (h3 k hk))⟩
   ·exact .inr ⟨x, q1, q2.fr hf (fun k hk e => (hZ _ e).1 (h3 k hk)), q3⟩
 lt := fun pre O W h j hj => by obtain ⟨cs, t, hb⟩ := h.2.1 j hj; exact (Array.getElem?_eq_some_iff.1 hb).1
 cells := fun pre O W h j hj => h.2.1 j hj
 plt := fun _ _ => by omega
 xlt := fun _ x => fnvN_lt _
 put := fun pre x O W hp h => by
  obtain ⟨h1, h2, va, es, vp, h3, h4⟩ := h
  rcases h4 with ⟨rfl, rfl, rfl, rfl, q5⟩ | ⟨x, rfl, _, _⟩
  ·refine (put_absent W pb db sb so nd cl hd _ [] 0 0 _ [] q5 (.slice none 0 0) [] h1 ⟨rfl, .inl ⟨rfl, rfl⟩⟩ (by simp) (fun j k x y _ hx => by simp at hx) (roleN (3 : UInt8).toNat 0 0) (fun x hx => by cases hx) (fun j k x y _ hx => by simp at hx) (by simp) (fun x hx => by cases hx) hh hz (blkK 3 s 63 x) (blkK_size _ _ _ _) (by simp)).mono ?_
   rintro e W' ⟨rfl, va', es', vp', m1, m2, m3, m4, m5, m6, m7⟩
   have hOW : ∀ k, Own va' k ∨ Own vp' k → W.heap.size ≤ k := fun k hk => by
    rcases hk with hk | hk
    ·rcases m6 k hk with h8 | h8
     ·simp [Value.ownBlock] at h8
     ·exact h8
    ·rcases m7 k hk with h8 | h8
     ·simp [Value.ownBlock] at h8
     ·exact h8
   refine ⟨rfl, fun k => k = pb ∨ Own va' k ∨ Own vp' k, ⟨?_, fun k hk => m1.isCells k hk, va', es', vp', fun k hk => hk, .inr ⟨x, rfl, m1, single m3 m4⟩⟩, ?_, fun j hj => ?_⟩
   ·exact (World.cell?_of_block (m5.block sb (World.block_lt_of_cell? _ _ h1) (fun e => by
     rcases e with e | e | e
     ·exact hne e
     ·simp [Own, Value.ownBlock] at e
     ·simp [Own, Value.ownBlock] at e))).trans h1
   ·exact ⟨m5.os, m5.tape, m5.output, m5.size, fun k hk hX => m5.block k hk (fun e => hX (h3 k e))⟩
   ·rcases hj with rfl | hj
    ·exact .inl (h3 _ (.inl rfl))
    ·exact .inr (hOW j hj)
  ·simp at hp
end Go.Proofs.YtaieidcohdhgpaaGreatDoor
