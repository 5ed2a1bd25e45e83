/- Files. -/
import Derived.Test.YtaieidcohdhgpaaGreatDoorPBC
namespace Go.Proofs.YtaieidcohdhgpaaGreatDoor
open Go.RowKit Go.Shelf
attribute [local go_sem] Oper.semAt_some
set_option maxHeartbeats 8000000
set_option maxRecDepth 100000
def RowKp (n1 B10 B11 : Nat) (Yo : Nat → Prop) (A B : World) : Prop := A.heap.size ≤ B.heap.size ∧ ∀ k, k < n1 → ¬ Yo k → k ≠ B10 → k ≠ B11 → B.heap[k]? = A.heap[k]?
def RowS (B4 B5 B6 B11 pb : Nat) (kk : UInt8) (below t : Nat) (V : World) : Prop := V.cell? ⟨B4, 0, none⟩ = some (.pointer (some ⟨pb, 0, none⟩)) ∧ V.cell? ⟨B5, 0, none⟩ = some (.int .u8 (kk.toNat : Int)) ∧ V.cell? ⟨B6, 0, none⟩ = some (.int .i64 (below : Nat)) ∧ V.cell? ⟨B11, 0, none⟩ = some (.int .i64 (t : Nat))
def RowM (w : World) (n1 B4 B5 B6 B10 B11 pb : Nat) (kk : UInt8) (below : Nat) (g off len cap : Nat) (s : ByteArray) (St : List Nat → (Nat → Prop) → World → Prop) (Yo : Nat → Prop) (RB : List Nat → ByteArray) (pre pre' : List Nat) (v : Value) (O0 O : Nat → Prop) (W V : World) : Prop :=
 RowI w n1 B4 B5 B6 B10 B11 pb kk below g off len cap s St Yo RB pre pre' v O V ∧ Fr (fun j => O0 j ∨ Own v j ∨ j = B10 ∨ j = B11) W V
theorem row_calls (w : World) (M : Nat) (hM : M ≤ 1000) (n0 n1 B4 B5 B6 B10 B11 pb : Nat) (kk : UInt8) (below : Nat) (hbl : below < 65536) (g off len cap : Nat) (s : ByteArray) (sz : Nat) (hsz : sz ≤ 63) (P X : List Nat → Nat → Nat) (St : List Nat → (Nat → Prop) → World → Prop) (Yo : Nat → Prop) (RB : List Nat → ByteArray)
  (hB : BoxB w n1 B4 B5 B6 B10 B11 g len Yo) (hn0 : n0 ≤ w.heap.size) (L : PutLaw M n0 pb kk below s sz P X St) (hRB : ∀ pre x, RB (pre ++ [x]) = RB pre ++ refB (P pre x) (X pre x)) (hRBs : ∀ pre, (RB pre).size = 10 * pre.length)
  (pre : List Nat) (x : Nat) (hpre : pre.length < M) (W : World) (ra : Option Addr) (rl rc : Nat) (O : Nat → Prop) (h : RowI w n1 B4 B5 B6 B10 B11 pb kk below g off len cap s St Yo RB pre pre (.slice ra rl rc) O W) :
  (∀ V, Calls Tryz.prog 244 #[.int .u8 (kk.toNat : Int), .int .i64 (below : Nat), .int .i64 (pre.length : Nat)] V fun e w' => e = .returned (.int .u64 (roleN kk.toNat below pre.length : Nat)) ∧ w' = V) ∧
  (∀ V, RowM w n1 B4 B5 B6 B10 B11 pb kk below g off len cap s St Yo RB pre pre (.slice ra rl rc) O O W V → Calls Tryz.prog 213 #[.int .u8 (kk.toNat : Int), chV g off sz len x] V fun e V' => e = .returned (blkV (blkK kk s sz x)) ∧ RowS B4 B5 B6 B11 pb kk below pre.length V' ∧ V'.cell? ⟨B10, 0, none⟩ = some (.slice ra rl rc) ∧ Hid (RowM w n1 B4 B5 B6 B10 B11 pb kk below g off len cap s St Yo RB pre pre (.slice ra rl rc) O O W V')) ∧
  (∀ V, RowM w n1 B4 B5 B6 B10 B11 pb kk below g off len cap s St Yo RB pre pre (.slice ra rl rc) O O W V → Calls Tryz.prog 272 #[.pointer (some ⟨pb, 0, none⟩), .int .u64 (roleN kk.toNat below pre.length : Nat), blkV (blkK kk s sz x)] V fun e V' => e = .returned (.agg #[.int .i64 (P pre x : Nat), .int .u64 (X pre x : Nat)]) ∧ RowS B4 B5 B6 B11 pb kk below pre.length V' ∧ V'.cell? ⟨B10, 0, none⟩ = some (.slice ra rl rc) ∧ Hid (∃ O', RowM w n1 B4 B5 B6 B10 B11 pb kk below g off len cap s St Yo RB pre (pre ++ [x]) (.slice ra rl rc) O O' W V')) ∧
  (∀ V, (∃ O', RowM w n1 B4 B5 B6 B10 B11 pb kk below g off len cap s St Yo RB pre (pre ++ [x]) (.slice ra rl rc) O O' W V) → Calls Tryz.prog 214 #[.agg #[.int .i64 (P pre x : Nat), .int .u64 (X pre x : Nat)], .slice ra rl rc] V fun e V' => ∃ a' l' c', e = .returned (.slice a' l' c') ∧ RowS B4 B5 B6 B11 pb kk below pre.length V' ∧ RowS B4 B5 B6 B11 pb kk below pre.length (V'.setCell ⟨B10, 0, none⟩ (.slice a' l' c')) ∧ V'.cell? ⟨B10, 0, none⟩ = some (.slice ra rl rc) ∧ V'.frozen? ⟨B10, 0, none⟩ = false ∧ (V'.setCell ⟨B10, 0, none⟩ (.slice a' l' c')).frozen? ⟨B11, 0, none⟩ = false ∧
   Hid (KeepsOthers W ((V'.setCell ⟨B10, 0, none⟩ (.slice a' l' c')).setCell ⟨B11, 0, none⟩ (.int .i64 ((pre.length : Int) + 1))) ∧ RowKp n1 B10 B11 Yo W ((V'.setCell ⟨B10, 0, none⟩ (.slice a' l' c')).setCell ⟨B11, 0, none⟩ (.int .i64 ((pre.length : Int) + 1))) ∧ RowE w n1 B4 B5 B6 B10 B11 pb kk below g off len cap s St Yo RB (pre ++ [x]) ((V'.setCell ⟨B10, 0, none⟩ (.slice a' l' c')).setCell ⟨B11, 0, none⟩ (.int .i64 ((pre.length : Int) + 1))))) := by
 have e4 := hB.e4; have e5 := hB.e5; have e6 := hB.e6; have e10 := hB.e10; have e11 := hB.e11; have en := hB.en
 have hkk : kk.toNat < 256 := kk.toNat_lt
 refine ⟨fun V => roleOf_code V kk.toNat below pre.length hkk hbl (by omega), fun V hV => ?_, fun V hV => ?_, fun V hV => ?_⟩
 ·obtain ⟨hR, hF⟩ := hV
  refine (blockOf_code V _ _ _ _ (hR.rd.chunk sz x) (by rw [chB_size]; omega) kk).mono ?_
  rintro e V' ⟨rfl, hb⟩
  have hR' := hR.below L hb
  exact ⟨rfl, ⟨hR'.b4.cell, hR'.b5.cell, hR'.b6.cell, hR'.b11.cell⟩, hR'.b10.cell, hR', hF.then (Fr.of_below hb (X := fun _ => False)) (fun _ _ e => e.elim)⟩
 ·obtain ⟨hR, hF⟩ := hV
  refine (L.put pre x O V hpre hR.st).mono ?_
  rintro e V' ⟨rfl, O', q1, q2, q3⟩
  have hR' := hR.put hB L q1 q2 q3
  exact ⟨rfl, ⟨hR'.b4.cell, hR'.b5.cell, hR'.b6.cell, hR'.b11.cell⟩, hR'.b10.cell, O', hR', hF.then q2 (fun _ _ e => .inl e)⟩
 ·obtain ⟨O', hR, hF⟩ := hV
  have hsz := hR.sz
  refine (appendTo_code V n1 hR.sz ra rl rc _ hR.rs _ _ (L.plt pre x) (L.xlt pre x) (by rw [hRBs]; omega)).mono ?_
  rintro e V' ⟨a', l', c', rfl, q1, q2, q3⟩
  rw [← hRB] at q1
  have hD := hR.done hB hn0 L (by simp) q1 q2 q3
  have nV : ∀ B, B < n1 → ¬ Own (.slice ra rl rc) B := fun B hB e => by have := hR.rs.2 B e; omega
  have k4 : Boxed V' B4 168 _ := (q2.block _ hR.b4.lt (nV _ (by omega))).trans hR.b4
  have k5 : Boxed V' B5 300 _ := (q2.block _ hR.b5.lt (nV _ (by omega))).trans hR.b5
  have k6 : Boxed V' B6 3 _ := (q2.block _ hR.b6.lt (nV _ (by omega))).trans hR.b6
  have k10 : Boxed V' B10 59 _ := (q2.block _ hR.b10.lt (nV _ (by omega))).trans hR.b10
  have k11 : Boxed V' B11 3 _ := (q2.block _ hR.b11.lt (nV _ (by omega))).trans hR.b11
  have hFf : Fr (fun j => O j ∨ Own (.slice ra rl rc) j ∨ j = B10 ∨ j = B11) W ((V'.setCell ⟨B10, 0, none⟩ (.slice a' l' c')).setCell ⟨B11, 0, none⟩ (.int .i64 ((pre.length : Int) + 1))) :=
   (Fr.set (hF.then q2 (fun _ _ e => .inr (.inl e))) ⟨B10, 0, none⟩ _ (.inr (.inr (.inl rfl)))).set ⟨B11, 0, none⟩ _ (.inr (.inr (.inr rfl)))
  refine ⟨a', l', c', rfl, ⟨k4.cell, k5.cell, k6.cell, k11.cell⟩, ⟨(k4.other (by omega) _).cell, (k5.other (by omega) _).cell, (k6.other (by omega) _).cell, (k11.other (by omega) _).cell⟩, k10.cell, k10.frozen, (k11.other (by omega) _).frozen, ⟨hFf.size, fun k o hk ho => ?_⟩, ⟨hFf.size, fun k hk hY h10 h11 => ?_⟩, _, O', hD⟩
  ·refine (hFf.block k (Array.getElem?_eq_some_iff.1 hk).1 (fun e => ?_)).trans hk
   have hcells : ∀ cs t, W.heap[k]? ≠ some (Obj.cells cs t (0, 0)) := fun cs t e2 => by rw [hk] at e2; cases e2; cases ho
   rcases e with e | e | e | e
   ·obtain ⟨cs, t, e2⟩ := L.cells _ _ _ h.st k e; exact hcells _ _ e2
   ·rcases h.rs.1.2 with ⟨e2, _⟩ | ⟨g', c2, L2, e2, hR2, _⟩
    ·rw [e2] at e; simp [Own, Value.ownBlock] at e
    ·rw [e2] at e; simp [Own, Value.ownBlock] at e; subst e; exact hcells _ _ hR2
   ·subst e; exact hcells _ _ h.b10
   ·subst e; exact hcells _ _ h.b11
  ·refine hFf.block k (by have := h.sz; omega) (fun e => ?_)
   rcases e with e | e | e | e
   ·rcases h.hO k e with h1 | h1
    ·exact hY h1
    ·omega
   ·have := h.rs.2 k e; omega
   ·exact h10 e
   ·exact h11 e
end Go.Proofs.YtaieidcohdhgpaaGreatDoor
