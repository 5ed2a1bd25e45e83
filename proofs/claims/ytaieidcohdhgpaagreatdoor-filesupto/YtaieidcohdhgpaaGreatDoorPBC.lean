/- Files. -/
import Derived.Test.YtaieidcohdhgpaaGreatDoorPBB
namespace Go.Proofs.YtaieidcohdhgpaaGreatDoor
open Go.RowKit Go.Shelf
attribute [local go_sem] Oper.semAt_some
set_option maxHeartbeats 4000000
set_option maxRecDepth 100000
def chB (s : ByteArray) (sz x : Nat) : ByteArray := s.extract (x * sz) (x * sz + sz)
def blkK (kk : UInt8) (s : ByteArray) (sz x : Nat) : ByteArray := ⟨#[kk]⟩ ++ longR (chB s sz x) 63
theorem blkK_size (kk : UInt8) (s : ByteArray) (sz x : Nat) : (blkK kk s sz x).size = 64 := by unfold blkK; rw [ByteArray.size_append, longR_size]; rfl
theorem chB_size (s : ByteArray) (sz x : Nat) : (chB s sz x).size = min sz (s.size - x * sz) := by unfold chB; rw [ByteArray.size_extract]; omega
theorem RdB.chunk {w : World} {g off len cap : Nat} {s : ByteArray} (h : RdB w (some ⟨g, off, none⟩) len cap s) (sz x : Nat) : RdB w (some ⟨g, off + x * sz, none⟩) (min sz (len - x * sz)) (min sz (len - x * sz)) (chB s sz x) := by
 refine ⟨by rw [chB_size, h.1], fun e => (by cases e), fun j v hv => ⟨_, rfl, ?_⟩⟩
 unfold chB at hv
 rw [bytesV_extract, List.getElem?_take] at hv
 split at hv
 ·rw [List.getElem?_drop] at hv
  obtain ⟨y, e, hy⟩ := h.2.2 _ _ hv
  cases e
  rw [Addr.add_lit] at hy ⊢
  rw [Nat.add_assoc]; exact hy
 ·cases hv
def roleN (kk below t : Nat) : Nat := kk * 4294967296 + below * 65536 + t
structure PutLaw (M n0 pb : Nat) (kk : UInt8) (below : Nat) (s : ByteArray) (sz : Nat) (P X : List Nat → Nat → Nat) (St : List Nat → (Nat → Prop) → World → Prop) : Prop where
 abides : ∀ pre O W W' row, St pre O W → W.grownBy W' row → (∀ r, row = some r → ∃ o : Obj, W.heap[r]? = some o ∧ o.isCells = false) → St pre O W'
 keeps : ∀ pre O W W' (Z : Nat → Prop), St pre O W → Fr Z W W' → (∀ j, Z j → ¬ O j ∧ n0 ≤ j) → St pre O W'
 lt : ∀ pre O W, St pre O W → ∀ j, O j → j < W.heap.size
 put : ∀ pre x O W, pre.length < M → St pre O W → Calls Tryz.prog 272 #[.pointer (some ⟨pb, 0, none⟩), .int .u64 (roleN kk.toNat below pre.length : Nat), blkV (blkK kk s sz x)] W fun e W' => e = .returned (.agg #[.int .i64 (P pre x : Nat), .int .u64 (X pre x : Nat)]) ∧ ∃ O', St (pre ++ [x]) O' W' ∧ Fr O W W' ∧ ∀ j, O' j → O j ∨ W.heap.size ≤ j
 cells : ∀ pre O W, St pre O W → ∀ j, O j → ∃ cs t, W.heap[j]? = some (.cells cs t (0, 0))
 plt : ∀ pre x, P pre x < 65536
 xlt : ∀ pre x, X pre x < 18446744073709551616
structure RowI (w : World) (n1 B4 B5 B6 B10 B11 pb : Nat) (kk : UInt8) (below : Nat) (g off len cap : Nat) (s : ByteArray) (St : List Nat → (Nat → Prop) → World → Prop) (Yo : Nat → Prop) (RB : List Nat → ByteArray) (pre pre' : List Nat) (v : Value) (O : Nat → Prop) (W : World) : Prop where
 st : St pre' O W
 hO : ∀ j, O j → Yo j ∨ n1 ≤ j
 b4 : Boxed W B4 168 (.pointer (some ⟨pb, 0, none⟩))
 b5 : Boxed W B5 300 (.int .u8 (kk.toNat : Int))
 b6 : Boxed W B6 3 (.int .i64 (below : Nat))
 b10 : Boxed W B10 59 v
 b11 : Boxed W B11 3 (.int .i64 (pre.length : Nat))
 rs : SlB n1 W v (RB pre)
 dis : ∀ j, O j → ¬ Own v j
 rd : RdB W (some ⟨g, off, none⟩) len cap s
 fr : Fr Yo w W
 sz : n1 ≤ W.heap.size
structure BoxB (w : World) (n1 B4 B5 B6 B10 B11 g len : Nat) (Yo : Nat → Prop) : Prop where
 e4 : B4 = w.heap.size
 e5 : B5 = w.heap.size + 1
 e6 : B6 = w.heap.size + 2
 e10 : B10 = w.heap.size + 3
 e11 : B11 = w.heap.size + 4
 en : w.heap.size + 5 ≤ n1
 yo : ∀ j, Yo j → j < w.heap.size
 gy : ¬ Yo g
 gl : g < w.heap.size
theorem BoxB.nO {w : World} {n1 B4 B5 B6 B10 B11 g len : Nat} {Yo O : Nat → Prop} (h : BoxB w n1 B4 B5 B6 B10 B11 g len Yo) (hO : ∀ j, O j → Yo j ∨ n1 ≤ j) (B : Nat) (h1 : w.heap.size ≤ B) (h2 : B < n1) : ¬ O B := fun e => by
 rcases hO B e with h3 | h3
 ·have := h.yo B h3; omega
 ·omega
theorem RowI.below {w : World} {M n0 n1 B4 B5 B6 B10 B11 pb : Nat} {kk : UInt8} {below : Nat} {g off len cap : Nat} {s : ByteArray} {sz : Nat} {P X : List Nat → Nat → Nat} {St : List Nat → (Nat → Prop) → World → Prop} {Yo : Nat → Prop} {RB : List Nat → ByteArray} {pre pre' : List Nat} {v : Value} {O : Nat → Prop} {W W' : World} (L : PutLaw M n0 pb kk below s sz P X St) (h : RowI w n1 B4 B5 B6 B10 B11 pb kk below g off len cap s St Yo RB pre pre' v O W) (hb : Below W.heap.size W W') : RowI w n1 B4 B5 B6 B10 B11 pb kk below g off len cap s St Yo RB pre pre' v O W' :=
 ⟨L.abides _ _ _ _ none h.st ⟨hb.os, hb.tape, hb.output, hb.size, fun k hk _ => hb.block k hk⟩ (fun r e => by cases e), h.hO, (hb.block _ h.b4.lt).trans h.b4, (hb.block _ h.b5.lt).trans h.b5, (hb.block _ h.b6.lt).trans h.b6, (hb.block _ h.b10.lt).trans h.b10, (hb.block _ h.b11.lt).trans h.b11, h.rs.below hb, h.dis, h.rd.below hb, h.fr.then (Fr.of_below hb (X := fun _ => False)) (fun _ _ e => e.elim), Nat.le_trans h.sz hb.size⟩
theorem RowI.put {w : World} {M n0 n1 B4 B5 B6 B10 B11 pb : Nat} {kk : UInt8} {below : Nat} {g off len cap : Nat} {s : ByteArray} {sz : Nat} {P X : List Nat → Nat → Nat} {St : List Nat → (Nat → Prop) → World → Prop} {Yo : Nat → Prop} {RB : List Nat → ByteArray} {pre pre' : List Nat} {v : Value} {O : Nat → Prop} {W W' : World} (hB : BoxB w n1 B4 B5 B6 B10 B11 g len Yo) (_L : PutLaw M n0 pb kk below s sz P X St) (h : RowI w n1 B4 B5 B6 B10 B11 pb kk below g off len cap s St Yo RB pre pre' v O W) {p2 : List Nat} {O' : Nat → Prop} (hst : St p2 O' W') (hf : Fr O W W') (hO' : ∀ j, O' j → O j ∨ W.heap.size ≤ j) : RowI w n1 B4 B5 B6 B10 B11 pb kk below g off len cap s St Yo RB pre p2 v O' W' := by
 have e4 := hB.e4; have e5 := hB.e5; have e6 := hB.e6; have e10 := hB.e10; have e11 := hB.e11; have en := hB.en; have hsz := h.sz
 have nO := fun B => hB.nO h.hO B
 refine ⟨hst, fun j hj => (hO' j hj).elim (h.hO j) (fun h1 => .inr (by omega)), (hf.block _ h.b4.lt (nO _ (by omega) (by omega))).trans h.b4, (hf.block _ h.b5.lt (nO _ (by omega) (by omega))).trans h.b5, (hf.block _ h.b6.lt (nO _ (by omega) (by omega))).trans h.b6, (hf.block _ h.b10.lt (nO _ (by omega) (by omega))).trans h.b10, (hf.block _ h.b11.lt (nO _ (by omega) (by omega))).trans h.b11, ⟨h.rs.1.fr hf (fun k hk hO => h.dis k hO hk), h.rs.2⟩, fun j hj hv => (hO' j hj).elim (fun h1 => h.dis j h1 hv) (fun h1 => by have := Own.lt h.rs hv; omega), h.rd.fr hf (fun x e hp hO => ?_), h.fr.then hf (fun k hk hO => ?_), Nat.le_trans h.sz hf.size⟩
 ·cases e
  rcases h.hO _ hO with h1 | h1
  ·exact hB.gy h1
  ·have := hB.gl; simp only at h1; omega
 ·rcases h.hO k hO with h1 | h1
  ·exact h1
  ·omega
theorem RowI.done {w : World} {M n0 n1 B4 B5 B6 B10 B11 pb : Nat} {kk : UInt8} {below : Nat} {g off len cap : Nat} {s : ByteArray} {sz : Nat} {P X : List Nat → Nat → Nat} {St : List Nat → (Nat → Prop) → World → Prop} {Yo : Nat → Prop} {RB : List Nat → ByteArray} {pre : List Nat} {v : Value} {O : Nat → Prop} {W W' : World} (hB : BoxB w n1 B4 B5 B6 B10 B11 g len Yo) (hn0 : n0 ≤ w.heap.size) (L : PutLaw M n0 pb kk below s sz P X St) {p2 : List Nat} (h : RowI w n1 B4 B5 B6 B10 B11 pb kk below g off len cap s St Yo RB pre p2 v O W) (hl : p2.length = pre.length + 1) {v' : Value} (hS : SlB n1 W' v' (RB p2)) (hf : Fr (Own v) W W') (hn : NewOr W v v') : RowI w n1 B4 B5 B6 B10 B11 pb kk below g off len cap s St Yo RB p2 p2 v' O ((W'.setCell ⟨B10, 0, none⟩ v').setCell ⟨B11, 0, none⟩ (.int .i64 ((pre.length : Int) + 1))) := by
 have e4 := hB.e4; have e5 := hB.e5; have e6 := hB.e6; have e10 := hB.e10; have e11 := hB.e11; have en := hB.en; have hsz := h.sz
 have nV : ∀ B, B < n1 → ¬ Own v B := fun B hB e => by have := h.rs.2 B e; omega
 have nV' : ∀ B, B < n1 → ¬ Own v' B := fun B hB e => by have := hS.2 B e; omega
 have k4 : Boxed W' B4 168 _ := (hf.block _ h.b4.lt (nV _ (by omega))).trans h.b4
 have k5 : Boxed W' B5 300 _ := (hf.block _ h.b5.lt (nV _ (by omega))).trans h.b5
 have k6 : Boxed W' B6 3 _ := (hf.block _ h.b6.lt (nV _ (by omega))).trans h.b6
 have k10 : Boxed W' B10 59 _ := (hf.block _ h.b10.lt (nV _ (by omega))).trans h.b10
 have k11 : Boxed W' B11 3 _ := (hf.block _ h.b11.lt (nV _ (by omega))).trans h.b11
 have hfr : Fr (fun j => Own v j ∨ j = B10 ∨ j = B11) W ((W'.setCell ⟨B10, 0, none⟩ v').setCell ⟨B11, 0, none⟩ (.int .i64 ((pre.length : Int) + 1))) :=
  (Fr.set (X := fun j => Own v j ∨ j = B10 ∨ j = B11) (Fr.then (Fr.refl _ W) hf (fun _ _ e => .inl e)) ⟨B10, 0, none⟩ _ (.inr (.inl rfl))).set ⟨B11, 0, none⟩ _ (.inr (.inr rfl))
 have hne1 : B10 ≠ B11 := by omega
 refine ⟨L.keeps _ _ _ _ _ h.st hfr (fun j hj => ?_), h.hO, (k4.other (by omega) _).other (by omega) _, (k5.other (by omega) _).other (by omega) _, (k6.other (by omega) _).other (by omega) _, (k10.set _).other hne1 _, ?_, ⟨(hS.1.setCell ⟨B10, 0, none⟩ _ (nV' B10 (by omega))).setCell ⟨B11, 0, none⟩ _ (nV' B11 (by omega)), hS.2⟩, fun j hj hv => ?_, h.rd.fr hfr (fun x e hp hO => ?_), h.fr.then hfr (fun k hk hO => ?_), Nat.le_trans h.sz hfr.size⟩
 ·rcases hj with h1 | h1 | h1
  ·exact ⟨fun hO => h.dis j hO h1, by have := h.rs.2 j h1; omega⟩
  ·subst h1; exact ⟨hB.nO h.hO _ (by omega) (by omega), by omega⟩
  ·subst h1; exact ⟨hB.nO h.hO _ (by omega) (by omega), by omega⟩
 ·rw [hl]; exact (k11.other (fun e => hne1 e.symm) _).set _
 ·rcases hn j hv with h1 | h1
  ·exact h.dis j hj h1
  ·have := L.lt _ _ _ h.st j hj; omega
 ·cases e
  have := hB.gl
  rcases hO with h1 | h1 | h1
  ·exact nV _ (by show g < n1; omega) h1
  ·simp only at h1; omega
  ·simp only at h1; omega
 ·rcases hO with h1 | h1 | h1
  ·have := h.rs.2 k h1; omega
  ·omega
  ·omega
theorem RowI.own {w : World} {M n0 n1 B4 B5 B6 B10 B11 pb : Nat} {kk : UInt8} {below : Nat} {g off len cap : Nat} {s : ByteArray} {sz : Nat} {P X : List Nat → Nat → Nat} {St : List Nat → (Nat → Prop) → World → Prop} {Yo : Nat → Prop} {RB : List Nat → ByteArray} {pre pre' : List Nat} {v : Value} {O : Nat → Prop} {W W' : World} (L : PutLaw M n0 pb kk below s sz P X St) (hB : BoxB w n1 B4 B5 B6 B10 B11 g len Yo) (h : RowI w n1 B4 B5 B6 B10 B11 pb kk below g off len cap s St Yo RB pre pre' v O W) {row : Option Nat} (hg : W.grownBy W' row) (hr : ∀ r, row = some r → n1 ≤ r ∧ ∃ o : Obj, W.heap[r]? = some o ∧ o.isCells = false) : RowI w n1 B4 B5 B6 B10 B11 pb kk below g off len cap s St Yo RB pre pre' v O W' := by
 have ne : ∀ (j : Nat) (cs : Array Value) (t : TypeId) (z : Nat × Nat), W.heap[j]? = some (Obj.cells cs t z) → some j ≠ row := fun j cs t z hj e => by
  obtain ⟨o, h1, h2⟩ := (hr j e.symm).2
  rw [hj] at h1; cases h1; cases h2
 have kb : ∀ (j : Nat) (cs : Array Value) (t : TypeId) (z : Nat × Nat), W.heap[j]? = some (Obj.cells cs t z) → W'.heap[j]? = some (Obj.cells cs t z) := fun j cs t z hj => (hg.block j (Array.getElem?_eq_some_iff.1 hj).1 (ne j cs t z hj)).trans hj
 have hgn := hB.gl; have hen := hB.en
 refine ⟨L.abides _ _ _ _ row h.st hg (fun r e => (hr r e).2), h.hO, kb _ _ _ _ h.b4, kb _ _ _ _ h.b5, kb _ _ _ _ h.b6, kb _ _ _ _ h.b10, kb _ _ _ _ h.b11, ⟨?_, h.rs.2⟩, h.dis, ?_, ?_, Nat.le_trans h.sz hg.size⟩
 ·rcases h.rs.1.2 with ⟨e, h0⟩ | ⟨g', c', L', e, hR, q⟩
  ·exact ⟨h.rs.1.1, .inl ⟨e, h0⟩⟩
  ·exact ⟨h.rs.1.1, .inr ⟨g', c', L', e, kb _ _ _ _ hR, q⟩⟩
 ·exact h.rd.fr (P := fun j => row = some j) ⟨hg.os, hg.tape, hg.output, hg.size, fun k hk hX => hg.block k hk (fun e => hX e.symm)⟩ (fun x e _ hx => by cases e; have := (hr _ hx).1; simp only at this; omega)
 ·exact h.fr.then (Y := fun j => row = some j) ⟨hg.os, hg.tape, hg.output, hg.size, fun k hk hX => hg.block k hk (fun e => hX e.symm)⟩ (fun k hk hx => by have := (hr _ hx).1; omega)
def RowE (w : World) (n1 B4 B5 B6 B10 B11 pb : Nat) (kk : UInt8) (below : Nat) (g off len cap : Nat) (s : ByteArray) (St : List Nat → (Nat → Prop) → World → Prop) (Yo : Nat → Prop) (RB : List Nat → ByteArray) (pre : List Nat) (W : World) : Prop := ∃ v O, RowI w n1 B4 B5 B6 B10 B11 pb kk below g off len cap s St Yo RB pre pre v O W
def RowPost (w : World) (n1 : Nat) (St : List Nat → (Nat → Prop) → World → Prop) (Yo : Nat → Prop) (RB : List Nat → ByteArray) (N : Nat) (e : Ending) (w' : World) : Prop :=
 ∃ a' l' c' O, e = .returned (.slice a' l' c') ∧ SlB n1 w' (.slice a' l' c') (RB (List.range N)) ∧ St (List.range N) O w' ∧ (∀ j, O j → Yo j ∨ n1 ≤ j) ∧ (∀ j, O j → ¬ Own (.slice a' l' c') j) ∧ Fr Yo w w'
end Go.Proofs.YtaieidcohdhgpaaGreatDoor
