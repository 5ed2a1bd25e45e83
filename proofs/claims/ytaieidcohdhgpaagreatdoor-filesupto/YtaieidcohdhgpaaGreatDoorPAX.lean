/- Files. -/
import Derived.Test.YtaieidcohdhgpaaGreatDoorPAS
import Derived.Deep.WholeRow
import Derived.Deep.MidRow
import Derived.BigQuiet
namespace Go.Proofs.YtaieidcohdhgpaaGreatDoor
open Go.RowKit
set_option maxHeartbeats 1000000
set_option maxRecDepth 100000
theorem bytesV_at (s : ByteArray) (k : Nat) (h : k < s.size) : (bytesV s)[k]? = some (.int .u8 (s.data[k].toNat : Int)) := by
 unfold bytesV
 rw [List.getElem?_map, List.getElem?_eq_getElem (by simpa using h)]
 simp
def fnvS (y : Int) (b : UInt8) : Int := IntKind.u64.wrap (bits BinOp.xor IntKind.u64 y (IntKind.u64.wrap b.toNat) * 1099511628211)
def fnvL (l : List UInt8) : Int := l.foldl fnvS 14695981039346656037
theorem fnvL_snoc (l : List UInt8) (b : UInt8) : fnvL (l ++ [b]) = fnvS (fnvL l) b := by unfold fnvL; rw [List.foldl_append]; rfl
theorem take_snoc (s : ByteArray) (k : Nat) (h : k < s.size) : s.data.toList.take (k + 1) = s.data.toList.take k ++ [s.data[k]] := by
 rw [List.take_succ_eq_append_getElem (by simpa using h)]; simp
theorem sum_code (w : World) (a : Option Addr) (l c : Nat) (s : ByteArray) (h : RdB w a l c s) (hs : s.size ≤ 2000000) :
  Calls Tryz.prog 215 #[.slice a l c] w fun e w' => e = .returned (.int .u64 (fnvL s.data.toList)) ∧ w' = w := by
 obtain ⟨hl, _, hrd⟩ := h
 subst hl
 have HR := hide hrd
 clear hrd
 obtain ⟨r, hr⟩ : ∃ r, r = fnvL s.data.toList := ⟨_, rfl⟩
 rw [← hr]
 have HRR := hide hr
 clear hr
 go_enter Tryz.func215, Tryz.ntmps215
 go_wp2
 go_loop [3, 8] (fun x i => ∃ (k : Nat) (y : Int), k ≤ s.size ∧ i = .int .i64 k ∧ x = .int .u64 y ∧ Hid (y = fnvL (s.data.toList.take k))) (fun _ i => s.size - (intOf i).toNat)
 case atStart => exact ⟨0, _, Nat.zero_le _, rfl, rfl, rfl⟩
 case round =>
  obtain ⟨k, y, hk, rfl, rfl, hy⟩ := hrel
  by_cases hlt : k < s.size
  ·obtain ⟨g, rfl, q0⟩ := unhide HR k _ (bytesV_at s k hlt)
   go_wp2
   go_round
   case rel => exact ⟨k + 1, _, by omega, by go_num, rfl, by show _ = _; rw [take_snoc s k hlt, fnvL_snoc, ← unhide hy]; rfl⟩
   case measure => simp [intOf]; omega
  ·obtain rfl : k = s.size := by omega
   go_wp2
   go_ret
   have h1 : s.data.toList.take s.size = s.data.toList := List.take_of_length_le (Nat.le_of_eq Array.length_toList)
   have h2 : y = r := by rw [unhide HRR, unhide hy, h1]
   exact ⟨by rw [h2] <;> rfl, rfl⟩
def SlB (b : Nat) (w : World) (v : Value) (s : ByteArray) : Prop := Sl w 5 1 v s.size (bytesV s) ∧ ∀ g, v.ownBlock = some g → b ≤ g
theorem SlB.nil (b : Nat) (w : World) : SlB b w (.slice none 0 0) ⟨#[]⟩ := ⟨⟨rfl, .inl ⟨rfl, rfl⟩⟩, fun g h => by simp [Value.ownBlock] at h⟩
theorem SlB.below {b : Nat} {w w' : World} {v : Value} {s : ByteArray} (h : SlB b w v s) (hb : Below w.heap.size w w') : SlB b w' v s := ⟨h.1.kept (fun k hk _ => hb.block k hk), h.2⟩
theorem SlB.rdB {b : Nat} {w : World} {a : Option Addr} {l c : Nat} {s : ByteArray} (h : SlB b w (.slice a l c) s) : RdB w a l c s := by
 have hl : l = s.size := by
  rcases h.1.2 with ⟨e, h0⟩ | ⟨g, cap, L, e, _⟩
  ·cases e; exact h0.symm
  ·cases e; rfl
 subst hl
 exact h.1.rdB
def Own (v : Value) (k : Nat) : Prop := v.ownBlock = some k
theorem Fr.then {X Y : Nat → Prop} {w w1 w2 : World} (h : Fr X w w1) (h2 : Fr Y w1 w2) (hXY : ∀ k, k < w.heap.size → Y k → X k) : Fr X w w2 :=
 ⟨h2.os.trans h.os, h2.tape.trans h.tape, h2.output.trans h.output, Nat.le_trans h.size h2.size, fun k hk hX => (h2.block k (Nat.lt_of_lt_of_le hk h.size) (fun e => hX (hXY k hk e))).trans (h.block k hk hX)⟩
theorem SlB.frBelow {b : Nat} {w w' : World} {v : Value} {s : ByteArray} (h : SlB b w v s) (hb : b ≤ w.heap.size) (hf : Fr (Own v) w w') : Below b w w' :=
 ⟨hf.os, hf.tape, hf.output, hf.size, fun k hk => hf.block k (by omega) (fun e => by have := h.2 k e; omega)⟩
theorem appB (w : World) (b : Nat) (hb : b ≤ w.heap.size) (v : Value) (s : ByteArray) (h : SlB b w v s) (a : Addr) (m c : Nat) (t : ByteArray) (hm : t.size = m) (ht : ∀ j u, (bytesV t)[j]? = some u → w.cell? (a.add j) = some u) (hl : s.size + m ≤ 4000000) :
  ∃ a' n' c' w', (Builtin.append_ #[59, 59] 59 #[v, .slice (some a) m c]).run Tryz.prog w = .ok (.slice a' n' c') w' ∧ SlB b w' (.slice a' n' c') (s ++ t) ∧ Fr (Own v) w w' ∧ NewOr w v (.slice a' n' c') := by
 obtain ⟨i0, hi0, hz0, hz1, hz2⟩ := info_parts info5
 obtain ⟨v', w2, r1, r2, r3, r4⟩ := append_new (P := Tryz.prog) w 59 59 5 i0 _ 1 1 Tryz.underlying59 hi0 hz0 hz1 hz2 rfl (by decide) v s.size (bytesV s) h.1 a m c (bytesV t) (by rw [bytesV_length]; omega)
  ht (bytesV_one t) (by unfold maxLen; omega) (by omega)
 obtain ⟨a', n', c', rfl⟩ := r2.shape
 refine ⟨a', n', c', w2, r1, ⟨?_, fun g hg => ?_⟩, ⟨r3.os, r3.tape, r3.output, r3.size, fun k hk hX => r3.block k hk (fun e => hX e.symm)⟩, r4⟩
 ·rw [bytesV_append, show (s ++ t).size = s.size + m by rw [ByteArray.size_append, hm]]; exact r2
 ·rcases r4 g hg with h1 | h1
  ·exact h.2 g h1
  ·omega
def numL : Nat → Nat → List UInt8
 | _, 0 => []
 | x, m + 1 => UInt8.ofNat x :: numL (x / 256) m
theorem numL_length : ∀ (m x : Nat), (numL x m).length = m
 | 0, _ => rfl
 | m + 1, x => by simp [numL, numL_length m]
theorem ba_nil (s : ByteArray) : s ++ ⟨#[]⟩ = s := by
 apply WideShapes.bytes_inj; simp
theorem ba_snoc (s : ByteArray) (l : List UInt8) (b : UInt8) : s ++ ⟨l.toArray⟩ ++ ⟨#[b]⟩ = s ++ ⟨(l ++ [b]).toArray⟩ := by
 apply WideShapes.bytes_inj; simp
theorem numL_step {x y m k : Nat} (hk : k < m) (h : numL y (m - k) = (numL x m).drop k) : (numL x m).take (k + 1) = (numL x m).take k ++ [UInt8.ofNat y] ∧ numL (y / 256) (m - (k + 1)) = (numL x m).drop (k + 1) := by
 have e : m - k = (m - (k + 1)) + 1 := by omega
 rw [e] at h
 have hl : k < (numL x m).length := by rw [numL_length]; exact hk
 rw [List.drop_eq_getElem_cons hl] at h
 simp only [numL, List.cons.injEq] at h
 exact ⟨by rw [List.take_succ_eq_append_getElem hl, h.1], h.2⟩
theorem wrap8 (y : Nat) : IntKind.u8.wrap (y : Int) = ((UInt8.ofNat y).toNat : Int) := by
 simp [IntKind.wrap, IntKind.bits, IntKind.signed]
theorem appendNumber_code (w : World) (b : Nat) (hb : b ≤ w.heap.size) (a : Option Addr) (l c : Nat) (s : ByteArray) (h : SlB b w (.slice a l c) s) (x : Nat) (hx : x < 18446744073709551616) (m : Nat) (hm : m ≤ 8) (hs : s.size ≤ 2000000) :
  Calls Tryz.prog 212 #[.slice a l c, .int .u64 x, .int .i64 m] w fun e w' => ∃ a' l' c', e = .returned (.slice a' l' c') ∧ SlB b w' (.slice a' l' c') (s ++ ⟨(numL x m).toArray⟩) ∧ Fr (Own (.slice a l c)) w w' ∧ NewOr w (.slice a l c) (.slice a' l' c') := by
 have H := hide h
 clear h
 go_enter Tryz.func212, Tryz.ntmps212
 go_wp2
 go_loopw [0, 1, 8] (fun v y i wr => ∃ (k y' : Nat) (a' : Option Addr) (l' c' : Nat), k ≤ m ∧ i = .int .i64 k ∧ y = .int .u64 y' ∧ v = .slice a' l' c' ∧ y' < 18446744073709551616 ∧ Hid (SlB b wr v (s ++ ⟨((numL x m).take k).toArray⟩)) ∧ Hid (numL y' (m - k) = (numL x m).drop k) ∧ Hid (Fr (Own (.slice a l c)) w wr ∧ NewOr w (.slice a l c) v)) (fun _ _ i _ => m - (intOf i).toNat)
 case atStart => exact ⟨0, x, a, l, c, Nat.zero_le _, rfl, rfl, rfl, hx, by show SlB _ _ _ _; rw [List.take_zero, ba_nil]; exact unhide H, rfl, Fr.refl _ _, fun g hg => .inl hg⟩
 case round =>
  obtain ⟨k, y, a', l', c', hk, rfl, rfl, rfl, hy, HS, HN, HB⟩ := hrel
  by_cases hlt : k < m
  ·have hw8 : IntKind.u8.wrap (y : Int) = ((UInt8.ofNat y).toNat : Int) := wrap8 y
   have hb' := (unhide HB).1.size
   obtain ⟨W, hW, hx0, hkW, hszW, hbW⟩ := alloc_name wr [.int .u8 (IntKind.u8.wrap (y : Int))] 5
   obtain ⟨a2, l2, c2, w2, hr, hS2, hB2, hN2⟩ := appB W b (by omega) _ _ ((unhide HS).below hbW) ⟨wr.heap.size, 0, none⟩ 1 1 ⟨#[UInt8.ofNat y]⟩ rfl (fun j u hu => by rw [Addr.add_lit, Nat.zero_add, hx0.cell, hw8]; exact hu) (by rw [ByteArray.size_append]; show s.size + (List.toArray _).size + 1 ≤ _; simp; omega)
   have HS2 := hide hS2
   have HB2 : Hid (Fr (Own (.slice a l c)) w w2 ∧ NewOr w (.slice a l c) (.slice a2 l2 c2)) := by
    refine ⟨((unhide HB).1.then (Fr.of_below (X := Own (.slice a l c)) hbW) (fun k _ h => h)).then hB2 (fun k hk e => ((unhide HB).2 k e).elim id (fun h => by omega)), fun g hg => ?_⟩
    rcases hN2 g hg with h1 | h1
    ·exact (unhide HB).2 g h1
    ·exact .inr (by omega)
   have HW := hide hW
   clear hS2 hB2 hN2 hx0 hkW hszW hbW hW hw8
   rw [← unhide HW] at hr
   go_wp2_with (at_builtin; refine Lib.wpList_append_run _ rfl _ _ 59 59 rfl _ _ rfl rfl _ _ hr ?_)
   go_roundw
   case rel =>
    obtain ⟨h1, h2⟩ := numL_step hlt (unhide HN)
    exact ⟨k + 1, y / 256, a2, l2, c2, by omega, by go_num, by go_num, rfl, by omega, by show SlB _ _ _ _; rw [h1, ← ba_snoc]; exact unhide HS2, h2, HB2⟩
   case measure => simp [intOf]; omega
  ·obtain rfl : k = m := by omega
   go_wp2
   go_ret
   have h1 := unhide HS
   rw [List.take_of_length_le (by rw [numL_length]; exact Nat.le_refl _)] at h1
   exact ⟨a', l', c', rfl, h1, unhide HB⟩
def zeroB (n : Nat) : ByteArray := ⟨(List.replicate n 0).toArray⟩
def blkV (s : ByteArray) : Value := .agg (bytesV s).toArray
theorem wpList_alloc_z {P : Program} {ops : Array Oper} {rest : List Oper} {o : Oper} {a : Act} {w : World} {Q : Exit → Act → World → Prop} (hgd : o.guard = none) (t : TypeId) (ho : o.op = .alloc t) {zs : Array Value} (hz : ∀ w, (zeroValue t).run P w = .ok (.agg zs) w)
  (h : wpList P ops Q rest (a.put o.dst (.pointer (some ⟨w.heap.size, 0, none⟩))) (w.alloc (.cells zs t))) : wpList P ops Q (o :: rest) a w := by
 refine wpList_plain hgd fun K hK => ?_
 unfold Oper.wp execOp
 simp only [ho, Instr.alloc, Sem.run_bind, hz, Result.andThen_ok]
 simp [newVar, newRow, go_sem, Value.cells]
 exact hK _ _ h
theorem info132 : (Tryz.prog.info? 188).map (fun i => (i.zero, i.size)) = some (some (blkV (zeroB 64)), 64) := by kernel_rfl
theorem zero132 : ∀ w, (zeroValue 188).run Tryz.prog w = .ok (blkV (zeroB 64)) w := (zero_of_info info132).1
theorem size132 : (Tryz.prog.info? 188).map (·.size) = some 64 := (zero_of_info info132).2
theorem und132 : Tryz.prog.underlying 188 = some (.array 64 5) := by kernel_rfl
theorem wpList_move {P : Program} {ops : Array Oper} {rest : List Oper} {o : Oper} {a : Act} {w : World} {Q : Exit → Act → World → Prop} (hgd : o.guard = none) (x : Operand) (ho : o.op = .move x)
  (h : wpList P ops Q rest (a.put o.dst (a.eval x)) w) : wpList P ops Q (o :: rest) a w := by
 refine wpList_plain hgd fun K hK => ?_
 unfold Oper.wp execOp
 simp only [ho]
 exact hK _ _ h
theorem wpList_build1 {P : Program} {ops : Array Oper} {rest : List Oper} {o : Oper} {a : Act} {w : World} {Q : Exit → Act → World → Prop} (hgd : o.guard = none) (t : TypeId) (i : Nat) (x : Operand) (ho : o.op = .build t #[(i, x)]) (u : Value) (hx : a.eval x = u) {cs : Array Value} (hb : P.built t [(i, u)] = some cs)
  (h : wpList P ops Q rest (a.put o.dst (.agg cs)) w) : wpList P ops Q (o :: rest) a w := by
 have e : ((#[(i, x)] : Array (Nat × Operand)).map fun (i, x) => (i, a.eval x)).toList = [(i, u)] := by simp [hx]
 refine wpList_build hgd t _ ho ?_ ?_
 ·rw [e, hb]; rfl
 ·rw [e, hb]; exact h
theorem built132 (x : Int) : Tryz.prog.built 188 [(0, .int .u8 x)] = some (Value.int .u8 x :: List.replicate 63 (.int .u8 0)).toArray := by kernel_rfl
theorem bytesV_cons (k : UInt8) (s : ByteArray) : bytesV (⟨#[k]⟩ ++ s) = .int .u8 (k.toNat : Int) :: bytesV s := by rw [bytesV_append]; rfl
theorem blk_one (s : ByteArray) : (bytesV s).toArray.all (·.oneCell') = true := all_oneCell_toArray (bytesV_one s)
theorem zeroB_size (n : Nat) : (zeroB n).size = n := by show (List.toArray _).size = n; simp
theorem bytesV_zero (n : Nat) : bytesV (zeroB n) = List.replicate n (.int .u8 0) := bytesV_zeros n
theorem copy_nil_any (w : World) (x : Addr) (n c : Nat) : (Builtin.copy_ #[59, 59] 3 #[.slice (some x) n c, .slice none 0 0]).run Tryz.prog w = .ok (goInt 0) w := by
 obtain ⟨i0, hi0, hz0, hz1, hz2⟩ := info_parts info5
 simp [Builtin.copy_, run_underlying Tryz.underlying59, Builtin.lenOf, sizeOf, typeInfo, hi0, Builtin.firstCells, storeCells]
theorem copy_row (w : World) (g : Nat) (t : TypeId) (L : List Value) (hg : RowIs w g t L) (o n c0 : Nat) (a : Option Addr) (l c : Nat) (s : ByteArray) (h : RdB w a l c s) (hs : s.size ≤ n) (hn : o + n ≤ L.length) :
  ∃ w', (Builtin.copy_ #[59, 59] 3 #[.slice (some ⟨g, o, none⟩) n c0, .slice a l c]).run Tryz.prog w = .ok (goInt s.size) w' ∧ RowIs w' g t (spl L o (bytesV s)) ∧ w.grownBy w' (some g) := by
 cases a with
 | none =>
  have hs0 : s.size = 0 := by
   rcases Nat.eq_zero_or_pos s.size with e | e
   ·exact e
   ·obtain ⟨x, hx, _⟩ := h.2.2 0 ((bytesV s)[0]'(by rw [bytesV_length]; exact e)) (List.getElem?_eq_getElem _)
    cases hx
  have hl0 : l = 0 := by rw [h.1, hs0]
  have hc0 := h.2.1 rfl
  subst hl0 hc0
  have hb : bytesV s = [] := List.eq_nil_of_length_eq_zero (by rw [bytesV_length, hs0])
  refine ⟨w, by rw [hs0]; exact copy_nil_any w _ _ _, by rw [hb]; simpa [spl] using hg, ⟨rfl, rfl, rfl, Nat.le_refl _, fun _ _ _ => rfl⟩⟩
 | some x =>
  have hm : Nat.min l n = s.size := by rw [h.1]; exact Nat.min_eq_left hs
  obtain ⟨W', q1, q2, q3⟩ := run_copy_spl (P := Tryz.prog) w 59 59 3 5 1 g o n c0 x l c L t (bytesV s) Tryz.underlying59 size5 hg (by rw [hm, bytesV_length, Nat.mul_one])
   (fun j v hv => by obtain ⟨y, e, hy⟩ := h.2.2 j v hv; cases e; exact hy) (by rw [bytesV_length]; omega) (bytesV_one s)
  exact ⟨W', by rw [hm] at q1; exact q1, q2, q3⟩
theorem spl_blk (k : UInt8) (s : ByteArray) (hs : s.size ≤ 63) : spl (bytesV (⟨#[k]⟩ ++ zeroB 63)) 1 (bytesV s) = bytesV (⟨#[k]⟩ ++ longR s 63) := by
 rw [bytesV_cons, bytesV_cons, bytesV_zero]
 unfold spl longR
 rw [bytesV_length]
 have e1 : (Value.int .u8 (k.toNat : Int) :: List.replicate 63 (Value.int .u8 0)).drop (1 + s.size) = List.replicate (63 - s.size) (.int .u8 0) := by
  rw [Nat.add_comm, List.drop_succ_cons, List.drop_replicate]
 rw [e1]
 by_cases h63 : 63 ≤ s.size
 ·have ht : (bytesV s).take (63 - 0) = bytesV s := List.take_of_length_le (by rw [bytesV_length]; omega)
  rw [if_pos h63, show 63 - s.size = 0 by omega, bytesV_extract, List.drop_zero, ht]
  simp
 ·rw [if_neg h63, bytesV_append, bytesV_zeros]
  simp
theorem blk_size (k : UInt8) (s : ByteArray) : (bytesV (⟨#[k]⟩ ++ longR s 63)).toArray.size = 64 := by
 rw [bytesV_cons]; simp [bytesV_length, longR_size]
theorem blockOf_code (w : World) (a : Option Addr) (l c : Nat) (s : ByteArray) (h : RdB w a l c s) (hs : s.size ≤ 63) (k : UInt8) :
  Calls Tryz.prog 213 #[.int .u8 (k.toNat : Int), .slice a l c] w fun e w' => e = .returned (blkV (⟨#[k]⟩ ++ longR s 63)) ∧ Below w.heap.size w w' := by
 have HH := hide h
 clear h
 go_enter Tryz.func213, Tryz.ntmps213
 go_upto_region 0 with fail
 refine wp_region_lit ?_
 refine wpList_alloc_z rfl 188 rfl zero132 ?_
 refine wpList_nil ?_
 obtain ⟨W, hW, hx0, hkW, hszW, hbW⟩ := alloc_name w (bytesV (zeroB 64)) 188
 rw [hW]
 clear hW
 go_upto_region 1 with fail
 refine wp_region_lit ?_
 refine wpList_move rfl _ rfl ?_
 refine wpList_build1 rfl 188 0 _ rfl (.int .u8 (k.toNat : Int)) rfl ((built132 _).trans (congrArg some (show _ = (bytesV (⟨#[k]⟩ ++ zeroB 63)).toArray by rw [bytesV_cons, bytesV_zero]))) ?_
 refine wpList_alloc_z rfl 188 rfl zero132 ?_
 obtain ⟨W2, hW2, hx2, hkW2, hszW2, hbW2⟩ := alloc_name W (bytesV (zeroB 64)) 188
 rw [hW2]
 clear hW2
 refine wpList_store_row rfl 188 _ _ rfl W.heap.size (bytesV (⟨#[k]⟩ ++ zeroB 63)).toArray rfl rfl 188 _ hx2 ?_ ?_ (blk_one _) ?_
 ·rw [size132]; rfl
 ·rfl
 refine wpList_nil ?_
 have hx3 : RowIs (W2.setRow W.heap.size (bytesV (⟨#[k]⟩ ++ zeroB 63)).toArray) W.heap.size 188 (bytesV (⟨#[k]⟩ ++ zeroB 63)) := setRow_heap W2 _ _ _ 188 _ hx2
 have hb3 : Below W.heap.size W (W2.setRow W.heap.size (bytesV (⟨#[k]⟩ ++ zeroB 63)).toArray) := hbW2.trans ⟨rfl, rfl, rfl, by simp, fun j hj => setRow_other W2 _ j _ (by omega)⟩
 have hx1 := hkW2 _ _ _ hx0
 obtain ⟨W3, hW3⟩ : ∃ X, X = W2.setRow W.heap.size (bytesV (⟨#[k]⟩ ++ zeroB 63)).toArray := ⟨_, rfl⟩
 rw [← hW3] at hx3 hb3 ⊢
 have hb4 : Below w.heap.size w W3 := hbW.trans (hb3.mono (by omega))
 have hx4 : RowIs W3 w.heap.size 188 (bytesV (zeroB 64)) := (hb3.block _ (by omega)).trans hx0
 obtain ⟨W4, hr, hx5, hg⟩ := copy_row W3 W.heap.size 188 _ hx3 1 63 63 a l c s ((unhide HH).below hb4) hs (by rw [bytesV_length]; exact Nat.le_refl 64)
 have hx6 : RowIs W4 w.heap.size 188 (bytesV (zeroB 64)) := (hg.block _ hx4.lt (fun e => by simp at e; omega)).trans hx4
 have hfin := spl_blk k s hs
 rw [hfin] at hx5
 have HX5 := hide hx5
 have HX6 := hide hx6
 have hb5 : Below w.heap.size w W4 := hb4.grown hg hb4.size (fun k e => by cases e; omega)
 have HSZ := hide hszW
 clear hx5 hx6 hx4 hx3 hx2 hx1 hx0 hkW hkW2 hW3 hbW hbW2 hb3 hb4 hg hfin hszW hszW2
 go_upto_region 3 with (at_builtin; refine wpList_copy_run _ rfl _ _ 59 59 rfl _ _ rfl rfl hr ?_)
 refine wp_region_lit ?_
 refine wpList_load_row rfl 188 _ rfl W.heap.size rfl 188 _ (0, 0) _ (unhide HX5) und132 rfl ?_ ?_
 ·rw [size132, blk_size]
 refine wpList_store_row rfl 188 _ _ rfl w.heap.size (bytesV (⟨#[k]⟩ ++ longR s 63)).toArray rfl rfl 188 _ (unhide HX6) ?_ ?_ (blk_one _) ?_
 ·rw [size132, blk_size]
 ·rw [blk_size]; rfl
 refine wpList_nil ?_
 go_wp2
 have hfin : RowIs (W4.setRow w.heap.size (bytesV (⟨#[k]⟩ ++ longR s 63)).toArray) w.heap.size 188 (bytesV (⟨#[k]⟩ ++ longR s 63)) := setRow_heap W4 _ _ _ 188 _ (unhide HX6)
 refine bodyPost_ret (v := blkV ((⟨#[k]⟩ : ByteArray) ++ longR s 63)) (results_cell_row rfl _ _ w.heap.size 188 _ (0, 0) _ rfl hfin und132 rfl ?_) rfl ⟨rfl, ?_⟩
 ·rw [size132, blk_size]
 ·exact hb5.trans ⟨rfl, rfl, rfl, by simp, fun j hj => setRow_other W4 _ j _ (by omega)⟩
theorem wrap64 (x : Nat) (h : x < 18446744073709551616) : IntKind.u64.wrap (x : Int) = x := by
 simp [IntKind.wrap, IntKind.bits, IntKind.signed]; omega
theorem bits_or (x i b : Nat) (hb : b < 2 ^ i) (h : 2 ^ i * x + b < 18446744073709551616) : bits BinOp.or IntKind.u64 ((2 ^ i * x : Nat) : Int) (b : Int) = ((2 ^ i * x + b : Nat) : Int) := by
 show IntKind.u64.wrap (((BitVec.ofInt 64 ((2 ^ i * x : Nat) : Int) ||| BitVec.ofInt 64 (b : Int) : BitVec 64).toNat : Nat) : Int) = _
 simp only [BitVec.ofInt_natCast, BitVec.toNat_or, BitVec.toNat_ofNat]
 rw [Nat.mod_eq_of_lt (a := 2 ^ i * x) (by show _ < 18446744073709551616; omega), Nat.mod_eq_of_lt (a := b) (by show _ < 18446744073709551616; omega), ← Nat.two_pow_add_eq_or_of_lt hb, wrap64 _ h]
theorem role_eq (k n t : Nat) (hk : k < 256) (hn : n < 65536) (ht : t < 65536) : bits BinOp.or IntKind.u64 (bits BinOp.or IntKind.u64 ((k : Int) * 4294967296) ((n : Int) * 65536)) (t : Int) = ((k * 4294967296 + n * 65536 + t : Nat) : Int) := by
 have e1 : ((k : Int) * 4294967296) = ((2 ^ 32 * k : Nat) : Int) := by omega
 have e2 : ((n : Int) * 65536) = ((n * 65536 : Nat) : Int) := by omega
 rw [e1, e2, bits_or k 32 (n * 65536) (by show _ < 4294967296; omega) (by show 4294967296 * k + _ < _; omega)]
 have e3 : 2 ^ 32 * k + n * 65536 = 2 ^ 16 * (k * 65536 + n) := by show 4294967296 * k + _ = 65536 * _; omega
 rw [e3, bits_or _ 16 t ht (by show 65536 * _ + _ < _; omega)]
 congr 1; show 65536 * _ + _ = _; omega
theorem roleOf_code (w : World) (k n t : Nat) (hk : k < 256) (hn : n < 65536) (ht : t < 65536) :
  Calls Tryz.prog 244 #[.int .u8 k, .int .i64 n, .int .i64 t] w fun e w' => e = .returned (.int .u64 ((k * 4294967296 + n * 65536 + t : Nat) : Int)) ∧ w' = w := by
 have HE := hide (role_eq k n t hk hn ht)
 go_enter Tryz.func244, Tryz.ntmps244
 go_wp2
 go_ret
 exact ⟨congrArg (fun z => Ending.returned (.int .u64 z)) (unhide HE), rfl⟩
def refB (p x : Nat) : ByteArray := ⟨(numL p 2 ++ numL x 8).toArray⟩
theorem refB_app (s : ByteArray) (p x : Nat) : s ++ ⟨(numL p 2).toArray⟩ ++ ⟨(numL x 8).toArray⟩ = s ++ refB p x := by
 apply WideShapes.bytes_inj; simp [refB]
theorem Own.lt {b : Nat} {w : World} {v : Value} {s : ByteArray} (h : SlB b w v s) {g : Nat} (hg : Own v g) : g < w.heap.size := by
 rcases h.1.2 with ⟨e, _⟩ | ⟨g', cap, L, e, hR, _⟩
 ·rw [e] at hg; simp [Own, Value.ownBlock] at hg
 ·rw [e] at hg; simp [Own, Value.ownBlock] at hg; subst hg; exact hR.lt
theorem numA_size (x m : Nat) : (⟨(numL x m).toArray⟩ : ByteArray).size = m := by show (List.toArray _).size = m; simp [numL_length]
theorem appendTo_code (w : World) (b : Nat) (hb : b ≤ w.heap.size) (a : Option Addr) (l c : Nat) (s : ByteArray) (h : SlB b w (.slice a l c) s) (p x : Nat) (hp : p < 65536) (hx : x < 18446744073709551616) (hs : s.size ≤ 1000000) :
  Calls Tryz.prog 214 #[.agg #[.int .i64 p, .int .u64 x], .slice a l c] w fun e w' => ∃ a' l' c', e = .returned (.slice a' l' c') ∧ SlB b w' (.slice a' l' c') (s ++ refB p x) ∧ Fr (Own (.slice a l c)) w w' ∧ NewOr w (.slice a l c) (.slice a' l' c') := by
 obtain ⟨W, hW, hx0, hkW, hszW, hbW⟩ := alloc_name w [.int .i64 p, .int .u64 x] 175
 have hlt : ¬ Own (.slice a l c) w.heap.size := fun e => by have := Own.lt h e; omega
 have HC1 : Hid (∀ X, Below W.heap.size W X → Calls Tryz.prog 212 #[.slice a l c, .int .u64 (IntKind.u64.wrap (p : Int)), .int .i64 2] X fun e w' => ∃ a' l' c', e = .returned (.slice a' l' c') ∧ Hid (SlB b w' (.slice a' l' c') (s ++ ⟨(numL p 2).toArray⟩) ∧ Fr (Own (.slice a l c)) W w' ∧ NewOr W (.slice a l c) (.slice a' l' c')) ∧ RowIs w' w.heap.size 175 [.int .i64 p, .int .u64 x]) := fun X hX => by
  rw [wrap64 p (by omega)]
  have hwX : Below w.heap.size w X := hbW.trans (hX.mono (by omega))
  have hsz := hX.size
  refine (appendNumber_code X b (by omega) a l c s (h.below hwX) p (by omega) 2 (by omega) (by omega)).mono ?_
  rintro e w' ⟨a', l', c', rfl, h1, h2, h3⟩
  refine ⟨a', l', c', rfl, ⟨h1, (Fr.of_below hX).then h2 (fun _ _ e => e), fun g hg => (h3 g hg).elim .inl (fun h => .inr (by omega))⟩, ?_⟩
  exact (show RowIs X w.heap.size 175 _ from (hX.block _ (by omega)).trans hx0).fr h2 hlt
 have HC2 : Hid (∀ X a1 l1 c1, Hid (SlB b X (.slice a1 l1 c1) (s ++ ⟨(numL p 2).toArray⟩) ∧ Fr (Own (.slice a l c)) W X ∧ NewOr W (.slice a l c) (.slice a1 l1 c1)) → RowIs X w.heap.size 175 [.int .i64 p, .int .u64 x] → Calls Tryz.prog 212 #[.slice a1 l1 c1, .int .u64 x, .int .i64 8] X fun e w' => ∃ a' l' c', e = .returned (.slice a' l' c') ∧ Hid (SlB b w' (.slice a' l' c') (s ++ refB p x) ∧ Fr (Own (.slice a l c)) w w' ∧ NewOr w (.slice a l c) (.slice a' l' c')) ∧ RowIs w' w.heap.size 175 [.int .i64 p, .int .u64 x]) := fun X a1 l1 c1 hh hrow => by
  obtain ⟨h1, h2, h3⟩ := unhide hh
  have hsz := h2.size
  refine (appendNumber_code X b (by omega) a1 l1 c1 _ h1 x hx 8 (by omega) (by rw [ByteArray.size_append, numA_size]; omega)).mono ?_
  rintro e w' ⟨a', l', c', rfl, q1, q2, q3⟩
  refine ⟨a', l', c', rfl, ⟨by rw [← refB_app]; exact q1, ((Fr.of_below hbW).then h2 (fun _ _ e => e)).then q2 (fun k hk e => (h3 k e).elim id (fun h => by omega)), fun g hg => ?_⟩, ?_⟩
  ·rcases q3 g hg with h4 | h4
   ·exact (h3 g h4).elim .inl (fun h => .inr (by omega))
   ·exact .inr (by omega)
  ·exact hrow.fr q2 (fun e => (h3 _ e).elim hlt (fun h => by omega))
 have hc0 := hx0.cell 0; have hc1 := hx0.cell 1
 clear h hlt hkW hx0 hbW hb
 have hbd0 : Below W.heap.size W W := Below.refl _ _
 have hbd : Below W.heap.size W W.drew := hbd0.drew
 have HSZ := hide hszW
 clear hszW
 go_enter Tryz.func214, Tryz.ntmps214
 go_upto_region 1 with fail
 clear hW
 go_region_held3 (fun W => W.cell? ⟨w.heap.size, 0, none⟩ = some (.int .i64 p) ∧ W.cell? ⟨w.heap.size, 1, none⟩ = some (.int .u64 x)) (go_keep)
  (first | (have hqq := hq1; clear hqq; go_at_call 212; refine (unhide HC2 _ a1 l1 c1 hq1 hr1).mono ?_; rintro e w4 ⟨a2, l2, c2, rfl, hq2, hr2⟩; have n0 := hr2.cell 0; have n1 := hr2.cell 1) | (go_at_call 212; refine (unhide HC1 _ hbd).mono ?_; rintro e w3 ⟨a1, l1, c1, rfl, hq1, hr1⟩; have m0 := hr1.cell 0; have m1 := hr1.cell 1))
 all_goals
  go_wp2
  go_ret
  exact ⟨a2, l2, c2, rfl, unhide hq2⟩
def cellsD (D : List ByteArray) : List Value := D.flatMap bytesV
theorem cellsD_length : ∀ {D : List ByteArray}, (∀ s ∈ D, s.size = 64) → (cellsD D).length = D.length * 64
 | [], _ => rfl
 | s :: D, h => by
  have h1 := cellsD_length (D := D) (fun x hx => h x (List.mem_cons_of_mem _ hx))
  have h2 := h s List.mem_cons_self
  unfold cellsD at h1 ⊢
  simp only [List.flatMap_cons, List.length_append, bytesV_length, List.length_cons]
  omega
theorem cellsD_at : ∀ {D : List ByteArray}, (∀ s ∈ D, s.size = 64) → ∀ (i j : Nat) (s : ByteArray), D[i]? = some s → j < 64 → (cellsD D)[i * 64 + j]? = (bytesV s)[j]?
 | [], _, i, j, s, hi, _ => by simp at hi
 | x :: D, h, 0, j, s, hi, hj => by
  simp at hi; subst hi
  have h2 := h x List.mem_cons_self
  unfold cellsD
  rw [List.flatMap_cons, Nat.zero_mul, Nat.zero_add, List.getElem?_append_left (by rw [bytesV_length]; omega)]
 | x :: D, h, i + 1, j, s, hi, hj => by
  have h2 := h x List.mem_cons_self
  have := cellsD_at (D := D) (fun y hy => h y (List.mem_cons_of_mem _ hy)) i j s (by simpa using hi) hj
  unfold cellsD at this ⊢
  rw [List.flatMap_cons, List.getElem?_append_right (by rw [bytesV_length]; omega), bytesV_length, ← this]
  congr 1; omega
def SlD (w : World) (v : Value) (D : List ByteArray) : Prop := Sl w 188 64 v D.length (cellsD D) ∧ ∀ s ∈ D, s.size = 64
theorem SlD.range {w : World} {a : Option Addr} {l c : Nat} {D : List ByteArray} (h : SlD w (.slice a l c) D) (i : Nat) (s : ByteArray) (hi : D[i]? = some s) : ∃ g, a = some ⟨g, 0, none⟩ ∧ l = D.length ∧ w.rangeAt g (i * 64) (bytesV s) := by
 have hil := (List.getElem?_eq_some_iff.1 hi).1
 rcases h.1.2 with ⟨e, h0⟩ | ⟨g, cap, L, e, hR, h1, h2, h3, h4⟩
 ·omega
 ·simp only [Value.slice.injEq] at e
  obtain ⟨rfl, rfl, rfl⟩ := e
  refine ⟨g, rfl, rfl, fun j v hv => ?_⟩
  have hs := h.2 s (List.mem_of_getElem? hi)
  have hj : j < 64 := by have := (List.getElem?_eq_some_iff.1 hv).1; rw [bytesV_length] at this; omega
  have := cellsD_at h.2 i j s hi hj
  rw [hv, ← h4, List.getElem?_take] at this
  split at this
  ·rw [hR.cell]; exact this
  ·cases this
def DiskW (w : World) (db : Nat) (vf vn vw ve : Value) (D : List ByteArray) : Prop := RowIs w db 204 [vf, vn, vw, ve] ∧ SlD w vn D ∧ D.length = 1536
def skipP (nd : Nat → Int) : Nat → Nat → Nat
 | 0, h => h
 | f + 1, h => if h % 16 = 0 ∧ 0 < nd (h / 16 % 96) then skipP nd f (h + 16) else h
theorem skipP_stay {nd : Nat → Int} {h : Nat} (hs : ¬ (h % 16 = 0 ∧ 0 < nd (h / 16 % 96))) : ∀ f, skipP nd f h = h
 | 0 => rfl
 | f + 1 => by unfold skipP; rw [if_neg hs]
theorem skipP_go {nd : Nat → Int} {h f : Nat} (hs : h % 16 = 0 ∧ 0 < nd (h / 16 % 96)) : skipP nd (f + 1) h = skipP nd f (h + 16) := by
 conv => lhs; unfold skipP
 rw [if_pos hs]
def numAt (w : World) (a : Addr) : Nat := match w.cell? a with | some (.int _ x) => x.toNat | _ => 0
theorem numAt_eq {w : World} {a : Addr} {k : IntKind} {x : Nat} (h : w.cell? a = some (.int k x)) : numAt w a = x := by unfold numAt; rw [h]; rfl
theorem Fr.drewN {X : Nat → Prop} {w w1 : World} (h : Fr X w w1) (n : Nat) : Fr X w (w1.drewN n) := ⟨h.os, h.tape, h.output, h.size, h.block⟩
def NextPost (w : World) (pb : Nat) (L : List Value) (nd : Nat → Int) (hd : Nat) (e : Ending) (w' : World) : Prop :=
 ∃ p, p = skipP nd 96 hd % 1536 ∧ RowIs w' pb 184 (L.set 99 (.int .i64 ((p + 1 : Nat) : Int))) ∧ e = .returned (.int .i64 (p : Nat)) ∧ w'.cell? ⟨pb, 99, none⟩ = some (.int .i64 ((p + 1 : Nat) : Int)) ∧ Fr (fun k => k = pb) w w' ∧ (∀ j, j ≠ 99 → w'.cell? ⟨pb, j, none⟩ = w.cell? ⟨pb, j, none⟩)
theorem next_code (w : World) (pb : Nat) (L : List Value) (hL : RowIs w pb 184 L) (nd : Nat → Int) (hd : Nat) (hh : hd ≤ 1536) (hnd : ∀ j, j < 96 → w.cell? ⟨pb, 2 + j, none⟩ = some (.int .i64 (nd j))) (hc : w.cell? ⟨pb, 99, none⟩ = some (.int .i64 hd)) (hf : w.frozen? ⟨pb, 99, none⟩ = false)
  (hz : ∃ k, k < 96 ∧ nd ((hd / 16 + k) % 96) ≤ 0) :
  Calls Tryz.prog 302 #[.pointer (some ⟨pb, 0, none⟩)] w (NextPost w pb L nd hd) := by
 have HL := hide hL
 have HND := hide hnd
 have HZ := hide hz
 have hL99 : L.set 99 (.int .i64 (hd : Int)) = L := by
  have h1 : L[99]? = some (.int .i64 (hd : Int)) := by rw [← hL.cell 99]; exact hc
  obtain ⟨h2, h3⟩ := List.getElem?_eq_some_iff.1 h1
  rw [← h3]; exact List.set_getElem_self h2
 have HL99 := hide hL99
 clear hnd hz hL hL99
 go_enter Tryz.func302, Tryz.ntmps302
 go_wp2_with fail
 go_loopw [4] (fun _ wr => ∃ k h : Nat, k ≤ 96 ∧ h = hd + 16 * k ∧ Hid (skipP nd (96 - k) h = skipP nd 96 hd ∧ ∀ j, j < k → 0 < nd ((hd / 16 + j) % 96)) ∧ wr.cell? ⟨pb, 99, none⟩ = some (.int .i64 h) ∧ wr.frozen? ⟨pb, 99, none⟩ = false ∧ Hid (Fr (fun k => k = pb) w wr ∧ (∀ j, j ≠ 99 → wr.cell? ⟨pb, j, none⟩ = w.cell? ⟨pb, j, none⟩) ∧ RowIs wr pb 184 (L.set 99 (.int .i64 (h : Int))))) (fun _ wr => hd + 1600 - numAt wr ⟨pb, 99, none⟩)
 case atStart => exact ⟨0, hd, by omega, by omega, ⟨rfl, fun j hj => absurd hj (by omega)⟩, hc, hf, Fr.refl _ _, fun _ _ => rfl, by rw [unhide HL99]; exact unhide HL⟩
 case round =>
  obtain ⟨k, h, hk, hhk, HS, hc1, hf1, HF⟩ := hrel
  have hm := numAt_eq hc1
  have HM := hide hm
  clear hm
  have hle : h ≤ 3072 := by omega
  have HHK := hide hhk
  clear hhk
  have e1 : (h : Int).tmod 16 = ((h % 16 : Nat) : Int) := by rw [Int.tmod_eq_emod_of_nonneg (by omega)]; omega
  have e2 : (IntKind.i64.wrap ((h : Int) / 16)).tmod 96 = ((h / 16 % 96 : Nat) : Int) := by rw [IntKind.wrap_i64, Int.tmod_eq_emod_of_nonneg (by omega)]; omega
  obtain ⟨x, hx⟩ : ∃ x, x = h / 16 % 96 := ⟨_, rfl⟩
  have hx96 : x < 96 := by omega
  rw [← hx] at e2
  have hxi : (x : Int) < 96 := by omega
  have hxn : ¬ (96 : Int) ≤ (x : Int) := by omega
  have hcn : wr.cell? ⟨pb, 2 + x, none⟩ = some (.int .i64 (nd x)) := ((unhide HF).2.1 _ (by omega)).trans (unhide HND _ hx96)
  obtain ⟨v, hv⟩ : ∃ v, v = nd x := ⟨_, rfl⟩
  rw [← hv] at hcn
  have HX := hide hx
  have HV := hide hv
  clear hx hv
  have e3 : (h : Int).tmod 1536 = ((h % 1536 : Nat) : Int) := by rw [Int.tmod_eq_emod_of_nonneg (by omega)]; omega
  obtain ⟨p, hp0⟩ : ∃ p, p = h % 1536 := ⟨_, rfl⟩
  have hp1 : p < 1536 := by omega
  rw [← hp0] at e3
  have HP := hide hp0
  clear hp0
  have HSTAY : Hid (¬ (h % 16 = 0 ∧ 0 < nd (h / 16 % 96)) → ∀ nq, NextPost w pb L nd hd (.returned (.int .i64 p)) ((wr.drewN nq).setCell ⟨pb, 99, none⟩ (.int .i64 ((p : Int) + 1)))) := fun hst nq => by
   refine ⟨p, ?_, ?_, rfl, World.cell?_setCell_same _ _ _ hc1, ?_, fun j hj => ?_⟩
   ·rw [← (unhide HS).1, skipP_stay hst]; exact unhide HP
   ·have := RowIs.set (show RowIs (wr.drewN nq) pb 184 _ from (unhide HF).2.2) 99 (.int .i64 ((p : Int) + 1))
    rw [List.set_set] at this; exact this
   ·exact Fr.set ((unhide HF).1.drewN nq) ⟨pb, 99, none⟩ _ rfl
   ·exact (World.cell?_setCell_other _ _ _ _ (by simp)).trans ((unhide HF).2.1 j hj)
  by_cases hg : h % 16 = 0
  ·have hgd : ((h : Int).tmod 16 == 0) = true := by rw [e1, hg]; rfl
   have HG := hide hg
   clear hg e1
   by_cases hp : 0 < v
   ·have hstep : Hid (k < 96 ∧ skipP nd (96 - (k + 1)) (h + 16) = skipP nd 96 hd ∧ ∀ j, j < k + 1 → 0 < nd ((hd / 16 + j) % 96)) := by
     have hhk := unhide HHK
     have hg := unhide HG
     have hxx : (hd / 16 + k) % 96 = x := by rw [unhide HX]; omega
     have hall : ∀ j, j < k + 1 → 0 < nd ((hd / 16 + j) % 96) := fun j hj => by
      rcases Nat.lt_or_ge j k with h1 | h1
      ·exact (unhide HS).2 j h1
      ·obtain rfl : j = k := by omega
       rw [hxx, ← unhide HV]; exact hp
     obtain ⟨kk, hkk, hnz⟩ := unhide HZ
     have hk96 : k < 96 := by
      rcases Nat.lt_or_ge kk (k + 1) with h1 | h1
      ·have := hall kk h1; omega
      ·omega
     refine ⟨hk96, ?_, hall⟩
     rw [← (unhide HS).1, show 96 - k = (96 - (k + 1)) + 1 by omega, skipP_go ⟨hg, by rw [← unhide HX, ← unhide HV]; exact hp⟩]
    have hk96 := (unhide hstep).1
    go_upto_region 1 with fail
    go_quiet (fail)
    go_wp2
    go_roundw
    case rel =>
     refine ⟨k + 1, h + 16, by omega, by rw [unhide HHK]; omega, (unhide hstep).2, ?_, ?_, ?_, fun j hj => ?_, ?_⟩
     ·exact (World.cell?_setCell_same _ _ _ hc1).trans (by go_num)
     ·simpa using hf1
     ·exact Fr.set ((unhide HF).1.drewN nq) ⟨pb, 99, none⟩ _ rfl
     ·exact (World.cell?_setCell_other _ _ _ _ (by simp)).trans ((unhide HF).2.1 j hj)
     ·have := RowIs.set (show RowIs (wr.drewN nq) pb 184 _ from (unhide HF).2.2) 99 (.int .i64 ((h : Int) + 16))
      rw [List.set_set] at this; exact this
    case measure =>
     have h1 : numAt ((wr.drewN nq).setCell ⟨pb, 99, none⟩ (.int .i64 ((h : Int) + 16))) ⟨pb, 99, none⟩ = h + 16 := numAt_eq (k := .i64) (x := h + 16) (World.cell?_setCell_same _ _ _ hc1)
     have h2 := unhide HM
     have h3 := unhide HHK
     omega
   ·have hst : ¬ (h % 16 = 0 ∧ 0 < nd (h / 16 % 96)) := fun ⟨_, h2⟩ => by rw [← unhide HX, ← unhide HV] at h2; exact hp h2
    have HST := hide hst
    have hpd : decide (0 < v) = false := decide_eq_false hp
    clear hst hp
    go_upto_region 1 with fail
    go_quiet (fail)
    go_wp2
    go_ret
    exact unhide HSTAY (unhide HST) _
  ·have hst : ¬ (h % 16 = 0 ∧ 0 < nd (h / 16 % 96)) := fun ⟨h1, _⟩ => hg h1
   have HST := hide hst
   obtain ⟨m, hm⟩ : ∃ m : Nat, h % 16 = m + 1 := ⟨h % 16 - 1, by omega⟩
   have e4 : (h : Int).tmod 16 = (m : Int) + 1 := by rw [e1, hm]; omega
   have e5 : decide ((m : Int) + 1 = 0) = false := decide_eq_false (by omega)
   have e6 : ((m : Int) + 1 == 0) = false := by rw [beq_eq_false_iff_ne]; omega
   clear hst hg e1 e2 hcn hxi hxn hx96 hm
   go_upto_region 1 with fail
   go_quiet (fail)
   go_wp2
   go_ret
   exact unhide HSTAY (unhide HST) _
theorem epochs_code (w : World) (db : Nat) (a : Option Addr) (l c : Nat) (h : w.cell? ⟨db, 3, none⟩ = some (.slice a l c)) :
  Calls Tryz.prog 79 #[.pointer (some ⟨db, 0, none⟩)] w fun e w' => e = .returned (.int .i64 l) ∧ w' = w := by
 go_enter Tryz.func79, Tryz.ntmps79
 go_wp2
 go_ret
 exact ⟨rfl, rfl⟩
theorem stepAppend {P : Program} {ops : Array Oper} {o : Oper} {a : Act} {w : World} {K : Act → World → Prop} {Q : Exit → Act → World → Prop} {E : Prop}
  (hg : o.guard = none) (d x : Operand) (dT sT : TypeId) (hop : o.op = Op.call { callee := Callee.builtin Builtin.append, args := #[d, x], argTypes := #[dT, sT] })
  (v u : Value) (hd : a.eval d = v) (hx : a.eval x = u) {Post : Value → World → Prop} (hr : ∃ v' w', (Builtin.append_ #[dT, sT] o.type #[v, u]).run P w = .ok v' w' ∧ Post v' w') (hK : ∀ v' w', Post v' w' → K (a.put o.dst v') w') :
  if Region.wanted o (yielded ops a.tmps) = true then Oper.wp P o a w K Q else E := by
 obtain ⟨v', w', h1, h2⟩ := hr
 exact step_append_run hg d x dT sT hop v u hd hx h1 (hK v' w' h2)
theorem appI (w : World) (v : Value) (es : List Int) (hS : Sl w 3 1 v es.length (es.map (.int .i64))) (nb : Nat) (x : Int) (hn : RowIs w nb 3 [.int .i64 x]) (hl : es.length ≤ 1000000) :
  ∃ v' w', (Builtin.append_ #[53, 53] 53 #[v, .slice (some ⟨nb, 0, none⟩) 1 1]).run Tryz.prog w = .ok v' w' ∧ ∃ a' l' c', v' = .slice a' l' c' ∧ Sl w' 3 1 (.slice a' l' c') (es.length + 1) ((es ++ [x]).map (.int .i64)) ∧ Fr (Own v) w w' ∧ NewOr w v (.slice a' l' c') := by
 obtain ⟨i3, hi3, hy0, hy1, hy2⟩ := info_parts (P := Tryz.prog) (e := 3) (z := .int .i64 0) (size := 1) (bytes := 8) (by kernel_rfl)
 obtain ⟨v', w2, r1, r2, r3, r4⟩ := append_new (P := Tryz.prog) w 53 53 3 i3 _ 1 8 (by kernel_rfl) hi3 hy0 hy1 hy2 rfl (by decide) v es.length (es.map (.int .i64)) hS ⟨nb, 0, none⟩ 1 1 [.int .i64 x] rfl
  (fun j u hu => by rw [Addr.add_lit, Nat.zero_add, hn.cell]; exact hu) (fun u hu => by rw [List.mem_singleton.1 hu]; rfl) (by unfold maxLen; omega) (by omega)
 obtain ⟨a', l', c', rfl⟩ := r2.shape
 exact ⟨_, w2, r1, a', l', c', rfl, by rw [List.map_append]; exact r2, ⟨r3.os, r3.tape, r3.output, r3.size, fun k hk hX => r3.block k hk (fun e => hX e.symm)⟩, r4⟩
def FlushPost (w : World) (db : Nat) (vf vn vw ve : Value) (es : List Int) (m : Int) (e : Ending) (w' : World) : Prop :=
 e = .returned (.tuple #[]) ∧ ∃ ve', RowIs w' db 204 [vf, vn, vw, ve'] ∧ Sl w' 3 1 ve' (es.length + 1) ((es ++ [m]).map (.int .i64)) ∧ Fr (fun k => k = db ∨ Own ve k) w w' ∧ NewOr w ve ve'
theorem flush_code (w : World) (db : Nat) (vf vn ve : Value) (a : Option Addr) (l c : Nat) (h : RowIs w db 204 [vf, vn, .slice a l c, ve]) (es : List Int) (hS : Sl w 3 1 ve es.length (es.map (.int .i64))) (hne : ¬ Own ve db) (hl : es.length ≤ 1000000) :
  Calls Tryz.prog 200 #[.pointer (some ⟨db, 0, none⟩)] w (FlushPost w db vf vn (.slice a l c) ve es l) := by
 obtain ⟨a0, l0, c0, rfl⟩ := hS.shape
 have HAPP : Hid (∀ W', Below w.heap.size w W' → ∀ nb, RowIs W' nb 3 [.int .i64 l] → ∃ v' w', (Builtin.append_ #[53, 53] 53 #[.slice a0 l0 c0, .slice (some ⟨nb, 0, none⟩) 1 1]).run Tryz.prog W' = .ok v' w' ∧ ∃ a' l' c', v' = .slice a' l' c' ∧ RowIs w' db 204 [vf, vn, .slice a l c, .slice a0 l0 c0] ∧ Hid (FlushPost w db vf vn (.slice a l c) (.slice a0 l0 c0) es l (.returned (.tuple #[])) (w'.setCell ⟨db, 3, none⟩ (.slice a' l' c')))) := fun W' hb nb hr => by
  obtain ⟨v', w', r1, a', l', c', rfl, r2, r3, r4⟩ := appI W' _ es (hS.kept (fun k hk _ => hb.block k hk)) nb l hr hl
  have hrow : RowIs w' db 204 [vf, vn, .slice a l c, .slice a0 l0 c0] := RowIs.fr (show RowIs W' db 204 _ from (hb.block _ h.lt).trans h) r3 hne
  have hsz := hb.size
  refine ⟨_, w', r1, a', l', c', rfl, hrow, rfl, .slice a' l' c', by simpa using hrow.set 3 (.slice a' l' c'), ?_, ?_, fun g hg => (r4 g hg).imp id (fun h => by omega)⟩
  ·refine r2.setCell _ _ (fun e => ?_)
   rcases r4 _ e with h1 | h1
   ·exact hne h1
   ·have := h.lt; simp only at h1; omega
  ·exact ((Fr.of_below hb).then r3 (fun k _ e => .inr e)).set ⟨db, 3, none⟩ _ (.inl rfl)
 have c2 : w.cell? ⟨db, 2, none⟩ = some (.slice a l c) := (h.cell 2).trans rfl
 have c3 : w.cell? ⟨db, 3, none⟩ = some (.slice a0 l0 c0) := (h.cell 3).trans rfl
 have hlt := h.lt
 have hne1 : ¬ db = w.heap.size := by omega
 have hne2 : ¬ w.heap.size = db := by omega
 clear h hS hne
 go_enter Tryz.func200, Tryz.ntmps200
 go_wp2_with fail
 go_region_law (refine stepAppend rfl _ _ 53 53 rfl _ _ (by simp [Act.eval]) (by simp [Act.eval]) (unhide HAPP _ (by first | exact ((Below.refl _ w).drew.alloc (by simp) _) | exact ((Below.refl _ w).alloc (by simp) _)) _ (row_new _ _ _)) ?_; rintro v2 w2 ⟨a', l', c', rfl, hr3, HP⟩; have d3 := hr3.cell 3; have f3 := hr3.frozen 3)
 all_goals
  go_wp2
  go_end0
  exact unhide HP
end Go.Proofs.YtaieidcohdhgpaaGreatDoor
