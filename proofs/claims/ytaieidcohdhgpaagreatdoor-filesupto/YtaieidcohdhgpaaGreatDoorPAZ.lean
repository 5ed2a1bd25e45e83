/- Files. -/
import Derived.Test.YtaieidcohdhgpaaGreatDoorPAX
import Derived.Deep.RegionHeld3
namespace Go.Proofs.YtaieidcohdhgpaaGreatDoor
open Go.RowKit
set_option maxHeartbeats 1000000
set_option maxRecDepth 100000
theorem copy_made (w : World) (a : Option Addr) (l c : Nat) (s : ByteArray) (h : RdB w a l c s) (n : Nat) (W : World) (hS : Sl W 5 1 (.slice (some ⟨w.heap.size, 0, none⟩) n n) n (List.replicate n (.int .u8 0))) (hb : Below w.heap.size w W) :
  ∃ W', (Builtin.copy_ #[59, 59] 3 #[.slice (some ⟨w.heap.size, 0, none⟩) n n, .slice a l c]).run Tryz.prog W = .ok (goInt (Nat.min l n)) W' ∧ Sl W' 5 1 (.slice (some ⟨w.heap.size, 0, none⟩) n n) n (bytesV (longR s n)) ∧ Below w.heap.size w W' := by
 have hrd := h.below hb
 cases a with
 | none =>
  have hs0 : s.size = 0 := by
   rcases Nat.eq_zero_or_pos s.size with e | e
   ·exact e
   ·obtain ⟨x, hx, _⟩ := h.2.2 0 ((bytesV s)[0]'(by rw [bytesV_length]; exact e)) (List.getElem?_eq_getElem _)
    cases hx
  have hl0 : l = 0 := by rw [h.1, hs0]
  have hc0 := h.2.1 rfl
  subst hl0 hc0
  refine ⟨W, by rw [show Nat.min 0 n = 0 from Nat.zero_min n]; exact copy_nil W _ _ _, ?_, hb⟩
  have : bytesV (longR s n) = List.replicate n (.int .u8 0) := by
   have hse : s = ⟨#[]⟩ := by
    apply WideShapes.bytes_inj
    have : s.data.toList.length = 0 := by rw [← hs0]; exact Array.length_toList
    rw [List.eq_nil_of_length_eq_zero this]
   unfold longR
   by_cases hn0 : n ≤ s.size
   ·rw [if_pos hn0]
    have : n = 0 := by omega
    subst this
    rw [bytesV_extract]; simp
   ·rw [if_neg hn0, bytesV_append, bytesV_zeros, hs0, hse]
    simp [bytesV]
  rw [this]; exact hS
 | some x =>
  rcases hS.2 with ⟨e, _⟩ | ⟨g, cap, L, e, hR, h1, h2, h3, h4⟩
  ·cases e
  ·cases e
   have hL : L = List.replicate n (.int .u8 0) := by
    rw [← h4, List.take_of_length_le (by omega)]
   have hlen : ((bytesV s).take (Nat.min l n)).length = Nat.min l n * 1 := by
    rw [List.length_take, bytesV_length, h.1, Nat.mul_one]
    exact Nat.min_eq_left (Nat.min_le_left _ _)
   obtain ⟨W', q1, q2, q3⟩ := run_copy_spl (P := Tryz.prog) W 59 59 3 5 1 w.heap.size 0 n n x l c L 5 ((bytesV s).take (Nat.min l n)) Tryz.underlying59 size5 hR hlen
    (fun j v hv => by
     rw [List.getElem?_take] at hv
     split at hv
     ·obtain ⟨y, e, hy⟩ := hrd.2.2 j v hv; cases e; exact hy
     ·cases hv) (by rw [hlen, h3]; have : Nat.min l n ≤ n := Nat.min_le_right _ _; omega) (fun v hv => bytesV_one s v (List.mem_of_mem_take hv))
   refine ⟨W', q1, ?_, ?_⟩
   ·have hfin : spl L 0 ((bytesV s).take (Nat.min l n)) = bytesV (longR s n) := by
     unfold spl
     rw [hlen, hL, List.take_zero, List.nil_append, Nat.zero_add, Nat.mul_one, List.drop_replicate]
     unfold longR
     by_cases hns : n ≤ s.size
     ·have hm : Nat.min l n = n := by rw [h.1]; exact Nat.min_eq_right hns
      rw [if_pos hns, bytesV_extract, hm]; simp
     ·have hm : Nat.min l n = s.size := by rw [h.1]; exact Nat.min_eq_left (by omega)
      rw [if_neg hns, bytesV_append, bytesV_zeros, hm, List.take_of_length_le (by rw [bytesV_length]; exact Nat.le_refl _)]
    rw [hfin] at q2
    refine ⟨by rw [bytesV_length, longR_size]; omega, .inr ⟨w.heap.size, n, _, rfl, q2, Nat.le_refl _, h2, by rw [bytesV_length, longR_size]; omega, by rw [List.take_of_length_le (by rw [bytesV_length, longR_size]; omega)]⟩⟩
   ·exact hb.grown q3 hb.size (fun k e => by cases e; exact Nat.le_refl _)
theorem RdB.drop {w : World} {x : Addr} {l c : Nat} {s : ByteArray} (h : RdB w (some x) l c s) (k : Nat) (c' : Nat) : RdB w (some (x.add k)) (l - k) c' (s.extract k s.size) := by
 refine ⟨by rw [ByteArray.size_extract, h.1]; omega, fun e => (by cases e), fun j v hv => ?_⟩
 rw [bytesV_extract, List.getElem?_take] at hv
 split at hv
 ·rw [List.getElem?_drop] at hv
  obtain ⟨y, e, hy⟩ := h.2.2 _ _ hv
  cases e
  exact ⟨_, rfl, by rw [Addr.add_add]; exact hy⟩
 ·cases hv
theorem Addr.block_add' (x : Addr) (j : Nat) : (x.add j).block = x.block := by unfold Addr.add; split <;> rfl
def BytesPost (w : World) (fb : Nat) (a : Option Addr) (l : Nat) (s : ByteArray) (n : Nat) (e : Ending) (w' : World) : Prop :=
 ∃ a2 c2, e = .returned (.slice (some ⟨w.heap.size, 0, none⟩) n n) ∧ Sl w' 5 1 (.slice (some ⟨w.heap.size, 0, none⟩) n n) n (bytesV (longR s n)) ∧ RowIs w' fb 287 [.slice a2 (l - n) c2] ∧ RdB w' a2 (l - n) c2 (s.extract n s.size) ∧ l - n ≤ c2 ∧ (∀ x, a2 = some x → ∃ y, a = some y ∧ y.block = x.block) ∧ Fr (fun k => k = fb) w w'
theorem bytes_code (w : World) (fb : Nat) (a : Option Addr) (l c : Nat) (s : ByteArray) (hrow : RowIs w fb 287 [.slice a l c]) (h : RdB w a l c s) (hlc : l ≤ c) (hne : ∀ x, a = some x → x.block ≠ fb) (n : Nat) (hn : n ≤ 2000000) (hl : l ≤ 2000000) :
  Calls Tryz.prog 245 #[.pointer (some ⟨fb, 0, none⟩), .int .i64 n] w (BytesPost w fb a l s n) := by
 obtain ⟨i0, hi0, hz0, hz1, hz2⟩ := info_parts info5
 have hcopy : ∀ W : World, W.ownsRow 0 5 1 (.slice (some ⟨w.heap.size, 0, none⟩) n n) n (madeCells (Value.int .u8 0).cells (n * 1)).toList → w.grownBy W none → ∃ W', (Builtin.copy_ #[59, 59] 3 #[.slice (some ⟨w.heap.size, 0, none⟩) n n, .slice a l c]).run Tryz.prog W.drew = .ok (goInt (Nat.min l n)) W' ∧ W.cell? ⟨fb, 0, none⟩ = some (.slice a l c) ∧ W'.cell? ⟨fb, 0, none⟩ = some (.slice a l c) ∧ W'.frozen? ⟨fb, 0, none⟩ = false ∧ Hid (Sl W' 5 1 (.slice (some ⟨w.heap.size, 0, none⟩) n n) n (bytesV (longR s n)) ∧ Below w.heap.size w W') := fun W hW hg => by
  have hS := Sl.of_owns hW
  have e1 : (madeCells (Value.int .u8 0).cells (n * 1)).toList = List.replicate n (.int .u8 0) := by rw [Nat.mul_one]; exact toList_madeCells_one (.int .u8 0) n
  rw [e1] at hS
  have hb := below_of_grown hg
  obtain ⟨W', r1, r2, r3⟩ := copy_made w a l c s h n W.drew hS hb.drew
  have q1 : RowIs W fb 287 [.slice a l c] := (hb.block _ hrow.lt).trans hrow
  have q2 : RowIs W' fb 287 [.slice a l c] := (r3.block _ hrow.lt).trans hrow
  exact ⟨W', r1, (q1.cell 0).trans rfl, (q2.cell 0).trans rfl, q2.frozen 0, r2, r3⟩
 have HC := hide hcopy
 have hfb := hrow.lt
 have HROW := hide hrow
 have HH := hide h
 obtain ⟨m, hm⟩ : ∃ m, m = Nat.min l n := ⟨_, rfl⟩
 have hml : m ≤ l := by rw [hm]; exact Nat.min_le_left _ _
 rw [← hm] at HC
 have hlm : l - m = l - n := by have e : m = min l n := hm; omega
 have HFIN : Hid (∀ W' a2 c2, Sl W' 5 1 (.slice (some ⟨w.heap.size, 0, none⟩) n n) n (bytesV (longR s n)) → Below w.heap.size w W' → (∀ X, Below w.heap.size w X → RdB X a2 (l - n) c2 (s.extract n s.size)) → l - n ≤ c2 → (∀ x, a2 = some x → ∃ y, a = some y ∧ y.block = x.block) → BytesPost w fb a l s n (.returned (.slice (some ⟨w.heap.size, 0, none⟩) n n)) (W'.setCell ⟨fb, 0, none⟩ (.slice a2 (l - n) c2))) := fun W' a2 c2 h1 h2 h3 h4 h5 => by
  have q2 : RowIs W' fb 287 [.slice a l c] := (h2.block _ hrow.lt).trans hrow
  refine ⟨a2, c2, rfl, h1.setCell _ _ (fun e => ?_), by simpa using q2.set 0 (.slice a2 (l - n) c2), ?_, h4, h5, (Fr.of_below h2).set ⟨fb, 0, none⟩ _ rfl⟩
  ·simp [Value.ownBlock] at e; omega
  ·have h6 := h3 W' h2
   refine ⟨h6.1, h6.2.1, fun j v hv => ?_⟩
   obtain ⟨x, e, hx⟩ := h6.2.2 j v hv
   exact ⟨x, e, (World.cell?_setCell_other _ _ _ _ (by intro ee; obtain ⟨y, e1, e2⟩ := h5 x e; exact hne y e1 (by have h7 := (congrArg Addr.block ee).symm; rw [Addr.block_add'] at h7; exact e2.trans h7))).trans hx⟩
 have HRD : Hid (∀ x, a = some x → ∀ X, Below w.heap.size w X → RdB X (some (x.add m)) (l - n) (c - m) (s.extract n s.size)) := fun x e X hX => by
  subst e
  have h1 := ((unhide HH).below hX).drop m (c - m)
  rw [hlm] at h1
  have h2 : s.extract m s.size = s.extract n s.size := by
   have e : m = min l n := hm
   rw [h.1] at e
   rcases Nat.le_total s.size n with hh | hh
   ·apply WideShapes.bytes_inj
    simp only [Lib.extract_data]
    rw [e, Nat.min_eq_left hh]
    simp [hh]
   ·rw [e, Nat.min_eq_right hh]
  rw [h2] at h1
  exact h1
 have HNIL : Hid (a = none → ∀ X, RdB X none (l - n) 0 (s.extract n s.size) ∧ l = 0 ∧ c = 0) := fun e X => by
  subst e
  have hs0 : s.size = 0 := by
   rcases Nat.eq_zero_or_pos s.size with e | e
   ·exact e
   ·obtain ⟨x, hx, _⟩ := h.2.2 0 ((bytesV s)[0]'(by rw [bytesV_length]; exact e)) (List.getElem?_eq_getElem _)
    cases hx
  have hl0 : l = 0 := by rw [h.1, hs0]
  refine ⟨⟨by rw [ByteArray.size_extract, hs0, hl0]; omega, fun _ => rfl, fun j v hv => ?_⟩, hl0, h.2.1 rfl⟩
  have : bytesV (s.extract n s.size) = [] := List.eq_nil_of_length_eq_zero (by rw [bytesV_length, ByteArray.size_extract, hs0]; omega)
  rw [this] at hv; simp at hv
 have HLM := hide hlm
 have hmi : (m : Int) ≤ (l : Int) := by omega
 clear hcopy hrow h hm hlm
 cases a with
 | none =>
  obtain ⟨hrd, rfl, rfl⟩ := unhide HNIL rfl w
  obtain rfl : m = 0 := by omega
  have HN2 : Hid (∀ X, RdB X none (0 - n) 0 (s.extract n s.size)) := fun X => (unhide HNIL rfl X).1
  clear hrd HNIL
  go_enter Tryz.func245, Tryz.ntmps245
  go_upto_region 2 with (at_make; refine wpList_make_full _ rfl _ _ 59 rfl 0 5 i0 (.int .u8 0) 1 Tryz.underlying59 hi0 hz0 hz1 _ _ _ _ n rfl rfl rfl rfl (by rw [hz2]; omega) (by unfold maxLen; omega) (Nat.zero_le _) ?_; intro w1 hown hgr; obtain ⟨W', hr1, hc1, hc2, hf2, HP⟩ := unhide HC w1 hown hgr; clear hown hgr)
  go_region_law (refine step_copy_run rfl _ _ 59 59 rfl _ _ (by simp [Act.eval]) (by simp [Act.eval]) hr1 ?_)
  all_goals
   go_wp2
   go_ret
   have h1 := unhide HFIN W' none 0 (unhide HP).1 (unhide HP).2 (fun X _ => unhide HN2 X) (by omega) (fun x e => by cases e)
   rw [show 0 - n = 0 from Nat.zero_sub n] at h1
   exact h1
 | some x =>
  have hbl : ∀ y, some (x.add m) = some y → ∃ z, some x = some z ∧ z.block = y.block := fun y e => by cases e; exact ⟨x, rfl, (Addr.block_add' _ _).symm⟩
  have HBL := hide hbl
  clear hbl
  by_cases hmc : m = c
  ·have HE : Hid (∀ X, RdB X (some x) (l - n) 0 (s.extract n s.size)) := fun X => by
    have h0 : l - n = 0 := by have := unhide HLM; omega
    have hs0 : (s.extract n s.size).size = 0 := by rw [ByteArray.size_extract, ← (unhide HH).1]; omega
    refine ⟨by rw [h0, hs0], fun _ => rfl, fun j v hv => ?_⟩
    have : bytesV (s.extract n s.size) = [] := List.eq_nil_of_length_eq_zero (by rw [bytesV_length, hs0])
    rw [this] at hv; simp at hv
   obtain rfl : l = m := by omega
   subst hmc
   go_enter Tryz.func245, Tryz.ntmps245
   go_upto_region 2 with (at_make; refine wpList_make_full _ rfl _ _ 59 rfl 0 5 i0 (.int .u8 0) 1 Tryz.underlying59 hi0 hz0 hz1 _ _ _ _ n rfl rfl rfl rfl (by rw [hz2]; omega) (by unfold maxLen; omega) (Nat.zero_le _) ?_; intro w1 hown hgr; obtain ⟨W', hr1, hc1, hc2, hf2, HP⟩ := unhide HC w1 hown hgr; clear hown hgr)
   go_region_law (refine step_copy_run rfl _ _ 59 59 rfl _ _ (by simp [Act.eval]) (by simp [Act.eval]) hr1 ?_)
   all_goals
    go_wp2
    go_ret
    have h1 := unhide HFIN W' (some x) 0 (unhide HP).1 (unhide HP).2 (fun X _ => unhide HE X) (by have := unhide HLM; omega) (fun y e => ⟨x, rfl, by cases e; rfl⟩)
    rw [show l - n = 0 by have := unhide HLM; omega] at h1
    exact h1
  ·have hmc' : ¬ c = m := fun e => hmc e.symm
   go_enter Tryz.func245, Tryz.ntmps245
   go_upto_region 2 with (at_make; refine wpList_make_full _ rfl _ _ 59 rfl 0 5 i0 (.int .u8 0) 1 Tryz.underlying59 hi0 hz0 hz1 _ _ _ _ n rfl rfl rfl rfl (by rw [hz2]; omega) (by unfold maxLen; omega) (Nat.zero_le _) ?_; intro w1 hown hgr; obtain ⟨W', hr1, hc1, hc2, hf2, HP⟩ := unhide HC w1 hown hgr; clear hown hgr)
   go_region_law (refine step_copy_run rfl _ _ 59 59 rfl _ _ (by simp [Act.eval]) (by simp [Act.eval]) hr1 ?_)
   all_goals
    go_wp2
    go_ret
    rw [show l - m = l - n from unhide HLM]
    have h1 := unhide HFIN W' (some (x.add m)) (c - m) (unhide HP).1 (unhide HP).2 (unhide HRD x rfl) (by have := unhide HLM; omega) (unhide HBL)
    exact h1
def rdNum : List UInt8 → Nat
 | [] => 0
 | b :: l => b.toNat + 256 * rdNum l
theorem rdNum_lt : ∀ (l : List UInt8), rdNum l < 256 ^ l.length
 | [] => by simp [rdNum]
 | b :: l => by
  have h1 := rdNum_lt l
  have h2 : b.toNat < 256 := b.toNat_lt
  show b.toNat + 256 * rdNum l < 256 ^ (l.length + 1)
  rw [Nat.pow_succ]; omega
theorem rdNum_snoc : ∀ (l : List UInt8) (b : UInt8), rdNum (l ++ [b]) = rdNum l + 256 ^ l.length * b.toNat
 | [], b => by simp [rdNum]
 | a :: l, b => by
  show a.toNat + 256 * rdNum (l ++ [b]) = a.toNat + 256 * rdNum l + 256 ^ (l.length + 1) * b.toNat
  rw [rdNum_snoc l b, Nat.mul_add, ← Nat.add_assoc, ← Nat.mul_assoc, Nat.pow_succ, Nat.mul_comm 256 (256 ^ l.length)]
theorem rdNum_numL : ∀ (m x : Nat), x < 256 ^ m → rdNum (numL x m) = x
 | 0, x, h => by simp at h; subst h; rfl
 | m + 1, x, h => by
  show (UInt8.ofNat x).toNat + 256 * rdNum (numL (x / 256) m) = x
  have h1 : x / 256 < 256 ^ m := by rw [Nat.pow_succ] at h; omega
  rw [rdNum_numL m _ h1]
  have h2 : (UInt8.ofNat x).toNat = x % 256 := by simp
  rw [h2]; omega
theorem bits_or_comm (a b : Int) : bits BinOp.or IntKind.u64 a b = bits BinOp.or IntKind.u64 b a := by
 show IntKind.u64.wrap (((BitVec.ofInt 64 a ||| BitVec.ofInt 64 b : BitVec 64).toNat : Nat) : Int) = IntKind.u64.wrap (((BitVec.ofInt 64 b ||| BitVec.ofInt 64 a : BitVec 64).toNat : Nat) : Int)
 rw [BitVec.or_comm]
theorem pow8 (k : Nat) : 2 ^ (8 * k) = 256 ^ k := by rw [Nat.pow_mul]
theorem or_step (y b k : Nat) (hk : k < 8) (hy : y < 256 ^ k) (hb : b < 256) : bits BinOp.or IntKind.u64 (y : Int) (IntKind.u64.wrap ((b : Int) * 2 ^ (8 * k))) = ((y + 256 ^ k * b : Nat) : Int) := by
 have h1 : 256 ^ k * 256 ≤ 256 ^ 8 := by rw [← Nat.pow_succ]; exact Nat.pow_le_pow_right (by omega) hk
 have h2 : 256 ^ k * b + y < 256 ^ 8 := by
  have : 256 ^ k * b ≤ 256 ^ k * 255 := Nat.mul_le_mul_left _ (by omega)
  have : 256 ^ k * 256 = 256 ^ k * 255 + 256 ^ k := by omega
  omega
 have h3 : (256 : Nat) ^ 8 = 18446744073709551616 := by decide
 rw [h3] at h2
 have e1 : ((b : Int) * 2 ^ (8 * k)) = ((2 ^ (8 * k) * b : Nat) : Int) := by rw [Int.natCast_mul, Int.mul_comm]; simp
 rw [e1, wrap64 _ (by rw [pow8]; omega), bits_or_comm, bits_or b (8 * k) y (by rw [pow8]; exact hy) (by rw [pow8]; omega), pow8, Nat.add_comm]
def FieldsPost (w : World) (fb : Nat) (a : Option Addr) (l : Nat) (s : ByteArray) (n : Nat) (v : Value) (e : Ending) (w' : World) : Prop :=
 e = .returned v ∧ ∃ a2 c2, RowIs w' fb 287 [.slice a2 (l - n) c2] ∧ RdB w' a2 (l - n) c2 (s.extract n s.size) ∧ l - n ≤ c2 ∧ (∀ x, a2 = some x → ∃ y, a = some y ∧ y.block = x.block) ∧ Fr (fun k => k = fb) w w'
theorem number_code (w : World) (fb : Nat) (a : Option Addr) (l c : Nat) (s : ByteArray) (hrow : RowIs w fb 287 [.slice a l c]) (h : RdB w a l c s) (hlc : l ≤ c) (hne : ∀ x, a = some x → x.block ≠ fb) (n : Nat) (hn : n ≤ 8) (hl : l ≤ 2000000) :
  Calls Tryz.prog 240 #[.pointer (some ⟨fb, 0, none⟩), .int .i64 n] w (FieldsPost w fb a l s n (.int .u64 (rdNum (longR s n).data.toList : Nat))) := by
 have HB := hide (bytes_code w fb a l c s hrow h hlc hne n (by omega) hl)
 clear hrow h hlc hne
 obtain ⟨t, ht⟩ : ∃ t, t = longR s n := ⟨_, rfl⟩
 have hts : t.size = n := by rw [ht, longR_size]
 have HT := hide ht
 rw [← ht]
 clear ht
 go_enter Tryz.func240, Tryz.ntmps240
 go_wp2_with (go_at_call 245; refine (unhide HB).mono ?_; rintro e w1 ⟨a2, c2, rfl, hS, HR⟩; rw [← unhide HT] at hS; have hrd := hS.rdB; have HRD := hide hrd.2.2; have HRR := hide HR; clear hS HR hrd)
 go_loop [5, 12] (fun x i => ∃ (k y : Nat), k ≤ n ∧ i = .int .i64 k ∧ x = .int .u64 y ∧ Hid (y = rdNum (t.data.toList.take k))) (fun _ i => n - (intOf i).toNat)
 case atStart => exact ⟨0, 0, Nat.zero_le _, rfl, rfl, rfl⟩
 case round =>
  obtain ⟨k, y, hk, rfl, rfl, hy⟩ := hrel
  by_cases hlt : k < n
  ·obtain ⟨g, hg, q0⟩ := unhide HRD k _ (bytesV_at t k (by omega))
   cases hg
   obtain ⟨b, hb⟩ : ∃ b, b = t.data[k]'(by show k < t.size; omega) := ⟨_, rfl⟩
   rw [← hb, Addr.add_lit, Nat.zero_add] at q0
   have hbl : b.toNat < 256 := b.toNat_lt
   have hyl : y < 256 ^ k := by
    have := rdNum_lt (t.data.toList.take k)
    rw [← unhide hy, List.length_take, Array.length_toList, show t.data.size = n from hts, Nat.min_eq_left hk] at this
    exact this
   have HS : Hid (y + 256 ^ k * b.toNat = rdNum (t.data.toList.take (k + 1))) := by
    show _ = _
    rw [take_snoc t k (by omega), rdNum_snoc, ← unhide hy, List.length_take, Array.length_toList, show t.data.size = n from hts, Nat.min_eq_left hk, hb]
   have hor := or_step y b.toNat k (by omega) hyl hbl
   have HOR := hide hor
   clear hor hb hyl
   go_wp2
   go_round
   case rel => exact ⟨k + 1, y + 256 ^ k * b.toNat, by omega, by go_num, by rw [unhide HOR], unhide HS⟩
   case measure => simp [intOf]; omega
  ·obtain rfl : k = n := by omega
   go_wp2
   go_ret
   have h1 : t.data.toList.take k = t.data.toList := List.take_of_length_le (by rw [Array.length_toList]; exact Nat.le_of_eq hts)
   exact ⟨by rw [show y = rdNum t.data.toList by rw [unhide hy, h1]] <;> rfl, a2, c2, unhide HRR⟩
def rdP (s : ByteArray) : Nat := rdNum (longR s 2).data.toList
def rdX (s : ByteArray) : Nat := rdNum (longR (s.extract 2 s.size) 8).data.toList
theorem rdP_lt (s : ByteArray) : rdP s < 65536 := by
 have := rdNum_lt (longR s 2).data.toList
 rw [Array.length_toList, show (longR s 2).data.size = 2 from longR_size s 2] at this
 exact this
theorem RdB.fr {P : Nat → Prop} {w w' : World} {a : Option Addr} {l c : Nat} {s : ByteArray} (h : RdB w a l c s) (hf : Fr P w w') (hP : ∀ x, a = some x → 0 < s.size → ¬ P x.block) : RdB w' a l c s :=
 ⟨h.1, h.2.1, fun j v hv => by
  obtain ⟨x, e, hx⟩ := h.2.2 j v hv
  have hs : 0 < s.size := by have := (List.getElem?_eq_some_iff.1 hv).1; rw [bytesV_length] at this; omega
  have hlt := World.block_lt_of_cell? _ _ hx
  refine ⟨x, e, (World.cell?_of_block (hf.block _ hlt ?_)).trans hx⟩
  rw [Addr.block_add']; exact hP x e hs⟩
theorem RdB.lt {w : World} {x : Addr} {l c : Nat} {s : ByteArray} (h : RdB w (some x) l c s) (hs : 0 < s.size) : x.block < w.heap.size := by
 obtain ⟨y, e, hy⟩ := h.2.2 0 ((bytesV s)[0]'(by rw [bytesV_length]; exact hs)) (List.getElem?_eq_getElem _)
 cases e
 have := World.block_lt_of_cell? _ _ hy
 rw [Addr.block_add'] at this; exact this
theorem ref_code (w : World) (fb : Nat) (a : Option Addr) (l c : Nat) (s : ByteArray) (hrow : RowIs w fb 287 [.slice a l c]) (h : RdB w a l c s) (hlc : l ≤ c) (hne : ∀ x, a = some x → x.block ≠ fb) (hl : l ≤ 2000000) :
  Calls Tryz.prog 238 #[.pointer (some ⟨fb, 0, none⟩)] w (FieldsPost w fb a l s 10 (.agg #[.int .i64 (rdP s : Nat), .int .u64 (rdX s : Nat)])) := by
 have hfb := hrow.lt
 obtain ⟨W, hW, hx0, hkW, hszW, hbW⟩ := alloc_name w [.int .i64 0, .int .u64 0] 175
 have HN1 := hide (number_code W fb a l c s (hkW _ _ _ hrow) (h.below hbW) hlc hne 2 (by omega) hl)
 have HN2 : Hid (∀ X, FieldsPost W fb a l s 2 (.int .u64 (rdP s : Nat)) (.returned (.int .u64 (rdP s : Nat))) X → Calls Tryz.prog 240 #[.pointer (some ⟨fb, 0, none⟩), .int .i64 8] X fun e Y => e = .returned (.int .u64 (rdX s : Nat)) ∧ RowIs Y w.heap.size 175 [.int .i64 0, .int .u64 0] ∧ Hid (∀ Z, Fr (fun k => k = w.heap.size) Y Z → FieldsPost w fb a l s 10 (.agg #[.int .i64 (rdP s : Nat), .int .u64 (rdX s : Nat)]) (.returned (.agg #[.int .i64 (rdP s : Nat), .int .u64 (rdX s : Nat)])) Z)) := fun X ⟨_, a2, c2, p1, p2, p3, p4, p5⟩ => by
  refine (number_code X fb a2 (l - 2) c2 _ p1 p2 p3 (fun x e => by obtain ⟨y, e1, e2⟩ := p4 x e; rw [← e2]; exact hne y e1) 8 (by omega) (by omega)).mono ?_
  rintro e Y ⟨rfl, a3, c3, q1, q2, q3, q4, q5⟩
  have r1 : RowIs X w.heap.size 175 _ := hx0.fr p5 (by omega)
  have r2 : RowIs Y w.heap.size 175 _ := r1.fr q5 (by omega)
  refine ⟨rfl, r2, fun Z hZ => ⟨rfl, a3, c3, ?_, ?_, ?_, fun x e => ?_, ?_⟩⟩
  ·rw [show l - 10 = l - 2 - 8 by omega]; exact q1.fr hZ (by omega)
  ·have e : (s.extract 2 s.size).extract 8 (s.extract 2 s.size).size = s.extract 10 s.size := by
    apply WideShapes.bytes_inj
    simp
    omega
   rw [show l - 10 = l - 2 - 8 by omega, ← e]
   refine q2.fr hZ (fun x ex hpos hb => ?_)
   obtain ⟨y, e1, e2⟩ := q4 x ex
   obtain ⟨z, e3, e4⟩ := p4 y e1
   subst e3
   have := h.lt (by rw [ByteArray.size_extract, ByteArray.size_extract] at hpos; omega)
   omega
  ·omega
  ·obtain ⟨y, e1, e2⟩ := q4 x e
   obtain ⟨z, e3, e4⟩ := p4 y e1
   exact ⟨z, e3, e4.trans e2⟩
  ·exact ((Fr.of_below hbW).then (p5.trans q5) (fun k _ h => h)).then hZ (fun k hk h => by omega)
 have hpl := rdP_lt s
 obtain ⟨P, hP⟩ : ∃ P, P = rdP s := ⟨_, rfl⟩
 obtain ⟨X0, hX0⟩ : ∃ X, X = rdX s := ⟨_, rfl⟩
 rw [← hP, ← hX0] at HN2 ⊢
 have HN1' : Hid (Calls Tryz.prog 240 #[.pointer (some ⟨fb, 0, none⟩), .int .i64 2] W (FieldsPost W fb a l s 2 (.int .u64 (P : Nat)))) := by rw [hP]; exact unhide HN1
 rw [← hP] at hpl
 have HW := hide hW
 have HSZ := hide hszW
 clear HN1 hP hX0 h hrow hlc hne hx0 hkW hbW hW hszW
 go_enter Tryz.func238, Tryz.ntmps238
 go_upto_region 1 with fail
 rw [show w.alloc (.cells #[Value.int .i64 0, Value.int .u64 0] 175) = W from unhide HW]
 go_wp2_with (first | (have hqq := HQ1; clear hqq; go_at_call 240; refine (unhide HN2 _ (unhide HQ1)).mono ?_; rintro e Y ⟨rfl, hr2, HZ⟩; have m0 := hr2.cell 0; have m1 := hr2.cell 1; have f0 := hr2.frozen 0; have f1 := hr2.frozen 1) | (go_at_call 240; refine (unhide HN1').mono ?_; rintro e X hX; obtain rfl := hX.1; have HQ1 := hide hX; clear hX))
 exact bodyPost_ret (v := .agg #[.int .i64 (P : Nat), .int .u64 (X0 : Nat)]) (by simp [results, Tryz.results238, go_sem, m0, m1]) rfl (unhide HZ _ (((Fr.refl (fun k => k = w.heap.size) Y).set ⟨w.heap.size, 0, none⟩ _ rfl).set ⟨w.heap.size, 1, none⟩ _ rfl))
theorem foldset_get (off : Nat) : ∀ (vs : List Value) (k : Nat) (cs : Array Value) (j : Nat), off + k + vs.length ≤ cs.size →
  ((vs.zipIdx k).foldl (fun cs x => cs.setIfInBounds (off + x.2) x.1) cs)[j]? = if off + k ≤ j ∧ j < off + k + vs.length then vs[j - (off + k)]? else cs[j]?
 | [], k, cs, j, _ => by simp; intro h1 h2; omega
 | v :: vs, k, cs, j, h => by
  simp only [List.length_cons] at h
  rw [List.zipIdx_cons, List.foldl_cons, foldset_get off vs (k + 1) _ j (by simp; omega)]
  by_cases h1 : off + (k + 1) ≤ j ∧ j < off + (k + 1) + vs.length
  ·rw [if_pos h1, if_pos (by simp only [List.length_cons]; omega), show j - (off + k) = (j - (off + (k + 1))) + 1 by omega, List.getElem?_cons_succ]
  ·rw [if_neg h1]
   by_cases h2 : j = off + k
   ·subst h2
    rw [if_pos (by simp only [List.length_cons]; omega), Nat.sub_self, List.getElem?_cons_zero]
    simp only [Array.getElem?_setIfInBounds, if_true]
    rw [if_pos (by omega)]
   ·rw [if_neg (by simp only [List.length_cons]; omega)]
    simp only [Array.getElem?_setIfInBounds]
    rw [if_neg (by omega)]
theorem foldset (off : Nat) (vs cs : Array Value) (h : off + vs.size ≤ cs.size) : (vs.zipIdx.foldl (fun cs (x : Value × Nat) => cs.setIfInBounds (off + x.2) x.1) cs) = (spl cs.toList off vs.toList).toArray := by
 apply Array.ext_getElem?
 intro j
 have h0 : (vs.zipIdx.foldl (fun cs (x : Value × Nat) => cs.setIfInBounds (off + x.2) x.1) cs) = ((vs.toList.zipIdx 0).foldl (fun cs x => cs.setIfInBounds (off + x.2) x.1) cs) := by
  rw [← Array.foldl_toList, Array.toList_zipIdx]
 rw [h0, foldset_get off vs.toList 0 cs j (by simpa using h)]
 simp only [Nat.add_zero, Array.length_toList, List.getElem?_toArray]
 unfold spl
 by_cases h1 : j < off
 ·rw [if_neg (by omega), List.append_assoc, List.getElem?_append_left (by simp; omega), List.getElem?_take, if_pos h1]; simp
 ·by_cases h2 : j < off + vs.size
  ·rw [if_pos (by omega), List.append_assoc, List.getElem?_append_right (by simp; omega), List.getElem?_append_left (by simp; omega)]
   congr 1
   simp; omega
  ·rw [if_neg (by omega), List.getElem?_append_right (by simp; omega), List.getElem?_drop]
   simp only [List.length_append, List.length_take, Array.length_toList, Array.getElem?_toList]
   congr 1
   omega
def pcL (p : Nat) (s : ByteArray) : List Value := .int .i64 (p : Nat) :: bytesV s
def pcV (p : Nat) (s : ByteArray) : Value := .agg (pcL p s).toArray
theorem pcL_length (p : Nat) (s : ByteArray) : (pcL p s).length = s.size + 1 := by simp [pcL, bytesV_length]
theorem pcL_one (p : Nat) (s : ByteArray) : ∀ u ∈ pcL p s, u.oneCell' = true := fun u hu => by
 rcases List.mem_cons.1 hu with rfl | h
 ·rfl
 ·exact bytesV_one s u h
theorem info207 : (Tryz.prog.info? 207).map (fun i => (i.zero, i.size, i.bytes)) = some (some (.agg (pcL 0 (zeroB 64)).toArray), 65, 72) := by kernel_rfl
theorem size207 : (Tryz.prog.info? 207).map (·.size) = some 65 := by
 have := info207
 cases h : Tryz.prog.info? 207 with
 | none => rw [h] at this; cases this
 | some i => rw [h] at this; simp only [Option.map_some, Option.some.injEq, Prod.mk.injEq] at this ⊢; exact this.2.1
theorem und207 : ∃ d, Tryz.prog.underlying 207 = some d ∧ d.isRow = true := by
 have h : (Tryz.prog.underlying 207).map (·.isRow) = some true := by kernel_rfl
 cases hd : Tryz.prog.underlying 207 with
 | none => rw [hd] at h; cases h
 | some d => rw [hd] at h; exact ⟨d, rfl, by simpa using h⟩
theorem und182 : Tryz.prog.underlying 182 = some (.slice 207) := by kernel_rfl
theorem built207_fill (parts : List (Nat × Value)) : Tryz.prog.built 207 parts = Instr.fill (#[(0, 1), (1, 64)][·]?) (pcL 0 (zeroB 64)).toArray parts := by kernel_rfl
theorem blkV_cells (s : ByteArray) : (blkV s).cells = (bytesV s).toArray := rfl
theorem built207 (p : Nat) (s : ByteArray) (hs : s.size = 64) : Tryz.prog.built 207 [(0, .int .i64 (p : Nat)), (1, blkV s)] = some (pcL p s).toArray := by
 rw [built207_fill]
 have hz : (pcL 0 (zeroB 64)).length = 65 := by rw [pcL_length, zeroB_size]
 have e0 : (Value.int .i64 (p : Nat)).cells = #[.int .i64 (p : Nat)] := rfl
 have s1 : spl (pcL 0 (zeroB 64)) 0 [.int .i64 (p : Nat)] = .int .i64 (p : Nat) :: bytesV (zeroB 64) := by simp [spl, pcL]
 have s2 : spl (.int .i64 (p : Nat) :: bytesV (zeroB 64)) 1 (bytesV s) = pcL p s := by
  have : (bytesV (zeroB 64)).drop (bytesV s).length = [] := List.drop_eq_nil_of_le (by rw [bytesV_length, bytesV_length, hs, zeroB_size]; exact Nat.le_refl _)
  simp [spl, pcL, Nat.add_comm 1, this]
 have q1 : (#[(0, 1), (1, 64)] : Array (Nat × Nat))[0]? = some (0, 1) := rfl
 have q2 : (#[(0, 1), (1, 64)] : Array (Nat × Nat))[1]? = some (1, 64) := rfl
 unfold Instr.fill
 rw [q1]
 simp only [e0]
 rw [foldset 0 #[.int .i64 (p : Nat)] _ (by simp [hz])]
 simp only [List.size_toArray, List.length_cons, List.length_nil, hz]
 rw [if_neg (by decide)]
 rw [s1]
 unfold Instr.fill
 rw [q2]
 simp only [blkV_cells]
 have hb : (bytesV s).toArray.size = 64 := by simp [bytesV_length, hs]
 rw [foldset 1 _ _ (by rw [hb]; simp [bytesV_length, zeroB_size])]
 simp only [hb]
 rw [if_neg (by simp [bytesV_length, zeroB_size])]
 rw [s2]
 rfl
theorem zero207 : ∀ w, (zeroValue 207).run Tryz.prog w = .ok (pcV 0 (zeroB 64)) w := (zero_of_info (n := 65) (by
 have := info207
 cases h : Tryz.prog.info? 207 with
 | none => rw [h] at this; cases this
 | some i => rw [h] at this; simp only [Option.map_some, Option.some.injEq, Prod.mk.injEq] at this ⊢; exact ⟨this.1, this.2.1⟩)).1
theorem fill207 (p : Nat) (s : ByteArray) (hs : s.size = 64) (Z : Array Value) (hZ : Z.size = 65) : Instr.fill (fun i => some (i * 65, 65)) Z [(0, pcV p s)] = some (pcL p s).toArray := by
 have e0 : (pcV p s).cells = (pcL p s).toArray := rfl
 have hl : (pcL p s).toArray.size = 65 := by simp [pcL_length, hs]
 unfold Instr.fill
 simp only [e0]
 rw [foldset (0 * 65) _ _ (by rw [hl, hZ]; decide)]
 simp only [hl, hZ]
 rw [if_neg (by decide)]
 have : spl Z.toList (0 * 65) (pcL p s) = pcL p s := by
  unfold spl
  rw [List.drop_eq_nil_of_le (by rw [Array.length_toList, hZ, pcL_length, hs]; decide)]
  simp
 rw [this]
 rfl
theorem buildSlice207 (w : World) (p : Nat) (s : ByteArray) (hs : s.size = 64) : (Instr.buildSlice 182 1 #[(0, pcV p s)]).run Tryz.prog w = .ok (.slice (some ⟨w.heap.size, 0, none⟩) 1 1) (w.alloc (.cells (pcL p s).toArray 207)) := by
 obtain ⟨i0, hi0, hz0, hz1, hz2⟩ := info_parts info207
 have hsz : (sizeOf 207).run Tryz.prog w = .ok 65 w := by simp [sizeOf, typeInfo, hi0, hz1]
 have hf := fill207 p s hs
 unfold Instr.buildSlice
 simp only [Sem.run_bind, run_underlying und182, Result.andThen_ok, hsz]
 rw [if_neg (by decide), if_neg (by decide)]
 simp only [Sem.run_bind, zero207 w, Result.andThen_ok, Sem.run_pure]
 rw [hf _ (by simp)]
 rfl
def cellsP (ps : List (Nat × ByteArray)) : List Value := ps.flatMap (fun x => pcL x.1 x.2)
theorem cellsP_snoc (ps : List (Nat × ByteArray)) (p : Nat) (s : ByteArray) : cellsP (ps ++ [(p, s)]) = cellsP ps ++ pcL p s := by simp [cellsP]
def SlP (w : World) (v : Value) (ps : List (Nat × ByteArray)) : Prop := Sl w 207 65 v ps.length (cellsP ps)
theorem SlP.nil (w : World) : SlP w (.slice none 0 0) [] := ⟨rfl, .inl ⟨rfl, rfl⟩⟩
theorem appP (w : World) (v : Value) (ps : List (Nat × ByteArray)) (hS : SlP w v ps) (nb p : Nat) (s : ByteArray) (hs : s.size = 64) (hn : RowIs w nb 207 (pcL p s)) (hl : ps.length ≤ 1000000) :
  ∃ v' w', (Builtin.append_ #[182, 182] 182 #[v, .slice (some ⟨nb, 0, none⟩) 1 1]).run Tryz.prog w = .ok v' w' ∧ ∃ a' l' c', v' = .slice a' l' c' ∧ SlP w' (.slice a' l' c') (ps ++ [(p, s)]) ∧ Fr (Own v) w w' ∧ NewOr w v (.slice a' l' c') := by
 obtain ⟨i0, hi0, hy0, hy1, hy2⟩ := info_parts info207
 obtain ⟨v', w2, r1, r2, r3, r4⟩ := append_new (P := Tryz.prog) w 182 182 207 i0 _ 65 72 und182 hi0 hy0 hy1 hy2 (by show (pcL 0 (zeroB 64)).toArray.size = 65; simp [pcL_length, zeroB_size]) (by decide) v ps.length (cellsP ps) hS ⟨nb, 0, none⟩ 1 1 (pcL p s) (by rw [pcL_length, hs])
  (fun j u hu => by rw [Addr.add_lit, Nat.zero_add, hn.cell]; exact hu) (pcL_one p s) (by unfold maxLen; omega) (by omega)
 obtain ⟨a', l', c', rfl⟩ := r2.shape
 refine ⟨_, w2, r1, a', l', c', rfl, ?_, ⟨r3.os, r3.tape, r3.output, r3.size, fun k hk hX => r3.block k hk (fun e => hX e.symm)⟩, r4⟩
 unfold SlP
 rw [cellsP_snoc, List.length_append]; exact r2
theorem wpList_box_row {P : Program} {ops : Array Oper} {rest : List Oper} {o : Oper} {a : Act} {w : World} {Q : Exit → Act → World → Prop} (hgd : o.guard = none) (t : TypeId) (x : Operand) (ho : o.op = .box t x) (cs : List Value) (hx : a.eval x = .agg cs.toArray)
  (h : wpList P ops Q rest (a.put o.dst (.pointer (some ⟨w.heap.size, 0, none⟩))) (w.alloc (.cells cs.toArray t))) : wpList P ops Q (o :: rest) a w := by
 refine wpList_plain hgd fun K hK => ?_
 unfold Oper.wp execOp
 simp only [ho, Instr.box, Sem.run_bind, hx]
 simp [newVar, newRow, go_sem, Value.cells]
 exact hK _ _ h
theorem run_storeVar_spl {P : Program} (w : World) (g o : Nat) (t ty : TypeId) (L cs : List Value) (hg : RowIs w g t L) (hfit : o + cs.length ≤ L.length) (hi : (P.info? ty).map (·.size) = some cs.length) (h1 : ∀ u ∈ cs, u.oneCell' = true) :
  (storeVar ty ⟨g, o, none⟩ (.agg cs.toArray)).run P w = .ok () (w.setRow g (spl L o cs).toArray) := by
 have hst := run_storeCells_at P g o t cs 0 L.toArray w hg (by simpa using hfit) h1
 cases hq : P.info? ty with
 | none => simp [hq] at hi
 | some i =>
  have hs : cs.length = i.size := by simp [hq] at hi; omega
  simp only [Nat.add_zero] at hst
  simp [storeVar, sizeOf, typeInfo, hq, Value.cells, hs, hst]
  unfold spl; rw [hs, List.append_assoc]
theorem wp_store_spl {P : Program} {op : Oper} {a : Act} {w : World} {K : Act → World → Prop} {Q : Exit → Act → World → Prop} (ty : TypeId) (x y : Operand) (ho : op.op = .store ty x y)
  (g o : Nat) (t : TypeId) (L cs : List Value) (hx : a.eval x = .pointer (some ⟨g, o, none⟩)) (hy : a.eval y = .agg cs.toArray)
  (hg : RowIs w g t L) (hfit : o + cs.length ≤ L.length) (hi : (P.info? ty).map (·.size) = some cs.length) (h1 : ∀ u ∈ cs, u.oneCell' = true)
  (h : K (a.put op.dst undef) (w.setRow g (spl L o cs).toArray)) : op.wp P a w K Q := by
 unfold Oper.wp execOp
 simp only [ho, hx, hy, Instr.storeAt, Instr.sureAddr, Sem.run_bind, Sem.run_pure, Result.andThen_ok, run_storeVar_spl w g o t ty L cs hg hfit hi h1]
 exact h
theorem step_store_spl {P : Program} {ops : Array Oper} {o : Oper} {a : Act} {w : World} {K : Act → World → Prop} {Q : Exit → Act → World → Prop} {E : Prop} (hgd : o.guard = none) (ty : TypeId) (x y : Operand) (ho : o.op = .store ty x y)
  (g off : Nat) (t : TypeId) (L cs : List Value) (hx : a.eval x = .pointer (some ⟨g, off, none⟩)) (hy : a.eval y = .agg cs.toArray)
  (hg : RowIs w g t L) (hfit : off + cs.length ≤ L.length) (hi : (P.info? ty).map (·.size) = some cs.length) (h1 : ∀ u ∈ cs, u.oneCell' = true) (w' : World) (hw' : w.setRow g (spl L off cs).toArray = w')
  (h : K (a.put o.dst undef) w') : if Region.wanted o (yielded ops a.tmps) = true then Oper.wp P o a w K Q else E := by
 have hw : Region.wanted o (yielded ops a.tmps) = true := by simp [Region.wanted, hgd]
 rw [if_pos hw]
 exact wp_store_spl ty x y ho g off t L cs hx hy hg hfit hi h1 (by rw [hw']; exact h)
theorem step_build207 {ops : Array Oper} {o : Oper} {a : Act} {w : World} {K : Act → World → Prop} {Q : Exit → Act → World → Prop} {E : Prop} (hgd : o.guard = none) (x : Operand) (ho : o.op = .buildSlice 182 1 #[(0, x)])
  (p : Nat) (s : ByteArray) (hs : s.size = 64) (hx : a.eval x = pcV p s)
  (h : K (a.put o.dst (.slice (some ⟨w.heap.size, 0, none⟩) 1 1)) (w.alloc (.cells (pcL p s).toArray 207))) : if Region.wanted o (yielded ops a.tmps) = true then Oper.wp Tryz.prog o a w K Q else E := by
 have hw : Region.wanted o (yielded ops a.tmps) = true := by simp [Region.wanted, hgd]
 rw [if_pos hw]
 unfold Oper.wp execOp
 simp only [ho, List.map_toArray, List.map_cons, List.map_nil, hx, Sem.run_bind, buildSlice207 w p s hs, Result.andThen_ok, Sem.run_pure, Oper.upon]
 exact h
theorem cellsD_set : ∀ {D : List ByteArray}, (∀ s ∈ D, s.size = 64) → ∀ (i : Nat) (s : ByteArray), i < D.length → s.size = 64 → spl (cellsD D) (i * 64) (bytesV s) = cellsD (D.set i s)
 | [], _, i, s, hi, _ => by simp at hi
 | x :: D, h, 0, s, _, hs => by
  have h2 := h x List.mem_cons_self
  unfold cellsD spl
  simp only [List.flatMap_cons, List.set_cons_zero, Nat.zero_mul, List.take_zero, List.nil_append, Nat.zero_add]
  rw [bytesV_length, hs, List.drop_left' (by rw [bytesV_length, h2])]
 | x :: D, h, i + 1, s, hi, hs => by
  have h2 := h x List.mem_cons_self
  have ih := cellsD_set (D := D) (fun y hy => h y (List.mem_cons_of_mem _ hy)) i s (by simpa using hi) hs
  unfold cellsD at ih ⊢
  simp only [List.flatMap_cons, List.set_cons_succ]
  rw [← ih]
  unfold spl
  have hxl : (bytesV x).length = 64 := by rw [bytesV_length, h2]
  rw [show (i + 1) * 64 = (bytesV x).length + i * 64 by rw [hxl]; omega, List.take_length_add_append, Nat.add_assoc, List.drop_length_add_append]
  simp [List.append_assoc]
theorem set_sizes {D : List ByteArray} (h : ∀ s ∈ D, s.size = 64) (i : Nat) (s : ByteArray) (hs : s.size = 64) : ∀ x ∈ D.set i s, x.size = 64 := fun x hx => by
 rcases List.mem_or_eq_of_mem_set hx with h1 | h1
 ·exact h x h1
 ·rw [h1]; exact hs
theorem SlD.row {w : World} {v : Value} {D : List ByteArray} (h : SlD w v D) (h0 : 0 < D.length) : ∃ g c L, v = .slice (some ⟨g, 0, none⟩) D.length c ∧ RowIs w g 188 L ∧ L.take (D.length * 64) = cellsD D ∧ D.length ≤ c ∧ c ≤ maxLen ∧ L.length = c * 64 := by
 rcases h.1.2 with ⟨_, h0'⟩ | ⟨g, cap, L, e, hR, h1, h2, h3, h4⟩
 ·omega
 ·exact ⟨g, cap, L, e, hR, h4, h1, h2, h3⟩
theorem spl_take_ge (L : List Value) (o n : Nat) (cs : List Value) (h : o + cs.length ≤ n) (hn : n ≤ L.length) : (spl L o cs).take n = spl (L.take n) o cs := by
 unfold spl
 rw [List.take_append, List.take_append]
 simp only [List.take_take, List.length_append, List.length_take]
 rw [List.drop_take]
 have e1 : min n o = o := by omega
 have e2 : min o L.length = o := by omega
 have e3 : min o n = o := by omega
 rw [e1, e2, e3, List.take_of_length_le (l := cs) (by omega)]
theorem SlD.set {w : World} {g c : Nat} {D : List ByteArray} {L : List Value} (_hR : RowIs w g 188 L) (hT : L.take (D.length * 64) = cellsD D) (hc : D.length ≤ c) (hcm : c ≤ maxLen) (hL : L.length = c * 64) (hD : ∀ s ∈ D, s.size = 64) (i : Nat) (s : ByteArray) (hi : i < D.length) (hs : s.size = 64) (w' : World) (hw : RowIs w' g 188 (spl L (i * 64) (bytesV s))) :
  SlD w' (.slice (some ⟨g, 0, none⟩) D.length c) (D.set i s) := by
 have hsl : (spl L (i * 64) (bytesV s)).length = c * 64 := by rw [spl_length (by rw [bytesV_length, hs, hL]; omega), hL]
 have ht : (spl L (i * 64) (bytesV s)).take (D.length * 64) = cellsD (D.set i s) := by
  rw [spl_take_ge _ _ _ _ (by rw [bytesV_length, hs]; omega) (by rw [hL]; omega), hT, cellsD_set hD i s hi hs]
 refine ⟨⟨?_, .inr ⟨g, c, _, by rw [List.length_set], hw, by rw [List.length_set]; exact hc, hcm, hsl, by rw [List.length_set]; exact ht⟩⟩, set_sizes hD i s hs⟩
 rw [cellsD_length (set_sizes hD i s hs)]
set_option maxHeartbeats 2000000
def WritePost (w : World) (db : Nat) (vf vn vw ve : Value) (D : List ByteArray) (ps : List (Nat × ByteArray)) (p : Nat) (s : ByteArray) (e : Ending) (w' : World) : Prop :=
 e = .returned (.tuple #[]) ∧ ∃ vw', DiskW w' db vf vn vw' ve (D.set p s) ∧ SlP w' vw' (ps ++ [(p, s)]) ∧ Fr (fun k => k = db ∨ Own vn k ∨ Own vw k) w w' ∧ NewOr w vw vw'
theorem write_disk_code (w : World) (db : Nat) (vf vn vw ve : Value) (D : List ByteArray) (ps : List (Nat × ByteArray)) (h : DiskW w db vf vn vw ve D) (hP : SlP w vw ps) (h1 : ¬ Own vn db) (h2 : ¬ Own vw db) (h3 : ∀ k, Own vn k → ¬ Own vw k) (hl : ps.length ≤ 1000000) (p : Nat) (hp : p < 1536) (s : ByteArray) (hs : s.size = 64) :
  Calls Tryz.prog 159 #[.pointer (some ⟨db, 0, none⟩), pcV p s] w (WritePost w db vf vn vw ve D ps p s) := by
 obtain ⟨g, c, L, rfl, hR, hT, hc, hcm, hL⟩ := h.2.1.row (by rw [h.2.2]; decide)
 have hDl := h.2.2
 obtain ⟨av, lv, cv, rfl⟩ := hP.shape
 have hgdb : g ≠ db := fun e => h1 (by rw [← e]; rfl)
 have hbs : (bytesV s).length = 64 := by rw [bytesV_length, hs]
 obtain ⟨W, hW, hx0, hkW, hszW, hbW⟩ := alloc_name w (pcL p s) 207
 have hgw := hR.lt
 have hdbw := h.1.lt
 -- the world behind the store
 obtain ⟨W2, hW2⟩ : ∃ W2, W2 = W.drew.setRow g (spl L (p * 64) (bytesV s)).toArray := ⟨_, rfl⟩
 have hg2 : RowIs W2 g 188 (spl L (p * 64) (bytesV s)) := by rw [hW2]; exact setRow_heap W.drew g _ _ 188 _ (show RowIs W g 188 L from hkW _ _ _ hR)
 have ho2 : ∀ k, k ≠ g → W2.heap[k]? = W.heap[k]? := fun k hk => by rw [hW2]; exact setRow_other W.drew g k _ hk
 have hf2 : Fr (fun k => k = g) W W2 := by rw [hW2]; exact ⟨rfl, rfl, rfl, by simp [World.setRow], fun k _ hk => setRow_other W.drew g k _ hk⟩
 have hfw2 : Fr (fun k => k = g) w W2 := (Fr.of_below hbW).then hf2 (fun _ _ h => h)
 have hx2 : RowIs W2 w.heap.size 207 (pcL p s) := hx0.fr hf2 (by omega)
 have hd2 : RowIs W2 db 204 [vf, .slice (some ⟨g, 0, none⟩) D.length c, .slice av lv cv, ve] := (hkW _ _ _ h.1).fr hf2 (fun e => hgdb e.symm)
 have hS2 : SlD W2 (.slice (some ⟨g, 0, none⟩) D.length c) (D.set p s) := SlD.set hR hT hc hcm hL h.2.1.2 p s (by omega) hs W2 hg2
 have hP2 : SlP W2 (.slice av lv cv) ps := Sl.fr hP hfw2 (fun k hk e => h3 g rfl (by rw [← e]; exact hk))
 have HAPP : Hid (∀ X, Below W2.heap.size W2 X → ∀ nb, RowIs X nb 207 (pcL p s) → ∃ v' w', (Builtin.append_ #[182, 182] 182 #[.slice av lv cv, .slice (some ⟨nb, 0, none⟩) 1 1]).run Tryz.prog X = .ok v' w' ∧ ∃ a' l' c', v' = .slice a' l' c' ∧ RowIs w' w.heap.size 207 (pcL p s) ∧ RowIs w' db 204 [vf, .slice (some ⟨g, 0, none⟩) D.length c, .slice av lv cv, ve] ∧ Hid (WritePost w db vf (.slice (some ⟨g, 0, none⟩) D.length c) (.slice av lv cv) ve D ps p s (.returned (.tuple #[])) (w'.setCell ⟨db, 2, none⟩ (.slice a' l' c')))) := fun X hX nb hnb => by
  obtain ⟨v', w', r1, a', l', c', rfl, r2, r3, r4⟩ := appP X _ ps (Sl.kept hP2 (fun k hk _ => hX.block k hk)) nb p s hs hnb hl
  have hXw : W2.heap.size ≤ X.heap.size := hX.size
  have hWw : w.heap.size ≤ W2.heap.size := hfw2.size
  have q1 : RowIs X db 204 _ := (hX.block _ hd2.lt).trans hd2
  have q2 : RowIs w' db 204 [vf, .slice (some ⟨g, 0, none⟩) D.length c, .slice av lv cv, ve] := q1.fr r3 h2
  have q3 : SlD w' (.slice (some ⟨g, 0, none⟩) D.length c) (D.set p s) := ⟨(Sl.kept hS2.1 (fun k hk _ => hX.block k hk)).fr r3 (fun k hk e => h3 k hk e), hS2.2⟩
  have hnew : NewOr w (.slice av lv cv) (.slice a' l' c') := fun k hk => (r4 k hk).imp id (fun h => by omega)
  have q0 : RowIs w' w.heap.size 207 (pcL p s) := RowIs.fr (show RowIs X w.heap.size 207 (pcL p s) from (hX.block _ hx2.lt).trans hx2) r3 (fun e => by have := hP.lt e; omega)
  refine ⟨_, w', r1, a', l', c', rfl, q0, q2, rfl, .slice a' l' c', ⟨by simpa using q2.set 2 (.slice a' l' c'), ⟨q3.1.setCell _ _ (fun e => h1 e), q3.2⟩, by rw [List.length_set]; exact hDl⟩, r2.setCell _ _ (fun e => ?_), ?_, hnew⟩
  ·rcases hnew _ e with h4 | h4
   ·exact h2 h4
   ·simp only at h4; omega
  ·refine Fr.set ?_ ⟨db, 2, none⟩ _ (.inl rfl)
   refine Fr.then (Fr.then (w1 := W2) ⟨hfw2.os, hfw2.tape, hfw2.output, hfw2.size, fun k hk hX => hfw2.block k hk (fun e => hX (.inr (.inl (by rw [e]; rfl))))⟩ (Fr.of_below hX (X := fun _ => False)) (fun _ _ h => h.elim)) r3 (fun k _ e => .inr (.inr e))
 have c1 : W.cell? ⟨db, 1, none⟩ = some (.slice (some ⟨g, 0, none⟩) D.length c) := ((hkW _ _ _ h.1).cell 1).trans rfl
 have b0 : W.cell? ⟨w.heap.size, 0, none⟩ = some (.int .i64 p) := (hx0.cell 0).trans rfl
 have br : W.rangeAt w.heap.size 1 (bytesV s) := fun j v hv => by rw [hx0.cell, Nat.add_comm]; exact hv
 have hRW : RowIs W.drew g 188 L := hkW _ _ _ hR
 have hfit : p * 64 + (bytesV s).length ≤ L.length := by rw [hbs, hL]; omega
 have HRW := hide hRW
 have HW2 := hide hW2
 have HW := hide hW
 have HX2 := hide hx2
 have HD2 := hide hd2
 have HF2 := hide hf2
 have HBS := hide hbs
 have HSZ := hide hszW
 have hne3 : g ≠ w.heap.size := by omega
 have hpi : (p : Int) < (D.length : Int) := by omega
 have hpi2 : (p : Int) < 1536 := by omega
 clear h hP hR hT hc hcm hL hx0 hkW hszW hbW hg2 ho2 hf2 hfw2 hx2 hd2 hS2 hP2 hW hW2 hRW h1 h2 h3 hbs
 obtain ⟨B, hB⟩ : ∃ B, B = Value.agg (bytesV s).toArray := ⟨_, rfl⟩
 have HB := hide hB
 obtain ⟨V, hV⟩ : ∃ V, V = pcV p s := ⟨_, rfl⟩
 have HV := hide hV
 rw [← hV]
 clear hB hV
 go_enter Tryz.func159, Tryz.ntmps159
 go_upto_region 0 with fail
 refine wp_region_lit ?_
 refine wpList_box_row rfl 207 _ rfl (pcL p s) (unhide HV) ?_
 refine wpList_nil ?_
 rw [show w.alloc (.cells (pcL p s).toArray 207) = W from unhide HW]
 go_upto_region 1 with fail
 refine wp_region_held_drew (S := fun X => X.cell? ⟨db, 1, none⟩ = some (.slice (some ⟨g, 0, none⟩) D.length c) ∧ X.cell? ⟨w.heap.size, 0, none⟩ = some (.int .i64 p) ∧ X.rangeAt w.heap.size 1 (bytesV s)) (by kernel_rfl) ⟨c1, b0, br⟩ (fun hHeld => ?_)
 refine wpAnyH_take (i := 0) (v := ?_) rfl (by kernel_rfl) (by kernel_rfl) (by kernel_rfl) (fun _ _ _ h => h) (Or.inl ⟨by rfl, ?_⟩) (by assumption) ?_
 rotate_left
 ·intro w hSw; (try dsimp only at hSw); go_simp <;> with_reducible rfl
 (try simp only [pE])
 refine wpAnyH_take (i := 1) (v := ?_) rfl (by kernel_rfl) (by kernel_rfl) (by kernel_rfl) (fun _ _ _ h => h) (Or.inl ⟨by rfl, ?_⟩) (by assumption) ?_
 rotate_left
 ·intro w hSw; (try dsimp only at hSw); go_simp <;> with_reducible rfl
 (try simp only [pE])
 refine wpAnyH_take (i := 2) (v := ?_) rfl (by kernel_rfl) (by kernel_rfl) (by kernel_rfl) (fun _ _ _ h => h) (Or.inl ⟨by rfl, ?_⟩) (by assumption) ?_
 rotate_left
 ·intro w hSw; (try dsimp only at hSw); go_simp <;> with_reducible rfl
 (try simp only [pE])
 refine wpAnyH_take (i := 3) (v := ?_) rfl (by kernel_rfl) (by kernel_rfl) (by kernel_rfl) (fun _ _ _ h => h) (Or.inl ⟨by rfl, ?_⟩) (by assumption) ?_
 rotate_left
 ·intro w hSw; (try dsimp only at hSw); go_simp <;> with_reducible rfl
 (try simp only [pE])
 refine wpAnyH_take (i := 4) (v := ?_) rfl (by kernel_rfl) (by kernel_rfl) (by kernel_rfl) (fun _ _ _ h => h) (Or.inl ⟨by rfl, ?_⟩) (by assumption) ?_
 rotate_left
 ·intro w hSw; (try dsimp only at hSw); go_simp <;> with_reducible rfl
 (try simp only [pE])
 refine wpAnyH_take (i := 5) (v := ?_) rfl (by kernel_rfl) (by kernel_rfl) (by kernel_rfl) (fun _ _ _ h => h) (Or.inl ⟨by rfl, ?_⟩) (by assumption) ?_
 rotate_left
 ·intro w hSw; (try dsimp only at hSw); go_simp <;> with_reducible rfl
 (try simp only [pE])
 refine wpAnyH_take (i := 6) (v := ?_) rfl (by kernel_rfl) (by kernel_rfl) (by kernel_rfl) (fun _ _ _ h => h) (Or.inl ⟨by rfl, ?_⟩) (by assumption) ?_
 rotate_left
 ·intro w hSw; (try dsimp only at hSw); go_simp <;> with_reducible rfl
 (try simp only [pE])
 refine wpAnyH_take (i := 7) (v := B) rfl (by kernel_rfl) (by kernel_rfl) (by kernel_rfl) (fun _ _ _ h => h) (by rw [unhide HB]; exact yieldsIf_load_mid (by rfl) 188 _ rfl w.heap.size 1 rfl (bytesV s) _ (fun X hX => hX.2.2) und132 rfl (by rw [size132, unhide HBS])) (by assumption) ?_
 (try simp only [pE])
 refine wpAnyH_take (i := 8) (v := ?_) rfl (by kernel_rfl) (by kernel_rfl) (by kernel_rfl) (fun _ _ _ h => h) (Or.inl ⟨by rfl, ?_⟩) (by assumption) ?_
 rotate_left
 ·intro w hSw; (try dsimp only at hSw); go_simp <;> with_reducible rfl
 (try simp only [pE])
 refine wpAnyH_ready (rs := [9]) (by kernel_rfl) (by simp) ?_
 refine AllReadyH.cons (i := 9) rfl ?_ AllReadyH.nil
 intro K hK
 have d1 : W2.cell? ⟨db, 1, none⟩ = some (.slice (some ⟨g, 0, none⟩) D.length c) := ((unhide HD2).cell 1).trans rfl
 have d2 : W2.cell? ⟨db, 2, none⟩ = some (.slice av lv cv) := ((unhide HD2).cell 2).trans rfl
 have e0 : W2.cell? ⟨w.heap.size, 0, none⟩ = some (.int .i64 p) := ((unhide HX2).cell 0).trans rfl
 have er : W2.rangeAt w.heap.size 1 (bytesV s) := fun j v hv => by rw [(unhide HX2).cell, Nat.add_comm]; exact hv
 have e2 : W2.rangeAt w.heap.size 0 (pcL p s) := fun j v hv => by rw [(unhide HX2).cell, Nat.zero_add]; exact hv
 have hp65 : (pcL p s).length = 65 := by rw [pcL_length, hs]
 have HP65 := hide hp65
 clear hp65
 refine step_store_spl rfl 188 _ _ rfl g (p * 64) 188 L (bytesV s) rfl (unhide HB) (unhide HRW) hfit (by rw [size132, unhide HBS]) (bytesV_one s) W2 (unhide HW2).symm ?_
 refine hK.out _ _ ⟨d1, e0, er⟩ (fun hHeld1 => ?_)
 clear hK K hHeld hHeld1 e0 er
 refine wpAnyH_done (by kernel_rfl) ?_ _
 obtain ⟨dd, hu207, hr207⟩ := und207
 obtain ⟨W3, hW3, hx3, hkW3, hszW3, hbW3⟩ := alloc_name W2.drew (pcL p s) 207
 have s3 : W3.rangeAt w.heap.size 0 (pcL p s) := fun j v hv => by rw [(hkW3 _ _ _ (show RowIs W2.drew w.heap.size 207 (pcL p s) from unhide HX2)).cell, Nat.zero_add]; exact hv
 have d3 : W3.cell? ⟨db, 2, none⟩ = some (.slice av lv cv) := ((hkW3 _ _ _ (show RowIs W2.drew db 204 _ from unhide HD2)).cell 2).trans rfl
 have hb3 : Below W2.heap.size W2 W3 := ((Below.refl W2.heap.size W2).drew).trans hbW3
 obtain ⟨v5, w5, hr5, a', l', c', rfl, hx5, hd5, HP⟩ := unhide HAPP W3 hb3 W2.heap.size hx3
 have s5 : w5.rangeAt w.heap.size 0 (pcL p s) := fun j v hv => by rw [hx5.cell, Nat.zero_add]; exact hv
 have m5 : w5.cell? ⟨db, 2, none⟩ = some (.slice av lv cv) := (hd5.cell 2).trans rfl
 have f5 := hd5.frozen 2
 have s6 : (w5.setCell ⟨db, 2, none⟩ (.slice a' l' c')).rangeAt w.heap.size 0 (pcL p s) := fun j v hv => (World.cell?_setCell_far _ _ _ _ (show db ≠ w.heap.size by omega)).trans (s5 j v hv)
 have HS6 := hide s6
 have HW3 := hide hW3
 have HS3 := hide s3
 have HS5 := hide s5
 clear s6 hW3 s3 s5 hx5 hd5 hx3 hkW3 hbW3 hszW3 hb3
 go_upto_region 2 with fail
 refine wp_region_held_drew (S := fun X => X.rangeAt w.heap.size 0 (pcL p s)) (by kernel_rfl) e2 (fun hHeld => ?_)
 refine wpAnyH_take (i := 0) (v := ?_) rfl (by kernel_rfl) (by kernel_rfl) (by kernel_rfl) (fun _ _ _ h => h) (Or.inl ⟨by rfl, ?_⟩) (by assumption) ?_
 rotate_left
 ·intro w hSw; (try dsimp only at hSw); go_simp <;> with_reducible rfl
 (try simp only [pE])
 refine wpAnyH_take (i := 1) (v := ?_) rfl (by kernel_rfl) (by kernel_rfl) (by kernel_rfl) (fun _ _ _ h => h) (Or.inl ⟨by rfl, ?_⟩) (by assumption) ?_
 rotate_left
 ·intro w hSw; (try dsimp only at hSw); go_simp <;> with_reducible rfl
 (try simp only [pE])
 refine wpAnyH_take (i := 2) (v := ?_) rfl (by kernel_rfl) (by kernel_rfl) (by kernel_rfl) (fun _ _ _ h => h) (Or.inl ⟨by rfl, ?_⟩) (by assumption) ?_
 rotate_left
 ·intro w hSw; (try dsimp only at hSw); go_simp <;> with_reducible rfl
 (try simp only [pE])
 refine wpAnyH_take (i := 3) (v := ?_) rfl (by kernel_rfl) (by kernel_rfl) (by kernel_rfl) (fun _ _ _ h => h) (Or.inl ⟨by rfl, ?_⟩) (by assumption) ?_
 rotate_left
 ·intro w hSw; (try dsimp only at hSw); go_simp <;> with_reducible rfl
 (try simp only [pE])
 refine wpAnyH_take (i := 5) (v := .agg (pcL p s).toArray) rfl (by kernel_rfl) (by kernel_rfl) (by kernel_rfl) (fun _ _ _ h => h) (yieldsIf_load_mid (by rfl) 207 _ rfl w.heap.size 0 rfl (pcL p s) _ (fun X hX => hX) hu207 hr207 (by rw [size207, unhide HP65])) (by assumption) ?_
 (try simp only [pE])
 refine wpAnyH_ready (rs := [4, 6]) (by kernel_rfl) (by simp) ?_
 refine AllReadyH.cons (i := 4) rfl ?_ (AllReadyH.cons (i := 6) rfl ?_ AllReadyH.nil)
 ·intro K hK
  go_simp
  refine hK.out _ _ hHeld (fun hH4 => ?_)
  clear hK K
  (try simp only [pE])
  refine wpAnyH_ready (rs := [6]) (by kernel_rfl) (by simp) ?_
  refine AllReadyH.cons (i := 6) rfl ?_ AllReadyH.nil
  intro K hK
  refine step_build207 rfl _ rfl p s hs rfl ?_
  rw [show W2.drew.alloc (.cells (pcL p s).toArray 207) = W3 from unhide HW3]
  refine hK.out _ _ (unhide HS3) (fun hH6 => ?_)
  clear hK K
  (try simp only [pE])
  refine wpAnyH_ready (rs := [7]) (by kernel_rfl) (by simp) ?_
  refine AllReadyH.cons (i := 7) rfl ?_ AllReadyH.nil
  intro K hK
  refine step_append_run rfl _ _ 182 182 rfl _ _ rfl rfl hr5 ?_
  refine hK.out _ _ (unhide HS5) (fun hH7 => ?_)
  clear hK K
  (try simp only [pE])
  refine wpAnyH_take (i := 8) (v := ?_) rfl (by kernel_rfl) (by kernel_rfl) (by kernel_rfl) (fun _ _ _ h => h) (Or.inl ⟨by rfl, ?_⟩) (by assumption) ?_
  rotate_left
  ·intro w hSw; (try dsimp only at hSw); go_simp <;> with_reducible rfl
  (try simp only [pE])
  refine wpAnyH_take (i := 9) (v := ?_) rfl (by kernel_rfl) (by kernel_rfl) (by kernel_rfl) (fun _ _ _ h => h) (Or.inl ⟨by rfl, ?_⟩) (by assumption) ?_
  rotate_left
  ·intro w hSw; (try dsimp only at hSw); go_simp <;> with_reducible rfl
  (try simp only [pE])
  refine wpAnyH_ready (rs := [10]) (by kernel_rfl) (by simp) ?_
  refine AllReadyH.cons (i := 10) rfl ?_ AllReadyH.nil
  intro K hK
  go_simp
  refine hK.out _ _ (unhide HS6) (fun hH10 => ?_)
  clear hK K
  (try simp only [pE])
  refine wpAnyH_done (by kernel_rfl) ?_ _
  go_wp2
  go_end0
  exact unhide HP
 ·intro K hK
  refine step_build207 rfl _ rfl p s hs rfl ?_
  rw [show W2.drew.alloc (.cells (pcL p s).toArray 207) = W3 from unhide HW3]
  refine hK.out _ _ (unhide HS3) (fun hH6 => ?_)
  clear hK K
  (try simp only [pE])
  refine wpAnyH_ready (rs := [4]) (by kernel_rfl) (by simp) ?_
  refine AllReadyH.cons (i := 4) rfl ?_ AllReadyH.nil
  intro K hK
  go_simp
  refine hK.out _ _ hH6 (fun hH4 => ?_)
  clear hK K
  (try simp only [pE])
  refine wpAnyH_ready (rs := [7]) (by kernel_rfl) (by simp) ?_
  refine AllReadyH.cons (i := 7) rfl ?_ AllReadyH.nil
  intro K hK
  refine step_append_run rfl _ _ 182 182 rfl _ _ rfl rfl hr5 ?_
  refine hK.out _ _ (unhide HS5) (fun hH7 => ?_)
  clear hK K
  (try simp only [pE])
  refine wpAnyH_take (i := 8) (v := ?_) rfl (by kernel_rfl) (by kernel_rfl) (by kernel_rfl) (fun _ _ _ h => h) (Or.inl ⟨by rfl, ?_⟩) (by assumption) ?_
  rotate_left
  ·intro w hSw; (try dsimp only at hSw); go_simp <;> with_reducible rfl
  (try simp only [pE])
  refine wpAnyH_take (i := 9) (v := ?_) rfl (by kernel_rfl) (by kernel_rfl) (by kernel_rfl) (fun _ _ _ h => h) (Or.inl ⟨by rfl, ?_⟩) (by assumption) ?_
  rotate_left
  ·intro w hSw; (try dsimp only at hSw); go_simp <;> with_reducible rfl
  (try simp only [pE])
  refine wpAnyH_ready (rs := [10]) (by kernel_rfl) (by simp) ?_
  refine AllReadyH.cons (i := 10) rfl ?_ AllReadyH.nil
  intro K hK
  go_simp
  refine hK.out _ _ (unhide HS6) (fun hH10 => ?_)
  clear hK K
  (try simp only [pE])
  refine wpAnyH_done (by kernel_rfl) ?_ _
  go_wp2
  go_end0
  exact unhide HP
end Go.Proofs.YtaieidcohdhgpaaGreatDoor
