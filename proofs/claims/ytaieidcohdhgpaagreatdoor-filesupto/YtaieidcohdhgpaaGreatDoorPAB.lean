/- Files. -/
import Derived.Test.YtaieidcohdhgpaaGreatDoorPAA
import Derived.WideShapes
import Derived.Deep.RegionWith
namespace Go.Proofs.YtaieidcohdhgpaaGreatDoor
open Go.RowKit
set_option maxHeartbeats 1000000
set_option maxRecDepth 100000
theorem bl_irrefl : ∀ l : List UInt8, Op.bytesLess l l = false
 | [] => rfl
 | a :: l => by simp [Op.bytesLess, bl_irrefl l]
theorem bl_trans : ∀ a b c : List UInt8, Op.bytesLess a b = true → Op.bytesLess b c = true → Op.bytesLess a c = true
 | [], [], _, h, _ => by simp [Op.bytesLess] at h
 | [], _ :: _, [], _, h => by simp [Op.bytesLess] at h
 | [], _ :: _, _ :: _, _, _ => by simp [Op.bytesLess]
 | _ :: _, [], _, h, _ => by simp [Op.bytesLess] at h
 | _ :: _, _ :: _, [], _, h => by simp [Op.bytesLess] at h
 | a :: x, b :: y, c :: z, h1, h2 => by
  simp only [Op.bytesLess, Bool.or_eq_true, Bool.and_eq_true, decide_eq_true_eq, beq_iff_eq] at h1 h2 ⊢
  rcases h1 with h1 | ⟨rfl, h1⟩
  ·rcases h2 with h2 | ⟨rfl, h2⟩
   ·exact .inl (UInt8.lt_trans h1 h2)
   ·exact .inl h1
  ·rcases h2 with h2 | ⟨rfl, h2⟩
   ·exact .inl h2
   ·exact .inr ⟨rfl, bl_trans x y z h1 h2⟩
theorem bl_total : ∀ a b : List UInt8, Op.bytesLess a b = false → a ≠ b → Op.bytesLess b a = true
 | [], [], _, h => absurd rfl h
 | [], _ :: _, h, _ => by simp [Op.bytesLess] at h
 | _ :: _, [], _, _ => by simp [Op.bytesLess]
 | a :: x, b :: y, h, hne => by
  simp only [Op.bytesLess, Bool.or_eq_false_iff, decide_eq_false_iff_not, Bool.and_eq_false_iff, beq_eq_false_iff_ne] at h
  simp only [Op.bytesLess, Bool.or_eq_true, Bool.and_eq_true, decide_eq_true_eq, beq_iff_eq]
  by_cases e : a = b
  ·subst e
   refine .inr ⟨rfl, bl_total x y (h.2.resolve_left (fun k => k rfl)) (fun k => hne (by rw [k]))⟩
  ·refine .inl ?_
   have h1 := h.1
   rw [UInt8.lt_iff_toNat_lt] at h1 ⊢
   have h2 : a.toNat ≠ b.toNat := fun k => e (UInt8.toNat_inj.1 k)
   omega
theorem ltS_irrefl (a : ByteArray) : ltS a a = false := bl_irrefl _
theorem ltS_trans {a b c : ByteArray} (h : ltS a b = true) (k : ltS b c = true) : ltS a c = true := bl_trans _ _ _ h k
theorem toList_inj {a b : ByteArray} (h : a.toList = b.toList) : a = b := by
 rw [ByteArray.toList_eq, ByteArray.toList_eq] at h
 exact WideShapes.bytes_inj h
theorem ltS_total {a b : ByteArray} (h : ltS a b = false) (hne : a ≠ b) : ltS b a = true := bl_total _ _ h (fun e => hne (toList_inj e))
theorem cmpS_lt (a b : ByteArray) : cmpS a b < 0 ↔ ltS a b = true := by
 unfold cmpS; split
 ·simp [*]
 ·split <;> simp [*]
theorem cmpS_zero (a b : ByteArray) : cmpS a b = 0 ↔ a = b := by
 unfold cmpS; split
 ·rename_i h
  simp only [show ((-1 : Int) = 0) = False by simp, false_iff]
  rintro rfl; rw [ltS_irrefl] at h; cases h
 ·split
  ·rename_i h; simp [toList_inj h]
  ·rename_i h; simp only [show ((1 : Int) = 0) = False by simp, false_iff]; rintro rfl; exact h rfl
def ltI (a b : Int) : Bool := decide (a < b)
theorem ltI_irrefl (a : Int) : ltI a a = false := by simp [ltI]
theorem ltI_trans {a b c : Int} (h : ltI a b = true) (k : ltI b c = true) : ltI a c = true := by simp [ltI] at *; omega
theorem ltI_total {a b : Int} (h : ltI a b = false) (hne : a ≠ b) : ltI b a = true := by simp [ltI] at *; omega
theorem cmpI_lt (a b : Int) : cmpI a b < 0 ↔ ltI a b = true := by
 unfold cmpI ltI; split
 ·simp [*]
 ·split <;> simp [*]
theorem cmpI_zero (a b : Int) : cmpI a b = 0 ↔ a = b := by
 unfold cmpI; split
 ·simp; omega
 ·split <;> simp [*]
structure VS where
 p : Option Addr
 f : Int
structure VF where
 a : Option Addr
 l : Nat
 c : Nat
 f : Int
def clS (x : ByteArray × VS) : List Value := [.string x.1, .pointer x.2.p, .int .i64 x.2.f]
def cellsS (es : List (ByteArray × VS)) : List Value := es.flatMap clS
theorem cellsS_length (es : List (ByteArray × VS)) : (cellsS es).length = es.length * 3 := by
 induction es with
 | nil => rfl
 | cons a l ih => simp [cellsS, clS] at ih ⊢; omega
theorem cellsS_append (a b : List (ByteArray × VS)) : cellsS (a ++ b) = cellsS a ++ cellsS b := by simp [cellsS]
theorem cellsS_take (es : List (ByteArray × VS)) (i : Nat) : (cellsS es).take (i * 3) = cellsS (es.take i) := by
 induction es generalizing i with
 | nil => simp [cellsS]
 | cons a l ih =>
  cases i with
  | zero => simp [cellsS]
  | succ i =>
   have := ih i
   simp only [cellsS, List.flatMap_cons, List.take_succ_cons] at this ⊢
   rw [← this, show (i + 1) * 3 = (clS a).length + i * 3 by simp [clS]; omega, List.take_length_add_append]
theorem cellsS_drop (es : List (ByteArray × VS)) (i : Nat) : (cellsS es).drop (i * 3) = cellsS (es.drop i) := by
 induction es generalizing i with
 | nil => simp [cellsS]
 | cons a l ih =>
  cases i with
  | zero => simp [cellsS]
  | succ i =>
   have := ih i
   simp only [cellsS, List.flatMap_cons, List.drop_succ_cons] at this ⊢
   rw [← this, show (i + 1) * 3 = (clS a).length + i * 3 by simp [clS]; omega, List.drop_length_add_append]
theorem cellsS_one (es : List (ByteArray × VS)) : ∀ u ∈ cellsS es, u.oneCell' = true := by
 intro u hu
 simp only [cellsS, List.mem_flatMap, clS, List.mem_cons, List.mem_nil_iff, or_false] at hu
 obtain ⟨x, _, rfl | rfl | rfl⟩ := hu <;> simp [Value.oneCell']
theorem cellsS_at (es : List (ByteArray × VS)) (k : Nat) (x : ByteArray × VS) (h : es[k]? = some x) : (cellsS es)[k * 3]? = some (.string x.1) ∧ (cellsS es)[k * 3 + 1]? = some (.pointer x.2.p) ∧ (cellsS es)[k * 3 + 2]? = some (.int .i64 x.2.f) := by
 induction es generalizing k with
 | nil => simp at h
 | cons a l ih =>
  cases k with
  | zero => simp at h; subst h; simp [cellsS, clS]
  | succ k =>
   simp at h
   have := ih k h
   simp only [cellsS, List.flatMap_cons] at this ⊢
   have e : ∀ r, (clS a ++ List.flatMap clS l)[(k + 1) * 3 + r]? = (List.flatMap clS l)[k * 3 + r]? := fun r => by
    rw [List.getElem?_append_right (by simp [clS]; omega)]; congr 1; simp [clS]; omega
   have e0 := e 0
   simp only [Nat.add_zero] at e0
   rw [e0, e 1, e 2]; exact this
def SrtS (es : List (ByteArray × VS)) : Prop := ∀ (j k : Nat) (x y : ByteArray × VS), j < k → es[j]? = some x → es[k]? = some y → ltS x.1 y.1 = true
def AtS (es : List (ByteArray × VS)) (t : ByteArray) (i : Nat) (b : Bool) : Prop :=
 i ≤ es.length ∧ (∀ k x, k < i → es[k]? = some x → ltS x.1 t = true) ∧ (∀ k x, i ≤ k → es[k]? = some x → ltS x.1 t = false) ∧ (b = true ↔ ∃ x, es[i]? = some x ∧ x.1 = t)
theorem find1S (x : ByteArray × VS) (key : ByteArray) (w : World) : Calls Tryz.prog 294 #[.agg #[.string x.1, .pointer x.2.p, .int .i64 x.2.f], .string key] w fun e w' => e = .returned (.int .i64 (cmpS x.1 key)) ∧ Below w.heap.size w w' := by
 go_enter Tryz.func294, Tryz.ntmps294
 go_wp2_with (go_at_call 295; refine (compareS _ _ _).mono ?_; rintro e w' ⟨rfl, rfl⟩)
 go_ret
 exact ⟨rfl, (Below.refl _ _).alloc (Nat.le_refl _) _⟩
theorem bsrS (g n cap : Nat) (en : Nat → ByteArray × VS) (tgt : ByteArray) (w : World) (hn : n ≤ 10000)
 (hc0 : ∀ k, k < n → w.cell? ⟨g, k * 3, none⟩ = some (.string (en k).1))
 (hc1 : ∀ k, k < n → w.cell? ⟨g, k * 3 + 1, none⟩ = some (.pointer (en k).2.p))
 (hc2 : ∀ k, k < n → w.cell? ⟨g, k * 3 + 2, none⟩ = some (.int .i64 (en k).2.f))
 (hs : ∀ j k, j < k → k < n → ltS (en j).1 (en k).1 = true) :
  Calls Tryz.prog 293 #[.slice (some ⟨g, 0, none⟩) n cap, .string tgt, .func (.func 294) #[] #[]] w fun e w' => ∃ (i : Nat) (b : Bool), e = .returned (.tuple #[.int .i64 i, .bool b]) ∧
   (i ≤ n ∧ (∀ k, k < i → ltS (en k).1 tgt = true) ∧ (∀ k, i ≤ k → k < n → ltS (en k).1 tgt = false) ∧ (b = true ↔ i < n ∧ (en i).1 = tgt)) ∧ Below w.heap.size w w' := by
 have HS := hide hs; clear hs
 go_enter Tryz.func293, Tryz.ntmps293
 go_wp2_with fail
 go_loopw [9, 10] (fun i j wr => ∃ a b : Nat, i = .int .i64 a ∧ j = .int .i64 b ∧ a ≤ b ∧ b ≤ n ∧ Hid (∀ k, k < a → ltS (en k).1 tgt = true) ∧ Hid (∀ k, b ≤ k → k < n → ltS (en k).1 tgt = false) ∧ Below w.heap.size w wr) (fun i j _ => (intOf j - intOf i).toNat)
 case atStart => exact ⟨0, n, rfl, rfl, Nat.zero_le _, Nat.le_refl _, fun _ h => absurd h (Nat.not_lt_zero _), fun k h1 h2 => absurd h2 (by omega), Below.refl _ _⟩
 case round =>
  obtain ⟨a, b, rfl, rfl, hab, hbn, hlo, hhi, hB⟩ := hrel
  by_cases hlt : a < b
  ·have hm : (a + b) / 2 < n := by omega
   have hg : g < w.heap.size := World.block_lt_of_cell? _ _ (hc0 _ hm)
   have q0 := (hB.cell (p := ⟨g, (a + b) / 2 * 3, none⟩) hg).trans (hc0 _ hm)
   have q1 := (hB.cell (p := ⟨g, (a + b) / 2 * 3 + 1, none⟩) hg).trans (hc1 _ hm)
   have q2 := (hB.cell (p := ⟨g, (a + b) / 2 * 3 + 2, none⟩) hg).trans (hc2 _ hm)
   have hc0' := hide hc0; have hc1' := hide hc1; have hc2' := hide hc2; clear hc0 hc1 hc2
   go_wp2_with fail
   refine (find1S (en ((a + b) / 2)) _ _).mono ?_
   rintro e w' ⟨rfl, hb⟩
   by_cases hcm : cmpS (en ((a + b) / 2)).1 tgt < 0
   ·have hl := (cmpS_lt _ _).1 hcm
    have HL := hide hl; clear hl
    go_wp2
    go_roundw
    case rel =>
     refine ⟨(a + b) / 2 + 1, b, by go_num, rfl, by omega, hbn, fun k hk => ?_, hhi, hB.trans (hb.mono hB.size)⟩
     rcases Nat.lt_or_ge k ((a + b) / 2) with h | h
     ·exact ltS_trans (unhide HS _ _ h hm) (unhide HL)
     ·obtain rfl : k = (a + b) / 2 := by omega
      exact unhide HL
    case measure => simp [intOf]; omega
   ·have hl : ltS (en ((a + b) / 2)).1 tgt = false := by
     cases h : ltS (en ((a + b) / 2)).1 tgt with
     | false => rfl
     | true => exact absurd ((cmpS_lt _ _).2 h) hcm
    have HL := hide hl; clear hl
    go_wp2
    go_roundw
    case rel =>
     refine ⟨a, (a + b) / 2, rfl, by go_num, by omega, by omega, hlo, fun k h1 h2 => ?_, hB.trans (hb.mono hB.size)⟩
     rcases Nat.lt_or_ge ((a + b) / 2) k with h | h
     ·cases hq : ltS (en k).1 tgt with
      | false => rfl
      | true => exact absurd (ltS_trans (unhide HS _ _ h h2) hq) (by rw [unhide HL]; simp)
     ·obtain rfl : k = (a + b) / 2 := by omega
      exact unhide HL
    case measure => simp [intOf]; omega
  ·obtain rfl : a = b := by omega
   by_cases han : a < n
   ·have hg : g < w.heap.size := World.block_lt_of_cell? _ _ (hc0 _ han)
    have q0 := (hB.cell (p := ⟨g, a * 3, none⟩) hg).trans (hc0 _ han)
    have q1 := (hB.cell (p := ⟨g, a * 3 + 1, none⟩) hg).trans (hc1 _ han)
    have q2 := (hB.cell (p := ⟨g, a * 3 + 2, none⟩) hg).trans (hc2 _ han)
    have hc0' := hide hc0; have hc1' := hide hc1; have hc2' := hide hc2; clear hc0 hc1 hc2
    go_wp2_with fail
    refine (find1S (en a) _ _).mono ?_
    rintro e w' ⟨rfl, hb⟩
    have hz := cmpS_zero (en a).1 tgt
    have HZ := hide hz; clear hz
    go_wp2
    go_ret2
    refine ⟨a, _, rfl, ⟨hbn, hlo, hhi, ?_⟩, hB.trans (hb.mono hB.size)⟩
    simp [unhide HZ, han]
   ·have hq : decide (((a : Nat) : Int) < (n : Int)) = false := by simp; omega
    have hc0' := hide hc0; have hc1' := hide hc1; have hc2' := hide hc2; clear hc0 hc1 hc2
    go_wp2
    go_ret2
    exact ⟨a, _, rfl, ⟨hbn, hlo, hhi, by simp [han]⟩, hB⟩
theorem srchS (v : Value) (es : List (ByteArray × VS)) (tgt : ByteArray) (w : World) (hS : Sl w 310 3 v es.length (cellsS es)) (hn : es.length ≤ 10000) (hs : SrtS es) :
  Calls Tryz.prog 293 #[v, .string tgt, .func (.func 294) #[] #[]] w fun e w' => ∃ (i : Nat) (b : Bool), e = .returned (.tuple #[.int .i64 i, .bool b]) ∧ AtS es tgt i b ∧ Below w.heap.size w w' := by
 rcases hS.2 with ⟨rfl, h0⟩ | ⟨g, cap, L, rfl, hR, hc, hcm, hL, hT⟩
 ·have : es = [] := List.eq_nil_of_length_eq_zero h0
  subst this
  go_enter Tryz.func293, Tryz.ntmps293
  go_wp2_with fail
  go_loopw [9, 10] (fun i j wr => i = .int .i64 0 ∧ j = .int .i64 0 ∧ wr = w) (fun _ _ _ => 0)
  case atStart => exact ⟨rfl, rfl, rfl⟩
  case round =>
   obtain ⟨rfl, rfl, rfl⟩ := hrel
   go_wp2
   go_ret2
   exact ⟨0, false, rfl, ⟨Nat.zero_le _, fun k x h _ => absurd h (Nat.not_lt_zero _), fun k x _ h => by simp at h, by simp⟩, Below.refl _ _⟩
 ·have hcell : ∀ j u, (cellsS es)[j]? = some u → w.cell? ⟨g, j, none⟩ = some u := fun j u hu => by
   rw [hR.cell]
   rw [← hT, List.getElem?_take] at hu
   split at hu
   ·exact hu
   ·cases hu
  cases hes : es with
  | nil => 
   subst hes
   refine (bsrS g 0 cap (fun _ => (⟨#[]⟩, ⟨none, 0⟩)) tgt w (by omega) (fun k h => absurd h (by omega)) (fun k h => absurd h (by omega)) (fun k h => absurd h (by omega)) (fun j k _ h => absurd h (by omega))).mono ?_
   rintro e w' ⟨i, b, rfl, ⟨h1, h2, h3, h4⟩, hb⟩
   obtain rfl : i = 0 := by omega
   exact ⟨0, b, rfl, ⟨Nat.le_refl _, fun k x h _ => absurd h (by omega), fun k x _ h => by simp at h, by rw [h4]; simp⟩, hb⟩
  | cons x0 l0 =>
   rw [← hes]
   have hget : ∀ k, k < es.length → es[k]? = some (es.getD k x0) := fun k hk => by simp [List.getD, List.getElem?_eq_getElem hk]
   refine (bsrS g es.length cap (fun k => es.getD k x0) tgt w hn (fun k hk => hcell _ _ (cellsS_at es k _ (hget k hk)).1) (fun k hk => hcell _ _ (cellsS_at es k _ (hget k hk)).2.1) (fun k hk => hcell _ _ (cellsS_at es k _ (hget k hk)).2.2)
    (fun j k hjk hk => hs j k _ _ hjk (hget j (by omega)) (hget k hk))).mono ?_
   rintro e w' ⟨i, b, rfl, ⟨h1, h2, h3, h4⟩, hb⟩
   have hlt : ∀ k x, es[k]? = some x → k < es.length := fun k x h => (List.getElem?_eq_some_iff.1 h).1
   have hx : ∀ k x, es[k]? = some x → x = es.getD k x0 := fun k x h => by have := hget k (hlt k x h); rw [h] at this; exact Option.some.inj this
   refine ⟨i, b, rfl, ⟨h1, fun k x hk he => ?_, fun k x hk he => ?_, ?_⟩, hb⟩
   ·rw [hx k x he]; exact h2 k hk
   ·rw [hx k x he]; exact h3 k hk (hlt k x he)
   ·rw [h4]
    constructor
    ·rintro ⟨hi, e⟩; exact ⟨_, hget i hi, e⟩
    ·rintro ⟨x, he, e⟩; exact ⟨hlt i x he, by rw [← e, hx i x he]⟩
def clI (x : Int × VF) : List Value := [.int .i64 x.1, .slice x.2.a x.2.l x.2.c, .int .i64 x.2.f]
def cellsI (es : List (Int × VF)) : List Value := es.flatMap clI
theorem cellsI_length (es : List (Int × VF)) : (cellsI es).length = es.length * 3 := by
 induction es with
 | nil => rfl
 | cons a l ih => simp [cellsI, clI] at ih ⊢; omega
theorem cellsI_append (a b : List (Int × VF)) : cellsI (a ++ b) = cellsI a ++ cellsI b := by simp [cellsI]
theorem cellsI_take (es : List (Int × VF)) (i : Nat) : (cellsI es).take (i * 3) = cellsI (es.take i) := by
 induction es generalizing i with
 | nil => simp [cellsI]
 | cons a l ih =>
  cases i with
  | zero => simp [cellsI]
  | succ i =>
   have := ih i
   simp only [cellsI, List.flatMap_cons, List.take_succ_cons] at this ⊢
   rw [← this, show (i + 1) * 3 = (clI a).length + i * 3 by simp [clI]; omega, List.take_length_add_append]
theorem cellsI_drop (es : List (Int × VF)) (i : Nat) : (cellsI es).drop (i * 3) = cellsI (es.drop i) := by
 induction es generalizing i with
 | nil => simp [cellsI]
 | cons a l ih =>
  cases i with
  | zero => simp [cellsI]
  | succ i =>
   have := ih i
   simp only [cellsI, List.flatMap_cons, List.drop_succ_cons] at this ⊢
   rw [← this, show (i + 1) * 3 = (clI a).length + i * 3 by simp [clI]; omega, List.drop_length_add_append]
theorem cellsI_one (es : List (Int × VF)) : ∀ u ∈ cellsI es, u.oneCell' = true := by
 intro u hu
 simp only [cellsI, List.mem_flatMap, clI, List.mem_cons, List.mem_nil_iff, or_false] at hu
 obtain ⟨x, _, rfl | rfl | rfl⟩ := hu <;> simp [Value.oneCell']
theorem cellsI_at (es : List (Int × VF)) (k : Nat) (x : Int × VF) (h : es[k]? = some x) : (cellsI es)[k * 3]? = some (.int .i64 x.1) ∧ (cellsI es)[k * 3 + 1]? = some (.slice x.2.a x.2.l x.2.c) ∧ (cellsI es)[k * 3 + 2]? = some (.int .i64 x.2.f) := by
 induction es generalizing k with
 | nil => simp at h
 | cons a l ih =>
  cases k with
  | zero => simp at h; subst h; simp [cellsI, clI]
  | succ k =>
   simp at h
   have := ih k h
   simp only [cellsI, List.flatMap_cons] at this ⊢
   have e : ∀ r, (clI a ++ List.flatMap clI l)[(k + 1) * 3 + r]? = (List.flatMap clI l)[k * 3 + r]? := fun r => by
    rw [List.getElem?_append_right (by simp [clI]; omega)]; congr 1; simp [clI]; omega
   have e0 := e 0
   simp only [Nat.add_zero] at e0
   rw [e0, e 1, e 2]; exact this
def SrtI (es : List (Int × VF)) : Prop := ∀ (j k : Nat) (x y : Int × VF), j < k → es[j]? = some x → es[k]? = some y → ltI x.1 y.1 = true
def AtI (es : List (Int × VF)) (t : Int) (i : Nat) (b : Bool) : Prop :=
 i ≤ es.length ∧ (∀ k x, k < i → es[k]? = some x → ltI x.1 t = true) ∧ (∀ k x, i ≤ k → es[k]? = some x → ltI x.1 t = false) ∧ (b = true ↔ ∃ x, es[i]? = some x ∧ x.1 = t)
theorem find1I (x : Int × VF) (key : Int) (w : World) : Calls Tryz.prog 259 #[.agg #[.int .i64 x.1, .slice x.2.a x.2.l x.2.c, .int .i64 x.2.f], .int .i64 key] w fun e w' => e = .returned (.int .i64 (cmpI x.1 key)) ∧ Below w.heap.size w w' := by
 go_enter Tryz.func259, Tryz.ntmps259
 go_wp2_with (go_at_call 260; refine (compareI _ _ _).mono ?_; rintro e w' ⟨rfl, rfl⟩)
 go_ret
 exact ⟨rfl, (Below.refl _ _).alloc (Nat.le_refl _) _⟩
theorem bsrI (g n cap : Nat) (en : Nat → Int × VF) (tgt : Int) (w : World) (hn : n ≤ 10000)
 (hc0 : ∀ k, k < n → w.cell? ⟨g, k * 3, none⟩ = some (.int .i64 (en k).1))
 (hc1 : ∀ k, k < n → w.cell? ⟨g, k * 3 + 1, none⟩ = some (.slice (en k).2.a (en k).2.l (en k).2.c))
 (hc2 : ∀ k, k < n → w.cell? ⟨g, k * 3 + 2, none⟩ = some (.int .i64 (en k).2.f))
 (hs : ∀ j k, j < k → k < n → ltI (en j).1 (en k).1 = true) :
  Calls Tryz.prog 258 #[.slice (some ⟨g, 0, none⟩) n cap, .int .i64 tgt, .func (.func 259) #[] #[]] w fun e w' => ∃ (i : Nat) (b : Bool), e = .returned (.tuple #[.int .i64 i, .bool b]) ∧
   (i ≤ n ∧ (∀ k, k < i → ltI (en k).1 tgt = true) ∧ (∀ k, i ≤ k → k < n → ltI (en k).1 tgt = false) ∧ (b = true ↔ i < n ∧ (en i).1 = tgt)) ∧ Below w.heap.size w w' := by
 have HS := hide hs; clear hs
 go_enter Tryz.func258, Tryz.ntmps258
 go_wp2_with fail
 go_loopw [9, 10] (fun i j wr => ∃ a b : Nat, i = .int .i64 a ∧ j = .int .i64 b ∧ a ≤ b ∧ b ≤ n ∧ Hid (∀ k, k < a → ltI (en k).1 tgt = true) ∧ Hid (∀ k, b ≤ k → k < n → ltI (en k).1 tgt = false) ∧ Below w.heap.size w wr) (fun i j _ => (intOf j - intOf i).toNat)
 case atStart => exact ⟨0, n, rfl, rfl, Nat.zero_le _, Nat.le_refl _, fun _ h => absurd h (Nat.not_lt_zero _), fun k h1 h2 => absurd h2 (by omega), Below.refl _ _⟩
 case round =>
  obtain ⟨a, b, rfl, rfl, hab, hbn, hlo, hhi, hB⟩ := hrel
  by_cases hlt : a < b
  ·have hm : (a + b) / 2 < n := by omega
   have hg : g < w.heap.size := World.block_lt_of_cell? _ _ (hc0 _ hm)
   have q0 := (hB.cell (p := ⟨g, (a + b) / 2 * 3, none⟩) hg).trans (hc0 _ hm)
   have q1 := (hB.cell (p := ⟨g, (a + b) / 2 * 3 + 1, none⟩) hg).trans (hc1 _ hm)
   have q2 := (hB.cell (p := ⟨g, (a + b) / 2 * 3 + 2, none⟩) hg).trans (hc2 _ hm)
   have hc0' := hide hc0; have hc1' := hide hc1; have hc2' := hide hc2; clear hc0 hc1 hc2
   go_wp2_with fail
   refine (find1I (en ((a + b) / 2)) _ _).mono ?_
   rintro e w' ⟨rfl, hb⟩
   by_cases hcm : cmpI (en ((a + b) / 2)).1 tgt < 0
   ·have hl := (cmpI_lt _ _).1 hcm
    have HL := hide hl; clear hl
    go_wp2
    go_roundw
    case rel =>
     refine ⟨(a + b) / 2 + 1, b, by go_num, rfl, by omega, hbn, fun k hk => ?_, hhi, hB.trans (hb.mono hB.size)⟩
     rcases Nat.lt_or_ge k ((a + b) / 2) with h | h
     ·exact ltI_trans (unhide HS _ _ h hm) (unhide HL)
     ·obtain rfl : k = (a + b) / 2 := by omega
      exact unhide HL
    case measure => simp [intOf]; omega
   ·have hl : ltI (en ((a + b) / 2)).1 tgt = false := by
     cases h : ltI (en ((a + b) / 2)).1 tgt with
     | false => rfl
     | true => exact absurd ((cmpI_lt _ _).2 h) hcm
    have HL := hide hl; clear hl
    go_wp2
    go_roundw
    case rel =>
     refine ⟨a, (a + b) / 2, rfl, by go_num, by omega, by omega, hlo, fun k h1 h2 => ?_, hB.trans (hb.mono hB.size)⟩
     rcases Nat.lt_or_ge ((a + b) / 2) k with h | h
     ·cases hq : ltI (en k).1 tgt with
      | false => rfl
      | true => exact absurd (ltI_trans (unhide HS _ _ h h2) hq) (by rw [unhide HL]; simp)
     ·obtain rfl : k = (a + b) / 2 := by omega
      exact unhide HL
    case measure => simp [intOf]; omega
  ·obtain rfl : a = b := by omega
   by_cases han : a < n
   ·have hg : g < w.heap.size := World.block_lt_of_cell? _ _ (hc0 _ han)
    have q0 := (hB.cell (p := ⟨g, a * 3, none⟩) hg).trans (hc0 _ han)
    have q1 := (hB.cell (p := ⟨g, a * 3 + 1, none⟩) hg).trans (hc1 _ han)
    have q2 := (hB.cell (p := ⟨g, a * 3 + 2, none⟩) hg).trans (hc2 _ han)
    have hc0' := hide hc0; have hc1' := hide hc1; have hc2' := hide hc2; clear hc0 hc1 hc2
    go_wp2_with fail
    refine (find1I (en a) _ _).mono ?_
    rintro e w' ⟨rfl, hb⟩
    have hz := cmpI_zero (en a).1 tgt
    have HZ := hide hz; clear hz
    go_wp2
    go_ret2
    refine ⟨a, _, rfl, ⟨hbn, hlo, hhi, ?_⟩, hB.trans (hb.mono hB.size)⟩
    simp [unhide HZ, han]
   ·have hq : decide (((a : Nat) : Int) < (n : Int)) = false := by simp; omega
    have hc0' := hide hc0; have hc1' := hide hc1; have hc2' := hide hc2; clear hc0 hc1 hc2
    go_wp2
    go_ret2
    exact ⟨a, _, rfl, ⟨hbn, hlo, hhi, by simp [han]⟩, hB⟩
theorem srchI (v : Value) (es : List (Int × VF)) (tgt : Int) (w : World) (hS : Sl w 293 3 v es.length (cellsI es)) (hn : es.length ≤ 10000) (hs : SrtI es) :
  Calls Tryz.prog 258 #[v, .int .i64 tgt, .func (.func 259) #[] #[]] w fun e w' => ∃ (i : Nat) (b : Bool), e = .returned (.tuple #[.int .i64 i, .bool b]) ∧ AtI es tgt i b ∧ Below w.heap.size w w' := by
 rcases hS.2 with ⟨rfl, h0⟩ | ⟨g, cap, L, rfl, hR, hc, hcm, hL, hT⟩
 ·have : es = [] := List.eq_nil_of_length_eq_zero h0
  subst this
  go_enter Tryz.func258, Tryz.ntmps258
  go_wp2_with fail
  go_loopw [9, 10] (fun i j wr => i = .int .i64 0 ∧ j = .int .i64 0 ∧ wr = w) (fun _ _ _ => 0)
  case atStart => exact ⟨rfl, rfl, rfl⟩
  case round =>
   obtain ⟨rfl, rfl, rfl⟩ := hrel
   go_wp2
   go_ret2
   exact ⟨0, false, rfl, ⟨Nat.zero_le _, fun k x h _ => absurd h (Nat.not_lt_zero _), fun k x _ h => by simp at h, by simp⟩, Below.refl _ _⟩
 ·have hcell : ∀ j u, (cellsI es)[j]? = some u → w.cell? ⟨g, j, none⟩ = some u := fun j u hu => by
   rw [hR.cell]
   rw [← hT, List.getElem?_take] at hu
   split at hu
   ·exact hu
   ·cases hu
  cases hes : es with
  | nil => 
   subst hes
   refine (bsrI g 0 cap (fun _ => (0, ⟨none, 0, 0, 0⟩)) tgt w (by omega) (fun k h => absurd h (by omega)) (fun k h => absurd h (by omega)) (fun k h => absurd h (by omega)) (fun j k _ h => absurd h (by omega))).mono ?_
   rintro e w' ⟨i, b, rfl, ⟨h1, h2, h3, h4⟩, hb⟩
   obtain rfl : i = 0 := by omega
   exact ⟨0, b, rfl, ⟨Nat.le_refl _, fun k x h _ => absurd h (by omega), fun k x _ h => by simp at h, by rw [h4]; simp⟩, hb⟩
  | cons x0 l0 =>
   rw [← hes]
   have hget : ∀ k, k < es.length → es[k]? = some (es.getD k x0) := fun k hk => by simp [List.getD, List.getElem?_eq_getElem hk]
   refine (bsrI g es.length cap (fun k => es.getD k x0) tgt w hn (fun k hk => hcell _ _ (cellsI_at es k _ (hget k hk)).1) (fun k hk => hcell _ _ (cellsI_at es k _ (hget k hk)).2.1) (fun k hk => hcell _ _ (cellsI_at es k _ (hget k hk)).2.2)
    (fun j k hjk hk => hs j k _ _ hjk (hget j (by omega)) (hget k hk))).mono ?_
   rintro e w' ⟨i, b, rfl, ⟨h1, h2, h3, h4⟩, hb⟩
   have hlt : ∀ k x, es[k]? = some x → k < es.length := fun k x h => (List.getElem?_eq_some_iff.1 h).1
   have hx : ∀ k x, es[k]? = some x → x = es.getD k x0 := fun k x h => by have := hget k (hlt k x h); rw [h] at this; exact Option.some.inj this
   refine ⟨i, b, rfl, ⟨h1, fun k x hk he => ?_, fun k x hk he => ?_, ?_⟩, hb⟩
   ·rw [hx k x he]; exact h2 k hk
   ·rw [hx k x he]; exact h3 k hk (hlt k x he)
   ·rw [h4]
    constructor
    ·rintro ⟨hi, e⟩; exact ⟨_, hget i hi, e⟩
    ·rintro ⟨x, he, e⟩; exact ⟨hlt i x he, by rw [← e, hx i x he]⟩
theorem splIns (L xs news : List Value) (i n : Nat) (hL : (n + 1) * 3 ≤ L.length) (hxs : L.take (n * 3) = xs) (hi : i < n) (hnl : news.length = 3) :
  (spl (spl L ((i + 1) * 3) (xs.drop (i * 3))) (i * 3) news).take ((n + 1) * 3) = xs.take (i * 3) ++ news ++ xs.drop (i * 3) := by
 have hxl : xs.length = n * 3 := by rw [← hxs, List.length_take]; omega
 have hdl : (xs.drop (i * 3)).length = (n - i) * 3 := by rw [List.length_drop, hxl]; omega
 have h1 : (spl L ((i + 1) * 3) (xs.drop (i * 3))).take (i * 3) = xs.take (i * 3) := by
  unfold spl
  rw [List.append_assoc, List.take_append_of_le_length (by rw [List.length_take]; omega), List.take_take, Nat.min_eq_left (by omega), ← hxs, List.take_take, Nat.min_eq_left (by omega)]
 have h2 : (spl L ((i + 1) * 3) (xs.drop (i * 3))).drop (i * 3 + news.length) = xs.drop (i * 3) ++ L.drop ((i + 1) * 3 + (xs.drop (i * 3)).length) := by
  unfold spl
  rw [List.append_assoc, hnl, show i * 3 + 3 = (L.take ((i + 1) * 3)).length by rw [List.length_take]; omega, List.drop_left]
 rw [spl, h1, h2, ← List.append_assoc]
 exact List.take_left' (by simp only [List.length_append, List.length_take, hdl, hnl, hxl]; omega)
theorem splGrow (Z xs news : List Value) (i n : Nat) (hxl : xs.length = n * 3) (hi : i < n) (_hZ : (n + 1) * 3 ≤ (xs.take (i * 3) ++ Z).length) (hnl : news.length = 3) :
  (spl (spl (xs.take (i * 3) ++ Z) (i * 3) news) ((i + 1) * 3) (xs.drop (i * 3))).take ((n + 1) * 3) = xs.take (i * 3) ++ news ++ xs.drop (i * 3) := by
 have hdl : (xs.drop (i * 3)).length = (n - i) * 3 := by rw [List.length_drop, hxl]; omega
 have htl : (xs.take (i * 3)).length = i * 3 := by rw [List.length_take]; omega
 have h1 : (spl (xs.take (i * 3) ++ Z) (i * 3) news).take ((i + 1) * 3) = xs.take (i * 3) ++ news := by
  unfold spl
  rw [List.take_left' htl]
  exact List.take_left' (by simp only [List.length_append, htl, hnl]; omega)
 rw [spl, h1]
 exact List.take_left' (by simp only [List.length_append, htl, hdl, hnl]; omega)
theorem splDel (L xs z : List Value) (i n : Nat) (hL : n * 3 ≤ L.length) (hxs : L.take (n * 3) = xs) (hi : i < n) :
  (spl (spl L (i * 3) (xs.drop ((i + 1) * 3))) ((n - 1) * 3) z).take ((n - 1) * 3) = xs.take (i * 3) ++ xs.drop ((i + 1) * 3) := by
 have hxl : xs.length = n * 3 := by rw [← hxs, List.length_take]; omega
 have hdl : (xs.drop ((i + 1) * 3)).length = (n - 1 - i) * 3 := by rw [List.length_drop, hxl]; omega
 have h0 : L.take (i * 3) = xs.take (i * 3) := by rw [← hxs, List.take_take, Nat.min_eq_left (by omega)]
 have htl : (xs.take (i * 3)).length = i * 3 := by rw [List.length_take]; omega
 have h1 : (spl L (i * 3) (xs.drop ((i + 1) * 3))).take ((n - 1) * 3) = xs.take (i * 3) ++ xs.drop ((i + 1) * 3) := by
  unfold spl
  rw [h0]
  exact List.take_left' (by simp only [List.length_append, htl, hdl]; omega)
 rw [spl, List.append_assoc, h1]
 exact List.take_left' (by simp only [List.length_append, htl, hdl]; omega)
theorem set2 (w1 : World) (b : Nat) (x y x0 y0 : Value) (h0 : w1.cell? ⟨b, 0, none⟩ = some x0) (h1 : w1.cell? ⟨b, 1, none⟩ = some y0) :
  (w1.setCell ⟨b, 0, none⟩ x).cell? ⟨b, 0, none⟩ = some x ∧ ((w1.setCell ⟨b, 0, none⟩ x).setCell ⟨b, 1, none⟩ y).cell? ⟨b, 0, none⟩ = some x ∧ ((w1.setCell ⟨b, 0, none⟩ x).setCell ⟨b, 1, none⟩ y).cell? ⟨b, 1, none⟩ = some y := by
 have a0 : (w1.setCell ⟨b, 0, none⟩ x).cell? ⟨b, 0, none⟩ = some x := World.cell?_setCell_same _ _ _ h0
 have a1 : (w1.setCell ⟨b, 0, none⟩ x).cell? ⟨b, 1, none⟩ = some y0 := (World.cell?_setCell_other _ _ _ _ (by simp)).trans h1
 exact ⟨a0, (World.cell?_setCell_other _ _ _ _ (by simp)).trans a0, World.cell?_setCell_same _ _ _ a1⟩
theorem cell_alloc_lt (w : World) (o : Obj) (p : Addr) (h : p.block < w.heap.size) : (w.alloc o).cell? p = w.cell? p := (Below.cell (B := w.heap.size) ((Below.refl _ _).alloc (Nat.le_refl _) o) h)
structure MapFr (w w' : World) (hb ho : Nat) (v v' : Value) : Prop where
 os : w'.os = w.os
 tape : w'.tape = w.tape
 output : w'.output = w.output
 size : w.heap.size ≤ w'.heap.size
 block : ∀ k, k < w.heap.size → k ≠ hb → v.ownBlock ≠ some k → w'.heap[k]? = w.heap[k]?
 head : w'.heap[hb]? = (w.setCell ⟨hb, ho, none⟩ v').heap[hb]?
theorem Sl.setCell {w : World} {e : TypeId} {sz : Nat} {v : Value} {n : Nat} {xs : List Value} (h : Sl w e sz v n xs) (a : Addr) (u : Value) (hne : v.ownBlock ≠ some a.block) : Sl (w.setCell a u) e sz v n xs := by
 refine ⟨h.1, ?_⟩
 rcases h.2 with h2 | ⟨g, cap, L, rfl, hr, h3⟩
 ·exact .inl h2
 ·refine .inr ⟨g, cap, L, rfl, ?_, h3⟩
  unfold RowIs
  rw [Below.heap_setCell _ _ _ _ (fun e => hne (by simp [Value.ownBlock, e]))]
  exact hr
theorem Sl.heap {w w' : World} {e : TypeId} {sz : Nat} {v : Value} {n : Nat} {xs : List Value} (h : Sl w e sz v n xs) (hh : w'.heap = w.heap) : Sl w' e sz v n xs := by
 unfold Sl RowIs at h ⊢; rw [hh]; exact h
theorem Sl.kept {w w' : World} {e : TypeId} {sz : Nat} {v : Value} {n : Nat} {xs : List Value} (h : Sl w e sz v n xs) (hk : ∀ k, k < w.heap.size → v.ownBlock = some k → w'.heap[k]? = w.heap[k]?) : Sl w' e sz v n xs := by
 refine ⟨h.1, ?_⟩
 rcases h.2 with h2 | ⟨g, cap, L, rfl, hr, h3⟩
 ·exact .inl h2
 ·refine .inr ⟨g, cap, L, rfl, ?_, h3⟩
  unfold RowIs
  rw [hk g hr.lt rfl]; exact hr
theorem Sl.lt {w : World} {e : TypeId} {sz : Nat} {v : Value} {n : Nat} {xs : List Value} (h : Sl w e sz v n xs) {g : Nat} (hg : v.ownBlock = some g) : g < w.heap.size := by
 rcases h.2 with ⟨rfl, _⟩ | ⟨g', cap, L, rfl, hr, _⟩
 ·simp [Value.ownBlock] at hg
 ·simp [Value.ownBlock] at hg; subst hg; exact hr.lt
theorem Sl.shape {w : World} {e : TypeId} {sz : Nat} {v : Value} {n : Nat} {xs : List Value} (h : Sl w e sz v n xs) : ∃ a m c, v = .slice a m c := by
 rcases h.2 with ⟨rfl, _⟩ | ⟨g', cap, L, rfl, hr, _⟩
 ·exact ⟨_, _, _, rfl⟩
 ·exact ⟨_, _, _, rfl⟩
theorem mapFin {w w2 : World} {hb ho : Nat} {v v' : Value} {e : TypeId} {n : Nat} {xs : List Value} (hc : w.cell? ⟨hb, ho, none⟩ = some v) (hne : v.ownBlock ≠ some hb) (hS : Sl w2 e 3 v' n xs) (hnew : NewOr w v v')
  (hos : w2.os = w.os) (htape : w2.tape = w.tape) (hout : w2.output = w.output) (hsz : w.heap.size ≤ w2.heap.size) (hbl : ∀ k, k < w.heap.size → v.ownBlock ≠ some k → w2.heap[k]? = w.heap[k]?) :
  (w2.setCell ⟨hb, ho, none⟩ v').cell? ⟨hb, ho, none⟩ = some v' ∧ Sl (w2.setCell ⟨hb, ho, none⟩ v') e 3 v' n xs ∧ MapFr w (w2.setCell ⟨hb, ho, none⟩ v') hb ho v v' := by
 have hlt : hb < w.heap.size := World.block_lt_of_cell? _ _ hc
 have hh : w2.heap[hb]? = w.heap[hb]? := hbl hb hlt hne
 have hc2 : w2.cell? ⟨hb, ho, none⟩ = some v := (World.cell?_of_block (w := w) (a := ⟨hb, ho, none⟩) hh).trans hc
 refine ⟨World.cell?_setCell_same _ _ _ hc2, hS.setCell _ _ (fun e => ?_), hos, htape, hout, by simpa [World.setCell] using hsz, fun k hk h1 h2 => ?_, ?_⟩
 ·rcases hnew hb e with h | h
  ·exact hne h
  ·omega
 ·rw [Below.heap_setCell _ _ _ _ h1]; exact hbl k hk h2
 ·simp only [World.setCell, Array.getElem?_modify, if_true]
  rw [hh]
theorem insES (w : World) (v : Value) (es : List (ByteArray × VS)) (i : Nat) (x : ByteArray × VS) (vb : Nat) (hS : Sl w 310 3 v es.length (cellsS es)) (hi : i ≤ es.length) (hn : es.length ≤ 10000)
  (hnews : RowIs w vb 310 (clS x)) (hne : v.ownBlock ≠ some vb) :
  Calls Tryz.prog 265 #[v, .int .i64 i, .slice (some ⟨vb, 0, none⟩) 1 1] w fun e w' => ∃ v', e = .returned v' ∧ Sl w' 310 3 v' (es.length + 1) (cellsS (es.take i ++ x :: es.drop i)) ∧ w.grownBy w' v.ownBlock ∧ NewOr w v v' := by
 have h1 : ∀ u ∈ clS x, u.oneCell' = true := fun u hu => cellsS_one [x] u (by simpa [cellsS] using hu)
 have hcl : cellsS (es.take i ++ x :: es.drop i) = (cellsS es).take (i * 3) ++ clS x ++ (cellsS es).drop (i * 3) := by
  rw [cellsS_take, cellsS_drop, cellsS_append, List.append_assoc]; rfl
 have hxl := cellsS_length es
 rcases Nat.lt_or_ge i es.length with hlt | hge
 ·rcases hS.2 with ⟨rfl, h0⟩ | ⟨g, cap, L, rfl, hR, hc, hcm, hL, hT⟩
  ·omega
  ·have hne' : vb ≠ g := fun e => hne (by simp [Value.ownBlock, e])
   have hlen : ((cellsS es).take (i * 3) ++ clS x ++ (cellsS es).drop (i * 3)).length = (es.length + 1) * 3 := by
    simp only [List.length_append, List.length_take, List.length_drop, hxl]; simp [clS]; omega
   rcases Nat.lt_or_ge cap (es.length + 1) with hg | hr
   ·refine (insGrow164 w g es.length cap (cellsS es) L i vb (clS x) hR hL hT hlt hc hg hn hnews rfl (cellsS_one es) h1).mono ?_
    rintro e w' ⟨G, Z, rfl, h2, h3, h4, h5, h6⟩
    refine ⟨_, rfl, ⟨by rw [hcl]; exact hlen, .inr ⟨_, G, _, rfl, h5, h2, h3, ?_, ?_⟩⟩, ⟨h6.os, h6.tape, h6.output, h6.size, fun k hk _ => h6.block k hk (by simp; omega)⟩, fun k hk => .inr (by simp [Value.ownBlock] at hk; omega)⟩
    ·rw [spl_length, spl_length, h4]
     ·rw [h4]; simp [clS]; omega
     ·rw [spl_length (by rw [h4]; simp [clS]; omega), h4, List.length_drop, hxl]; omega
    ·rw [hcl]; exact splGrow Z (cellsS es) (clS x) i es.length hxl hlt (by rw [h4]; omega) rfl
   ·refine (insMid164 w g es.length cap (cellsS es) L i vb (clS x) hR hL hT hlt hr hcm hn hnews rfl (cellsS_one es) h1 hne').mono ?_
    rintro e w' ⟨rfl, h5, h6⟩
    refine ⟨_, rfl, ⟨by rw [hcl]; exact hlen, .inr ⟨_, cap, _, rfl, h5, hr, hcm, ?_, ?_⟩⟩, h6, fun k hk => .inl hk⟩
    ·rw [spl_length, spl_length, hL]
     ·rw [List.length_drop, hxl, hL]; omega
     ·rw [spl_length (by rw [List.length_drop, hxl, hL]; omega), hL]; simp [clS]; omega
    ·rw [hcl]; exact splIns L (cellsS es) (clS x) i es.length (by rw [hL]; omega) hT hlt rfl
 ·obtain rfl : i = es.length := by omega
  refine (insEnd164 w v es.length (cellsS es) vb (clS x) hS hn hnews rfl h1).mono ?_
  rintro e w' ⟨v', rfl, h2, h3, h4⟩
  refine ⟨v', rfl, ?_, h3, h4⟩
  rw [hcl, List.take_of_length_le (by omega), List.drop_eq_nil_of_le (by omega), List.append_nil]
  exact h2
theorem delES (w : World) (v : Value) (es : List (ByteArray × VS)) (i : Nat) (hS : Sl w 310 3 v es.length (cellsS es)) (hi : i < es.length) (hn : es.length ≤ 10000) :
  Calls Tryz.prog 268 #[v, .int .i64 i, .int .i64 ((i : Int) + 1)] w fun e w' => ∃ v', e = .returned v' ∧ Sl w' 310 3 v' (es.length - 1) (cellsS (es.take i ++ es.drop (i + 1))) ∧ w.grownBy w' v.ownBlock ∧ NewOr w v v' := by
 have hcl : cellsS (es.take i ++ es.drop (i + 1)) = (cellsS es).take (i * 3) ++ (cellsS es).drop ((i + 1) * 3) := by
  rw [cellsS_take, cellsS_drop, cellsS_append]
 have hxl := cellsS_length es
 rcases hS.2 with ⟨rfl, h0⟩ | ⟨g, cap, L, rfl, hR, hc, hcm, hL, hT⟩
 ·omega
 ·refine (del164 w g es.length cap (cellsS es) L i hR hL hT hi hc hcm hn (cellsS_one es)).mono ?_
  rintro e w' ⟨rfl, h5, h6⟩
  refine ⟨_, rfl, ⟨?_, .inr ⟨_, cap, _, rfl, h5, by omega, hcm, ?_, ?_⟩⟩, h6, fun k hk => .inl hk⟩
  ·rw [hcl]; simp only [List.length_append, List.length_take, List.length_drop, hxl]; omega
  ·rw [spl_length, spl_length, hL]
   ·rw [List.length_drop, hxl, hL]; omega
   ·rw [spl_length (by rw [List.length_drop, hxl, hL]; omega), hL]; simp; omega
  ·rw [hcl]; exact splDel L (cellsS es) _ i es.length (by rw [hL]; omega) hT hi
theorem findS (w : World) (hb ho : Nat) (v : Value) (es : List (ByteArray × VS)) (key : ByteArray) (hc : w.cell? ⟨hb, ho, none⟩ = some v) (hS : Sl w 310 3 v es.length (cellsS es)) (hn : es.length ≤ 10000) (hs : SrtS es) :
  Calls Tryz.prog 264 #[.pointer (some ⟨hb, ho, none⟩), .string key] w fun e w' => ∃ (i : Nat) (b : Bool), e = .returned (.tuple #[.int .i64 i, .bool b]) ∧ AtS es key i b ∧ Below w.heap.size w w' := by
 have hr := srchS v es key w hS hn hs
 clear hS hn hs
 go_enter Tryz.func264, Tryz.ntmps264
 go_wp2_with fail
 refine hr.mono ?_
 rintro e w' ⟨i, b, rfl, hA, hb⟩
 have HA := hide hA
 clear hA
 go_wp2
 go_ret2
 exact ⟨i, b, rfl, unhide HA, hb⟩
def FoundS (es : List (ByteArray × VS)) (key : ByteArray) (r : VS) (b : Bool) : Prop := (b = true ∧ (key, r) ∈ es) ∨ (b = false ∧ r = ⟨none, 0⟩ ∧ ∀ x ∈ es, x.1 ≠ key)
theorem AtS.here {es : List (ByteArray × VS)} {key : ByteArray} {i : Nat} (h : AtS es key i true) : ∃ r, es[i]? = some (key, r) := by
 obtain ⟨x, h1, h2⟩ := h.2.2.2.1 rfl
 exact ⟨x.2, by rw [h1, ← h2]⟩
theorem AtS.not {es : List (ByteArray × VS)} {key : ByteArray} {i : Nat} (hs : SrtS es) (h : AtS es key i false) : ∀ x ∈ es, x.1 ≠ key := by
 intro x hx e
 obtain ⟨k, hk⟩ := List.getElem?_of_mem hx
 rcases Nat.lt_or_ge k i with hki | hki
 ·have := h.2.1 k x hki hk
  rw [e, ltS_irrefl] at this; cases this
 ·rcases Nat.lt_or_ge i k with h2 | h2
  ·have hil : i < es.length := by have := (List.getElem?_eq_some_iff.1 hk).1; omega
   have h3 := hs i k _ x h2 (List.getElem?_eq_getElem hil) hk
   have h4 := h.2.2.1 i _ (Nat.le_refl _) (List.getElem?_eq_getElem hil)
   rw [e] at h3; rw [h3] at h4; cases h4
  ·obtain rfl : k = i := by omega
   have := h.2.2.2.2 ⟨x, hk, e⟩
   cases this
theorem getS (w : World) (hb ho : Nat) (v : Value) (es : List (ByteArray × VS)) (key : ByteArray) (hc : w.cell? ⟨hb, ho, none⟩ = some v) (hS : Sl w 310 3 v es.length (cellsS es)) (hn : es.length ≤ 10000) (hs : SrtS es) :
  Calls Tryz.prog 266 #[.pointer (some ⟨hb, ho, none⟩), .string key] w fun e w' => ∃ (r : VS) (b : Bool), e = .returned (.tuple #[.agg #[.pointer r.p, .int .i64 r.f], .bool b]) ∧ FoundS es key r b ∧ Below w.heap.size w w' := by
 have hblt : hb < w.heap.size := World.block_lt_of_cell? _ _ hc
 have hal : ∀ o, Below w.heap.size w (w.alloc o) := fun o => (Below.refl _ _).alloc (Nat.le_refl _) o
 have hf := fun o => findS (w.alloc o) hb ho v es key (((hal o).cell (p := ⟨hb, ho, none⟩) hblt).trans hc) (Sl.of_owns (hS.owns.alloc o)) hn hs
 go_enter Tryz.func266, Tryz.ntmps266
 go_wp2_with fail
 refine (hf _).mono ?_
 rintro e w1 ⟨i, b, rfl, hA, hB⟩
 have hB1 : Below (w.heap.size + 1) (w.alloc (.cells #[.pointer none, .int .i64 0] 260)) w1 := by simpa using hB
 have c0 : ∀ p : Addr, p.block < w.heap.size → w1.cell? p = w.cell? p := fun p hp => (hB1.cell (p := p) (by omega)).trans ((hal _).cell hp)
 have z : ∀ j, w1.cell? ⟨w.heap.size, j, none⟩ = (#[.pointer none, .int .i64 0] : Array Value)[j]? := fun j => (hB1.cell (p := ⟨w.heap.size, j, none⟩) (by simp)).trans (World.cell?_alloc_at _ _ _ _ rfl)
 have z0 : w1.cell? ⟨w.heap.size, 0, none⟩ = some (.pointer none) := z 0
 have z1 : w1.cell? ⟨w.heap.size, 1, none⟩ = some (.int .i64 0) := z 1
 have f : ∀ j, w1.frozen? ⟨w.heap.size, j, none⟩ = false := fun j => (hB1.frozen (p := ⟨w.heap.size, j, none⟩) (by simp)).trans (World.frozen?_alloc_at _ _ _ _ rfl)
 have f0 := f 0; have f1 := f 1
 have hfull : Below w.heap.size w w1 := (hal _).trans (hB1.mono (by omega))
 have hsz : w.heap.size < w1.heap.size := by have := hB1.size; simp at this; omega
 clear z f hf hal hB
 cases b with
 | false =>
  have HN := hide (AtS.not hs hA)
  clear hA hS c0
  obtain ⟨s0, s1, s2⟩ := set2 w1 w.heap.size (.pointer none) (.int .i64 0) _ _ z0 z1
  have t1 := fun o => (cell_alloc_lt ((w1.setCell ⟨w.heap.size, 0, none⟩ (.pointer none)).setCell ⟨w.heap.size, 1, none⟩ (.int .i64 0)) o ⟨w.heap.size, 0, none⟩ (by simpa using hsz)).trans s1
  have t2 := fun o => (cell_alloc_lt ((w1.setCell ⟨w.heap.size, 0, none⟩ (.pointer none)).setCell ⟨w.heap.size, 1, none⟩ (.int .i64 0)) o ⟨w.heap.size, 1, none⟩ (by simpa using hsz)).trans s2
  go_wp2
  exact bodyPost_ret (v := .tuple #[.agg #[.pointer none, .int .i64 0], .bool false]) (by simp [results, Tryz.results266, go_sem, t1, t2]) rfl
   ⟨⟨none, 0⟩, false, rfl, .inr ⟨rfl, rfl, unhide HN⟩, ((hfull.setCell (p := ⟨w.heap.size, 0, none⟩) (Nat.le_refl _) _).setCell (p := ⟨w.heap.size, 1, none⟩) (Nat.le_refl _) _).alloc (by simp; omega) _⟩
 | true =>
  obtain ⟨r, hr⟩ := hA.here
  rcases hS.2 with ⟨rfl, h0⟩ | ⟨g, cap, L, rfl, hR, hcc, hcm, hL, hT⟩
  ·have := (List.getElem?_eq_some_iff.1 hr).1; omega
  ·have hcell : ∀ j u, (cellsS es)[j]? = some u → w1.cell? ⟨g, j, none⟩ = some u := fun j u hu => by
    rw [c0 _ hR.lt, hR.cell]
    rw [← hT, List.getElem?_take] at hu
    split at hu
    ·exact hu
    ·cases hu
   have q := cellsS_at es i _ hr
   have q0 := (c0 ⟨hb, ho, none⟩ hblt).trans hc
   have q1 := hcell _ _ q.2.1
   have q2 := hcell _ _ q.2.2
   have hi : i < es.length := (List.getElem?_eq_some_iff.1 hr).1
   have HM := hide (List.mem_of_getElem? hr)
   clear q hcell hR hL hT hS hA hr c0 hc
   obtain ⟨s0, s1, s2⟩ := set2 w1 w.heap.size (.pointer r.p) (.int .i64 r.f) _ _ z0 z1
   go_wp2
   exact bodyPost_ret (v := .tuple #[.agg #[.pointer r.p, .int .i64 r.f], .bool true]) (by simp [results, Tryz.results266, go_sem, s1, s2]) rfl
    ⟨r, true, rfl, .inl ⟨rfl, unhide HM⟩, (hfull.setCell (p := ⟨w.heap.size, 0, none⟩) (Nat.le_refl _) _).setCell (p := ⟨w.heap.size, 1, none⟩) (Nat.le_refl _) _⟩
theorem insS_spec {es : List (ByteArray × VS)} {key : ByteArray} {i : Nat} (val : VS) (hs : SrtS es) (h : AtS es key i false) :
  SrtS (es.take i ++ (key, val) :: es.drop i) ∧ (es.take i ++ (key, val) :: es.drop i).length = es.length + 1 ∧ ∀ x, x ∈ es.take i ++ (key, val) :: es.drop i ↔ x = (key, val) ∨ x ∈ es := by
 have hi := h.1
 have hnot := AtS.not hs h
 have hgt : ∀ k x, i ≤ k → es[k]? = some x → ltS key x.1 = true := fun k x hk hx => by
  have h1 := h.2.2.1 k x hk hx
  have h2 := hnot x (List.mem_of_getElem? hx)
  exact ltS_total h1 h2
 have hl : (es.take i).length = i := by rw [List.length_take]; omega
 have hg : ∀ k, (es.take i ++ (key, val) :: es.drop i)[k]? = if k < i then es[k]? else if k = i then some (key, val) else es[k - 1]? := fun k => by
  by_cases h1 : k < i
  ·rw [if_pos h1, List.getElem?_append_left (by omega), List.getElem?_take, if_pos h1]
  ·rw [if_neg h1, List.getElem?_append_right (by omega), hl]
   by_cases h2 : k = i
   ·rw [if_pos h2]; simp [h2]
   ·rw [if_neg h2, show k - i = (k - i - 1) + 1 by omega, List.getElem?_cons_succ, List.getElem?_drop]
    congr 1; omega
 refine ⟨fun j k x y hjk hx hy => ?_, ?_, fun x => ?_⟩
 ·rw [hg] at hx hy
  by_cases j1 : j < i
  ·rw [if_pos j1] at hx
   by_cases k1 : k < i
   ·rw [if_pos k1] at hy; exact hs j k x y hjk hx hy
   ·rw [if_neg k1] at hy
    by_cases k2 : k = i
    ·rw [if_pos k2] at hy; cases hy; exact h.2.1 j x j1 hx
    ·rw [if_neg k2] at hy; exact hs j (k - 1) x y (by omega) hx hy
  ·rw [if_neg j1] at hx
   have k1 : ¬ k < i := by omega
   have k2 : ¬ k = i := by omega
   rw [if_neg k1, if_neg k2] at hy
   by_cases j2 : j = i
   ·rw [if_pos j2] at hx; cases hx; exact hgt (k - 1) y (by omega) hy
   ·rw [if_neg j2] at hx; exact hs (j - 1) (k - 1) x y (by omega) hx hy
 ·simp; omega
 ·have : es = es.take i ++ es.drop i := (List.take_append_drop i es).symm
  constructor
  ·intro hx
   simp only [List.mem_append, List.mem_cons] at hx
   rcases hx with h1 | h1 | h1
   ·exact .inr (List.mem_of_mem_take h1)
   ·exact .inl h1
   ·exact .inr (List.mem_of_mem_drop h1)
  ·intro hx
   simp only [List.mem_append, List.mem_cons]
   rcases hx with h1 | h1
   ·exact .inr (.inl h1)
   ·rw [this, List.mem_append] at h1
    rcases h1 with h1 | h1
    ·exact .inl h1
    ·exact .inr (.inr h1)
theorem putNewS (w : World) (hb ho : Nat) (v : Value) (es : List (ByteArray × VS)) (key : ByteArray) (r : VS) (hc : w.cell? ⟨hb, ho, none⟩ = some v) (hf : w.frozen? ⟨hb, ho, none⟩ = false) (hne : v.ownBlock ≠ some hb) (hS : Sl w 310 3 v es.length (cellsS es)) (hn : es.length ≤ 10000) (hs : SrtS es) (hno : ∀ x ∈ es, x.1 ≠ key) :
  Calls Tryz.prog 226 #[.pointer (some ⟨hb, ho, none⟩), .string key, .agg #[.pointer r.p, .int .i64 r.f]] w fun e w' => e = .returned (.tuple #[]) ∧ ∃ v' es', w'.cell? ⟨hb, ho, none⟩ = some v' ∧ Sl w' 310 3 v' es'.length (cellsS es') ∧
   SrtS es' ∧ es'.length = es.length + 1 ∧ (∀ x, x ∈ es' ↔ x = (key, r) ∨ x ∈ es) ∧ NewOr w v v' ∧ MapFr w w' hb ho v v' := by
 have hblt : hb < w.heap.size := World.block_lt_of_cell? _ _ hc
 have hal : ∀ o, Below w.heap.size w (w.alloc o) := fun o => (Below.refl _ _).alloc (Nat.le_refl _) o
 have hfi := fun o => findS (w.alloc o) hb ho v es key (((hal o).cell (p := ⟨hb, ho, none⟩) hblt).trans hc) (Sl.of_owns (hS.owns.alloc o)) hn hs
 go_enter Tryz.func226, Tryz.ntmps226
 go_wp2_with fail
 refine (hfi _).mono ?_
 rintro e w1 ⟨i, b, rfl, hA, hB⟩
 have hb0 : b = false := by
  cases b with
  | false => rfl
  | true => obtain ⟨r', hr'⟩ := hA.here; exact absurd rfl (hno _ (List.mem_of_getElem? hr'))
 subst hb0
 have hB1 : Below (w.heap.size + 1) (w.alloc (.cells #[.pointer r.p, .int .i64 r.f] 260)) w1 := by simpa using hB
 have hfull : Below w.heap.size w w1 := (hal _).trans (hB1.mono (by omega))
 have q0 : w1.cell? ⟨hb, ho, none⟩ = some v := (hfull.cell (p := ⟨hb, ho, none⟩) hblt).trans hc
 have z : ∀ j, w1.cell? ⟨w.heap.size, j, none⟩ = (#[.pointer r.p, .int .i64 r.f] : Array Value)[j]? := fun j => (hB1.cell (p := ⟨w.heap.size, j, none⟩) (by simp)).trans (World.cell?_alloc_at _ _ _ _ rfl)
 have z0 : w1.cell? ⟨w.heap.size, 0, none⟩ = some (.pointer r.p) := z 0
 have z1 : w1.cell? ⟨w.heap.size, 1, none⟩ = some (.int .i64 r.f) := z 1
 have hsz : w.heap.size < w1.heap.size := by have := hB1.size; simp at this; omega
 have hS1 : Sl w1 310 3 v es.length (cellsS es) := hS.kept (fun k hk _ => hfull.block k hk)
 have hins : ∀ W : World, W.heap = (w1.alloc (.cells #[.string key, .pointer r.p, .int .i64 r.f] 310)).heap → W.os = w1.os → W.tape = w1.tape → W.output = w1.output → Calls Tryz.prog 265 #[v, .int .i64 i, .slice (some ⟨w1.heap.size, 0, none⟩) 1 1] W fun e w' => ∃ a' m' c' v', e = .returned (.slice a' m' c') ∧ v' = .slice a' m' c' ∧
   (w'.cell? ⟨hb, ho, none⟩ = some v ∧ w'.frozen? ⟨hb, ho, none⟩ = false) ∧ Hid ((w'.setCell ⟨hb, ho, none⟩ v').cell? ⟨hb, ho, none⟩ = some v' ∧ Sl (w'.setCell ⟨hb, ho, none⟩ v') 310 3 v' (es.length + 1) (cellsS (es.take i ++ (key, r) :: es.drop i)) ∧ MapFr w (w'.setCell ⟨hb, ho, none⟩ v') hb ho v v' ∧ NewOr w v v') := fun W hW h1 h2 h3 => by
  have hSW : Sl W 310 3 v es.length (cellsS es) := (Sl.of_owns (hS1.owns.alloc _)).heap hW
  have hR : RowIs W w1.heap.size 310 (clS (key, r)) := by unfold RowIs; rw [hW]; exact heap_alloc_new w1 _
  refine (insES W v es i (key, r) w1.heap.size hSW hA.1 hn hR (fun e => by have := hS1.lt e; omega)).mono ?_
  rintro e w' ⟨v', rfl, hS', hg, hnew⟩
  have hWs : w.heap.size ≤ W.heap.size := by rw [hW]; simp; omega
  have hbl : ∀ k, k < w.heap.size → v.ownBlock ≠ some k → w'.heap[k]? = w.heap[k]? := fun k hk hne' => by
   rw [hg.block k (by omega) (fun e => hne' e.symm), hW, Below.heap_alloc _ _ _ (by omega), hfull.block k hk]
  have hnew' : NewOr w v v' := fun g hg' => (hnew g hg').imp id (fun h => by omega)
  obtain ⟨m1, m2, m3⟩ := mapFin (ho := ho) hc hne hS' hnew' (hg.os.trans (h1.trans hfull.os)) (hg.tape.trans (h2.trans hfull.tape)) (hg.output.trans (h3.trans hfull.output)) (Nat.le_trans hWs hg.size) hbl
  obtain ⟨a', m', c', e'⟩ := hS'.shape
  exact ⟨a', m', c', v', by rw [e'], e', ⟨(World.cell?_of_block (w := w) (a := ⟨hb, ho, none⟩) (hbl hb hblt hne)).trans hc, (World.frozen?_of_block (w := w) (a := ⟨hb, ho, none⟩) (hbl hb hblt hne)).trans hf⟩, m1, m2, m3, hnew'⟩
 have hsp := hide (insS_spec r hs hA)
 have hlen : (es.take i ++ (key, r) :: es.drop i).length = es.length + 1 := (unhide hsp).2.1
 have HL := hide hlen
 have hb1 : hb < w1.heap.size := by omega
 have HINS := hide hins
 clear hlen z hB hA hS hS1 hs hno hfi hal hB1 hfull hins
 go_wp2
 go_region_with (go_at_call 265; refine (unhide HINS _ (by exact rfl) (by exact rfl) (by exact rfl) (by exact rfl)).mono ?_; rintro e w2 ⟨a', m', c', v', rfl, rfl, ⟨hc2, hf2⟩, HF⟩)
 all_goals (
  go_end0
  obtain ⟨m1, m2, m3, m4⟩ := unhide HF
  exact ⟨rfl, _, _, m1, by rw [unhide HL]; exact m2, (unhide hsp).1, unhide HL, (unhide hsp).2.2, m4, m3⟩)
theorem insEI (w : World) (v : Value) (es : List (Int × VF)) (i : Nat) (x : Int × VF) (vb : Nat) (hS : Sl w 293 3 v es.length (cellsI es)) (hi : i ≤ es.length) (hn : es.length ≤ 10000)
  (hnews : RowIs w vb 293 (clI x)) (hne : v.ownBlock ≠ some vb) :
  Calls Tryz.prog 267 #[v, .int .i64 i, .slice (some ⟨vb, 0, none⟩) 1 1] w fun e w' => ∃ v', e = .returned v' ∧ Sl w' 293 3 v' (es.length + 1) (cellsI (es.take i ++ x :: es.drop i)) ∧ w.grownBy w' v.ownBlock ∧ NewOr w v v' := by
 have h1 : ∀ u ∈ clI x, u.oneCell' = true := fun u hu => cellsI_one [x] u (by simpa [cellsI] using hu)
 have hcl : cellsI (es.take i ++ x :: es.drop i) = (cellsI es).take (i * 3) ++ clI x ++ (cellsI es).drop (i * 3) := by
  rw [cellsI_take, cellsI_drop, cellsI_append, List.append_assoc]; rfl
 have hxl := cellsI_length es
 rcases Nat.lt_or_ge i es.length with hlt | hge
 ·rcases hS.2 with ⟨rfl, h0⟩ | ⟨g, cap, L, rfl, hR, hc, hcm, hL, hT⟩
  ·omega
  ·have hne' : vb ≠ g := fun e => hne (by simp [Value.ownBlock, e])
   have hlen : ((cellsI es).take (i * 3) ++ clI x ++ (cellsI es).drop (i * 3)).length = (es.length + 1) * 3 := by
    simp only [List.length_append, List.length_take, List.length_drop, hxl]; simp [clI]; omega
   rcases Nat.lt_or_ge cap (es.length + 1) with hg | hr
   ·refine (insGrow160 w g es.length cap (cellsI es) L i vb (clI x) hR hL hT hlt hc hg hn hnews rfl (cellsI_one es) h1).mono ?_
    rintro e w' ⟨G, Z, rfl, h2, h3, h4, h5, h6⟩
    refine ⟨_, rfl, ⟨by rw [hcl]; exact hlen, .inr ⟨_, G, _, rfl, h5, h2, h3, ?_, ?_⟩⟩, ⟨h6.os, h6.tape, h6.output, h6.size, fun k hk _ => h6.block k hk (by simp; omega)⟩, fun k hk => .inr (by simp [Value.ownBlock] at hk; omega)⟩
    ·rw [spl_length, spl_length, h4]
     ·rw [h4]; simp [clI]; omega
     ·rw [spl_length (by rw [h4]; simp [clI]; omega), h4, List.length_drop, hxl]; omega
    ·rw [hcl]; exact splGrow Z (cellsI es) (clI x) i es.length hxl hlt (by rw [h4]; omega) rfl
   ·refine (insMid160 w g es.length cap (cellsI es) L i vb (clI x) hR hL hT hlt hr hcm hn hnews rfl (cellsI_one es) h1 hne').mono ?_
    rintro e w' ⟨rfl, h5, h6⟩
    refine ⟨_, rfl, ⟨by rw [hcl]; exact hlen, .inr ⟨_, cap, _, rfl, h5, hr, hcm, ?_, ?_⟩⟩, h6, fun k hk => .inl hk⟩
    ·rw [spl_length, spl_length, hL]
     ·rw [List.length_drop, hxl, hL]; omega
     ·rw [spl_length (by rw [List.length_drop, hxl, hL]; omega), hL]; simp [clI]; omega
    ·rw [hcl]; exact splIns L (cellsI es) (clI x) i es.length (by rw [hL]; omega) hT hlt rfl
 ·obtain rfl : i = es.length := by omega
  refine (insEnd160 w v es.length (cellsI es) vb (clI x) hS hn hnews rfl h1).mono ?_
  rintro e w' ⟨v', rfl, h2, h3, h4⟩
  refine ⟨v', rfl, ?_, h3, h4⟩
  rw [hcl, List.take_of_length_le (by omega), List.drop_eq_nil_of_le (by omega), List.append_nil]
  exact h2
theorem delEI (w : World) (v : Value) (es : List (Int × VF)) (i : Nat) (hS : Sl w 293 3 v es.length (cellsI es)) (hi : i < es.length) (hn : es.length ≤ 10000) :
  Calls Tryz.prog 269 #[v, .int .i64 i, .int .i64 ((i : Int) + 1)] w fun e w' => ∃ v', e = .returned v' ∧ Sl w' 293 3 v' (es.length - 1) (cellsI (es.take i ++ es.drop (i + 1))) ∧ w.grownBy w' v.ownBlock ∧ NewOr w v v' := by
 have hcl : cellsI (es.take i ++ es.drop (i + 1)) = (cellsI es).take (i * 3) ++ (cellsI es).drop ((i + 1) * 3) := by
  rw [cellsI_take, cellsI_drop, cellsI_append]
 have hxl := cellsI_length es
 rcases hS.2 with ⟨rfl, h0⟩ | ⟨g, cap, L, rfl, hR, hc, hcm, hL, hT⟩
 ·omega
 ·refine (del160 w g es.length cap (cellsI es) L i hR hL hT hi hc hcm hn (cellsI_one es)).mono ?_
  rintro e w' ⟨rfl, h5, h6⟩
  refine ⟨_, rfl, ⟨?_, .inr ⟨_, cap, _, rfl, h5, by omega, hcm, ?_, ?_⟩⟩, h6, fun k hk => .inl hk⟩
  ·rw [hcl]; simp only [List.length_append, List.length_take, List.length_drop, hxl]; omega
  ·rw [spl_length, spl_length, hL]
   ·rw [List.length_drop, hxl, hL]; omega
   ·rw [spl_length (by rw [List.length_drop, hxl, hL]; omega), hL]; simp; omega
  ·rw [hcl]; exact splDel L (cellsI es) _ i es.length (by rw [hL]; omega) hT hi
theorem findI (w : World) (hb ho : Nat) (v : Value) (es : List (Int × VF)) (key : Int) (hc : w.cell? ⟨hb, ho, none⟩ = some v) (hS : Sl w 293 3 v es.length (cellsI es)) (hn : es.length ≤ 10000) (hs : SrtI es) :
  Calls Tryz.prog 221 #[.pointer (some ⟨hb, ho, none⟩), .int .i64 key] w fun e w' => ∃ (i : Nat) (b : Bool), e = .returned (.tuple #[.int .i64 i, .bool b]) ∧ AtI es key i b ∧ Below w.heap.size w w' := by
 have hr := srchI v es key w hS hn hs
 clear hS hn hs
 go_enter Tryz.func221, Tryz.ntmps221
 go_wp2_with fail
 refine hr.mono ?_
 rintro e w' ⟨i, b, rfl, hA, hb⟩
 have HA := hide hA
 clear hA
 go_wp2
 go_ret2
 exact ⟨i, b, rfl, unhide HA, hb⟩
def FoundI (es : List (Int × VF)) (key : Int) (r : VF) (b : Bool) : Prop := (b = true ∧ (key, r) ∈ es) ∨ (b = false ∧ r = ⟨none, 0, 0, 0⟩ ∧ ∀ x ∈ es, x.1 ≠ key)
theorem AtI.here {es : List (Int × VF)} {key : Int} {i : Nat} (h : AtI es key i true) : ∃ r, es[i]? = some (key, r) := by
 obtain ⟨x, h1, h2⟩ := h.2.2.2.1 rfl
 exact ⟨x.2, by rw [h1, ← h2]⟩
theorem AtI.not {es : List (Int × VF)} {key : Int} {i : Nat} (hs : SrtI es) (h : AtI es key i false) : ∀ x ∈ es, x.1 ≠ key := by
 intro x hx e
 obtain ⟨k, hk⟩ := List.getElem?_of_mem hx
 rcases Nat.lt_or_ge k i with hki | hki
 ·have := h.2.1 k x hki hk
  rw [e, ltI_irrefl] at this; cases this
 ·rcases Nat.lt_or_ge i k with h2 | h2
  ·have hil : i < es.length := by have := (List.getElem?_eq_some_iff.1 hk).1; omega
   have h3 := hs i k _ x h2 (List.getElem?_eq_getElem hil) hk
   have h4 := h.2.2.1 i _ (Nat.le_refl _) (List.getElem?_eq_getElem hil)
   rw [e] at h3; rw [h3] at h4; cases h4
  ·obtain rfl : k = i := by omega
   have := h.2.2.2.2 ⟨x, hk, e⟩
   cases this
theorem getI (w : World) (hb ho : Nat) (v : Value) (es : List (Int × VF)) (key : Int) (hc : w.cell? ⟨hb, ho, none⟩ = some v) (hS : Sl w 293 3 v es.length (cellsI es)) (hn : es.length ≤ 10000) (hs : SrtI es) :
  Calls Tryz.prog 175 #[.pointer (some ⟨hb, ho, none⟩), .int .i64 key] w fun e w' => ∃ (r : VF) (b : Bool), e = .returned (.tuple #[.agg #[.slice r.a r.l r.c, .int .i64 r.f], .bool b]) ∧ FoundI es key r b ∧ Below w.heap.size w w' := by
 have hblt : hb < w.heap.size := World.block_lt_of_cell? _ _ hc
 have hal : ∀ o, Below w.heap.size w (w.alloc o) := fun o => (Below.refl _ _).alloc (Nat.le_refl _) o
 have hf := fun o => findI (w.alloc o) hb ho v es key (((hal o).cell (p := ⟨hb, ho, none⟩) hblt).trans hc) (Sl.of_owns (hS.owns.alloc o)) hn hs
 go_enter Tryz.func175, Tryz.ntmps175
 go_wp2_with fail
 refine (hf _).mono ?_
 rintro e w1 ⟨i, b, rfl, hA, hB⟩
 have hB1 : Below (w.heap.size + 1) (w.alloc (.cells #[.slice none 0 0, .int .i64 0] 217)) w1 := by simpa using hB
 have c0 : ∀ p : Addr, p.block < w.heap.size → w1.cell? p = w.cell? p := fun p hp => (hB1.cell (p := p) (by omega)).trans ((hal _).cell hp)
 have z : ∀ j, w1.cell? ⟨w.heap.size, j, none⟩ = (#[.slice none 0 0, .int .i64 0] : Array Value)[j]? := fun j => (hB1.cell (p := ⟨w.heap.size, j, none⟩) (by simp)).trans (World.cell?_alloc_at _ _ _ _ rfl)
 have z0 : w1.cell? ⟨w.heap.size, 0, none⟩ = some (.slice none 0 0) := z 0
 have z1 : w1.cell? ⟨w.heap.size, 1, none⟩ = some (.int .i64 0) := z 1
 have f : ∀ j, w1.frozen? ⟨w.heap.size, j, none⟩ = false := fun j => (hB1.frozen (p := ⟨w.heap.size, j, none⟩) (by simp)).trans (World.frozen?_alloc_at _ _ _ _ rfl)
 have f0 := f 0; have f1 := f 1
 have hfull : Below w.heap.size w w1 := (hal _).trans (hB1.mono (by omega))
 have hsz : w.heap.size < w1.heap.size := by have := hB1.size; simp at this; omega
 clear z f hf hal hB
 cases b with
 | false =>
  have HN := hide (AtI.not hs hA)
  clear hA hS c0
  obtain ⟨s0, s1, s2⟩ := set2 w1 w.heap.size (.slice none 0 0) (.int .i64 0) _ _ z0 z1
  have t1 := fun o => (cell_alloc_lt ((w1.setCell ⟨w.heap.size, 0, none⟩ (.slice none 0 0)).setCell ⟨w.heap.size, 1, none⟩ (.int .i64 0)) o ⟨w.heap.size, 0, none⟩ (by simpa using hsz)).trans s1
  have t2 := fun o => (cell_alloc_lt ((w1.setCell ⟨w.heap.size, 0, none⟩ (.slice none 0 0)).setCell ⟨w.heap.size, 1, none⟩ (.int .i64 0)) o ⟨w.heap.size, 1, none⟩ (by simpa using hsz)).trans s2
  go_wp2
  exact bodyPost_ret (v := .tuple #[.agg #[.slice none 0 0, .int .i64 0], .bool false]) (by simp [results, Tryz.results175, go_sem, t1, t2]) rfl
   ⟨⟨none, 0, 0, 0⟩, false, rfl, .inr ⟨rfl, rfl, unhide HN⟩, ((hfull.setCell (p := ⟨w.heap.size, 0, none⟩) (Nat.le_refl _) _).setCell (p := ⟨w.heap.size, 1, none⟩) (Nat.le_refl _) _).alloc (by simp; omega) _⟩
 | true =>
  obtain ⟨r, hr⟩ := hA.here
  rcases hS.2 with ⟨rfl, h0⟩ | ⟨g, cap, L, rfl, hR, hcc, hcm, hL, hT⟩
  ·have := (List.getElem?_eq_some_iff.1 hr).1; omega
  ·have hcell : ∀ j u, (cellsI es)[j]? = some u → w1.cell? ⟨g, j, none⟩ = some u := fun j u hu => by
    rw [c0 _ hR.lt, hR.cell]
    rw [← hT, List.getElem?_take] at hu
    split at hu
    ·exact hu
    ·cases hu
   have q := cellsI_at es i _ hr
   have q0 := (c0 ⟨hb, ho, none⟩ hblt).trans hc
   have q1 := hcell _ _ q.2.1
   have q2 := hcell _ _ q.2.2
   have hi : i < es.length := (List.getElem?_eq_some_iff.1 hr).1
   have HM := hide (List.mem_of_getElem? hr)
   clear q hcell hR hL hT hS hA hr c0 hc
   obtain ⟨s0, s1, s2⟩ := set2 w1 w.heap.size (.slice r.a r.l r.c) (.int .i64 r.f) _ _ z0 z1
   go_wp2
   exact bodyPost_ret (v := .tuple #[.agg #[.slice r.a r.l r.c, .int .i64 r.f], .bool true]) (by simp [results, Tryz.results175, go_sem, s1, s2]) rfl
    ⟨r, true, rfl, .inl ⟨rfl, unhide HM⟩, (hfull.setCell (p := ⟨w.heap.size, 0, none⟩) (Nat.le_refl _) _).setCell (p := ⟨w.heap.size, 1, none⟩) (Nat.le_refl _) _⟩
theorem insI_spec {es : List (Int × VF)} {key : Int} {i : Nat} (val : VF) (hs : SrtI es) (h : AtI es key i false) :
  SrtI (es.take i ++ (key, val) :: es.drop i) ∧ (es.take i ++ (key, val) :: es.drop i).length = es.length + 1 ∧ ∀ x, x ∈ es.take i ++ (key, val) :: es.drop i ↔ x = (key, val) ∨ x ∈ es := by
 have hi := h.1
 have hnot := AtI.not hs h
 have hgt : ∀ k x, i ≤ k → es[k]? = some x → ltI key x.1 = true := fun k x hk hx => by
  have h1 := h.2.2.1 k x hk hx
  have h2 := hnot x (List.mem_of_getElem? hx)
  exact ltI_total h1 h2
 have hl : (es.take i).length = i := by rw [List.length_take]; omega
 have hg : ∀ k, (es.take i ++ (key, val) :: es.drop i)[k]? = if k < i then es[k]? else if k = i then some (key, val) else es[k - 1]? := fun k => by
  by_cases h1 : k < i
  ·rw [if_pos h1, List.getElem?_append_left (by omega), List.getElem?_take, if_pos h1]
  ·rw [if_neg h1, List.getElem?_append_right (by omega), hl]
   by_cases h2 : k = i
   ·rw [if_pos h2]; simp [h2]
   ·rw [if_neg h2, show k - i = (k - i - 1) + 1 by omega, List.getElem?_cons_succ, List.getElem?_drop]
    congr 1; omega
 refine ⟨fun j k x y hjk hx hy => ?_, ?_, fun x => ?_⟩
 ·rw [hg] at hx hy
  by_cases j1 : j < i
  ·rw [if_pos j1] at hx
   by_cases k1 : k < i
   ·rw [if_pos k1] at hy; exact hs j k x y hjk hx hy
   ·rw [if_neg k1] at hy
    by_cases k2 : k = i
    ·rw [if_pos k2] at hy; cases hy; exact h.2.1 j x j1 hx
    ·rw [if_neg k2] at hy; exact hs j (k - 1) x y (by omega) hx hy
  ·rw [if_neg j1] at hx
   have k1 : ¬ k < i := by omega
   have k2 : ¬ k = i := by omega
   rw [if_neg k1, if_neg k2] at hy
   by_cases j2 : j = i
   ·rw [if_pos j2] at hx; cases hx; exact hgt (k - 1) y (by omega) hy
   ·rw [if_neg j2] at hx; exact hs (j - 1) (k - 1) x y (by omega) hx hy
 ·simp; omega
 ·have : es = es.take i ++ es.drop i := (List.take_append_drop i es).symm
  constructor
  ·intro hx
   simp only [List.mem_append, List.mem_cons] at hx
   rcases hx with h1 | h1 | h1
   ·exact .inr (List.mem_of_mem_take h1)
   ·exact .inl h1
   ·exact .inr (List.mem_of_mem_drop h1)
  ·intro hx
   simp only [List.mem_append, List.mem_cons]
   rcases hx with h1 | h1
   ·exact .inr (.inl h1)
   ·rw [this, List.mem_append] at h1
    rcases h1 with h1 | h1
    ·exact .inl h1
    ·exact .inr (.inr h1)
theorem putNewI (w : World) (hb ho : Nat) (v : Value) (es : List (Int × VF)) (key : Int) (r : VF) (hc : w.cell? ⟨hb, ho, none⟩ = some v) (hf : w.frozen? ⟨hb, ho, none⟩ = false) (hne : v.ownBlock ≠ some hb) (hS : Sl w 293 3 v es.length (cellsI es)) (hn : es.length ≤ 10000) (hs : SrtI es) (hno : ∀ x ∈ es, x.1 ≠ key) :
  Calls Tryz.prog 228 #[.pointer (some ⟨hb, ho, none⟩), .int .i64 key, .agg #[.slice r.a r.l r.c, .int .i64 r.f]] w fun e w' => e = .returned (.tuple #[]) ∧ ∃ v' es', w'.cell? ⟨hb, ho, none⟩ = some v' ∧ Sl w' 293 3 v' es'.length (cellsI es') ∧
   SrtI es' ∧ es'.length = es.length + 1 ∧ (∀ x, x ∈ es' ↔ x = (key, r) ∨ x ∈ es) ∧ NewOr w v v' ∧ MapFr w w' hb ho v v' := by
 have hblt : hb < w.heap.size := World.block_lt_of_cell? _ _ hc
 have hal : ∀ o, Below w.heap.size w (w.alloc o) := fun o => (Below.refl _ _).alloc (Nat.le_refl _) o
 have hfi := fun o => findI (w.alloc o) hb ho v es key (((hal o).cell (p := ⟨hb, ho, none⟩) hblt).trans hc) (Sl.of_owns (hS.owns.alloc o)) hn hs
 go_enter Tryz.func228, Tryz.ntmps228
 go_wp2_with fail
 refine (hfi _).mono ?_
 rintro e w1 ⟨i, b, rfl, hA, hB⟩
 have hb0 : b = false := by
  cases b with
  | false => rfl
  | true => obtain ⟨r', hr'⟩ := hA.here; exact absurd rfl (hno _ (List.mem_of_getElem? hr'))
 subst hb0
 have hB1 : Below (w.heap.size + 1) (w.alloc (.cells #[.slice r.a r.l r.c, .int .i64 r.f] 217)) w1 := by simpa using hB
 have hfull : Below w.heap.size w w1 := (hal _).trans (hB1.mono (by omega))
 have q0 : w1.cell? ⟨hb, ho, none⟩ = some v := (hfull.cell (p := ⟨hb, ho, none⟩) hblt).trans hc
 have z : ∀ j, w1.cell? ⟨w.heap.size, j, none⟩ = (#[.slice r.a r.l r.c, .int .i64 r.f] : Array Value)[j]? := fun j => (hB1.cell (p := ⟨w.heap.size, j, none⟩) (by simp)).trans (World.cell?_alloc_at _ _ _ _ rfl)
 have z0 : w1.cell? ⟨w.heap.size, 0, none⟩ = some (.slice r.a r.l r.c) := z 0
 have z1 : w1.cell? ⟨w.heap.size, 1, none⟩ = some (.int .i64 r.f) := z 1
 have hsz : w.heap.size < w1.heap.size := by have := hB1.size; simp at this; omega
 have hS1 : Sl w1 293 3 v es.length (cellsI es) := hS.kept (fun k hk _ => hfull.block k hk)
 have hins : ∀ W : World, W.heap = (w1.alloc (.cells #[.int .i64 key, .slice r.a r.l r.c, .int .i64 r.f] 293)).heap → W.os = w1.os → W.tape = w1.tape → W.output = w1.output → Calls Tryz.prog 267 #[v, .int .i64 i, .slice (some ⟨w1.heap.size, 0, none⟩) 1 1] W fun e w' => ∃ a' m' c' v', e = .returned (.slice a' m' c') ∧ v' = .slice a' m' c' ∧
   (w'.cell? ⟨hb, ho, none⟩ = some v ∧ w'.frozen? ⟨hb, ho, none⟩ = false) ∧ Hid ((w'.setCell ⟨hb, ho, none⟩ v').cell? ⟨hb, ho, none⟩ = some v' ∧ Sl (w'.setCell ⟨hb, ho, none⟩ v') 293 3 v' (es.length + 1) (cellsI (es.take i ++ (key, r) :: es.drop i)) ∧ MapFr w (w'.setCell ⟨hb, ho, none⟩ v') hb ho v v' ∧ NewOr w v v') := fun W hW h1 h2 h3 => by
  have hSW : Sl W 293 3 v es.length (cellsI es) := (Sl.of_owns (hS1.owns.alloc _)).heap hW
  have hR : RowIs W w1.heap.size 293 (clI (key, r)) := by unfold RowIs; rw [hW]; exact heap_alloc_new w1 _
  refine (insEI W v es i (key, r) w1.heap.size hSW hA.1 hn hR (fun e => by have := hS1.lt e; omega)).mono ?_
  rintro e w' ⟨v', rfl, hS', hg, hnew⟩
  have hWs : w.heap.size ≤ W.heap.size := by rw [hW]; simp; omega
  have hbl : ∀ k, k < w.heap.size → v.ownBlock ≠ some k → w'.heap[k]? = w.heap[k]? := fun k hk hne' => by
   rw [hg.block k (by omega) (fun e => hne' e.symm), hW, Below.heap_alloc _ _ _ (by omega), hfull.block k hk]
  have hnew' : NewOr w v v' := fun g hg' => (hnew g hg').imp id (fun h => by omega)
  obtain ⟨m1, m2, m3⟩ := mapFin (ho := ho) hc hne hS' hnew' (hg.os.trans (h1.trans hfull.os)) (hg.tape.trans (h2.trans hfull.tape)) (hg.output.trans (h3.trans hfull.output)) (Nat.le_trans hWs hg.size) hbl
  obtain ⟨a', m', c', e'⟩ := hS'.shape
  exact ⟨a', m', c', v', by rw [e'], e', ⟨(World.cell?_of_block (w := w) (a := ⟨hb, ho, none⟩) (hbl hb hblt hne)).trans hc, (World.frozen?_of_block (w := w) (a := ⟨hb, ho, none⟩) (hbl hb hblt hne)).trans hf⟩, m1, m2, m3, hnew'⟩
 have hsp := hide (insI_spec r hs hA)
 have hlen : (es.take i ++ (key, r) :: es.drop i).length = es.length + 1 := (unhide hsp).2.1
 have HL := hide hlen
 have hb1 : hb < w1.heap.size := by omega
 have HINS := hide hins
 clear hlen z hB hA hS hS1 hs hno hfi hal hB1 hfull hins
 go_wp2
 go_region_with (go_at_call 267; refine (unhide HINS _ (by exact rfl) (by exact rfl) (by exact rfl) (by exact rfl)).mono ?_; rintro e w2 ⟨a', m', c', v', rfl, rfl, ⟨hc2, hf2⟩, HF⟩)
 all_goals (
  go_end0
  obtain ⟨m1, m2, m3, m4⟩ := unhide HF
  exact ⟨rfl, _, _, m1, by rw [unhide HL]; exact m2, (unhide hsp).1, unhide HL, (unhide hsp).2.2, m4, m3⟩)
end Go.Proofs.YtaieidcohdhgpaaGreatDoor
