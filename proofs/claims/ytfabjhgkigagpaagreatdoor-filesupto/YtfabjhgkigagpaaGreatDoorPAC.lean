/- Files: an ordered Map in memory: the search, find, Len, Get, at both kinds of Map. -/
import Derived.Test.YtfabjhgkigagpaaGreatDoorPAB
import Derived.WideShapes
namespace Go.Proofs.YtfabjhgkigagpaaGreatDoor
open Go.RowKit

set_option maxHeartbeats 1000000
set_option maxRecDepth 100000
theorem bl_irrefl : ∀ l : List UInt8, Op.bytesLess l l = false
  | [] => rfl
  | a :: l => by simp [Op.bytesLess, bl_irrefl l]
theorem bl_trans : ∀ a b c : List UInt8, Op.bytesLess a b = true → Op.bytesLess b c = true → Op.bytesLess a c = true
  | [], [], _, h, _ => by simp [Op.bytesLess] at h
  | [], _ :: _, [], _, h => by simp [Op.bytesLess] at h
  | [], _ :: _, _ :: _, _, _ => by simp [Op.bytesLess]
  | _ :: _, [], _, h, _ => by simp [Op.bytesLess] at h
  | _ :: _, _ :: _, [], _, h => by simp [Op.bytesLess] at h
  | a :: x, b :: y, c :: z, h1, h2 => by
    simp only [Op.bytesLess, Bool.or_eq_true, Bool.and_eq_true, decide_eq_true_eq, beq_iff_eq] at h1 h2 ⊢
    rcases h1 with h1 | ⟨rfl, h1⟩
    · rcases h2 with h2 | ⟨rfl, h2⟩
      · exact .inl (UInt8.lt_trans h1 h2)
      · exact .inl h1
    · rcases h2 with h2 | ⟨rfl, h2⟩
      · exact .inl h2
      · exact .inr ⟨rfl, bl_trans x y z h1 h2⟩
theorem bl_total : ∀ a b : List UInt8, Op.bytesLess a b = false → a ≠ b → Op.bytesLess b a = true
  | [], [], _, h => absurd rfl h
  | [], _ :: _, h, _ => by simp [Op.bytesLess] at h
  | _ :: _, [], _, _ => by simp [Op.bytesLess]
  | a :: x, b :: y, h, hne => by
    simp only [Op.bytesLess, Bool.or_eq_false_iff, decide_eq_false_iff_not, Bool.and_eq_false_iff, beq_eq_false_iff_ne] at h
    simp only [Op.bytesLess, Bool.or_eq_true, Bool.and_eq_true, decide_eq_true_eq, beq_iff_eq]
    by_cases e : a = b
    · subst e
      refine .inr ⟨rfl, bl_total x y (h.2.resolve_left (fun k => k rfl)) (fun k => hne (by rw [k]))⟩
    · refine .inl ?_
      have h1 := h.1
      rw [UInt8.lt_iff_toNat_lt] at h1 ⊢
      have h2 : a.toNat ≠ b.toNat := fun k => e (UInt8.toNat_inj.1 k)
      omega
theorem ltS_irrefl (a : ByteArray) : ltS a a = false := bl_irrefl _
theorem ltS_trans {a b c : ByteArray} (h : ltS a b = true) (k : ltS b c = true) : ltS a c = true := bl_trans _ _ _ h k
theorem toList_inj {a b : ByteArray} (h : a.toList = b.toList) : a = b := by
  rw [ByteArray.toList_eq, ByteArray.toList_eq] at h
  exact WideShapes.bytes_inj h
theorem ltS_total {a b : ByteArray} (h : ltS a b = false) (hne : a ≠ b) : ltS b a = true := bl_total _ _ h (fun e => hne (toList_inj e))
theorem cmpS_lt (a b : ByteArray) : cmpS a b < 0 ↔ ltS a b = true := by
  unfold cmpS; split
  · simp [*]
  · split <;> simp [*]
theorem cmpS_zero (a b : ByteArray) : cmpS a b = 0 ↔ a = b := by
  unfold cmpS; split
  · rename_i h
    simp only [show ((-1 : Int) = 0) = False by simp, false_iff]
    rintro rfl; rw [ltS_irrefl] at h; cases h
  · split
    · rename_i h; simp [toList_inj h]
    · rename_i h; simp only [show ((1 : Int) = 0) = False by simp, false_iff]; rintro rfl; exact h rfl
def ltI (a b : Int) : Bool := decide (a < b)
theorem ltI_irrefl (a : Int) : ltI a a = false := by simp [ltI]
theorem ltI_trans {a b c : Int} (h : ltI a b = true) (k : ltI b c = true) : ltI a c = true := by simp [ltI] at *; omega
theorem ltI_total {a b : Int} (h : ltI a b = false) (hne : a ≠ b) : ltI b a = true := by simp [ltI] at *; omega
theorem cmpI_lt (a b : Int) : cmpI a b < 0 ↔ ltI a b = true := by
  unfold cmpI ltI; split
  · simp [*]
  · split <;> simp [*]
theorem cmpI_zero (a b : Int) : cmpI a b = 0 ↔ a = b := by
  unfold cmpI; split
  · simp; omega
  · split <;> simp [*]

/-- What a name stands for, as it lies in memory. -/
structure VS where
  p : Option Addr
  f : Int
/-- What a number stands for, as it lies in memory. -/
structure VF where
  a : Option Addr
  l : Nat
  c : Nat
  f : Int

def clS (x : ByteArray × VS) : List Value := [.string x.1, .pointer x.2.p, .int .i64 x.2.f]
def cellsS (es : List (ByteArray × VS)) : List Value := es.flatMap clS
theorem cellsS_length (es : List (ByteArray × VS)) : (cellsS es).length = es.length * 3 := by
  induction es with
  | nil => rfl
  | cons a l ih => simp [cellsS, clS] at ih ⊢; omega
theorem cellsS_append (a b : List (ByteArray × VS)) : cellsS (a ++ b) = cellsS a ++ cellsS b := by simp [cellsS]
theorem cellsS_take (es : List (ByteArray × VS)) (i : Nat) : (cellsS es).take (i * 3) = cellsS (es.take i) := by
  induction es generalizing i with
  | nil => simp [cellsS]
  | cons a l ih =>
    cases i with
    | zero => simp [cellsS]
    | succ i =>
      have := ih i
      simp only [cellsS, List.flatMap_cons, List.take_succ_cons] at this ⊢
      rw [← this, show (i + 1) * 3 = (clS a).length + i * 3 by simp [clS]; omega, List.take_length_add_append]
theorem cellsS_drop (es : List (ByteArray × VS)) (i : Nat) : (cellsS es).drop (i * 3) = cellsS (es.drop i) := by
  induction es generalizing i with
  | nil => simp [cellsS]
  | cons a l ih =>
    cases i with
    | zero => simp [cellsS]
    | succ i =>
      have := ih i
      simp only [cellsS, List.flatMap_cons, List.drop_succ_cons] at this ⊢
      rw [← this, show (i + 1) * 3 = (clS a).length + i * 3 by simp [clS]; omega, List.drop_length_add_append]
theorem cellsS_one (es : List (ByteArray × VS)) : ∀ u ∈ cellsS es, u.oneCell' = true := by
  intro u hu
  simp only [cellsS, List.mem_flatMap, clS, List.mem_cons, List.mem_nil_iff, or_false] at hu
  obtain ⟨x, _, rfl | rfl | rfl⟩ := hu <;> simp [Value.oneCell']
theorem cellsS_at (es : List (ByteArray × VS)) (k : Nat) (x : ByteArray × VS) (h : es[k]? = some x) : (cellsS es)[k * 3]? = some (.string x.1) ∧ (cellsS es)[k * 3 + 1]? = some (.pointer x.2.p) ∧ (cellsS es)[k * 3 + 2]? = some (.int .i64 x.2.f) := by
  induction es generalizing k with
  | nil => simp at h
  | cons a l ih =>
    cases k with
    | zero => simp at h; subst h; simp [cellsS, clS]
    | succ k =>
      simp at h
      have := ih k h
      simp only [cellsS, List.flatMap_cons] at this ⊢
      have e : ∀ r, (clS a ++ List.flatMap clS l)[(k + 1) * 3 + r]? = (List.flatMap clS l)[k * 3 + r]? := fun r => by
        rw [List.getElem?_append_right (by simp [clS]; omega)]; congr 1; simp [clS]; omega
      have e0 := e 0
      simp only [Nat.add_zero] at e0
      rw [e0, e 1, e 2]; exact this

/-- The keys stand in their order. -/
def SrtS (es : List (ByteArray × VS)) : Prop := ∀ (j k : Nat) (x y : ByteArray × VS), j < k → es[j]? = some x → es[k]? = some y → ltS x.1 y.1 = true
/-- Where a key stands, or would stand; whether it is there. -/
def AtS (es : List (ByteArray × VS)) (t : ByteArray) (i : Nat) (b : Bool) : Prop :=
  i ≤ es.length ∧ (∀ k x, k < i → es[k]? = some x → ltS x.1 t = true) ∧ (∀ k x, i ≤ k → es[k]? = some x → ltS x.1 t = false) ∧ (b = true ↔ ∃ x, es[i]? = some x ∧ x.1 = t)

theorem find1S (x : ByteArray × VS) (key : ByteArray) (w : World) : Calls Tryz.prog 152 #[.agg #[.string x.1, .pointer x.2.p, .int .i64 x.2.f], .string key] w fun e w' => e = .returned (.int .i64 (cmpS x.1 key)) ∧ Below w.heap.size w w' := by
  go_enter Tryz.func152, Tryz.ntmps152
  go_wp2_with (go_at_call 153; refine (compareS _ _ _).mono ?_; rintro e w' ⟨rfl, rfl⟩)
  go_ret
  exact ⟨rfl, (Below.refl _ _).alloc (Nat.le_refl _) _⟩
theorem bsrS (g n cap : Nat) (en : Nat → ByteArray × VS) (tgt : ByteArray) (w : World) (hn : n ≤ 10000)
  (hc0 : ∀ k, k < n → w.cell? ⟨g, k * 3, none⟩ = some (.string (en k).1))
  (hc1 : ∀ k, k < n → w.cell? ⟨g, k * 3 + 1, none⟩ = some (.pointer (en k).2.p))
  (hc2 : ∀ k, k < n → w.cell? ⟨g, k * 3 + 2, none⟩ = some (.int .i64 (en k).2.f))
  (hs : ∀ j k, j < k → k < n → ltS (en j).1 (en k).1 = true) :
   Calls Tryz.prog 151 #[.slice (some ⟨g, 0, none⟩) n cap, .string tgt, .func (.func 152) #[] #[]] w fun e w' => ∃ (i : Nat) (b : Bool), e = .returned (.tuple #[.int .i64 i, .bool b]) ∧
     (i ≤ n ∧ (∀ k, k < i → ltS (en k).1 tgt = true) ∧ (∀ k, i ≤ k → k < n → ltS (en k).1 tgt = false) ∧ (b = true ↔ i < n ∧ (en i).1 = tgt)) ∧ Below w.heap.size w w' := by
  have HS := hide hs; clear hs
  go_enter Tryz.func151, Tryz.ntmps151
  go_wp2_with fail
  go_loopw [9, 10] (fun i j wr => ∃ a b : Nat, i = .int .i64 a ∧ j = .int .i64 b ∧ a ≤ b ∧ b ≤ n ∧ Hid (∀ k, k < a → ltS (en k).1 tgt = true) ∧ Hid (∀ k, b ≤ k → k < n → ltS (en k).1 tgt = false) ∧ Below w.heap.size w wr) (fun i j _ => (intOf j - intOf i).toNat)
  case atStart => exact ⟨0, n, rfl, rfl, Nat.zero_le _, Nat.le_refl _, fun _ h => absurd h (Nat.not_lt_zero _), fun k h1 h2 => absurd h2 (by omega), Below.refl _ _⟩
  case round =>
    obtain ⟨a, b, rfl, rfl, hab, hbn, hlo, hhi, hB⟩ := hrel
    by_cases hlt : a < b
    · have hm : (a + b) / 2 < n := by omega
      have hg : g < w.heap.size := World.block_lt_of_cell? _ _ (hc0 _ hm)
      have q0 := (hB.cell (p := ⟨g, (a + b) / 2 * 3, none⟩) hg).trans (hc0 _ hm)
      have q1 := (hB.cell (p := ⟨g, (a + b) / 2 * 3 + 1, none⟩) hg).trans (hc1 _ hm)
      have q2 := (hB.cell (p := ⟨g, (a + b) / 2 * 3 + 2, none⟩) hg).trans (hc2 _ hm)
      have hc0' := hide hc0; have hc1' := hide hc1; have hc2' := hide hc2; clear hc0 hc1 hc2
      go_wp2_with fail
      refine (find1S (en ((a + b) / 2)) _ _).mono ?_
      rintro e w' ⟨rfl, hb⟩
      by_cases hcm : cmpS (en ((a + b) / 2)).1 tgt < 0
      · have hl := (cmpS_lt _ _).1 hcm
        have HL := hide hl; clear hl
        go_wp2
        go_roundw
        case rel =>
          refine ⟨(a + b) / 2 + 1, b, by go_num, rfl, by omega, hbn, fun k hk => ?_, hhi, hB.trans (hb.mono hB.size)⟩
          rcases Nat.lt_or_ge k ((a + b) / 2) with h | h
          · exact ltS_trans (unhide HS _ _ h hm) (unhide HL)
          · obtain rfl : k = (a + b) / 2 := by omega
            exact unhide HL
        case measure => simp [intOf]; omega
      · have hl : ltS (en ((a + b) / 2)).1 tgt = false := by
          cases h : ltS (en ((a + b) / 2)).1 tgt with
          | false => rfl
          | true => exact absurd ((cmpS_lt _ _).2 h) hcm
        have HL := hide hl; clear hl
        go_wp2
        go_roundw
        case rel =>
          refine ⟨a, (a + b) / 2, rfl, by go_num, by omega, by omega, hlo, fun k h1 h2 => ?_, hB.trans (hb.mono hB.size)⟩
          rcases Nat.lt_or_ge ((a + b) / 2) k with h | h
          · cases hq : ltS (en k).1 tgt with
            | false => rfl
            | true => exact absurd (ltS_trans (unhide HS _ _ h h2) hq) (by rw [unhide HL]; simp)
          · obtain rfl : k = (a + b) / 2 := by omega
            exact unhide HL
        case measure => simp [intOf]; omega
    · obtain rfl : a = b := by omega
      by_cases han : a < n
      · have hg : g < w.heap.size := World.block_lt_of_cell? _ _ (hc0 _ han)
        have q0 := (hB.cell (p := ⟨g, a * 3, none⟩) hg).trans (hc0 _ han)
        have q1 := (hB.cell (p := ⟨g, a * 3 + 1, none⟩) hg).trans (hc1 _ han)
        have q2 := (hB.cell (p := ⟨g, a * 3 + 2, none⟩) hg).trans (hc2 _ han)
        have hc0' := hide hc0; have hc1' := hide hc1; have hc2' := hide hc2; clear hc0 hc1 hc2
        go_wp2_with fail
        refine (find1S (en a) _ _).mono ?_
        rintro e w' ⟨rfl, hb⟩
        have hz := cmpS_zero (en a).1 tgt
        have HZ := hide hz; clear hz
        go_wp2
        go_ret2
        refine ⟨a, _, rfl, ⟨hbn, hlo, hhi, ?_⟩, hB.trans (hb.mono hB.size)⟩
        simp [unhide HZ, han]
      · have hq : decide (((a : Nat) : Int) < (n : Int)) = false := by simp; omega
        have hc0' := hide hc0; have hc1' := hide hc1; have hc2' := hide hc2; clear hc0 hc1 hc2
        go_wp2
        go_ret2
        exact ⟨a, _, rfl, ⟨hbn, hlo, hhi, by simp [han]⟩, hB⟩
/-- The search in a slice that holds the entries. -/
theorem srchS (v : Value) (es : List (ByteArray × VS)) (tgt : ByteArray) (w : World) (hS : Sl w 164 3 v es.length (cellsS es)) (hn : es.length ≤ 10000) (hs : SrtS es) :
    Calls Tryz.prog 151 #[v, .string tgt, .func (.func 152) #[] #[]] w fun e w' => ∃ (i : Nat) (b : Bool), e = .returned (.tuple #[.int .i64 i, .bool b]) ∧ AtS es tgt i b ∧ Below w.heap.size w w' := by
  rcases hS.2 with ⟨rfl, h0⟩ | ⟨g, cap, L, rfl, hR, hc, hcm, hL, hT⟩
  · have : es = [] := List.eq_nil_of_length_eq_zero h0
    subst this
    go_enter Tryz.func151, Tryz.ntmps151
    go_wp2_with fail
    go_loopw [9, 10] (fun i j wr => i = .int .i64 0 ∧ j = .int .i64 0 ∧ wr = w) (fun _ _ _ => 0)
    case atStart => exact ⟨rfl, rfl, rfl⟩
    case round =>
      obtain ⟨rfl, rfl, rfl⟩ := hrel
      go_wp2
      go_ret2
      exact ⟨0, false, rfl, ⟨Nat.zero_le _, fun k x h _ => absurd h (Nat.not_lt_zero _), fun k x _ h => by simp at h, by simp⟩, Below.refl _ _⟩
  · have hcell : ∀ j u, (cellsS es)[j]? = some u → w.cell? ⟨g, j, none⟩ = some u := fun j u hu => by
      rw [hR.cell]
      rw [← hT, List.getElem?_take] at hu
      split at hu
      · exact hu
      · cases hu
    cases hes : es with
    | nil => 
      subst hes
      refine (bsrS g 0 cap (fun _ => (⟨#[]⟩, ⟨none, 0⟩)) tgt w (by omega) (fun k h => absurd h (by omega)) (fun k h => absurd h (by omega)) (fun k h => absurd h (by omega)) (fun j k _ h => absurd h (by omega))).mono ?_
      rintro e w' ⟨i, b, rfl, ⟨h1, h2, h3, h4⟩, hb⟩
      obtain rfl : i = 0 := by omega
      exact ⟨0, b, rfl, ⟨Nat.le_refl _, fun k x h _ => absurd h (by omega), fun k x _ h => by simp at h, by rw [h4]; simp⟩, hb⟩
    | cons x0 l0 =>
      rw [← hes]
      have hget : ∀ k, k < es.length → es[k]? = some (es.getD k x0) := fun k hk => by simp [List.getD, List.getElem?_eq_getElem hk]
      refine (bsrS g es.length cap (fun k => es.getD k x0) tgt w hn (fun k hk => hcell _ _ (cellsS_at es k _ (hget k hk)).1) (fun k hk => hcell _ _ (cellsS_at es k _ (hget k hk)).2.1) (fun k hk => hcell _ _ (cellsS_at es k _ (hget k hk)).2.2)
        (fun j k hjk hk => hs j k _ _ hjk (hget j (by omega)) (hget k hk))).mono ?_
      rintro e w' ⟨i, b, rfl, ⟨h1, h2, h3, h4⟩, hb⟩
      have hlt : ∀ k x, es[k]? = some x → k < es.length := fun k x h => (List.getElem?_eq_some_iff.1 h).1
      have hx : ∀ k x, es[k]? = some x → x = es.getD k x0 := fun k x h => by have := hget k (hlt k x h); rw [h] at this; exact Option.some.inj this
      refine ⟨i, b, rfl, ⟨h1, fun k x hk he => ?_, fun k x hk he => ?_, ?_⟩, hb⟩
      · rw [hx k x he]; exact h2 k hk
      · rw [hx k x he]; exact h3 k hk (hlt k x he)
      · rw [h4]
        constructor
        · rintro ⟨hi, e⟩; exact ⟨_, hget i hi, e⟩
        · rintro ⟨x, he, e⟩; exact ⟨hlt i x he, by rw [← e, hx i x he]⟩

def clI (x : Int × VF) : List Value := [.int .i64 x.1, .slice x.2.a x.2.l x.2.c, .int .i64 x.2.f]
def cellsI (es : List (Int × VF)) : List Value := es.flatMap clI
theorem cellsI_length (es : List (Int × VF)) : (cellsI es).length = es.length * 3 := by
  induction es with
  | nil => rfl
  | cons a l ih => simp [cellsI, clI] at ih ⊢; omega
theorem cellsI_append (a b : List (Int × VF)) : cellsI (a ++ b) = cellsI a ++ cellsI b := by simp [cellsI]
theorem cellsI_take (es : List (Int × VF)) (i : Nat) : (cellsI es).take (i * 3) = cellsI (es.take i) := by
  induction es generalizing i with
  | nil => simp [cellsI]
  | cons a l ih =>
    cases i with
    | zero => simp [cellsI]
    | succ i =>
      have := ih i
      simp only [cellsI, List.flatMap_cons, List.take_succ_cons] at this ⊢
      rw [← this, show (i + 1) * 3 = (clI a).length + i * 3 by simp [clI]; omega, List.take_length_add_append]
theorem cellsI_drop (es : List (Int × VF)) (i : Nat) : (cellsI es).drop (i * 3) = cellsI (es.drop i) := by
  induction es generalizing i with
  | nil => simp [cellsI]
  | cons a l ih =>
    cases i with
    | zero => simp [cellsI]
    | succ i =>
      have := ih i
      simp only [cellsI, List.flatMap_cons, List.drop_succ_cons] at this ⊢
      rw [← this, show (i + 1) * 3 = (clI a).length + i * 3 by simp [clI]; omega, List.drop_length_add_append]
theorem cellsI_one (es : List (Int × VF)) : ∀ u ∈ cellsI es, u.oneCell' = true := by
  intro u hu
  simp only [cellsI, List.mem_flatMap, clI, List.mem_cons, List.mem_nil_iff, or_false] at hu
  obtain ⟨x, _, rfl | rfl | rfl⟩ := hu <;> simp [Value.oneCell']
theorem cellsI_at (es : List (Int × VF)) (k : Nat) (x : Int × VF) (h : es[k]? = some x) : (cellsI es)[k * 3]? = some (.int .i64 x.1) ∧ (cellsI es)[k * 3 + 1]? = some (.slice x.2.a x.2.l x.2.c) ∧ (cellsI es)[k * 3 + 2]? = some (.int .i64 x.2.f) := by
  induction es generalizing k with
  | nil => simp at h
  | cons a l ih =>
    cases k with
    | zero => simp at h; subst h; simp [cellsI, clI]
    | succ k =>
      simp at h
      have := ih k h
      simp only [cellsI, List.flatMap_cons] at this ⊢
      have e : ∀ r, (clI a ++ List.flatMap clI l)[(k + 1) * 3 + r]? = (List.flatMap clI l)[k * 3 + r]? := fun r => by
        rw [List.getElem?_append_right (by simp [clI]; omega)]; congr 1; simp [clI]; omega
      have e0 := e 0
      simp only [Nat.add_zero] at e0
      rw [e0, e 1, e 2]; exact this

/-- The keys stand in their order. -/
def SrtI (es : List (Int × VF)) : Prop := ∀ (j k : Nat) (x y : Int × VF), j < k → es[j]? = some x → es[k]? = some y → ltI x.1 y.1 = true
/-- Where a key stands, or would stand; whether it is there. -/
def AtI (es : List (Int × VF)) (t : Int) (i : Nat) (b : Bool) : Prop :=
  i ≤ es.length ∧ (∀ k x, k < i → es[k]? = some x → ltI x.1 t = true) ∧ (∀ k x, i ≤ k → es[k]? = some x → ltI x.1 t = false) ∧ (b = true ↔ ∃ x, es[i]? = some x ∧ x.1 = t)

theorem find1I (x : Int × VF) (key : Int) (w : World) : Calls Tryz.prog 136 #[.agg #[.int .i64 x.1, .slice x.2.a x.2.l x.2.c, .int .i64 x.2.f], .int .i64 key] w fun e w' => e = .returned (.int .i64 (cmpI x.1 key)) ∧ Below w.heap.size w w' := by
  go_enter Tryz.func136, Tryz.ntmps136
  go_wp2_with (go_at_call 137; refine (compareI _ _ _).mono ?_; rintro e w' ⟨rfl, rfl⟩)
  go_ret
  exact ⟨rfl, (Below.refl _ _).alloc (Nat.le_refl _) _⟩
theorem bsrI (g n cap : Nat) (en : Nat → Int × VF) (tgt : Int) (w : World) (hn : n ≤ 10000)
  (hc0 : ∀ k, k < n → w.cell? ⟨g, k * 3, none⟩ = some (.int .i64 (en k).1))
  (hc1 : ∀ k, k < n → w.cell? ⟨g, k * 3 + 1, none⟩ = some (.slice (en k).2.a (en k).2.l (en k).2.c))
  (hc2 : ∀ k, k < n → w.cell? ⟨g, k * 3 + 2, none⟩ = some (.int .i64 (en k).2.f))
  (hs : ∀ j k, j < k → k < n → ltI (en j).1 (en k).1 = true) :
   Calls Tryz.prog 135 #[.slice (some ⟨g, 0, none⟩) n cap, .int .i64 tgt, .func (.func 136) #[] #[]] w fun e w' => ∃ (i : Nat) (b : Bool), e = .returned (.tuple #[.int .i64 i, .bool b]) ∧
     (i ≤ n ∧ (∀ k, k < i → ltI (en k).1 tgt = true) ∧ (∀ k, i ≤ k → k < n → ltI (en k).1 tgt = false) ∧ (b = true ↔ i < n ∧ (en i).1 = tgt)) ∧ Below w.heap.size w w' := by
  have HS := hide hs; clear hs
  go_enter Tryz.func135, Tryz.ntmps135
  go_wp2_with fail
  go_loopw [9, 10] (fun i j wr => ∃ a b : Nat, i = .int .i64 a ∧ j = .int .i64 b ∧ a ≤ b ∧ b ≤ n ∧ Hid (∀ k, k < a → ltI (en k).1 tgt = true) ∧ Hid (∀ k, b ≤ k → k < n → ltI (en k).1 tgt = false) ∧ Below w.heap.size w wr) (fun i j _ => (intOf j - intOf i).toNat)
  case atStart => exact ⟨0, n, rfl, rfl, Nat.zero_le _, Nat.le_refl _, fun _ h => absurd h (Nat.not_lt_zero _), fun k h1 h2 => absurd h2 (by omega), Below.refl _ _⟩
  case round =>
    obtain ⟨a, b, rfl, rfl, hab, hbn, hlo, hhi, hB⟩ := hrel
    by_cases hlt : a < b
    · have hm : (a + b) / 2 < n := by omega
      have hg : g < w.heap.size := World.block_lt_of_cell? _ _ (hc0 _ hm)
      have q0 := (hB.cell (p := ⟨g, (a + b) / 2 * 3, none⟩) hg).trans (hc0 _ hm)
      have q1 := (hB.cell (p := ⟨g, (a + b) / 2 * 3 + 1, none⟩) hg).trans (hc1 _ hm)
      have q2 := (hB.cell (p := ⟨g, (a + b) / 2 * 3 + 2, none⟩) hg).trans (hc2 _ hm)
      have hc0' := hide hc0; have hc1' := hide hc1; have hc2' := hide hc2; clear hc0 hc1 hc2
      go_wp2_with fail
      refine (find1I (en ((a + b) / 2)) _ _).mono ?_
      rintro e w' ⟨rfl, hb⟩
      by_cases hcm : cmpI (en ((a + b) / 2)).1 tgt < 0
      · have hl := (cmpI_lt _ _).1 hcm
        have HL := hide hl; clear hl
        go_wp2
        go_roundw
        case rel =>
          refine ⟨(a + b) / 2 + 1, b, by go_num, rfl, by omega, hbn, fun k hk => ?_, hhi, hB.trans (hb.mono hB.size)⟩
          rcases Nat.lt_or_ge k ((a + b) / 2) with h | h
          · exact ltI_trans (unhide HS _ _ h hm) (unhide HL)
          · obtain rfl : k = (a + b) / 2 := by omega
            exact unhide HL
        case measure => simp [intOf]; omega
      · have hl : ltI (en ((a + b) / 2)).1 tgt = false := by
          cases h : ltI (en ((a + b) / 2)).1 tgt with
          | false => rfl
          | true => exact absurd ((cmpI_lt _ _).2 h) hcm
        have HL := hide hl; clear hl
        go_wp2
        go_roundw
        case rel =>
          refine ⟨a, (a + b) / 2, rfl, by go_num, by omega, by omega, hlo, fun k h1 h2 => ?_, hB.trans (hb.mono hB.size)⟩
          rcases Nat.lt_or_ge ((a + b) / 2) k with h | h
          · cases hq : ltI (en k).1 tgt with
            | false => rfl
            | true => exact absurd (ltI_trans (unhide HS _ _ h h2) hq) (by rw [unhide HL]; simp)
          · obtain rfl : k = (a + b) / 2 := by omega
            exact unhide HL
        case measure => simp [intOf]; omega
    · obtain rfl : a = b := by omega
      by_cases han : a < n
      · have hg : g < w.heap.size := World.block_lt_of_cell? _ _ (hc0 _ han)
        have q0 := (hB.cell (p := ⟨g, a * 3, none⟩) hg).trans (hc0 _ han)
        have q1 := (hB.cell (p := ⟨g, a * 3 + 1, none⟩) hg).trans (hc1 _ han)
        have q2 := (hB.cell (p := ⟨g, a * 3 + 2, none⟩) hg).trans (hc2 _ han)
        have hc0' := hide hc0; have hc1' := hide hc1; have hc2' := hide hc2; clear hc0 hc1 hc2
        go_wp2_with fail
        refine (find1I (en a) _ _).mono ?_
        rintro e w' ⟨rfl, hb⟩
        have hz := cmpI_zero (en a).1 tgt
        have HZ := hide hz; clear hz
        go_wp2
        go_ret2
        refine ⟨a, _, rfl, ⟨hbn, hlo, hhi, ?_⟩, hB.trans (hb.mono hB.size)⟩
        simp [unhide HZ, han]
      · have hq : decide (((a : Nat) : Int) < (n : Int)) = false := by simp; omega
        have hc0' := hide hc0; have hc1' := hide hc1; have hc2' := hide hc2; clear hc0 hc1 hc2
        go_wp2
        go_ret2
        exact ⟨a, _, rfl, ⟨hbn, hlo, hhi, by simp [han]⟩, hB⟩
/-- The search in a slice that holds the entries. -/
theorem srchI (v : Value) (es : List (Int × VF)) (tgt : Int) (w : World) (hS : Sl w 160 3 v es.length (cellsI es)) (hn : es.length ≤ 10000) (hs : SrtI es) :
    Calls Tryz.prog 135 #[v, .int .i64 tgt, .func (.func 136) #[] #[]] w fun e w' => ∃ (i : Nat) (b : Bool), e = .returned (.tuple #[.int .i64 i, .bool b]) ∧ AtI es tgt i b ∧ Below w.heap.size w w' := by
  rcases hS.2 with ⟨rfl, h0⟩ | ⟨g, cap, L, rfl, hR, hc, hcm, hL, hT⟩
  · have : es = [] := List.eq_nil_of_length_eq_zero h0
    subst this
    go_enter Tryz.func135, Tryz.ntmps135
    go_wp2_with fail
    go_loopw [9, 10] (fun i j wr => i = .int .i64 0 ∧ j = .int .i64 0 ∧ wr = w) (fun _ _ _ => 0)
    case atStart => exact ⟨rfl, rfl, rfl⟩
    case round =>
      obtain ⟨rfl, rfl, rfl⟩ := hrel
      go_wp2
      go_ret2
      exact ⟨0, false, rfl, ⟨Nat.zero_le _, fun k x h _ => absurd h (Nat.not_lt_zero _), fun k x _ h => by simp at h, by simp⟩, Below.refl _ _⟩
  · have hcell : ∀ j u, (cellsI es)[j]? = some u → w.cell? ⟨g, j, none⟩ = some u := fun j u hu => by
      rw [hR.cell]
      rw [← hT, List.getElem?_take] at hu
      split at hu
      · exact hu
      · cases hu
    cases hes : es with
    | nil => 
      subst hes
      refine (bsrI g 0 cap (fun _ => (0, ⟨none, 0, 0, 0⟩)) tgt w (by omega) (fun k h => absurd h (by omega)) (fun k h => absurd h (by omega)) (fun k h => absurd h (by omega)) (fun j k _ h => absurd h (by omega))).mono ?_
      rintro e w' ⟨i, b, rfl, ⟨h1, h2, h3, h4⟩, hb⟩
      obtain rfl : i = 0 := by omega
      exact ⟨0, b, rfl, ⟨Nat.le_refl _, fun k x h _ => absurd h (by omega), fun k x _ h => by simp at h, by rw [h4]; simp⟩, hb⟩
    | cons x0 l0 =>
      rw [← hes]
      have hget : ∀ k, k < es.length → es[k]? = some (es.getD k x0) := fun k hk => by simp [List.getD, List.getElem?_eq_getElem hk]
      refine (bsrI g es.length cap (fun k => es.getD k x0) tgt w hn (fun k hk => hcell _ _ (cellsI_at es k _ (hget k hk)).1) (fun k hk => hcell _ _ (cellsI_at es k _ (hget k hk)).2.1) (fun k hk => hcell _ _ (cellsI_at es k _ (hget k hk)).2.2)
        (fun j k hjk hk => hs j k _ _ hjk (hget j (by omega)) (hget k hk))).mono ?_
      rintro e w' ⟨i, b, rfl, ⟨h1, h2, h3, h4⟩, hb⟩
      have hlt : ∀ k x, es[k]? = some x → k < es.length := fun k x h => (List.getElem?_eq_some_iff.1 h).1
      have hx : ∀ k x, es[k]? = some x → x = es.getD k x0 := fun k x h => by have := hget k (hlt k x h); rw [h] at this; exact Option.some.inj this
      refine ⟨i, b, rfl, ⟨h1, fun k x hk he => ?_, fun k x hk he => ?_, ?_⟩, hb⟩
      · rw [hx k x he]; exact h2 k hk
      · rw [hx k x he]; exact h3 k hk (hlt k x he)
      · rw [h4]
        constructor
        · rintro ⟨hi, e⟩; exact ⟨_, hget i hi, e⟩
        · rintro ⟨x, he, e⟩; exact ⟨hlt i x he, by rw [← e, hx i x he]⟩
end Go.Proofs.YtfabjhgkigagpaaGreatDoor
