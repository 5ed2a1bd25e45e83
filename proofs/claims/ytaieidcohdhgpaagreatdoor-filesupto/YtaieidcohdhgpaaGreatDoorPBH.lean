/- Files. -/
import Derived.Test.YtaieidcohdhgpaaGreatDoorPBG
namespace Go.Proofs.YtaieidcohdhgpaaGreatDoor
open Go.RowKit Go.Shelf
attribute [local go_sem] Oper.semAt_some
set_option maxHeartbeats 8000000
set_option maxRecDepth 100000
def Calm (Q : Exit → Act → World → Prop) : Exit → Act → World → Prop
 | .normal, a, w => Q .normal a w
 | _, _, _ => False
theorem calm_le {Q : Exit → Act → World → Prop} : ∀ e a w, Calm Q e a w → Q e a w := fun e a w h => by cases e <;> first | exact h | exact h.elim
theorem calm_in {Q : Exit → Act → World → Prop} {a : Act} {w : World} (h : Q .normal a w) : Calm Q .normal a w := h
theorem PlanW.top {w : World} {pb db sb so : Nat} {nd : Nat → Int} {cl : Bool} {hd : Nat} {va : Value} {es : List (Int × Int)} {tp tx : Int} {vp : Value} {ps : List (Nat × ByteArray)} (h : PlanW w pb db sb so nd cl hd va es tp tx vp ps) (tp' tx' : Int) : PlanW ((w.setCell ⟨pb, 101, none⟩ (.int .i64 tp')).setCell ⟨pb, 102, none⟩ (.int .u64 tx')) pb db sb so nd cl hd va es tp' tx' vp ps := by
 refine ⟨?_, (h.sa.setCell ⟨pb, 101, none⟩ _ h.oa).setCell ⟨pb, 102, none⟩ _ h.oa, Sl.setCell (Sl.setCell h.sp ⟨pb, 101, none⟩ _ h.op) ⟨pb, 102, none⟩ _ h.op, h.oa, h.op, h.ap⟩
 have h1 := h.row.set 101 (.int .i64 tp')
 rw [planL_set (j := 3)] at h1
 have h2 := RowIs.set (show RowIs _ pb 184 (planL db sb so nd cl hd va tp' tx vp) from h1) 102 (.int .u64 tx')
 rw [planL_set (j := 4)] at h2
 exact h2
def refs0 (p : Nat) (pre : List Nat) : ByteArray := ⟨(pre.flatMap (fun x => (refB p (fnvN (blkK 3 nil0 63 x))).data.toList)).toArray⟩
theorem refs0_snoc (p : Nat) (pre : List Nat) (x : Nat) : refs0 p (pre ++ [x]) = refs0 p pre ++ refB p (fnvN (blkK 3 nil0 63 x)) := by apply WideShapes.bytes_inj; simp [refs0]
theorem refs0_size (p : Nat) : ∀ pre, (refs0 p pre).size = 10 * pre.length
 | [] => rfl
 | x :: pre => by
  have ih := refs0_size p pre
  have e : ∀ l, (refs0 p l).size = (l.flatMap (fun x => (refB p (fnvN (blkK 3 nil0 63 x))).data.toList)).length := fun l => by show (List.toArray _).size = _; simp
  rw [e] at ih ⊢
  rw [List.flatMap_cons, List.length_append, ih, Array.length_toList, show (refB p (fnvN (blkK 3 nil0 63 x))).data.size = 10 from refB_size _ _, List.length_cons]; omega
theorem refs0_one (p : Nat) : refs0 p (List.range 1) = refB p (fnvN tab0) := by apply WideShapes.bytes_inj; simp [refs0, tab0]
theorem rdP_ref (p x : Nat) (hp : p < 65536) : rdP (refB p x) = p := by
 have : (longR (refB p x) 2).data.toList = numL p 2 := by
  unfold longR
  rw [if_pos (by rw [refB_size]; omega), Lib.extract_data]
  simp only [refB]
  simp [numL_length]
 unfold rdP
 rw [this, rdNum_numL 2 p hp]
theorem rdX_ref (p x : Nat) (hx : x < 18446744073709551616) : rdX (refB p x) = x := by
 have : (longR ((refB p x).extract 2 (refB p x).size) 8).data.toList = numL x 8 := by
  unfold longR
  rw [if_pos (by rw [ByteArray.size_extract, refB_size]; omega), Lib.extract_data, Lib.extract_data, refB_size]
  simp only [refB]
  have e1 : (numL p 2 ++ numL x 8).drop 2 = numL x 8 := List.drop_left' (numL_length 2 p)
  simp [e1]
  rw [List.take_of_length_le (by rw [List.length_take, numL_length]; omega), List.take_of_length_le (by rw [numL_length]; omega)]
 unfold rdX
 rw [this, rdNum_numL 8 x (by exact hx)]
def Keep0Post (w : World) (pb db sb so : Nat) (nd : Nat → Int) (cl : Bool) (p : Nat) (e : Ending) (w' : World) : Prop :=
 e = .returned (.tuple #[]) ∧ ∃ va vp, PlanW w' pb db sb so nd cl (p + 1) va [(((roleN 3 0 0 : Nat) : Int), (p : Int))] (p : Nat) (fnvN tab0 : Nat) vp [(p, tab0)] ∧ Fr (fun k => k = pb) w w' ∧ (∀ g, Own va g → w.heap.size ≤ g) ∧ (∀ g, Own vp g → w.heap.size ≤ g)
theorem keep_empty (w : World) (pb db sb so tb rb : Nat) (nd : Nat → Int) (cl : Bool) (hd : Nat) (vi : Value) (h : PlanW w pb db sb so nd cl hd (.slice none 0 0) [] 0 0 (.slice none 0 0) []) (ht : RowIs w tb 214 [.pointer (some ⟨rb, 0, none⟩), vi]) (hr : RowIs w rb 229 [.slice none 0 0])
  (hcb : w.cell? ⟨sb, so, none⟩ = some (.slice none 0 0)) (hh : hd ≤ 1536) (hz : ∃ k, k < 96 ∧ nd ((hd / 16 + k) % 96) ≤ 0) (hne : sb ≠ pb) :
  Calls Tryz.prog 199 #[.pointer (some ⟨pb, 0, none⟩), .pointer (some ⟨tb, 0, none⟩)] w (Keep0Post w pb db sb so nd cl (skipP nd 96 hd % 1536)) := by
 have hpb := h.row.lt
 have hsb : sb < w.heap.size := World.block_lt_of_cell? _ _ hcb
 obtain ⟨p, hp⟩ : ∃ p, p = skipP nd 96 hd % 1536 := ⟨_, rfl⟩
 have hp15 : p < 1536 := by omega
 have L := putLaw1 w.heap.size pb db sb so nd cl hd nil0 hsb hne hh hz
 rw [← hp] at L ⊢
 obtain ⟨W1, e1, x1, k1, s1, b1⟩ := alloc_name w [.pointer (some ⟨pb, 0, none⟩)] 168
 obtain ⟨W2, e2, x2, k2, s2, b2⟩ := alloc_name W1 [.slice none 0 0] 59
 obtain ⟨W3, e3, x3, k3, s3, b3⟩ := alloc_name W2 [.string ⟨#[]⟩] 9
 obtain ⟨W4, e4, x4, k4, s4, b4⟩ := alloc_name W3 [.pointer (some ⟨tb, 0, none⟩)] 37
 have hb4 : Below w.heap.size w W4 := b1.trans ((b2.mono (by omega)).trans ((b3.mono (by omega)).trans (b4.mono (by omega))))
 have y1 := k4 _ _ _ (k3 _ _ _ (k2 _ _ _ x1))
 have y2 := k4 _ _ _ (k3 _ _ _ x2)
 have t2 : W2.heap.size = w.heap.size + 1 + 1 := by omega
 have t3 : W3.heap.size = w.heap.size + 1 + 1 + 1 := by omega
 have t4 : W4.heap.size = w.heap.size + 4 := by omega
 rw [s1] at y2; rw [t3] at x4
 have hcB : W4.cell? ⟨(w.heap.size + 1 + 1 + 1), 0, none⟩ = some (.pointer (some ⟨tb, 0, none⟩)) := (x4.cell 0).trans rfl
 have hst := allT_empty 2 (w.heap.size + 1 + 1 + 1) tb rb vi W4 (by omega) hcB ((hb4.block _ ht.lt).trans ht) ((hb4.block _ hr.lt).trans hr) (fun _ _ => True)
 -- behind the range: from whatever world X
 have HX : Hid (∀ X, Below W4.heap.size W4 X → ∃ Z g cg w5, X.drew.alloc (.cells #[.int .u8 0] 5) = Z ∧ (Builtin.append_ #[59, 59] 59 #[.slice none 0 0, .slice (some ⟨X.heap.size, 0, none⟩) 1 1]).run Tryz.prog Z = .ok (.slice (some ⟨g, 0, none⟩) 1 cg) w5 ∧ X.cell? ⟨w.heap.size, 0, none⟩ = some (.pointer (some ⟨pb, 0, none⟩)) ∧ Z.cell? ⟨w.heap.size, 0, none⟩ = some (.pointer (some ⟨pb, 0, none⟩)) ∧ w5.cell? ⟨w.heap.size, 0, none⟩ = some (.pointer (some ⟨pb, 0, none⟩)) ∧ X.cell? ⟨(w.heap.size + 1), 0, none⟩ = some (.slice none 0 0) ∧ Z.cell? ⟨(w.heap.size + 1), 0, none⟩ = some (.slice none 0 0) ∧
   Hid (Calls Tryz.prog 237 #[.pointer (some ⟨pb, 0, none⟩), .int .u8 3, .int .i64 0, .slice (some ⟨g, 0, none⟩) 1 cg] w5 fun e w6 => ∃ a' c', e = .returned (.slice a' 10 c') ∧ Boxed w6 w.heap.size 168 (.pointer (some ⟨pb, 0, none⟩)) ∧ Boxed w6 (w.heap.size + 1) 59 (.slice none 0 0) ∧
    Hid (∃ va vp, PlanW w6 pb db sb so nd cl (p + 1) va [(((roleN 3 0 0 : Nat) : Int), (p : Int))] 0 0 vp [(p, tab0)] ∧ SlB w.heap.size w6 (.slice a' 10 c') (refB p (fnvN tab0)) ∧ (∀ k, (k = pb ∨ Own va k ∨ Own vp k) → ¬ Own (.slice a' 10 c') k) ∧ Fr (fun k => k = pb) X w6 ∧ (∀ k, (Own va k ∨ Own vp k) → W4.heap.size ≤ k) ∧ (∀ k, Own (.slice a' 10 c') k → W4.heap.size ≤ k)))) := fun X hX => by
  have hwX : Below w.heap.size w X := hb4.trans (hX.mono (by omega))
  obtain ⟨Z, eZ, xZ, kZ, sZ, bZ⟩ := alloc_name X.drew [.int .u8 0] 5
  have hXZ : Below X.heap.size X Z := ((Below.refl X.heap.size X).drew).trans bZ
  have xZ' : RowIs Z X.heap.size 5 [.int .u8 0] := xZ
  have hXs := hX.size
  obtain ⟨a5, l5, c5, w5, r1, r2, r3, r4⟩ := appB Z X.heap.size hXZ.size (.slice none 0 0) ⟨#[]⟩ (SlB.nil _ _) ⟨X.heap.size, 0, none⟩ 1 1 nil0 rfl (fun j u hu => by rw [Addr.add_lit, Nat.zero_add, xZ'.cell]; exact hu) (by decide)
  have e0 : (⟨#[]⟩ : ByteArray) ++ nil0 = nil0 := by apply WideShapes.bytes_inj; simp
  rw [e0] at r2
  obtain ⟨g, hg1, hg2⟩ : ∃ g, a5 = some ⟨g, 0, none⟩ ∧ l5 = 1 ∧ 1 ≤ c5 := by
   rcases r2.1.2 with ⟨_, h0⟩ | ⟨g, cap, L5, e5, hR5, q⟩
   ·cases h0
   ·cases e5; exact ⟨g, rfl, rfl, q.1⟩
  obtain ⟨rfl, hc1⟩ := hg2
  subst hg1
  have hb5 : Below X.heap.size X w5 := by
   have h9 : Below Z.heap.size Z w5 := ⟨r3.os, r3.tape, r3.output, r3.size, fun k hk => r3.block k hk (fun e => by simp [Own, Value.ownBlock] at e)⟩
   exact hXZ.trans (h9.mono hXZ.size)
  have hw5 : Below w.heap.size w w5 := hwX.trans (hb5.mono hwX.size)
  have hgX : X.heap.size ≤ g := r2.2 g rfl
  have hgl : g < w5.heap.size := Own.lt r2 rfl
  have z1 : Boxed X w.heap.size 168 (.pointer (some ⟨pb, 0, none⟩)) := (hX.block _ (by omega)).trans y1
  have z2 : Boxed X (w.heap.size + 1) 59 (.slice none 0 0) := (hX.block _ (by omega)).trans y2
  have u1 : Boxed Z w.heap.size 168 (.pointer (some ⟨pb, 0, none⟩)) := (hXZ.block _ z1.lt).trans z1
  have u2 : Boxed Z (w.heap.size + 1) 59 (.slice none 0 0) := (hXZ.block _ z2.lt).trans z2
  have v1 : Boxed w5 w.heap.size 168 (.pointer (some ⟨pb, 0, none⟩)) := (hb5.block _ z1.lt).trans z1
  have v2 : Boxed w5 (w.heap.size + 1) 59 (.slice none 0 0) := (hb5.block _ z2.lt).trans z2
  have hP5 := h.below hw5
  have hs5 := hw5.size
  have hS0 : St1 pb db sb so nd cl hd p nil0 [] (fun k => k = pb) w5 := ⟨(hw5.cell (p := ⟨sb, so, none⟩) hsb).trans hcb, fun k hk => by subst hk; exact ⟨_, _, hP5.row⟩, .slice none 0 0, [], .slice none 0 0, fun k hk => by
   rcases hk with e | e | e
   ·exact e
   ·simp [Own, Value.ownBlock] at e
   ·simp [Own, Value.ownBlock] at e, .inl ⟨rfl, rfl, rfl, rfl, hP5⟩⟩
  refine ⟨Z, g, c5, w5, eZ, r1, z1.cell, u1.cell, v1.cell, z2.cell, u2.cell, ?_⟩
  refine (row3_code w5 1 (by omega) w.heap.size pb 0 (by omega) g 0 1 c5 nil0 r2.rdB hc1 (by omega) _ _ _ (fun k => k = pb) (fun k => k = pb) (refs0 p) hs5 L rfl (refs0_snoc p) (refs0_size p) hS0 (fun j hj => hj) (fun j hj => by omega) (show ¬ g = pb by omega) hgl 1 rfl (Nat.le_refl _)).mono ?_
  rintro e w6 ⟨a', l', c', O, rfl, q1, q2, q3, q4, q5⟩
  rw [refs0_one] at q1
  obtain rfl : l' = 10 := by
   have hsz := refB_size p (fnvN tab0)
   rcases q1.1.2 with ⟨_, h0⟩ | ⟨g6, cap, L6, e6, _⟩
   ·rw [hsz] at h0; cases h0
   ·cases e6; exact hsz
  obtain ⟨_, _, va, es, vp, hO, ⟨hx, _⟩ | ⟨x, hx, hP6, rfl⟩⟩ := q2
  ·cases hx
  ·obtain rfl : x = 0 := by have : List.range 1 = [0] := rfl; rw [this] at hx; cases hx; rfl
   have hnp : ∀ k, (Own va k ∨ Own vp k) → w5.heap.size ≤ k := fun k hk => by
    rcases q3 k (hO k (.inr hk)) with e | e
    ·subst e; exact (hk.elim hP6.oa hP6.op).elim
    ·omega
   have hX5 := hb5.size
   refine ⟨a', c', rfl, (q5.block _ v1.lt (by omega)).trans v1, (q5.block _ v2.lt (by omega)).trans v2, va, vp, hP6, ⟨q1.1, fun k hk => by have := q1.2 k hk; omega⟩, fun k hk => q4 k (hO k hk), (Fr.of_below hb5).then q5 (fun _ _ e => e), fun k hk => by have := hnp k hk; omega, fun k hk => by have := q1.2 k hk; omega⟩
 have HR : Hid (∀ X w6 a' c', Below W4.heap.size W4 X → Boxed w6 w.heap.size 168 (.pointer (some ⟨pb, 0, none⟩)) → Boxed w6 (w.heap.size + 1) 59 (.slice none 0 0) → (∃ va vp, PlanW w6 pb db sb so nd cl (p + 1) va [(((roleN 3 0 0 : Nat) : Int), (p : Int))] 0 0 vp [(p, tab0)] ∧ SlB w.heap.size w6 (.slice a' 10 c') (refB p (fnvN tab0)) ∧ (∀ k, (k = pb ∨ Own va k ∨ Own vp k) → ¬ Own (.slice a' 10 c') k) ∧ Fr (fun k => k = pb) X w6 ∧ (∀ k, (Own va k ∨ Own vp k) → W4.heap.size ≤ k) ∧ (∀ k, Own (.slice a' 10 c') k → W4.heap.size ≤ k)) →
   ∃ w8, (w6.setCell ⟨(w.heap.size + 1), 0, none⟩ (.slice a' 10 c')).alloc (.cells #[.slice a' 10 c'] 287) = w8 ∧ w6.cell? ⟨w.heap.size, 0, none⟩ = some (.pointer (some ⟨pb, 0, none⟩)) ∧ (w6.setCell ⟨(w.heap.size + 1), 0, none⟩ (.slice a' 10 c')).cell? ⟨w.heap.size, 0, none⟩ = some (.pointer (some ⟨pb, 0, none⟩)) ∧ (w6.setCell ⟨(w.heap.size + 1), 0, none⟩ (.slice a' 10 c')).cell? ⟨(w.heap.size + 1), 0, none⟩ = some (.slice a' 10 c') ∧ w6.cell? ⟨(w.heap.size + 1), 0, none⟩ = some (.slice none 0 0) ∧ w6.frozen? ⟨(w.heap.size + 1), 0, none⟩ = false ∧ w8.cell? ⟨w.heap.size, 0, none⟩ = some (.pointer (some ⟨pb, 0, none⟩)) ∧
    Hid (Calls Tryz.prog 238 #[.pointer (some ⟨w6.heap.size, 0, none⟩)] w8.drew fun e Y => e = .returned (.agg #[.int .i64 (p : Nat), .int .u64 (fnvN tab0 : Nat)]) ∧ Y.cell? ⟨w.heap.size, 0, none⟩ = some (.pointer (some ⟨pb, 0, none⟩)) ∧ Y.cell? ⟨pb, 101, none⟩ = some (.int .i64 0) ∧ Y.cell? ⟨pb, 102, none⟩ = some (.int .u64 0) ∧ Y.frozen? ⟨pb, 101, none⟩ = false ∧ Y.frozen? ⟨pb, 102, none⟩ = false ∧ ((Y.setCell ⟨pb, 101, none⟩ (.int .i64 (p : Nat))).setCell ⟨pb, 102, none⟩ (.int .u64 (fnvN tab0 : Nat))).cell? ⟨w.heap.size, 0, none⟩ = some (.pointer (some ⟨pb, 0, none⟩)) ∧
     Hid (∀ D, W4.heap.size ≤ D → X.heap[D]? = some (.deferred (some [])) → ((Y.setCell ⟨pb, 101, none⟩ (.int .i64 (p : Nat))).setCell ⟨pb, 102, none⟩ (.int .u64 (fnvN tab0 : Nat))).heap[D]? = some (.deferred (some [])) ∧ Keep0Post w pb db sb so nd cl p (.returned (.tuple #[])) (((Y.setCell ⟨pb, 101, none⟩ (.int .i64 (p : Nat))).setCell ⟨pb, 102, none⟩ (.int .u64 (fnvN tab0 : Nat))).putObj D (.deferred none))))) := fun X w6 a' c' hX q1 q2 ⟨va, vp, hP, hS, hdis, hF, hoW, hoR⟩ => by
  have hXs := hX.size
  have hFs := hF.size
  have hwX : Below w.heap.size w X := hb4.trans (hX.mono (by omega))
  have hn1 : ¬ Own (.slice a' 10 c') (w.heap.size + 1) := fun e => by have := hoR _ e; omega
  have hS7 : SlB w.heap.size (w6.setCell ⟨(w.heap.size + 1), 0, none⟩ (.slice a' 10 c')) (.slice a' 10 c') (refB p (fnvN tab0)) := ⟨hS.1.setCell ⟨(w.heap.size + 1), 0, none⟩ _ hn1, hS.2⟩
  have hF7 : Fr (fun k => k = pb ∨ k = (w.heap.size + 1)) X (w6.setCell ⟨(w.heap.size + 1), 0, none⟩ (.slice a' 10 c')) := Fr.set (X := fun k => k = pb ∨ k = (w.heap.size + 1)) ⟨hF.os, hF.tape, hF.output, hF.size, fun k hk hX => hF.block k hk (fun e => hX (.inl e))⟩ ⟨(w.heap.size + 1), 0, none⟩ _ (.inr rfl)
  have hsz7 : (w6.setCell ⟨(w.heap.size + 1), 0, none⟩ (.slice a' 10 c')).heap.size = w6.heap.size := by simp [World.setCell]
  have hP7 : PlanW (w6.setCell ⟨(w.heap.size + 1), 0, none⟩ (.slice a' 10 c')) pb db sb so nd cl (p + 1) va [(((roleN 3 0 0 : Nat) : Int), (p : Int))] 0 0 vp [(p, tab0)] := hP.fr (Z := fun k => k = (w.heap.size + 1)) (Fr.set (Fr.refl (fun k => k = (w.heap.size + 1)) w6) ⟨(w.heap.size + 1), 0, none⟩ _ rfl) (fun k hk e => by
   rcases hk with h1 | h1
   ·omega
   ·have := hoW k h1; omega)
  obtain ⟨w8, e8, x8, k8, s8, b8⟩ := alloc_name (w6.setCell ⟨(w.heap.size + 1), 0, none⟩ (.slice a' 10 c')) [.slice a' 10 c'] 287
  rw [hsz7] at x8 s8
  have n0 : Boxed (w6.setCell ⟨(w.heap.size + 1), 0, none⟩ (.slice a' 10 c')) w.heap.size 168 (.pointer (some ⟨pb, 0, none⟩)) := q1.other (by omega) _
  have n1 : Boxed (w6.setCell ⟨(w.heap.size + 1), 0, none⟩ (.slice a' 10 c')) (w.heap.size + 1) 59 (.slice a' 10 c') := q2.set _
  have hlt8 := n0.lt
  have m0 : Boxed w8 w.heap.size 168 (.pointer (some ⟨pb, 0, none⟩)) := (b8.block _ n0.lt).trans n0
  have hP8 := hP7.below b8
  refine ⟨w8, e8, q1.cell, n0.cell, n1.cell, q2.cell, q2.frozen, m0.cell, ?_⟩
  have hrd8 : RdB w8.drew a' 10 c' (refB p (fnvN tab0)) := (hS7.below b8).rdB
  have hcc : 10 ≤ c' := by
   rcases hS.1.2 with ⟨_, h0⟩ | ⟨g6, cap, L6, e6, _, q, _⟩
   ·rw [refB_size] at h0; cases h0
   ·cases e6; rw [refB_size] at q; exact q
  refine (ref_code w8.drew w6.heap.size a' 10 c' (refB p (fnvN tab0)) (show RowIs w8.drew w6.heap.size 287 [.slice a' 10 c'] from x8) hrd8 hcc (fun x e => ?_) (by omega)).mono ?_
  ·subst e
   have := hrd8.lt (by rw [refB_size]; omega)
   intro e2
   rcases hS.1.2 with ⟨e6, _⟩ | ⟨g6, cap, L6, e6, hR6, _⟩
   ·cases e6
   ·cases e6; have := hR6.lt; simp only at e2; omega
  ·rintro e Y ⟨rfl, _, _, _, _, _, _, hFY⟩
   rw [rdP_ref p _ (by omega), rdX_ref p _ (fnvN_lt _)]
   have hFY' : Fr (fun k => k = w6.heap.size) w8 Y := ⟨hFY.os, hFY.tape, hFY.output, hFY.size, hFY.block⟩
   have hpb8 := hP8.row.lt
   have hPY := hP8.fr hFY' (fun k hk e => by
    rcases hk with h1 | h1
    ·omega
    ·have h2 := hP7.isCells k (.inr h1)
     obtain ⟨cs, t, h2⟩ := h2
     have := (Array.getElem?_eq_some_iff.1 h2).1
     omega)
   have mY : Boxed Y w.heap.size 168 (.pointer (some ⟨pb, 0, none⟩)) := (hFY'.block _ m0.lt (by omega)).trans m0
   have hPF := hPY.top (p : Nat) (fnvN tab0 : Nat)
   have mF : Boxed ((Y.setCell ⟨pb, 101, none⟩ (.int .i64 (p : Nat))).setCell ⟨pb, 102, none⟩ (.int .u64 (fnvN tab0 : Nat))) w.heap.size 168 (.pointer (some ⟨pb, 0, none⟩)) := ((Below.heap_setCell _ _ _ _ (show w.heap.size ≠ pb by omega)).trans ((Below.heap_setCell _ _ _ _ (show w.heap.size ≠ pb by omega)).trans mY))
   have hFF : Fr (fun k => k = pb) w ((Y.setCell ⟨pb, 101, none⟩ (.int .i64 (p : Nat))).setCell ⟨pb, 102, none⟩ (.int .u64 (fnvN tab0 : Nat))) := by
    refine Fr.set (X := fun k => k = pb) (Fr.set (X := fun k => k = pb) ?_ ⟨pb, 101, none⟩ _ rfl) ⟨pb, 102, none⟩ _ rfl
    refine Fr.then (w1 := w8) ?_ hFY' (fun k hk e => by omega)
    refine Fr.then (w1 := (w6.setCell ⟨(w.heap.size + 1), 0, none⟩ (.slice a' 10 c'))) ?_ (Fr.of_below b8 (X := fun _ => False)) (fun _ _ e => e.elim)
    exact Fr.then (Fr.of_below hwX) hF7 (fun k hk e => e.elim id (fun e => by omega))
   refine ⟨rfl, mY.cell, (hPY.row.cell 101).trans (planL_tail _ _ _ _ _ _ _ _ _ _ 3), (hPY.row.cell 102).trans (planL_tail _ _ _ _ _ _ _ _ _ _ 4), hPY.row.frozen 101, hPY.row.frozen 102, mF.cell, fun D hD hDX => ?_⟩
   have hDlt := (Array.getElem?_eq_some_iff.1 hDX).1
   have hDF : ((Y.setCell ⟨pb, 101, none⟩ (.int .i64 (p : Nat))).setCell ⟨pb, 102, none⟩ (.int .u64 (fnvN tab0 : Nat))).heap[D]? = some (.deferred (some [])) := by
    rw [Below.heap_setCell _ _ _ _ (show D ≠ pb by omega), Below.heap_setCell _ _ _ _ (show D ≠ pb by omega), hFY'.block D (by omega) (by omega), b8.block D (by omega), hF7.block D hDlt (fun e => by omega)]
    exact hDX
   refine ⟨hDF, rfl, va, vp, ?_, ?_, fun g hg => by have := hoW g (.inl hg); omega, fun g hg => by have := hoW g (.inr hg); omega⟩
   ·refine hPF.cellsKept (fun j cs t hj => ?_)
    simp only [World.putObj]
    rw [Array.getElem?_setIfInBounds, if_neg (fun e => by subst e; rw [hDF] at hj; cases hj)]
    exact hj
   ·refine hFF.then (Y := fun k => k = D) ⟨rfl, rfl, rfl, by simp [World.putObj], fun k _ hk => by
     simp only [World.putObj]
     rw [Array.getElem?_setIfInBounds, if_neg (fun e => hk e.symm)]⟩ (fun k hk e => by omega)
 have HST := hide hst
 have HT4 := hide t4
 have HE1 := hide e1; have HE2 := hide e2; have HE3 := hide e3; have HE4 := hide e4
 clear x1 x2 x3 x4 k1 k2 k3 k4 s1 s2 s3 s4 b1 b2 b3 b4 y1 y2 t2 t3 t4 e1 e2 e3 e4 hb4 hst hcB L h ht hr hcb hz hh hp
 refine (callsIn_wide (n := 3)).1 ?_
 refine callsIn_of_wp_marks Tryz.func199 rfl trivial ?_ rfl
 simp only [Tryz.ntmps199, List.size_toArray, List.length_cons, List.length_nil, Nat.reduceAdd, Nat.reduceSub, Array.replicate_succ, Array.replicate_zero, List.push_toArray, List.append_toArray, List.nil_append, List.cons_append]
 gi_wp2_with (refine ⟨trivial, ?_⟩; gi_at_call 115; refine (allT_in _ _ _).mono ?_; rintro e w' ⟨rfl, rfl⟩)
 rw [show w.alloc (.cells #[.pointer (some ⟨pb, 0, none⟩)] 168) = W1 from unhide HE1, show W1.alloc (.cells #[.slice none 0 0] 59) = W2 from unhide HE2, show W2.alloc (.cells #[.string ⟨#[]⟩] 9) = W3 from unhide HE3, show W3.alloc (.cells #[.pointer (some ⟨tb, 0, none⟩)] 37) = W4 from unhide HE4]
 rename_i K0 hK0
 refine wpIn_rangeFunc_ownF (α := Empty) rfl (by omega) (gf := 169) (lb := #[.pointer (some ⟨(w.heap.size + 1 + 1 + 1), 0, none⟩)]) rfl trivial (enters_of Tryz.func169 (by kernel_rfl) rfl)
  (unhide HST) (fun _ _ => trivial) (fun _ _ _ _ _ _ _ _ => trivial) (Below.refl _ _) (fun x => x.elim)
  (fun _ X => Below W4.heap.size W4 X) (fun _ _ _ => False)
  (ownFrom_below (Nat.le_refl _) (Nat.le_refl _)) (fun _ _ _ _ _ hs _ _ => hs) (Below.refl _ _)
  (fun x => x.elim) ?assign ?body ?done ?stop
 case assign => exact fun l x => x.elim
 case body => exact fun l pre x => x.elim
 case stop =>
  rintro D c pre X _ _ h _
  exact h.elim
 case done =>
  rintro D ys X hD rfl hB hK
  obtain ⟨Z, g, cg, w5, hZ, hr5, m0, mZ, m5, n0, nZ, HROW⟩ := unhide HX X hB
  have HZ := hide hZ
  have HKD := hide hK
  have HD := hide hD
  have HBB := hide hB
  clear hZ hK hD hB HX HST
  show K0 _ _
  refine hK0 _ _ ?_
  clear hK0
  gi_step
  refine Code.wpIn_mono calm_le ?_
  refine wpIn_wide.2 ?_
  refine wp_region_held_drew (S := fun V => V.cell? ⟨w.heap.size, 0, none⟩ = some (.pointer (some ⟨pb, 0, none⟩))) (by kernel_rfl) m0 (fun hHeld => ?_)
  refine wpAnyH_take (i := 0) (v := ?_) rfl (by kernel_rfl) (by kernel_rfl) (by kernel_rfl) (fun _ _ _ h => h) (Or.inl ⟨by rfl, ?_⟩) (by assumption) ?_
  rotate_left
  ·intro w hSw; (try dsimp only at hSw); go_simp <;> with_reducible rfl
  (try simp only [pE])
  refine wpAnyH_ready (rs := [1, 2]) (by kernel_rfl) (by simp) ?_
  refine (AllReadyH.cons (i := 1) rfl ?_ (AllReadyH.cons (i := 2) rfl ?_ AllReadyH.nil))
  ·intro K hK
   go_simp
   refine hK.out _ _ hHeld (fun hH1 => ?_)
   clear hK K
   (try simp only [pE])
   refine wpAnyH_ready (rs := [2]) (by kernel_rfl) (by simp) ?_
   refine AllReadyH.cons (i := 2) rfl ?_ AllReadyH.nil
   intro K hK
   go_simp
   rw [show (X.alloc (.cells #[.int .u8 0] 5)).drew = Z from unhide HZ]
   refine hK.out _ _ mZ (fun hH2 => ?_)
   clear hK K
   (try simp only [pE])
   refine wpAnyH_ready (rs := [3]) (by kernel_rfl) (by simp) ?_
   refine AllReadyH.cons (i := 3) rfl ?_ AllReadyH.nil
   intro K hK
   refine step_append_run rfl _ _ 59 59 rfl _ _ rfl rfl hr5 ?_
   refine hK.out _ _ m5 (fun hH3 => ?_)
   clear hK K
   (try simp only [pE])
   refine wpAnyH_ready (rs := [4]) (by kernel_rfl) (by simp) ?_
   refine AllReadyH.cons (i := 4) rfl ?_ AllReadyH.nil
   intro K hK
   go_simp
   go_at_call 237
   refine (unhide HROW).mono ?_
   rintro e w6 ⟨a', c', rfl, hq1, hq2, HS6⟩
   obtain ⟨w8, hw8, d0, d1, d2, d3, d4, d5, HREF⟩ := unhide HR X w6 a' c' (unhide HBB) hq1 hq2 (unhide HS6)
   have HW8 := hide hw8
   clear hw8 hq1 hq2 HS6
   go_wp2_with fail
   refine hK.out _ _ d0 (fun hH4 => ?_)
   clear hK K
   (try simp only [pE])
   refine wpAnyH_ready (rs := [5]) (by kernel_rfl) (by simp) ?_
   refine AllReadyH.cons (i := 5) rfl ?_ AllReadyH.nil
   intro K hK
   go_simp
   refine hK.out _ _ d1 (fun hH5 => ?_)
   clear hK K
   (try simp only [pE])
   refine wpAnyH_done (by kernel_rfl) ?_ _
   refine calm_in ?_
   gi_wp2
   refine wpIn_loop_once ?_
   gi_wp2
   rw [show (w6.setCell ⟨w.heap.size + 1, 0, none⟩ (.slice a' 10 c')).alloc (.cells #[.slice a' 10 c'] 287) = w8 from unhide HW8]
   clear HW8 hH1 hH2 hH3 hH4 hH5 hHeld
   refine Code.wpIn_mono calm_le ?_
   refine wpIn_wide.2 ?_
   refine wp_region_held_drew (S := fun V => V.cell? ⟨w.heap.size, 0, none⟩ = some (.pointer (some ⟨pb, 0, none⟩))) (by kernel_rfl) d5 (fun hHeld => ?_)
   refine wpAnyH_take (i := 0) (v := ?_) rfl (by kernel_rfl) (by kernel_rfl) (by kernel_rfl) (fun _ _ _ h => h) (Or.inl ⟨by rfl, ?_⟩) (by assumption) ?_
   rotate_left
   ·intro w hSw; (try dsimp only at hSw); go_simp <;> with_reducible rfl
   (try simp only [pE])
   refine wpAnyH_ready (rs := [1]) (by kernel_rfl) (by simp) ?_
   refine AllReadyH.cons (i := 1) rfl ?_ AllReadyH.nil
   intro K hK
   go_simp
   go_at_call 238
   refine (unhide HREF).mono ?_
   rintro e Y ⟨rfl, p0, p1, p2, p3, p4, p5, HFIN⟩
   go_wp2_with fail
   refine hK.out _ _ p0 (fun hG1 => ?_)
   clear hK K
   (try simp only [pE])
   refine wpAnyH_take (i := 2) (v := ?_) rfl (by kernel_rfl) (by kernel_rfl) (by kernel_rfl) (fun _ _ _ h => h) (Or.inl ⟨by rfl, ?_⟩) (by assumption) ?_
   rotate_left
   ·intro w hSw; (try dsimp only at hSw); go_simp <;> with_reducible rfl
   (try simp only [pE])
   refine wpAnyH_take (i := 3) (v := ?_) rfl (by kernel_rfl) (by kernel_rfl) (by kernel_rfl) (fun _ _ _ h => h) (Or.inl ⟨by rfl, ?_⟩) (by assumption) ?_
   rotate_left
   ·intro w hSw; (try dsimp only at hSw); go_simp <;> with_reducible rfl
   (try simp only [pE])
   refine wpAnyH_take (i := 4) (v := ?_) rfl (by kernel_rfl) (by kernel_rfl) (by kernel_rfl) (fun _ _ _ h => h) (Or.inl ⟨by rfl, ?_⟩) (by assumption) ?_
   rotate_left
   ·intro w hSw; (try dsimp only at hSw); go_simp <;> with_reducible rfl
   (try simp only [pE])
   refine wpAnyH_ready (rs := [5]) (by kernel_rfl) (by simp) ?_
   refine AllReadyH.cons (i := 5) rfl ?_ AllReadyH.nil
   intro K hK
   go_simp
   refine hK.out _ _ p5 (fun hG5 => ?_)
   clear hK K
   (try simp only [pE])
   refine wpAnyH_done (by kernel_rfl) ?_ _
   refine calm_in ?_
   gi_wp2
   obtain ⟨hDF, hPost⟩ := unhide HFIN D (unhide HD) (unhide HKD)
   refine ⟨by simp, .inl ⟨_, _, rfl, run_takeDeferred hDF, ?_⟩⟩
   exact ⟨_, results_none rfl _ _ _, hPost⟩
  ·intro K hK
   go_simp
   rw [show (X.alloc (.cells #[.int .u8 0] 5)).drew = Z from unhide HZ]
   refine hK.out _ _ mZ (fun hH2 => ?_)
   clear hK K
   (try simp only [pE])
   refine wpAnyH_ready (rs := [1]) (by kernel_rfl) (by simp) ?_
   refine AllReadyH.cons (i := 1) rfl ?_ AllReadyH.nil
   intro K hK
   go_simp
   refine hK.out _ _ hH2 (fun hH1 => ?_)
   clear hK K
   (try simp only [pE])
   refine wpAnyH_ready (rs := [3]) (by kernel_rfl) (by simp) ?_
   refine AllReadyH.cons (i := 3) rfl ?_ AllReadyH.nil
   intro K hK
   refine step_append_run rfl _ _ 59 59 rfl _ _ rfl rfl hr5 ?_
   refine hK.out _ _ m5 (fun hH3 => ?_)
   clear hK K
   (try simp only [pE])
   refine wpAnyH_ready (rs := [4]) (by kernel_rfl) (by simp) ?_
   refine AllReadyH.cons (i := 4) rfl ?_ AllReadyH.nil
   intro K hK
   go_simp
   go_at_call 237
   refine (unhide HROW).mono ?_
   rintro e w6 ⟨a', c', rfl, hq1, hq2, HS6⟩
   obtain ⟨w8, hw8, d0, d1, d2, d3, d4, d5, HREF⟩ := unhide HR X w6 a' c' (unhide HBB) hq1 hq2 (unhide HS6)
   have HW8 := hide hw8
   clear hw8 hq1 hq2 HS6
   go_wp2_with fail
   refine hK.out _ _ d0 (fun hH4 => ?_)
   clear hK K
   (try simp only [pE])
   refine wpAnyH_ready (rs := [5]) (by kernel_rfl) (by simp) ?_
   refine AllReadyH.cons (i := 5) rfl ?_ AllReadyH.nil
   intro K hK
   go_simp
   refine hK.out _ _ d1 (fun hH5 => ?_)
   clear hK K
   (try simp only [pE])
   refine wpAnyH_done (by kernel_rfl) ?_ _
   refine calm_in ?_
   gi_wp2
   refine wpIn_loop_once ?_
   gi_wp2
   rw [show (w6.setCell ⟨w.heap.size + 1, 0, none⟩ (.slice a' 10 c')).alloc (.cells #[.slice a' 10 c'] 287) = w8 from unhide HW8]
   clear HW8 hH1 hH2 hH3 hH4 hH5 hHeld
   refine Code.wpIn_mono calm_le ?_
   refine wpIn_wide.2 ?_
   refine wp_region_held_drew (S := fun V => V.cell? ⟨w.heap.size, 0, none⟩ = some (.pointer (some ⟨pb, 0, none⟩))) (by kernel_rfl) d5 (fun hHeld => ?_)
   refine wpAnyH_take (i := 0) (v := ?_) rfl (by kernel_rfl) (by kernel_rfl) (by kernel_rfl) (fun _ _ _ h => h) (Or.inl ⟨by rfl, ?_⟩) (by assumption) ?_
   rotate_left
   ·intro w hSw; (try dsimp only at hSw); go_simp <;> with_reducible rfl
   (try simp only [pE])
   refine wpAnyH_ready (rs := [1]) (by kernel_rfl) (by simp) ?_
   refine AllReadyH.cons (i := 1) rfl ?_ AllReadyH.nil
   intro K hK
   go_simp
   go_at_call 238
   refine (unhide HREF).mono ?_
   rintro e Y ⟨rfl, p0, p1, p2, p3, p4, p5, HFIN⟩
   go_wp2_with fail
   refine hK.out _ _ p0 (fun hG1 => ?_)
   clear hK K
   (try simp only [pE])
   refine wpAnyH_take (i := 2) (v := ?_) rfl (by kernel_rfl) (by kernel_rfl) (by kernel_rfl) (fun _ _ _ h => h) (Or.inl ⟨by rfl, ?_⟩) (by assumption) ?_
   rotate_left
   ·intro w hSw; (try dsimp only at hSw); go_simp <;> with_reducible rfl
   (try simp only [pE])
   refine wpAnyH_take (i := 3) (v := ?_) rfl (by kernel_rfl) (by kernel_rfl) (by kernel_rfl) (fun _ _ _ h => h) (Or.inl ⟨by rfl, ?_⟩) (by assumption) ?_
   rotate_left
   ·intro w hSw; (try dsimp only at hSw); go_simp <;> with_reducible rfl
   (try simp only [pE])
   refine wpAnyH_take (i := 4) (v := ?_) rfl (by kernel_rfl) (by kernel_rfl) (by kernel_rfl) (fun _ _ _ h => h) (Or.inl ⟨by rfl, ?_⟩) (by assumption) ?_
   rotate_left
   ·intro w hSw; (try dsimp only at hSw); go_simp <;> with_reducible rfl
   (try simp only [pE])
   refine wpAnyH_ready (rs := [5]) (by kernel_rfl) (by simp) ?_
   refine AllReadyH.cons (i := 5) rfl ?_ AllReadyH.nil
   intro K hK
   go_simp
   refine hK.out _ _ p5 (fun hG5 => ?_)
   clear hK K
   (try simp only [pE])
   refine wpAnyH_done (by kernel_rfl) ?_ _
   refine calm_in ?_
   gi_wp2
   obtain ⟨hDF, hPost⟩ := unhide HFIN D (unhide HD) (unhide HKD)
   refine ⟨by simp, .inl ⟨_, _, rfl, run_takeDeferred hDF, ?_⟩⟩
   exact ⟨_, results_none rfl _ _ _, hPost⟩
end Go.Proofs.YtaieidcohdhgpaaGreatDoor
