/- Files. -/
import Derived.Test.YtaieidcohdhgpaaGreatDoorPAW
import Derived.Test.YtaieidcohdhgpaaGreatDoorPAX
namespace Go.Proofs.YtaieidcohdhgpaaGreatDoor
open Go.RowKit Go.Shelf
attribute [local go_sem] Oper.semAt_some
set_option maxHeartbeats 2000000
set_option maxRecDepth 100000
theorem info181 : (Tryz.prog.info? 181).map (fun i => (i.zero, i.size)) = some (some (.agg (List.replicate 96 (.int .i64 0)).toArray), 96) := by kernel_rfl
theorem zero181 : ∀ w, (zeroValue 181).run Tryz.prog w = .ok (.agg (List.replicate 96 (.int .i64 0)).toArray) w := (zero_of_info info181).1
theorem size181 : (Tryz.prog.info? 181).map (·.size) = some 96 := (zero_of_info info181).2
theorem und181 : Tryz.prog.underlying 181 = some (.array 96 3) := by kernel_rfl
theorem built181 : Tryz.prog.built 181 [(0, .int .i64 2)] = some (Value.int .i64 2 :: List.replicate 95 (.int .i64 0)).toArray := by kernel_rfl
def ndL (f : Nat → Int) : List Value := (List.range 96).map (fun j => .int .i64 (f j))
theorem ndL_length (f : Nat → Int) : (ndL f).length = 96 := by simp [ndL]
theorem ndL_one (f : Nat → Int) : ∀ u ∈ ndL f, u.oneCell' = true := fun u hu => by
 obtain ⟨j, _, e⟩ := List.mem_map.1 hu; rw [← e]; rfl
theorem ndL_at (f : Nat → Int) (j : Nat) (h : j < 96) : (ndL f)[j]? = some (.int .i64 (f j)) := by
 simp [ndL, h]
theorem ndL_congr {f g : Nat → Int} (h : ∀ j, j < 96 → f j = g j) : ndL f = ndL g := by
 unfold ndL
 exact List.map_congr_left (fun j hj => by rw [h j (by simpa using hj)])
def ndOf (es : List (Int × Int)) (j : Nat) : Int := (if j = 0 then 2 else 0) + (es.countP (fun x => x.2.toNat / 16 == j) : Nat)
theorem ndOf_nil (j : Nat) : ndOf [] j = if j = 0 then 2 else 0 := by simp [ndOf]
theorem ndOf_snoc (es : List (Int × Int)) (y : Int × Int) (j : Nat) : ndOf (es ++ [y]) j = ndOf es j + if y.2.toNat / 16 = j then 1 else 0 := by
 unfold ndOf
 rw [List.countP_append, List.countP_singleton]
 by_cases h : y.2.toNat / 16 = j
 ·simp [h]; omega
 ·simp [h]
theorem ndOf_le (es : List (Int × Int)) (j : Nat) : ndOf es j ≤ 2 + es.length := by
 have := List.countP_le_length (p := fun x : Int × Int => x.2.toNat / 16 == j) (l := es)
 unfold ndOf; split <;> omega
theorem ndOf_nonneg (es : List (Int × Int)) (j : Nat) : 0 ≤ ndOf es j := by
 unfold ndOf; split <;> omega
theorem ndL_set (es : List (Int × Int)) (y : Int × Int) (x : Nat) (hx : y.2.toNat / 16 = x) (h96 : x < 96) : (ndL (ndOf es)).set x (.int .i64 (ndOf es x + 1)) = ndL (ndOf (es ++ [y])) := by
 apply List.ext_getElem?
 intro j
 rw [List.getElem?_set]
 by_cases e : x = j
 ·subst e
  rw [if_pos rfl, if_pos (by rw [ndL_length]; exact h96), ndL_at _ _ h96, ndOf_snoc, if_pos hx]
 ·rw [if_neg e]
  by_cases hj : j < 96
  ·rw [ndL_at _ _ hj, ndL_at _ _ hj, ndOf_snoc, if_neg (fun h => e (hx.symm.trans h)), Int.add_zero]
  ·rw [List.getElem?_eq_none (by rw [ndL_length]; omega), List.getElem?_eq_none (by rw [ndL_length]; omega)]
theorem ndL_zero : (Value.int .i64 2 :: List.replicate 95 (.int .i64 0)) = ndL (ndOf []) := by
 have : ndL (ndOf []) = ndL (fun j => if j = 0 then 2 else 0) := ndL_congr (fun j _ => ndOf_nil j)
 rw [this]; rfl
def PlacesOk (es : List (Int × Int)) : Prop := es.length ≤ 10000 ∧ SrtR es ∧ ∀ x ∈ es, ∃ p : Nat, x.2 = p ∧ p < 1536
theorem needed_code (w : World) (sb so : Nat) (v : Value) (es : List (Int × Int)) (hc : w.cell? ⟨sb, so, none⟩ = some v) (hS : Sl w 350 2 v es.length (cellsR es)) (hok : PlacesOk es) :
  Calls Tryz.prog 198 #[.pointer (some ⟨sb, so, none⟩)] w fun e w' => e = .returned (.agg (ndL (ndOf es)).toArray) ∧ Below w.heap.size w w' := by
 obtain ⟨hn, _, hp⟩ := hok
 refine (callsIn_wide (n := 3)).1 ?_
 refine callsIn_of_wp_marks Tryz.func198 rfl trivial ?_ rfl
 simp only [Tryz.ntmps198, List.size_toArray, List.length_cons, List.length_nil, Nat.reduceAdd, Nat.reduceSub, Array.replicate_succ, Array.replicate_zero, List.push_toArray, List.append_toArray, List.nil_append, List.cons_append]
 gi_step
 gi_step
 refine wpIn_wide.2 (wp_region_lit ?_)
 refine wpList_alloc_z rfl 181 rfl zero181 ?_
 refine wpList_nil ?_
 obtain ⟨W, hW, hx0, hkW, hszW, hbW⟩ := alloc_name w (List.replicate 96 (.int .i64 0)) 181
 rw [show w.alloc (.cells (List.replicate 96 (Value.int .i64 0)).toArray 181) = W from hW]
 clear hW
 rename_i hK
 refine hK _ _ ?_
 clear hK
 gi_step
 refine wpIn_wide.2 (wp_region_lit ?_)
 refine wpList_build1 rfl 181 0 _ rfl (.int .i64 2) rfl (built181.trans (congrArg some (congrArg List.toArray ndL_zero))) ?_
 refine wpList_alloc_z rfl 181 rfl zero181 ?_
 obtain ⟨W2, hW2, hx2, hkW2, hszW2, hbW2⟩ := alloc_name W (List.replicate 96 (.int .i64 0)) 181
 rw [show W.alloc (.cells (List.replicate 96 (Value.int .i64 0)).toArray 181) = W2 from hW2]
 clear hW2
 refine wpList_store_row rfl 181 _ _ rfl W.heap.size (ndL (ndOf [])).toArray rfl rfl 181 _ hx2 ?_ ?_ (all_oneCell_toArray (ndL_one _)) ?_
 ·rw [size181]; simp [ndL_length]
 ·simp [ndL_length]
 refine wpList_nil ?_
 have hx3 : RowIs (W2.setRow W.heap.size (ndL (ndOf [])).toArray) W.heap.size 181 (ndL (ndOf [])) := setRow_heap W2 _ _ _ 181 _ hx2
 have hb3 : Below W.heap.size W (W2.setRow W.heap.size (ndL (ndOf [])).toArray) := hbW2.trans ⟨rfl, rfl, rfl, by simp, fun j hj => setRow_other W2 _ j _ (by omega)⟩
 have hs3 : (W2.setRow W.heap.size (ndL (ndOf [])).toArray).heap.size = W.heap.size + 1 := by simp [World.setRow, hszW2]
 obtain ⟨W3, hW3⟩ : ∃ X, X = W2.setRow W.heap.size (ndL (ndOf [])).toArray := ⟨_, rfl⟩
 rw [← hW3] at hx3 hb3 hs3 ⊢
 have hb4 : Below w.heap.size w W3 := hbW.trans (hb3.mono (by omega))
 have hx4 : RowIs W3 w.heap.size 181 (List.replicate 96 (.int .i64 0)) := (hb3.block _ (by omega)).trans hx0
 have hsb : sb < w.heap.size := World.block_lt_of_cell? _ _ hc
 have hc3 : W3.cell? ⟨sb, so, none⟩ = some v := (hb4.cell (p := ⟨sb, so, none⟩) hsb).trans hc
 have hS3 : Sl W3 350 2 v es.length (cellsR es) := hS.kept (fun k hk _ => hb4.block k hk)
 rename_i hK
 refine hK _ _ ?_
 clear hK hx2 hkW2 hW3 hkW hx0
 have HX3 := hide hx3
 have HX4 := hide hx4
 have HSZ := hide hszW
 clear hx3 hx4 hszW
 gi_wp2_with (refine ⟨trivial, ?_⟩; gi_at_call 235; refine (allR_in _ _ trivial rfl _ _).mono ?_; rintro e w' ⟨rfl, rfl⟩)
 rename_i K0 hK0
 obtain ⟨W4, hW4, hx5, hkW4, hsz4, hbW4⟩ := alloc_name W3 [.pointer (some ⟨sb, so, none⟩)] 294
 rw [show W3.alloc (.cells #[Value.pointer (some ⟨sb, so, none⟩)] 294) = W4 from hW4]
 clear hW4
 have hszW := unhide HSZ
 have hA : RowIs W4 W.heap.size 181 (ndL (ndOf [])) := hkW4 _ _ _ (unhide HX3)
 have hR : RowIs W4 w.heap.size 181 (List.replicate 96 (.int .i64 0)) := hkW4 _ _ _ (unhide HX4)
 have hB0 : Below w.heap.size w W4 := hb4.trans (hbW4.mono (by omega))
 have hS0 : Sl W4 350 2 v es.length (cellsR es) := hS.kept (fun k hk _ => hB0.block k hk)
 have hc0 : W4.cell? ⟨sb, so, none⟩ = some v := (hB0.cell (p := ⟨sb, so, none⟩) hsb).trans hc
 have hBm : W4.cell? ⟨W.heap.size + 1, 0, none⟩ = some (.pointer (some ⟨sb, so, none⟩)) := by rw [← hs3]; exact (hx5.cell 0).trans rfl
 have hat : es.attach.map (fun x => x.1) = es := List.attach_map_subtype_val es
 clear HX3 HX4 hx5 hkW4 hc3 hS3 hb3 hbW hbW2 hszW2
 refine wpIn_rangeFunc_ownF (α := { x // x ∈ es }) rfl (by omega) (gf := 270) (lb := #[.pointer (some ⟨W.heap.size + 1, 0, none⟩)]) rfl trivial (enters_of Tryz.func270 (by kernel_rfl) rfl)
  (allR_stops Fence.wide 2 trivial rfl (by omega) (W.heap.size + 1) w.heap.size sb so v (fun x => x.1) es.attach (by simpa using hn) W4 (by omega) (by omega) (by omega) hBm hc0 (by rw [hat]; simpa using hS0) (fun g hg => hS.lt hg))
  belowK_t (belowK_b (by omega)) (Below.refl _ _) (fun _ => rfl)
  (fun pre X => RowIs X W.heap.size 181 (ndL (ndOf (pre.map (·.1)))) ∧ RowIs X w.heap.size 181 (List.replicate 96 (.int .i64 0)) ∧ Below w.heap.size w X)
  (fun _ _ _ => False)
  (OwnFrom.and (Own.from (rowIs_own _ _ (fun pre : List { x // x ∈ es } => ndL (ndOf (pre.map (·.1))))) _) (OwnFrom.and (Own.from (rowIs_own _ _ (fun _ : List { x // x ∈ es } => List.replicate 96 (.int .i64 0))) _) (ownFrom_below (Nat.le_refl _) (by omega))))
  (fun _ _ _ _ _ hs _ _ => hs)
  ⟨hA, hR, hB0⟩
  (fun x => { tmps := #[.pointer (some ⟨sb, so, none⟩), undef, .pointer (some ⟨w.heap.size, 0, none⟩), .pointer (some ⟨W.heap.size, 0, none⟩), undef, .int .i64 x.1.2, .agg (ndL (ndOf [])).toArray, .pointer (some ⟨sb, so, none⟩), .pointer (some ⟨sb, so, none⟩), .pointer (some ⟨sb, so, none⟩), .func (.func 270) #[] #[.pointer (some ⟨W.heap.size + 1, 0, none⟩)], .int .u64 x.1.1, .int .i64 x.1.2, undef, undef, undef, undef, undef, undef, undef], defers := [] })
  ?assign ?body ?done ?stop
 case assign =>
  intro l x X K hK
  clear hszW
  gi_wp2
  exact hK
 case body =>
  rintro l pre x X ⟨hi, hr, hB⟩ hlt
  obtain ⟨p, hxp, hp15⟩ := hp x.1 x.2
  obtain ⟨y, hy⟩ : ∃ y, y = p / 16 := ⟨_, rfl⟩
  have hy96 : y < 96 := by omega
  have hnat : x.1.2.toNat / 16 = y := by rw [hxp, Int.toNat_natCast, hy]
  have e1 : (IntKind.i64.wrap ((p : Int) / 16)) = (y : Int) := by rw [IntKind.wrap_i64]; omega
  have hset := ndL_set (pre.map (·.1)) x.1 y hnat hy96
  have hle := ndOf_le (pre.map (·.1)) y
  have hnn := ndOf_nonneg (pre.map (·.1)) y
  rw [List.length_map] at hle
  have hpl : pre.length < es.length := by simpa using hlt
  have hle2 : ndOf (pre.map (·.1)) y ≤ 10002 := by omega
  have hcell := (hi.cell y).trans (ndL_at (ndOf (pre.map (·.1))) y hy96)
  have hfro := hi.frozen y
  obtain ⟨z, hz⟩ : ∃ z, z = ndOf (pre.map (·.1)) y := ⟨_, rfl⟩
  rw [← hz] at hcell hle2 hnn hset
  have HI := hide hi
  have HSET := hide hset
  have hyi : (y : Int) < 96 := by omega
  have hyn : ¬ (96 : Int) ≤ (y : Int) := by omega
  clear hi hset hle hy hnat hz hlt hszW
  rw [hxp]
  gi_wp2
  have hszW := unhide HSZ
  have hfin : RowIs (X.setCell ⟨W.heap.size, y, none⟩ (.int .i64 (z + 1))) W.heap.size 181 (ndL (ndOf ((pre ++ [x]).map (·.1)))) := by
   have := (unhide HI).set y (.int .i64 (z + 1))
   rw [unhide HSET] at this
   rw [List.map_append]; exact this
  have hle0 : w.heap.size ≤ W.heap.size := by omega
  have hne0 : w.heap.size ≠ W.heap.size := by omega
  exact ⟨KeepsOthers.setCell _ _ _, (Below.refl w.heap.size X).setCell (p := ⟨W.heap.size, y, none⟩) hle0 _, hfin, (Below.heap_setCell _ _ _ _ hne0).trans hr, hB.setCell (p := ⟨W.heap.size, y, none⟩) hle0 _⟩
 case done =>
  rintro D ys X hD rfl ⟨hi, hr, hB⟩ hK
  show K0 _ _
  refine hK0 _ _ ?_
  gi_step
  refine wpIn_wide.2 (wp_region_lit ?_)
  rw [hat] at hi
  refine wpList_load_row rfl 181 _ rfl W.heap.size rfl 181 _ (0, 0) _ hi und181 rfl ?_ ?_
  ·rw [size181]; simp [ndL_length]
  refine wpList_store_row rfl 181 _ _ rfl w.heap.size (ndL (ndOf es)).toArray rfl rfl 181 _ hr ?_ ?_ (all_oneCell_toArray (ndL_one _)) ?_
  ·rw [size181]; simp [ndL_length]
  ·simp [ndL_length]
  refine wpList_nil ?_
  have hfin : RowIs (X.setRow w.heap.size (ndL (ndOf es)).toArray) w.heap.size 181 (ndL (ndOf es)) := setRow_heap X _ _ _ 181 _ hr
  have hb5 : Below w.heap.size w (X.setRow w.heap.size (ndL (ndOf es)).toArray) := hB.trans ⟨rfl, rfl, rfl, by simp, fun j hj => setRow_other X _ j _ (by omega)⟩
  have hK5 : (X.setRow w.heap.size (ndL (ndOf es)).toArray).heap[D]? = some (.deferred (some [])) := (setRow_other X _ D _ (by omega)).trans hK
  obtain ⟨X5, hX5⟩ : ∃ Y, Y = X.setRow w.heap.size (ndL (ndOf es)).toArray := ⟨_, rfl⟩
  rw [← hX5] at hfin hb5 hK5 ⊢
  clear hX5 hi hr hB hK hszW
  gi_wp2
  have hszW := unhide HSZ
  refine ⟨by simp, .inl ⟨_, _, rfl, run_takeDeferred hK5, ?_⟩⟩
  have hbK := belowK_b (w := w) (Nat.le_refl _) X5 D _ (.deferred none) (by omega) hK5 rfl rfl
  refine ⟨_, results_cell_row rfl _ _ w.heap.size 181 _ (0, 0) _ rfl ?_ und181 rfl ?_, rfl, hb5.trans hbK⟩
  ·exact ((belowK_b (w := W) (Nat.le_refl _) X5 D _ (.deferred none) (by omega) hK5 rfl rfl).block w.heap.size (by omega)).trans hfin
  ·rw [size181]; simp [ndL_length]
 case stop =>
  rintro D c pre X _ _ h _
  exact h.elim
theorem index181 (w : World) (L : List Value) (k : Nat) (z : Int) (hk : k < 96) (hc : L[k]? = some (.int .i64 z)) : (Instr.index 181 (.agg L.toArray) (.int .i64 k)).run Tryz.prog w = .ok (.int .i64 z) w := by
 have h1 : (k : Int) < 96 := by omega
 simp [Instr.index, run_underlying und181, go_sem]
 rw [if_pos hk, hc]
 rfl
def freeN (f : Nat → Int) : Nat → Nat
 | 0 => 0
 | k + 1 => freeN f k + if f k = 0 then 16 else 0
theorem freeN_le (f : Nat → Int) : ∀ k, freeN f k ≤ 16 * k
 | 0 => by simp [freeN]
 | k + 1 => by have := freeN_le f k; unfold freeN; split <;> omega
theorem free_st_code (w : World) (sb so : Nat) (v : Value) (es : List (Int × Int)) (hc : w.cell? ⟨sb, so, none⟩ = some v) (hS : Sl w 350 2 v es.length (cellsR es)) (hok : PlacesOk es) :
  Calls Tryz.prog 132 #[.pointer (some ⟨sb, so, none⟩)] w fun e w' => e = .returned (.int .i64 (freeN (ndOf es) 96 : Nat)) ∧ Below w.heap.size w w' := by
 have hnd := needed_code w sb so v es hc hS hok
 have hble : ∀ j, ndOf es j ≤ 10002 ∧ 0 ≤ ndOf es j := fun j => ⟨by have := ndOf_le es j; have := hok.1; omega, ndOf_nonneg es j⟩
 obtain ⟨f, hf⟩ : ∃ f, f = ndOf es := ⟨_, rfl⟩
 rw [← hf] at hnd hble ⊢
 clear hf hc hS hok
 have HL : Hid (∀ j, j < 96 → (ndL f)[j]? = some (.int .i64 (f j))) := fun j hj => ndL_at f j hj
 have HLL : Hid ((ndL f).length = 96) := ndL_length f
 obtain ⟨L, hL⟩ : ∃ L, L = ndL f := ⟨_, rfl⟩
 rw [← hL] at hnd HL HLL
 clear hL
 have HND := hide hnd
 clear hnd
 go_enter Tryz.func132, Tryz.ntmps132
 go_wp2_with (go_at_call 198; refine (unhide HND).mono ?_; rintro e w1 ⟨rfl, hb1⟩)
 go_loop [3, 8] (fun x i => ∃ (k y : Nat), k ≤ 96 ∧ i = .int .i64 k ∧ x = .int .i64 y ∧ Hid (y = freeN f k)) (fun _ i => 96 - (intOf i).toNat)
 case atStart => exact ⟨0, 0, Nat.zero_le _, rfl, rfl, rfl⟩
 case round =>
  obtain ⟨k, y, hk, rfl, rfl, hy⟩ := hrel
  have hyle : y ≤ 1536 := by have := freeN_le f k; rw [← unhide hy] at this; omega
  by_cases hlt : k < 96
  ·have hcell := unhide HL k hlt
   have hlen := unhide HLL
   have hki : (k : Int) < 96 := by omega
   obtain ⟨z, hz⟩ : ∃ z, z = f k := ⟨_, rfl⟩
   rw [← hz] at hcell
   have hidx := index181 w1 L k z hlt hcell
   have hstep : Hid (freeN f (k + 1) = freeN f k + if z = 0 then 16 else 0) := by show _ = _; rw [hz]; rfl
   clear hz
   by_cases h0 : z = 0
   ·subst h0
    go_wp2
    go_round
    case rel => exact ⟨k + 1, y + 16, by omega, by go_num, by go_num, by show _ = _; rw [unhide hstep, ← unhide hy]; simp⟩
    case measure => simp [intOf]; omega
   ·have hz0 : (z == 0) = false := by rw [beq_eq_false_iff_ne]; exact h0
    go_wp2
    go_round
    case rel => exact ⟨k + 1, y, by omega, by go_num, by go_num, by show _ = _; rw [unhide hstep, ← unhide hy]; simp [h0]⟩
    case measure => simp [intOf]; omega
  ·obtain rfl : k = 96 := by omega
   go_wp2
   go_ret
   exact ⟨by rw [← unhide hy] <;> rfl, hb1⟩
end Go.Proofs.YtaieidcohdhgpaaGreatDoor
