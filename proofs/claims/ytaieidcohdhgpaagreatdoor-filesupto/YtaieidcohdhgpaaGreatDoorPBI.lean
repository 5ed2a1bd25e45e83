/- Files. -/
import Derived.Test.YtaieidcohdhgpaaGreatDoorPBH
namespace Go.Proofs.YtaieidcohdhgpaaGreatDoor
open Go.RowKit
set_option maxHeartbeats 8000000
set_option maxRecDepth 100000
theorem fill_step {place : Nat → Option (Nat × Nat)} {cells : List Value} {i off size : Nat} {v : Value} {rest : List (Nat × Value)} (hp : place i = some (off, size)) (hs : v.cells.size = size) (hfit : off + size ≤ cells.length) :
  Instr.fill place cells.toArray ((i, v) :: rest) = Instr.fill place (spl cells off v.cells.toList).toArray rest := by
 rw [Instr.fill, hp]
 simp only
 rw [if_neg (by simp only [hs, List.size_toArray, ne_eq, not_true_eq_false, decide_false, Bool.false_or, decide_eq_true_eq]; omega), foldset off v.cells cells.toArray (by rw [hs]; simpa using hfit)]
def planG (a b : Value) (m t : List Value) : List Value := [a, b] ++ m ++ t
theorem planG_len (a b : Value) (m t : List Value) (hm : m.length = 96) (ht : t.length = 6) : (planG a b m t).length = 104 := by simp [planG, hm, ht]
theorem planG_0 (a b x : Value) (m t : List Value) : spl (planG a b m t) 0 [x] = planG x b m t := by simp [spl, planG]
theorem planG_1 (a b x : Value) (m t : List Value) : spl (planG a b m t) 1 [x] = planG a x m t := by simp [spl, planG]
theorem planG_2 (a b : Value) (m m' t : List Value) (h : m'.length = m.length) : spl (planG a b m t) 2 m' = planG a b m' t := by
 have e1 : (planG a b m t).take 2 = [a, b] := by simp [planG]
 have e2 : (planG a b m t).drop (2 + m'.length) = t := by rw [h]; unfold planG; exact List.drop_left' (by simp; omega)
 unfold spl
 rw [e1, e2]; rfl
theorem planG_t (a b x : Value) (m t : List Value) (hm : m.length = 96) (j : Nat) : spl (planG a b m t) (98 + j) [x] = planG a b m (spl t j [x]) := by
 unfold spl planG
 have h1 : ([a, b] ++ m).length = 98 := by simp [hm]
 rw [show 98 + j = ([a, b] ++ m).length + j by rw [h1], List.take_length_add_append, Nat.add_assoc, List.drop_length_add_append]
 simp [List.append_assoc]
def planT : List Value := [.bool false, .int .i64 0, .slice none 0 0, .int .i64 0, .int .u64 0, .slice none 0 0]
theorem built184_fill (parts : List (Nat × Value)) : Tryz.prog.built 184 parts = Instr.fill (#[(0, 1), (1, 1), (2, 96), (98, 1), (99, 1), (100, 3), (103, 1)][·]?) (planG (.pointer none) (.pointer none) (List.replicate 96 (.int .i64 0)) planT).toArray parts := by kernel_rfl
theorem built184 (db sb so : Nat) (nd : Nat → Int) (cl : Bool) (hd : Nat) : Tryz.prog.built 184 [(0, .pointer (some ⟨db, 0, none⟩)), (1, .pointer (some ⟨sb, so, none⟩)), (2, .agg (ndL nd).toArray), (3, .bool cl), (4, .int .i64 (hd : Nat))] = some (planL db sb so nd cl hd (.slice none 0 0) 0 0 (.slice none 0 0)).toArray := by
 have hr : (List.replicate 96 (Value.int .i64 0)).length = 96 := List.length_replicate
 rw [built184_fill, fill_step (off := 0) (size := 1) rfl rfl (by rw [planG_len _ _ _ _ hr rfl]; decide)]
 rw [show (Value.pointer (some ⟨db, 0, none⟩)).cells.toList = [.pointer (some ⟨db, 0, none⟩)] from rfl, planG_0]
 rw [fill_step (off := 1) (size := 1) rfl rfl (by rw [planG_len _ _ _ _ hr rfl]; decide)]
 rw [show (Value.pointer (some ⟨sb, so, none⟩)).cells.toList = [.pointer (some ⟨sb, so, none⟩)] from rfl, planG_1]
 rw [fill_step (off := 2) (size := 96) rfl (by show (ndL nd).toArray.size = 96; simp [ndL_length]) (by rw [planG_len _ _ _ _ hr rfl]; decide)]
 rw [show (Value.agg (ndL nd).toArray).cells.toList = ndL nd from rfl, planG_2 _ _ _ _ _ (by rw [ndL_length, hr])]
 rw [fill_step (off := 98) (size := 1) rfl rfl (by rw [planG_len _ _ _ _ (ndL_length nd) rfl]; decide)]
 rw [show (Value.bool cl).cells.toList = [.bool cl] from rfl, planG_t _ _ _ _ _ (ndL_length nd) 0]
 rw [fill_step (off := 99) (size := 1) rfl rfl (by rw [planG_len _ _ _ _ (ndL_length nd) rfl]; decide)]
 rw [show (Value.int .i64 (hd : Nat)).cells.toList = [.int .i64 (hd : Nat)] from rfl, planG_t _ _ _ _ _ (ndL_length nd) 1]
 rfl
theorem exec_build {P : Program} {o : Oper} {a : Act} (X : World) (t : TypeId) (parts : Array (Nat × Operand)) (ho : o.op = .build t parts) {vs : Array (Nat × Value)} (hv : (parts.map fun (i, x) => (i, a.eval x)) = vs) {cs : Array Value} (hb : P.built t vs.toList = some cs) : (execOp a.eval o).run P X = .ok (.value (.agg cs)) X := by
 unfold execOp
 simp only [ho, Sem.run_bind, hv]
 rw [run_build X t vs cs hb]
 rfl
theorem step_box {P : Program} {ops : Array Oper} {o : Oper} {a : Act} {w : World} {K : Act → World → Prop} {Q : Exit → Act → World → Prop} {E : Prop} (hgd : o.guard = none) (t : TypeId) (x : Operand) (ho : o.op = .box t x) (cs : List Value) (hx : a.eval x = .agg cs.toArray)
  (h : K (a.put o.dst (.pointer (some ⟨w.heap.size, 0, none⟩))) (w.alloc (.cells cs.toArray t))) : if Region.wanted o (yielded ops a.tmps) = true then Oper.wp P o a w K Q else E := by
 have hw : Region.wanted o (yielded ops a.tmps) = true := by simp [Region.wanted, hgd]
 rw [if_pos hw]
 unfold Oper.wp execOp
 simp only [ho, Instr.box, Sem.run_bind, hx]
 simp [newVar, newRow, go_sem, Value.cells]
 exact h
def NewPlan0Post (w : World) (db sb so : Nat) (cl : Bool) (p : Nat) (e : Ending) (w' : World) : Prop :=
 ∃ pb va vp, e = .returned (.pointer (some ⟨pb, 0, none⟩)) ∧ w.heap.size ≤ pb ∧ PlanW w' pb db sb so (ndOf []) cl (p + 1) va [(((roleN 3 0 0 : Nat) : Int), (p : Int))] (p : Nat) (fnvN tab0 : Nat) vp [(p, tab0)] ∧ Below w.heap.size w w' ∧ (∀ g, Own va g → w.heap.size ≤ g) ∧ (∀ g, Own vp g → w.heap.size ≤ g)
theorem newPlan_empty (w : World) (db sb so tb rb tp : Nat) (vi : Value) (cl : Bool) (htp : tp < 1536) (hcb : w.cell? ⟨sb, so, none⟩ = some (.slice none 0 0)) (htc : w.cell? ⟨sb, so + 1, none⟩ = some (.int .i64 (tp : Nat))) (ht : RowIs w tb 214 [.pointer (some ⟨rb, 0, none⟩), vi]) (hr : RowIs w rb 229 [.slice none 0 0]) :
  Calls Tryz.prog 131 #[.pointer (some ⟨db, 0, none⟩), .pointer (some ⟨sb, so, none⟩), .pointer (some ⟨tb, 0, none⟩), .bool cl] w (NewPlan0Post w db sb so cl (skipP (ndOf []) 96 (tp + 1) % 1536)) := by
 have hsb : sb < w.heap.size := World.block_lt_of_cell? _ _ hcb
 have HND := hide (needed_code w.drew sb so (.slice none 0 0) [] hcb ⟨rfl, .inl ⟨rfl, rfl⟩⟩ ⟨by simp, fun j k x y _ hx => by simp at hx, fun x hx => by cases hx⟩)
 have hz : ∃ k, k < 96 ∧ ndOf [] (((tp + 1) / 16 + k) % 96) ≤ 0 := by
  refine ⟨(1 + (96 - (tp + 1) / 16 % 96)) % 96, by omega, ?_⟩
  rw [show ((tp + 1) / 16 + (1 + (96 - (tp + 1) / 16 % 96)) % 96) % 96 = 1 by omega, ndOf_nil]
  decide
 have HK : Hid (∀ X, Below w.heap.size w X → ∃ Y, X.alloc (.cells (planL db sb so (ndOf []) cl (tp + 1) (.slice none 0 0) 0 0 (.slice none 0 0)).toArray 184) = Y ∧ Y.cell? ⟨sb, so + 1, none⟩ = some (.int .i64 (tp : Nat)) ∧ Hid (Calls Tryz.prog 199 #[.pointer (some ⟨X.heap.size, 0, none⟩), .pointer (some ⟨tb, 0, none⟩)] Y fun e w' => e = .returned (.tuple #[]) ∧ Hid (NewPlan0Post w db sb so cl (skipP (ndOf []) 96 (tp + 1) % 1536) (.returned (.pointer (some ⟨X.heap.size, 0, none⟩))) w'))) := fun X hX => by
  obtain ⟨Y, eY, xY, kY, sY, bY⟩ := alloc_name X (planL db sb so (ndOf []) cl (tp + 1) (.slice none 0 0) 0 0 (.slice none 0 0)) 184
  have hXs := hX.size
  have hwY : Below w.heap.size w Y := hX.trans (bY.mono hXs)
  have hP : PlanW Y X.heap.size db sb so (ndOf []) cl (tp + 1) (.slice none 0 0) [] 0 0 (.slice none 0 0) [] := ⟨xY, ⟨rfl, .inl ⟨rfl, rfl⟩⟩, SlP.nil _, fun e => by simp [Own, Value.ownBlock] at e, fun e => by simp [Own, Value.ownBlock] at e, fun k e => by simp [Own, Value.ownBlock] at e⟩
  refine ⟨Y, eY, (hwY.cell (p := ⟨sb, so + 1, none⟩) hsb).trans htc, ?_⟩
  refine (keep_empty Y X.heap.size db sb so tb rb (ndOf []) cl (tp + 1) vi hP ((hwY.block _ ht.lt).trans ht) ((hwY.block _ hr.lt).trans hr) ((hwY.cell (p := ⟨sb, so, none⟩) hsb).trans hcb) (by omega) hz (by omega)).mono ?_
  rintro e w' ⟨rfl, va, vp, q1, q2, q3, q4⟩
  refine ⟨rfl, X.heap.size, va, vp, rfl, hXs, q1, ?_, fun g hg => by have := q3 g hg; omega, fun g hg => by have := q4 g hg; omega⟩
  exact ⟨q2.os.trans hwY.os, q2.tape.trans hwY.tape, q2.output.trans hwY.output, Nat.le_trans hwY.size q2.size, fun k hk => (q2.block k (by have := hwY.size; omega) (by omega)).trans (hwY.block k hk)⟩
 have HBLT := hide (built184 db sb so (ndOf []) cl (tp + 1))
 obtain ⟨V13, hV13⟩ : ∃ V, V = Value.agg (ndL (ndOf [])).toArray := ⟨_, rfl⟩
 obtain ⟨LP, hLP⟩ : ∃ L, L = planL db sb so (ndOf []) cl (tp + 1) (.slice none 0 0) 0 0 (.slice none 0 0) := ⟨_, rfl⟩
 obtain ⟨VP, hVP⟩ : ∃ V, V = Value.agg LP.toArray := ⟨_, rfl⟩
 rw [← hV13, ← hLP] at HBLT
 rw [← hV13] at HND
 rw [← hLP] at HK
 have HVP := hide hVP
 clear hV13 hLP hVP
 have HC : Hid (∀ X, Below w.heap.size w X → X.cell? ⟨sb, so + 1, none⟩ = some (.int .i64 (tp : Nat))) := fun X hX => (hX.cell (p := ⟨sb, so + 1, none⟩) hsb).trans htc
 clear hcb ht hr hz
 go_enter Tryz.func131, Tryz.ntmps131
 go_upto_region 1 with fail
 refine wp_region_held_drew (S := fun X => X.cell? ⟨sb, so + 1, none⟩ = some (.int .i64 (tp : Nat))) (by kernel_rfl) htc (fun hHeld => ?_)
 refine wpAnyH_take (i := 0) (v := ?_) rfl (by kernel_rfl) (by kernel_rfl) (by kernel_rfl) (fun _ _ _ h => h) (Or.inl ⟨by rfl, ?_⟩) (by assumption) ?_
 rotate_left
 ·intro w hSw; (try dsimp only at hSw); go_simp <;> with_reducible rfl
 (try simp only [pE])
 refine wpAnyH_take (i := 1) (v := ?_) rfl (by kernel_rfl) (by kernel_rfl) (by kernel_rfl) (fun _ _ _ h => h) (Or.inl ⟨by rfl, ?_⟩) (by assumption) ?_
 rotate_left
 ·intro w hSw; (try dsimp only at hSw); go_simp <;> with_reducible rfl
 (try simp only [pE])
 refine wpAnyH_take (i := 2) (v := ?_) rfl (by kernel_rfl) (by kernel_rfl) (by kernel_rfl) (fun _ _ _ h => h) (Or.inl ⟨by rfl, ?_⟩) (by assumption) ?_
 rotate_left
 ·intro w hSw; (try dsimp only at hSw); go_simp <;> with_reducible rfl
 (try simp only [pE])
 refine wpAnyH_take (i := 4) (v := ?_) rfl (by kernel_rfl) (by kernel_rfl) (by kernel_rfl) (fun _ _ _ h => h) (Or.inl ⟨by rfl, ?_⟩) (by assumption) ?_
 rotate_left
 ·intro w hSw; (try dsimp only at hSw); go_simp <;> with_reducible rfl
 (try simp only [pE])
 refine wpAnyH_take (i := 5) (v := ?_) rfl (by kernel_rfl) (by kernel_rfl) (by kernel_rfl) (fun _ _ _ h => h) (Or.inl ⟨by rfl, ?_⟩) (by assumption) ?_
 rotate_left
 ·intro w hSw; (try dsimp only at hSw); go_simp <;> with_reducible rfl
 (try simp only [pE])
 refine wpAnyH_take (i := 6) (v := ?_) rfl (by kernel_rfl) (by kernel_rfl) (by kernel_rfl) (fun _ _ _ h => h) (Or.inl ⟨by rfl, ?_⟩) (by assumption) ?_
 rotate_left
 ·intro w hSw; (try dsimp only at hSw); go_simp <;> with_reducible rfl
 (try simp only [pE])
 refine wpAnyH_take (i := 7) (v := ?_) rfl (by kernel_rfl) (by kernel_rfl) (by kernel_rfl) (fun _ _ _ h => h) (Or.inl ⟨by rfl, ?_⟩) (by assumption) ?_
 rotate_left
 ·intro w hSw; (try dsimp only at hSw); go_simp <;> with_reducible rfl
 (try simp only [pE])
 refine wpAnyH_take (i := 8) (v := ?_) rfl (by kernel_rfl) (by kernel_rfl) (by kernel_rfl) (fun _ _ _ h => h) (Or.inl ⟨by rfl, ?_⟩) (by assumption) ?_
 rotate_left
 ·intro w hSw; (try dsimp only at hSw); go_simp <;> with_reducible rfl
 (try simp only [pE])
 refine wpAnyH_take (i := 9) (v := ?_) rfl (by kernel_rfl) (by kernel_rfl) (by kernel_rfl) (fun _ _ _ h => h) (Or.inl ⟨by rfl, ?_⟩) (by assumption) ?_
 rotate_left
 ·intro w hSw; (try dsimp only at hSw); go_simp <;> with_reducible rfl
 (try simp only [pE])
 refine wpAnyH_take (i := 10) (v := .int .i64 ((tp + 1 : Nat) : Int)) rfl (by kernel_rfl) (by kernel_rfl) (by kernel_rfl) (fun _ _ _ h => h) (Or.inl ⟨by rfl, ?_⟩) (by assumption) ?_
 ·intro w hSw; (try dsimp only at hSw); go_simp
  rw [IntKind.wrap_i64]; omega
 (try simp only [pE])
 refine wpAnyH_ready (rs := [3]) (by kernel_rfl) (by simp) ?_
 refine AllReadyH.cons (i := 3) rfl ?_ AllReadyH.nil
 intro K hK
 go_simp
 go_at_call 198
 refine (unhide HND).mono ?_
 rintro e X ⟨rfl, hbX⟩
 have hwX : Below w.heap.size w X := ⟨hbX.os, hbX.tape, hbX.output, hbX.size, hbX.block⟩
 have hcX := unhide HC X hwX
 obtain ⟨Y, eY, cY, HKY⟩ := unhide HK X hwX
 have HEY := hide eY
 clear hbX hwX eY
 go_wp2_with fail
 refine hK.out _ _ hcX (fun hH3 => ?_)
 clear hK K
 (try simp only [pE])
 refine wpAnyH_take (i := 11) (v := VP) rfl (by kernel_rfl) (by kernel_rfl) (by kernel_rfl) (fun _ _ _ h => h) (Or.inl ⟨by rfl, fun V _ => ?_⟩) (by assumption) ?_
 ·rw [unhide HVP]; exact exec_build V 184 _ rfl (vs := #[(0, .pointer (some ⟨db, 0, none⟩)), (1, .pointer (some ⟨sb, so, none⟩)), (2, V13), (3, .bool cl), (4, .int .i64 ((tp + 1 : Nat) : Int))]) (by simp [Act.eval]) (unhide HBLT)
 (try simp only [pE])
 refine wpAnyH_ready (rs := [12]) (by kernel_rfl) (by simp) ?_
 refine AllReadyH.cons (i := 12) rfl ?_ AllReadyH.nil
 intro K hK
 refine step_box rfl 184 _ rfl LP (unhide HVP) ?_
 rw [unhide HEY]
 refine hK.out _ _ cY (fun hH12 => ?_)
 clear hK K
 (try simp only [pE])
 refine wpAnyH_take (i := 13) (v := ?_) rfl (by kernel_rfl) (by kernel_rfl) (by kernel_rfl) (fun _ _ _ h => h) (Or.inl ⟨by rfl, ?_⟩) (by assumption) ?_
 rotate_left
 ·intro w hSw; (try dsimp only at hSw); go_simp <;> with_reducible rfl
 (try simp only [pE])
 refine wpAnyH_done (by kernel_rfl) ?_ _
 go_wp2_with (go_at_call 199; refine (unhide HKY).mono ?_; rintro e w' ⟨rfl, HP⟩)
 go_ret
 exact unhide HP
set_option maxHeartbeats 2000000
theorem place0 : skipP (ndOf []) 96 16 % 1536 = 16 := by
 have h : ¬ (16 % 16 = 0 ∧ 0 < ndOf [] (16 / 16 % 96)) := by rw [ndOf_nil]; decide
 rw [skipP_stay h]
theorem free0 : freeN (ndOf [(((roleN 3 0 0 : Nat) : Int), ((16 : Nat) : Int))]) 96 = 1504 := by
 have e : ∀ k, freeN (ndOf [(((roleN 3 0 0 : Nat) : Int), ((16 : Nat) : Int))]) k = freeN (fun j => if j = 0 then 2 else if j = 1 then 1 else 0) k := fun k => by
  induction k with
  | zero => rfl
  | succ k ih =>
   unfold freeN
   rw [ih]
   congr 1
   have h1 : ndOf [(((roleN 3 0 0 : Nat) : Int), ((16 : Nat) : Int))] k = if k = 0 then 2 else if k = 1 then 1 else 0 := by
    have := ndOf_snoc [] (((roleN 3 0 0 : Nat) : Int), ((16 : Nat) : Int)) k
    rw [List.nil_append, ndOf_nil] at this
    rw [this]
    by_cases h0 : k = 0
    ·subst h0; decide
    ·by_cases h2 : k = 1
     ·subst h2; decide
     ·have h3 : ¬ ((16 : Nat) : Int).toNat / 16 = k := by rw [Int.toNat_natCast]; omega
      rw [if_neg h0, if_neg h3, if_neg h0, if_neg h2]; rfl
   rw [h1]
 rw [e 96]
 decide
theorem placesOk0 : PlacesOk [(((roleN 3 0 0 : Nat) : Int), ((16 : Nat) : Int))] := ⟨by simp, fun j k x y hjk hx hy => by
 have := (List.getElem?_eq_some_iff.1 hy).1
 simp at this
 omega, fun x hx => ⟨16, by rw [List.mem_singleton.1 hx], by omega⟩⟩
structure StW (w : World) (stb db : Nat) (vk : Value) (tp tx tn : Int) (vf vn vw ve : Value) (D : List ByteArray) (ps : List (Nat × ByteArray)) (es : List Int) : Prop where
 row : RowIs w stb 179 [.pointer (some ⟨db, 0, none⟩), vk, .int .i64 tp, .int .u64 tx, .int .u64 tn]
 disk : DiskW w db vf vn vw ve D
 sw : SlP w vw ps
 se : Sl w 3 1 ve es.length (es.map (.int .i64))
 ne : stb ≠ db
 ns : ¬ Own vn stb ∧ ¬ Own vw stb ∧ ¬ Own ve stb
 nd : ¬ Own vn db ∧ ¬ Own vw db ∧ ¬ Own ve db
 d1 : ∀ k, Own vn k → ¬ Own vw k
 d2 : ∀ k, Own vn k → ¬ Own ve k
 d3 : ∀ k, Own vw k → ¬ Own ve k
theorem StW.below {w w' : World} {stb db : Nat} {vk : Value} {tp tx tn : Int} {vf vn vw ve : Value} {D : List ByteArray} {ps : List (Nat × ByteArray)} {es : List Int} (h : StW w stb db vk tp tx tn vf vn vw ve D ps es) (hb : Below w.heap.size w w') : StW w' stb db vk tp tx tn vf vn vw ve D ps es :=
 ⟨(hb.block _ h.row.lt).trans h.row, ⟨(hb.block _ h.disk.1.lt).trans h.disk.1, ⟨h.disk.2.1.1.kept (fun k hk _ => hb.block k hk), h.disk.2.1.2⟩, h.disk.2.2⟩, Sl.kept h.sw (fun k hk _ => hb.block k hk), h.se.kept (fun k hk _ => hb.block k hk), h.ne, h.ns, h.nd, h.d1, h.d2, h.d3⟩
theorem StW.write {w w' : World} {stb db : Nat} {vk : Value} {tp tx tn : Int} {vf vn vw ve : Value} {D : List ByteArray} {ps : List (Nat × ByteArray)} {es : List Int} (h : StW w stb db vk tp tx tn vf vn vw ve D ps es) {p : Nat} {s : ByteArray} {e : Ending} (hw : WritePost w db vf vn vw ve D ps p s e w') :
  ∃ vw', StW w' stb db vk tp tx tn vf vn vw' ve (D.set p s) (ps ++ [(p, s)]) es ∧ NewOr w vw vw' ∧ Fr (fun k => k = db ∨ Own vn k ∨ Own vw k) w w' := by
 obtain ⟨_, vw', h1, h2, h3, h4⟩ := hw
 have old : ∀ k, k < w.heap.size → Own vw' k → Own vw k := fun k hk e => (h4 k e).elim id (fun h' => by omega)
 have hst := h.row.lt
 have hdb := h.disk.1.lt
 refine ⟨vw', ⟨h.row.fr h3 (fun e => ?_), h1, h2, h.se.fr h3 (fun g hg e => ?_), h.ne, ⟨h.ns.1, fun e => h.ns.2.1 (old _ hst e), h.ns.2.2⟩, ⟨h.nd.1, fun e => h.nd.2.1 (old _ hdb e), h.nd.2.2⟩, fun k hk e => h.d1 k hk (old k (h.disk.2.1.1.lt hk) e), h.d2, fun k hk e => h.d3 k (old k (h.se.lt e) hk) e⟩, h4, h3⟩
 ·rcases e with e | e | e
  ·exact h.ne e
  ·exact h.ns.1 e
  ·exact h.ns.2.1 e
 ·rcases e with e | e | e
  ·subst e; exact h.nd.2.2 hg
  ·exact h.d2 _ e hg
  ·exact h.d3 _ e hg
theorem StW.flush {w w' : World} {stb db : Nat} {vk : Value} {tp tx tn : Int} {vf vn vw ve : Value} {D : List ByteArray} {ps : List (Nat × ByteArray)} {es : List Int} (h : StW w stb db vk tp tx tn vf vn vw ve D ps es) {m : Int} {e : Ending} (hw : FlushPost w db vf vn vw ve es m e w') :
  ∃ ve', StW w' stb db vk tp tx tn vf vn vw ve' D ps (es ++ [m]) ∧ NewOr w ve ve' ∧ Fr (fun k => k = db ∨ Own ve k) w w' := by
 obtain ⟨_, ve', h1, h2, h3, h4⟩ := hw
 have old : ∀ k, k < w.heap.size → Own ve' k → Own ve k := fun k hk e => (h4 k e).elim id (fun h' => by omega)
 have hst := h.row.lt
 have hdb := h.disk.1.lt
 refine ⟨ve', ⟨h.row.fr h3 (fun e => ?_), ⟨h1, ⟨h.disk.2.1.1.fr h3 (fun g hg e => ?_), h.disk.2.1.2⟩, h.disk.2.2⟩, Sl.fr h.sw h3 (fun g hg e => ?_), by rw [List.length_append]; exact h2, h.ne, ⟨h.ns.1, h.ns.2.1, fun e => h.ns.2.2 (old _ hst e)⟩, ⟨h.nd.1, h.nd.2.1, fun e => h.nd.2.2 (old _ hdb e)⟩, h.d1, fun k hk e => h.d2 k hk (old k (h.disk.2.1.1.lt hk) e), fun k hk e => h.d3 k hk (old k (Sl.lt h.sw hk) e)⟩, h4, h3⟩
 ·rcases e with e | e
  ·exact h.ne e
  ·exact h.ns.2.2 e
 ·rcases e with e | e
  ·subst e; exact h.nd.1 hg
  ·exact h.d2 _ hg e
 ·rcases e with e | e
  ·subst e; exact h.nd.2.1 hg
  ·exact h.d3 _ hg e
set_option maxHeartbeats 4000000
theorem Sl.len {w : World} {e : TypeId} {sz : Nat} {a : Option Addr} {l c n : Nat} {xs : List Value} (h : Sl w e sz (.slice a l c) n xs) : l = n := by
 rcases h.2 with ⟨e, rfl⟩ | ⟨g, cap, L, e, _⟩
 ·simp only [Value.slice.injEq] at e; exact e.2.1
 ·simp only [Value.slice.injEq] at e; exact e.2.1
theorem cellsP_at : ∀ {ps : List (Nat × ByteArray)}, (∀ x ∈ ps, x.2.size = 64) → ∀ (i j : Nat) (x : Nat × ByteArray), ps[i]? = some x → j < 65 → (cellsP ps)[i * 65 + j]? = (pcL x.1 x.2)[j]?
 | [], _, i, j, s, hi, _ => by simp at hi
 | x :: D, h, 0, j, s, hi, hj => by
  simp at hi; subst hi
  have h2 := h x List.mem_cons_self
  unfold cellsP
  rw [List.flatMap_cons, Nat.zero_mul, Nat.zero_add, List.getElem?_append_left (by rw [pcL_length]; omega)]
 | x :: D, h, i + 1, j, s, hi, hj => by
  have h2 := h x List.mem_cons_self
  have := cellsP_at (ps := D) (fun y hy => h y (List.mem_cons_of_mem _ hy)) i j s (by simpa using hi) hj
  unfold cellsP at this ⊢
  rw [List.flatMap_cons, List.getElem?_append_right (by rw [pcL_length]; omega), pcL_length, ← this]
  congr 1; omega
theorem SlP.range {w : World} {a : Option Addr} {l c : Nat} {ps : List (Nat × ByteArray)} (h : SlP w (.slice a l c) ps) (hs : ∀ x ∈ ps, x.2.size = 64) (i : Nat) (x : Nat × ByteArray) (hi : ps[i]? = some x) : ∃ g, a = some ⟨g, 0, none⟩ ∧ l = ps.length ∧ w.rangeAt g (i * 65) (pcL x.1 x.2) := by
 have hil := (List.getElem?_eq_some_iff.1 hi).1
 rcases h.2 with ⟨e, h0⟩ | ⟨g, cap, L, e, hR, h1, h2, h3, h4⟩
 ·omega
 ·simp only [Value.slice.injEq] at e
  obtain ⟨rfl, rfl, rfl⟩ := e
  refine ⟨g, rfl, rfl, fun j v hv => ?_⟩
  have hss := hs x (List.mem_of_getElem? hi)
  have hj : j < 65 := by have := (List.getElem?_eq_some_iff.1 hv).1; rw [pcL_length] at this; omega
  have := cellsP_at hs i j x hi hj
  rw [hv, ← h4, List.getElem?_take] at this
  split at this
  ·rw [hR.cell]; exact this
  ·cases this
def wrAll (D : List ByteArray) (qs : List (Nat × ByteArray)) : List ByteArray := qs.foldl (fun D x => D.set x.1 x.2) D
theorem wrAll_snoc (D : List ByteArray) (qs : List (Nat × ByteArray)) (p : Nat) (s : ByteArray) : wrAll D (qs ++ [(p, s)]) = (wrAll D qs).set p s := by simp [wrAll]
theorem StW.head {w w' : World} {stb db : Nat} {vk : Value} {tp tx tn : Int} {vf vn vw ve : Value} {D : List ByteArray} {ps : List (Nat × ByteArray)} {es : List Int} (h : StW w stb db vk tp tx tn vf vn vw ve D ps es) (hf : Fr (fun k => k = stb) w w') {vk' : Value} {tp' tx' tn' : Int} (hr : RowIs w' stb 179 [.pointer (some ⟨db, 0, none⟩), vk', .int .i64 tp', .int .u64 tx', .int .u64 tn']) : StW w' stb db vk' tp' tx' tn' vf vn vw ve D ps es :=
 ⟨hr, ⟨h.disk.1.fr hf (fun e => h.ne e.symm), ⟨h.disk.2.1.1.fr hf (fun g hg e => h.ns.1 (by rw [← e]; exact hg)), h.disk.2.1.2⟩, h.disk.2.2⟩, Sl.fr h.sw hf (fun g hg e => h.ns.2.1 (by rw [← e]; exact hg)), h.se.fr hf (fun g hg e => h.ns.2.2 (by rw [← e]; exact hg)), h.ne, h.ns, h.nd, h.d1, h.d2, h.d3⟩
def CarI (w : World) (stb db : Nat) (vk : Value) (tp tx tn : Int) (vf vn vw ve : Value) (D : List ByteArray) (ps : List (Nat × ByteArray)) (es : List Int) (qs : List (Nat × ByteArray)) (wr : World) : Prop :=
 ∃ vw', StW wr stb db vk tp tx tn vf vn vw' ve (wrAll D qs) (ps ++ qs) es ∧ NewOr w vw vw' ∧ Fr (fun k => k = db ∨ Own vn k ∨ Own vw k) w wr
theorem CarI.start {w : World} {stb db : Nat} {vk : Value} {tp tx tn : Int} {vf vn vw ve : Value} {D : List ByteArray} {ps : List (Nat × ByteArray)} {es : List Int} (h : StW w stb db vk tp tx tn vf vn vw ve D ps es) : CarI w stb db vk tp tx tn vf vn vw ve D ps es [] w :=
 ⟨vw, by rw [List.append_nil]; exact h, fun g hg => .inl hg, Fr.refl _ _⟩
theorem StW.write_call {w : World} {stb db : Nat} {vk : Value} {tp tx tn : Int} {vf vn vw ve : Value} {D : List ByteArray} {ps : List (Nat × ByteArray)} {es : List Int} (h : StW w stb db vk tp tx tn vf vn vw ve D ps es) (hl : ps.length ≤ 1000000) (p : Nat) (hp : p < 1536) (s : ByteArray) (hs : s.size = 64) : Calls Tryz.prog 159 #[.pointer (some ⟨db, 0, none⟩), pcV p s] w (WritePost w db vf vn vw ve D ps p s) :=
 write_disk_code w db vf vn vw ve D ps h.disk h.sw h.nd.1 h.nd.2.1 h.d1 hl p hp s hs
theorem CarI.step {w wr X : World} {stb db : Nat} {vk : Value} {tp tx tn : Int} {vf vn vw ve : Value} {D : List ByteArray} {ps : List (Nat × ByteArray)} {es : List Int} {qs : List (Nat × ByteArray)} (h : CarI w stb db vk tp tx tn vf vn vw ve D ps es qs wr) (hX : Below wr.heap.size wr X) (hl : ps.length + qs.length ≤ 1000000) (p : Nat) (hp : p < 1536) (s : ByteArray) (hs : s.size = 64) :
  Calls Tryz.prog 159 #[.pointer (some ⟨db, 0, none⟩), pcV p s] X fun e w' => e = .returned (.tuple #[]) ∧ CarI w stb db vk tp tx tn vf vn vw ve D ps es (qs ++ [(p, s)]) w' ∧ ∀ k, wr.heap.size ≤ k → k < X.heap.size → w'.heap[k]? = X.heap[k]? := by
 obtain ⟨vw1, h1, h2, h3⟩ := h
 have hlt : ∀ k, k = db ∨ Own vn k ∨ Own vw1 k → k < wr.heap.size := fun k hk => by
  rcases hk with rfl | hk | hk
  ·exact h1.disk.1.lt
  ·exact h1.disk.2.1.1.lt hk
  ·exact Sl.lt h1.sw hk
 refine ((h1.below hX).write_call (by rw [List.length_append]; omega) p hp s hs).mono ?_
 intro e w' hw
 obtain ⟨vw2, q1, q2, q3⟩ := (h1.below hX).write hw
 refine ⟨hw.1, ⟨vw2, by rw [wrAll_snoc, ← List.append_assoc]; exact q1, fun g hg => ?_, ?_⟩, fun k hk hk2 => q3.block k hk2 (fun e => by have := hlt k e; omega)⟩
 ·rcases q2 g hg with e | e
  ·exact h2 g e
  ·exact .inr (by have := h3.size; have := hX.size; omega)
 ·refine (h3.then (Fr.of_below (X := fun k => k = db ∨ Own vn k ∨ Own vw k) hX) (fun _ _ e => e)).then q3 (fun k hk e => ?_)
  rcases e with e | e | e
  ·exact .inl e
  ·exact .inr (.inl e)
  ·exact (h2 k e).elim (fun e => .inr (.inr e)) (fun e => by omega)
def StO (stb db : Nat) (vn vw ve : Value) (k : Nat) : Prop := k = stb ∨ k = db ∨ Own vn k ∨ Own vw k ∨ Own ve k
def CarryPost (w : World) (stb db T : Nat) (vf vn vw ve : Value) (D : List ByteArray) (ps : List (Nat × ByteArray)) (es : List Int) (va : Value) (eP : List (Int × Int)) (tp tx : Nat) (qs : List (Nat × ByteArray)) (e : Ending) (w' : World) : Prop :=
 e = .returned (.tuple #[]) ∧ ∃ vw' ve', StW w' stb db va (tp : Nat) (tx : Nat) ((T : Nat) : Int) vf vn vw' ve' ((wrAll D qs).set (T % 2) (ckB T tp tx)) (ps ++ qs ++ [(T % 2, ckB T tp tx)]) (es ++ [((ps.length + qs.length : Nat) : Int)] ++ [((ps.length + qs.length + 1 : Nat) : Int)]) ∧ NewOr w vw vw' ∧ NewOr w ve ve' ∧ Fr (StO stb db vn vw ve) w w' ∧ Sl w' 350 2 va eP.length (cellsR eP) ∧ ∀ k, Own va k → ¬ StO stb db vn vw' ve' k
theorem newOr_trans {w w1 : World} {v v1 v2 : Value} (h1 : NewOr w v v1) (h2 : NewOr w1 v1 v2) (hs : w.heap.size ≤ w1.heap.size) : NewOr w v v2 := fun g hg => (h2 g hg).elim (h1 g) (fun e => .inr (Nat.le_trans hs e))
theorem built191 (t p x : Int) : Tryz.prog.built 191 [(0, .int .u64 t), (1, .agg #[.int .i64 p, .int .u64 x])] = some #[.int .u64 t, .int .i64 p, .int .u64 x] := by kernel_rfl
theorem carry_code (w : World) (stb db pb : Nat) (vk : Value) (tp0 tx0 : Int) (tn : Nat) (vf vn vw ve : Value) (D : List ByteArray) (ps : List (Nat × ByteArray)) (es : List Int) (h : StW w stb db vk tp0 tx0 (tn : Nat) vf vn vw ve D ps es)
  (d1 sb so : Nat) (nd : Nat → Int) (cl : Bool) (hd : Nat) (va : Value) (eP : List (Int × Int)) (tp tx : Nat) (vp : Value) (qs : List (Nat × ByteArray)) (hP : PlanW w pb d1 sb so nd cl hd va eP (tp : Nat) (tx : Nat) vp qs)
  (hq : ∀ x ∈ qs, x.1 < 1536 ∧ x.2.size = 64) (hq0 : 0 < qs.length) (hl : ps.length + qs.length ≤ 999999) (hle : es.length ≤ 999998) (T : Nat) (hT : tn + 1 = T) (htn : T < 18446744073709551616) (htp : tp < 65536) (htx : tx < 18446744073709551616)
  (hap : ∀ k, k = pb ∨ Own vp k ∨ Own va k → ¬ StO stb db vn vw ve k) :
  Calls Tryz.prog 133 #[.pointer (some ⟨stb, 0, none⟩), .pointer (some ⟨pb, 0, none⟩)] w (CarryPost w stb db T vf vn vw ve D ps es va eP tp tx qs) := by
 obtain ⟨N, hN⟩ : ∃ N, N = qs.length := ⟨_, rfl⟩
 have hq64 : ∀ x ∈ qs, x.2.size = 64 := fun x hx => (hq x hx).2
 obtain ⟨ap, lp, cp, rfl⟩ := Sl.shape hP.sp
 obtain ⟨aa, la, ca, rfl⟩ := hP.sa.shape
 obtain ⟨x0, hx0⟩ : ∃ x, qs[0]? = some x := ⟨_, List.getElem?_eq_getElem hq0⟩
 obtain ⟨g, rfl, hlp, -⟩ := SlP.range hP.sp hq64 0 x0 hx0
 rw [← hN] at hlp
 subst hlp
 have hc103 := hP.cells.2.2.2.2.2.2
 have hpl := hP.row.lt
 have hstl := h.row.lt
 have hnst : ¬ stb = pb := fun e => hap pb (.inl rfl) (.inl e.symm)
 have HI0 := hide (CarI.start h)
 -- a piece of the plan, in a round
 have HPC : Hid (∀ k, k < lp → ∀ wr, CarI w stb db vk tp0 tx0 (tn : Nat) vf vn vw ve D ps es (qs.take k) wr → ∃ p s, s.size = 64 ∧ wr.rangeAt g (k * 65) (pcL p s) ∧ ∃ W W2, wr.alloc (.cells (pcL 0 (zeroB 64)).toArray 207) = W ∧ RowIs W wr.heap.size 207 (pcL 0 (zeroB 64)) ∧ W.setRow wr.heap.size (pcL p s).toArray = W2 ∧ W2.cell? ⟨stb, 0, none⟩ = some (.pointer (some ⟨db, 0, none⟩)) ∧ W2.rangeAt wr.heap.size 0 (pcL p s) ∧ Hid (Calls Tryz.prog 159 #[.pointer (some ⟨db, 0, none⟩), pcV p s] W2.drew fun e w' => e = .returned (.tuple #[]) ∧ w'.cell? ⟨stb, 0, none⟩ = some (.pointer (some ⟨db, 0, none⟩)) ∧ w'.rangeAt wr.heap.size 0 (pcL p s) ∧ Hid (CarI w stb db vk tp0 tx0 (tn : Nat) vf vn vw ve D ps es (qs.take (k + 1)) w'))) := fun k hk wr hI => by
  obtain ⟨⟨p, s⟩, hx⟩ : ∃ x, qs[k]? = some x := ⟨_, List.getElem?_eq_getElem (by omega)⟩
  have hxm := hq _ (List.mem_of_getElem? hx)
  have hIs := hI
  obtain ⟨vw1, q1, q2, q3⟩ := hIs
  have hSr : SlP wr (.slice (some ⟨g, 0, none⟩) lp cp) qs := Sl.fr hP.sp q3 (fun k hk e => hap k (.inr (.inl hk)) (by rcases e with e | e | e; exact .inr (.inl e); exact .inr (.inr (.inl e)); exact .inr (.inr (.inr (.inl e)))))
  obtain ⟨g', hg', -, hrange⟩ := SlP.range hSr hq64 k _ hx
  cases hg'
  obtain ⟨W, hW, xW, kW, sW, bW⟩ := alloc_name wr (pcL 0 (zeroB 64)) 207
  obtain ⟨W2, hW2⟩ : ∃ X, W.setRow wr.heap.size (pcL p s).toArray = X := ⟨_, rfl⟩
  have hx2 : RowIs W2 wr.heap.size 207 (pcL p s) := by rw [← hW2]; exact setRow_heap W _ _ _ 207 _ xW
  have hb2 : Below wr.heap.size wr W2 := by rw [← hW2]; exact bW.trans ⟨rfl, rfl, rfl, by simp, fun j hj => setRow_other W _ j _ (by omega)⟩
  have hb2d : Below wr.heap.size wr W2.drew := ⟨hb2.os, hb2.tape, hb2.output, hb2.size, hb2.block⟩
  have hr2 : RowIs W2 stb 179 _ := (hb2.block _ q1.row.lt).trans q1.row
  refine ⟨p, s, hxm.2, hrange, W, W2, hW, xW, hW2, (hr2.cell 0).trans rfl, fun j v hv => by rw [hx2.cell, Nat.zero_add]; exact hv, ?_⟩
  refine (hI.step hb2d (by rw [List.length_take]; omega) p hxm.1 s hxm.2).mono ?_
  rintro e w' ⟨rfl, r1, r2⟩
  have hx3 : RowIs w' wr.heap.size 207 (pcL p s) := (r2 _ (Nat.le_refl _) hx2.lt).trans hx2
  have e1 : qs.take (k + 1) = qs.take k ++ [(p, s)] := by rw [List.take_add_one, hx]; rfl
  rw [← e1] at r1
  obtain ⟨vw2, t1, -⟩ := id r1
  exact ⟨rfl, (t1.row.cell 0).trans rfl, fun j v hv => by rw [hx3.cell, Nat.zero_add]; exact hv, r1⟩
 -- behind the pieces
 have HFL : Hid (∀ wr, CarI w stb db vk tp0 tx0 (tn : Nat) vf vn vw ve D ps es qs wr → wr.cell? ⟨stb, 0, none⟩ = some (.pointer (some ⟨db, 0, none⟩)) ∧ Hid (Calls Tryz.prog 200 #[.pointer (some ⟨db, 0, none⟩)] wr fun e w' => e = .returned (.tuple #[]) ∧ w'.cell? ⟨pb, 103, none⟩ = some (.slice (some ⟨g, 0, none⟩) lp cp) ∧ w'.cell? ⟨stb, 4, none⟩ = some (.int .u64 (tn : Nat)) ∧ w'.frozen? ⟨stb, 4, none⟩ = false ∧ ∃ W, w'.setCell ⟨stb, 4, none⟩ (.int .u64 ((T : Nat) : Int)) = W ∧
   W.cell? ⟨stb, 0, none⟩ = some (.pointer (some ⟨db, 0, none⟩)) ∧ W.cell? ⟨stb, 4, none⟩ = some (.int .u64 ((T : Nat) : Int)) ∧ W.cell? ⟨pb, 101, none⟩ = some (.int .i64 (tp : Nat)) ∧ W.cell? ⟨pb, 102, none⟩ = some (.int .u64 (tx : Nat)) ∧
   Hid (∃ vw1 ve1, StW W stb db vk tp0 tx0 ((T : Nat) : Int) vf vn vw1 ve1 (wrAll D qs) (ps ++ qs) (es ++ [((ps.length + qs.length : Nat) : Int)]) ∧ NewOr w vw vw1 ∧ NewOr w ve ve1 ∧ Fr (StO stb db vn vw ve) w W))) := fun wr hI => by
  obtain ⟨vw1, q1, q2, q3⟩ := hI
  obtain ⟨av, lv, cv, rfl⟩ := Sl.shape q1.sw
  have hlv := Sl.len q1.sw
  refine ⟨(q1.row.cell 0).trans rfl, ?_⟩
  refine (flush_code wr db vf vn ve av lv cv q1.disk.1 es q1.se q1.nd.2.2 (by omega)).mono ?_
  intro e w' hw
  obtain ⟨ve1, r1, r2, r3⟩ := q1.flush hw
  have hlv2 : lv = ps.length + qs.length := by rw [hlv, List.length_append]
  subst hlv2
  have hwr := q3.size
  have hf1 : Fr (StO stb db vn vw ve) w w' := (q3.mono (Y := StO stb db vn vw ve) (fun k _ e => by rcases e with e | e | e; exact .inr (.inl e); exact .inr (.inr (.inl e)); exact .inr (.inr (.inr (.inl e))))).then r3 (fun k _ e => by rcases e with e | e; exact .inr (.inl e); exact .inr (.inr (.inr (.inr e))))
  have hp1 : RowIs w' pb 184 _ := hP.row.fr hf1 (hap pb (.inl rfl))
  have hr2 := r1.row.set 4 (.int .u64 ((T : Nat) : Int))
  have hfs : Fr (fun k => k = stb) w' (w'.setCell ⟨stb, 4, none⟩ (.int .u64 ((T : Nat) : Int))) := (Fr.refl _ _).set _ _ rfl
  have hp2 : RowIs (w'.setCell ⟨stb, 4, none⟩ (.int .u64 ((T : Nat) : Int))) pb 184 _ := hp1.fr hfs (fun e => hnst e.symm)
  have r4 := r1.head hfs (vk' := vk) (tp' := tp0) (tx' := tx0) (tn' := ((T : Nat) : Int)) hr2
  refine ⟨hw.1, (hp1.cell 103).trans (planL_tail _ _ _ _ _ _ _ _ _ _ 5), (r1.row.cell 4).trans rfl, r1.row.frozen 4, _, rfl, (hr2.cell 0).trans rfl, (hr2.cell 4).trans rfl, (hp2.cell 101).trans (planL_tail _ _ _ _ _ _ _ _ _ _ 3), (hp2.cell 102).trans (planL_tail _ _ _ _ _ _ _ _ _ _ 4), _, ve1, r4, q2, newOr_trans (fun g hg => .inl hg) r2 hwr, hf1.then hfs (fun k _ e => .inl e)⟩
 obtain ⟨VK, hVK⟩ : ∃ V, V = pcV (T % 2) (ckB T tp tx) := ⟨_, rfl⟩
 -- the checkpoint
 have HCK : Hid (∀ W, W.cell? ⟨stb, 0, none⟩ = some (.pointer (some ⟨db, 0, none⟩)) ∧ W.cell? ⟨stb, 4, none⟩ = some (.int .u64 ((T : Nat) : Int)) ∧ W.cell? ⟨pb, 101, none⟩ = some (.int .i64 (tp : Nat)) ∧ W.cell? ⟨pb, 102, none⟩ = some (.int .u64 (tx : Nat)) → Hid (∃ vw1 ve1, StW W stb db vk tp0 tx0 ((T : Nat) : Int) vf vn vw1 ve1 (wrAll D qs) (ps ++ qs) (es ++ [((ps.length + qs.length : Nat) : Int)]) ∧ NewOr w vw vw1 ∧ NewOr w ve ve1 ∧ Fr (StO stb db vn vw ve) w W) →
   Calls Tryz.prog 160 #[.agg #[.int .u64 ((T : Nat) : Int), .int .i64 (tp : Nat), .int .u64 (tx : Nat)]] W.drew fun e X => e = .returned VK ∧ (X.cell? ⟨stb, 0, none⟩ = some (.pointer (some ⟨db, 0, none⟩)) ∧ X.cell? ⟨stb, 4, none⟩ = some (.int .u64 ((T : Nat) : Int)) ∧ X.cell? ⟨pb, 101, none⟩ = some (.int .i64 (tp : Nat)) ∧ X.cell? ⟨pb, 102, none⟩ = some (.int .u64 (tx : Nat))) ∧
    Hid (Calls Tryz.prog 159 #[.pointer (some ⟨db, 0, none⟩), VK] X fun e Y => e = .returned (.tuple #[]) ∧ (Y.cell? ⟨stb, 0, none⟩ = some (.pointer (some ⟨db, 0, none⟩)) ∧ Y.cell? ⟨stb, 4, none⟩ = some (.int .u64 ((T : Nat) : Int)) ∧ Y.cell? ⟨pb, 101, none⟩ = some (.int .i64 (tp : Nat)) ∧ Y.cell? ⟨pb, 102, none⟩ = some (.int .u64 (tx : Nat))) ∧
     Hid (Calls Tryz.prog 200 #[.pointer (some ⟨db, 0, none⟩)] Y fun e Z => e = .returned (.tuple #[]) ∧ RowIs Z stb 179 [.pointer (some ⟨db, 0, none⟩), vk, .int .i64 tp0, .int .u64 tx0, .int .u64 ((T : Nat) : Int)] ∧ Z.cell? ⟨pb, 100, none⟩ = some (.slice aa la ca) ∧ Z.cell? ⟨pb, 101, none⟩ = some (.int .i64 (tp : Nat)) ∧ Z.cell? ⟨pb, 102, none⟩ = some (.int .u64 (tx : Nat)) ∧
      Hid (CarryPost w stb db T vf vn vw ve D ps es (.slice aa la ca) eP tp tx qs (.returned (.tuple #[])) (((Z.setCell ⟨stb, 1, none⟩ (.slice aa la ca)).setCell ⟨stb, 2, none⟩ (.int .i64 (tp : Nat))).setCell ⟨stb, 3, none⟩ (.int .u64 (tx : Nat))))))) := fun W hc hh => by
  obtain ⟨vw1, ve1, s1, s2, s3, s4⟩ := unhide hh
  have hcb := ckB_size T tp tx
  refine (piece_code W.drew T tp tx htn htp htx).mono ?_
  rintro e X ⟨rfl, hX⟩
  have hX1 : Below W.heap.size W X := ⟨hX.os, hX.tape, hX.output, hX.size, hX.block⟩
  have hpW : RowIs W pb 184 _ := hP.row.fr s4 (hap pb (.inl rfl))
  have hsW := s4.size
  have hXs := hX1.size
  have s1X := s1.below hX1
  have hpX : RowIs X pb 184 _ := (hX1.block _ hpW.lt).trans hpW
  refine ⟨by rw [hVK], ⟨(s1X.row.cell 0).trans rfl, (s1X.row.cell 4).trans rfl, (hpX.cell 101).trans (planL_tail _ _ _ _ _ _ _ _ _ _ 3), (hpX.cell 102).trans (planL_tail _ _ _ _ _ _ _ _ _ _ 4)⟩, ?_⟩
  rw [hVK]
  refine (s1X.write_call (by rw [List.length_append]; omega) (T % 2) (by omega) _ hcb).mono ?_
  intro e Y hw
  obtain ⟨vw2, u1, u2, u3⟩ := s1X.write hw
  have hlo : ∀ k, k < w.heap.size → (k = db ∨ Own vn k ∨ Own vw1 k) → StO stb db vn vw ve k := fun k hk e => by
   rcases e with e | e | e
   ·exact .inr (.inl e)
   ·exact .inr (.inr (.inl e))
   ·exact (s2 k e).elim (fun e => .inr (.inr (.inr (.inl e)))) (fun e => by omega)
  have hfX : Fr (StO stb db vn vw ve) w X := s4.then (Fr.of_below (X := fun _ => False) hX1) (fun _ _ e => e.elim)
  have hfY : Fr (StO stb db vn vw ve) w Y := hfX.then u3 hlo
  have hpY : RowIs Y pb 184 _ := hP.row.fr hfY (hap pb (.inl rfl))
  have hYs := u3.size
  refine ⟨hw.1, ⟨(u1.row.cell 0).trans rfl, (u1.row.cell 4).trans rfl, (hpY.cell 101).trans (planL_tail _ _ _ _ _ _ _ _ _ _ 3), (hpY.cell 102).trans (planL_tail _ _ _ _ _ _ _ _ _ _ 4)⟩, ?_⟩
  obtain ⟨av, lv, cv, rfl⟩ := Sl.shape u1.sw
  have hlv := Sl.len u1.sw
  have hlv2 : lv = ps.length + qs.length + 1 := by rw [hlv, List.length_append, List.length_append]; rfl
  subst hlv2
  refine (flush_code Y db vf vn ve1 av _ cv u1.disk.1 _ u1.se u1.nd.2.2 (by rw [List.length_append]; simp; omega)).mono ?_
  intro e Z hz
  obtain ⟨ve2, v1, v2, v3⟩ := u1.flush hz
  have hfZ : Fr (StO stb db vn vw ve) w Z := hfY.then v3 (fun k hk e => by
   rcases e with e | e
   ·exact .inr (.inl e)
   ·exact (s3 k e).elim (fun e => .inr (.inr (.inr (.inr e)))) (fun e => by omega))
  have hpZ : RowIs Z pb 184 _ := hP.row.fr hfZ (hap pb (.inl rfl))
  have hfs : Fr (fun k => k = stb) Z (((Z.setCell ⟨stb, 1, none⟩ (.slice aa la ca)).setCell ⟨stb, 2, none⟩ (.int .i64 (tp : Nat))).setCell ⟨stb, 3, none⟩ (.int .u64 (tx : Nat))) := (((Fr.refl (fun k => k = stb) Z).set ⟨stb, 1, none⟩ (.slice aa la ca) rfl).set ⟨stb, 2, none⟩ (.int .i64 (tp : Nat)) rfl).set ⟨stb, 3, none⟩ (.int .u64 (tx : Nat)) rfl
  have hrZ := ((v1.row.set 1 (.slice aa la ca)).set 2 (.int .i64 (tp : Nat))).set 3 (.int .u64 (tx : Nat))
  have hfin : Fr (StO stb db vn vw ve) w (((Z.setCell ⟨stb, 1, none⟩ (.slice aa la ca)).setCell ⟨stb, 2, none⟩ (.int .i64 (tp : Nat))).setCell ⟨stb, 3, none⟩ (.int .u64 (tx : Nat))) := hfZ.then hfs (fun k _ e => .inl e)
  have n1 : NewOr w vw (.slice av (ps.length + qs.length + 1) cv) := newOr_trans s2 u2 (by omega)
  have n2 : NewOr w ve ve2 := newOr_trans s3 v2 (by omega)
  refine ⟨hz.1, v1.row, (hpZ.cell 100).trans (planL_tail _ _ _ _ _ _ _ _ _ _ 2), (hpZ.cell 101).trans (planL_tail _ _ _ _ _ _ _ _ _ _ 3), (hpZ.cell 102).trans (planL_tail _ _ _ _ _ _ _ _ _ _ 4), rfl, _, ve2, v1.head hfs hrZ, n1, n2, hfin, hP.sa.fr hfin (fun k hk => hap k (.inr (.inr hk))), fun k hk e => ?_⟩
  have hkl := hP.sa.lt hk
  refine hap k (.inr (.inr hk)) ?_
  rcases e with e | e | e | e | e
  ·exact .inl e
  ·exact .inr (.inl e)
  ·exact .inr (.inr (.inl e))
  ·exact (n1 k e).elim (fun e => .inr (.inr (.inr (.inl e)))) (fun e => by omega)
  ·exact (n2 k e).elim (fun e => .inr (.inr (.inr (.inr e)))) (fun e => by omega)
 have HNQ := hide hN
 have hwr1 : IntKind.u64.wrap ((tn : Int) + 1) = ((T : Nat) : Int) := by simp [IntKind.wrap, IntKind.bits, IntKind.signed]; omega
 have hlp0 : ¬ (lp : Int) = 0 := by omega
 have hlp1 : lp ≤ 999999 := by omega
 obtain ⟨dd, hu207, hr207⟩ := und207
 have HBLT := hide (built191 ((T : Nat) : Int) (tp : Nat) (tx : Nat))
 clear hT h hP hq hq64 hq0 hl hle htn htp htx hap hx0 hVK hN
 go_enter Tryz.func133, Tryz.ntmps133
 go_wp2
 go_loopw [11] (fun i wr => ∃ k : Nat, k ≤ lp ∧ i = .int .i64 k ∧ Hid (CarI w stb db vk tp0 tx0 (tn : Nat) vf vn vw ve D ps es (qs.take k) wr)) (fun i _ => lp - (intOf i).toNat)
 case atStart => exact ⟨0, Nat.zero_le _, rfl, by rw [List.take_zero]; exact unhide HI0⟩
 case round =>
  obtain ⟨k, hk, rfl, HI⟩ := hrel
  by_cases hlt : k < lp
  ·obtain ⟨p, s, hs64, hrange, W, W2, hW, hxW, hW2, hc2, hr2, HWR⟩ := unhide HPC k hlt wr (unhide HI)
   have HR := hide hrange
   have HW := hide hW
   have HX := hide hxW
   have HW2 := hide hW2
   have hbs : (pcL p s).length = 65 := by rw [pcL_length, hs64]
   have HL := hide hbs
   have hki : (k : Int) < (lp : Int) := by omega
   obtain ⟨VP, hVP⟩ : ∃ V, V = pcV p s := ⟨_, rfl⟩
   have HVP := hide hVP
   have HHR := hide hr2
   rw [← hVP] at HWR
   clear hrange hW hxW hW2 hbs hVP hs64 hr2
   go_upto_region 3 with (first | (refine wpList_load_mid rfl 207 _ rfl g (k * 65) rfl (pcL p s) _ (unhide HR) hu207 hr207 (by rw [size207, unhide HL]) ?_) | (refine wpList_alloc_z rfl 207 rfl zero207 ?_; rw [show wr.alloc (.cells (pcL 0 (zeroB 64)).toArray 207) = W from unhide HW]) | (refine wpList_store_row rfl 207 _ _ rfl wr.heap.size (pcL p s).toArray rfl rfl 207 _ (unhide HX) (by rw [size207]; simp [unhide HL]) (by simp [unhide HL, pcL_length, zeroB_size]) (all_oneCell_toArray (pcL_one _ _)) ?_; rw [unhide HW2]))
   refine wp_region_held_drew (S := fun X => X.cell? ⟨stb, 0, none⟩ = some (.pointer (some ⟨db, 0, none⟩)) ∧ X.rangeAt wr.heap.size 0 (pcL p s)) (by kernel_rfl) ⟨hc2, unhide HHR⟩ (fun hHeld => ?_)
   refine wpAnyH_take (i := 0) (v := ?_) rfl (by kernel_rfl) (by kernel_rfl) (by kernel_rfl) (fun _ _ _ h => h) (Or.inl ⟨by rfl, ?_⟩) (by assumption) ?_
   rotate_left
   ·intro w hSw; (try dsimp only at hSw); go_simp <;> with_reducible rfl
   (try simp only [pE])
   refine wpAnyH_take (i := 1) (v := ?_) rfl (by kernel_rfl) (by kernel_rfl) (by kernel_rfl) (fun _ _ _ h => h) (Or.inl ⟨by rfl, ?_⟩) (by assumption) ?_
   rotate_left
   ·intro w hSw; (try dsimp only at hSw); go_simp <;> with_reducible rfl
   (try simp only [pE])
   refine wpAnyH_take (i := 2) (v := ?_) rfl (by kernel_rfl) (by kernel_rfl) (by kernel_rfl) (fun _ _ _ h => h) (Or.inl ⟨by rfl, ?_⟩) (by assumption) ?_
   rotate_left
   ·intro w hSw; (try dsimp only at hSw); go_simp <;> with_reducible rfl
   (try simp only [pE])
   refine wpAnyH_take (i := 3) (v := ?_) rfl (by kernel_rfl) (by kernel_rfl) (by kernel_rfl) (fun _ _ _ h => h) (Or.inl ⟨by rfl, ?_⟩) (by assumption) ?_
   rotate_left
   ·intro w hSw; (try dsimp only at hSw); go_simp <;> with_reducible rfl
   (try simp only [pE])
   refine wpAnyH_take (i := 4) (v := VP) rfl (by kernel_rfl) (by kernel_rfl) (by kernel_rfl) (fun _ _ _ h => h) (by rw [unhide HVP]; exact yieldsIf_load_mid (by rfl) 207 _ rfl wr.heap.size 0 rfl (pcL p s) _ (fun X hX => hX.2) hu207 hr207 (by rw [size207, unhide HL])) (by assumption) ?_
   (try simp only [pE])
   refine wpAnyH_ready (rs := [5]) (by kernel_rfl) (by simp) ?_
   refine AllReadyH.cons (i := 5) rfl ?_ AllReadyH.nil
   intro K hK
   go_simp
   go_at_call 159
   refine (unhide HWR).mono ?_
   rintro e w' ⟨rfl, c3, r3, HI2⟩
   go_wp2_with fail
   refine hK.out _ _ ⟨c3, r3⟩ (fun hH5 => ?_)
   clear hK K
   (try simp only [pE])
   refine wpAnyH_done (by kernel_rfl) ?_ _
   go_wp2
   go_roundw
   case rel => exact ⟨k + 1, by omega, by go_num, HI2⟩
   case measure => simp [intOf]; omega
  ·obtain rfl : k = lp := by omega
   have hI := unhide HI
   rw [List.take_of_length_le (Nat.le_of_eq (unhide HNQ).symm)] at hI
   obtain ⟨hc0, HF⟩ := unhide HFL wr hI
   clear hI HI HFL HPC
   go_upto_region 8 with (go_at_call 200; refine (unhide HF).mono ?_; rintro e w3 ⟨rfl, m1, m2, m3, W, hW, m4, m5, m6, m7, HS⟩; have HW := hide hW; clear hW HF)
   rw [show w3.setCell ⟨stb, 4, none⟩ (.int .u64 ((T : Nat) : Int)) = W from unhide HW]
   clear HW m1 m2 m3
   have HC2 := unhide HCK W ⟨m4, m5, m6, m7⟩ HS
   have HC3 := hide HC2
   clear HC2 HCK HS
   refine wp_region_held_drew (S := fun X => X.cell? ⟨stb, 0, none⟩ = some (.pointer (some ⟨db, 0, none⟩)) ∧ X.cell? ⟨stb, 4, none⟩ = some (.int .u64 ((T : Nat) : Int)) ∧ X.cell? ⟨pb, 101, none⟩ = some (.int .i64 (tp : Nat)) ∧ X.cell? ⟨pb, 102, none⟩ = some (.int .u64 (tx : Nat))) (by kernel_rfl) ⟨m4, m5, m6, m7⟩ (fun hHeld => ?_)
   refine wpAnyH_take (i := 0) (v := ?_) rfl (by kernel_rfl) (by kernel_rfl) (by kernel_rfl) (fun _ _ _ h => h) (Or.inl ⟨by rfl, ?_⟩) (by assumption) ?_
   rotate_left
   ·intro w hSw; (try dsimp only at hSw); go_simp <;> with_reducible rfl
   (try simp only [pE])
   refine wpAnyH_take (i := 1) (v := ?_) rfl (by kernel_rfl) (by kernel_rfl) (by kernel_rfl) (fun _ _ _ h => h) (Or.inl ⟨by rfl, ?_⟩) (by assumption) ?_
   rotate_left
   ·intro w hSw; (try dsimp only at hSw); go_simp <;> with_reducible rfl
   (try simp only [pE])
   refine wpAnyH_take (i := 2) (v := ?_) rfl (by kernel_rfl) (by kernel_rfl) (by kernel_rfl) (fun _ _ _ h => h) (Or.inl ⟨by rfl, ?_⟩) (by assumption) ?_
   rotate_left
   ·intro w hSw; (try dsimp only at hSw); go_simp <;> with_reducible rfl
   (try simp only [pE])
   refine wpAnyH_take (i := 3) (v := ?_) rfl (by kernel_rfl) (by kernel_rfl) (by kernel_rfl) (fun _ _ _ h => h) (Or.inl ⟨by rfl, ?_⟩) (by assumption) ?_
   rotate_left
   ·intro w hSw; (try dsimp only at hSw); go_simp <;> with_reducible rfl
   (try simp only [pE])
   refine wpAnyH_take (i := 4) (v := ?_) rfl (by kernel_rfl) (by kernel_rfl) (by kernel_rfl) (fun _ _ _ h => h) (Or.inl ⟨by rfl, ?_⟩) (by assumption) ?_
   rotate_left
   ·intro w hSw; (try dsimp only at hSw); go_simp <;> with_reducible rfl
   (try simp only [pE])
   refine wpAnyH_take (i := 5) (v := ?_) rfl (by kernel_rfl) (by kernel_rfl) (by kernel_rfl) (fun _ _ _ h => h) (Or.inl ⟨by rfl, ?_⟩) (by assumption) ?_
   rotate_left
   ·intro w hSw; (try dsimp only at hSw); go_simp <;> with_reducible rfl
   (try simp only [pE])
   refine wpAnyH_take (i := 6) (v := ?_) rfl (by kernel_rfl) (by kernel_rfl) (by kernel_rfl) (fun _ _ _ h => h) (Or.inl ⟨by rfl, ?_⟩) (by assumption) ?_
   rotate_left
   ·intro w hSw; (try dsimp only at hSw); go_simp <;> with_reducible rfl
   (try simp only [pE])
   refine wpAnyH_take (i := 7) (v := ?_) rfl (by kernel_rfl) (by kernel_rfl) (by kernel_rfl) (fun _ _ _ h => h) (Or.inl ⟨by rfl, ?_⟩) (by assumption) ?_
   rotate_left
   ·intro w hSw; (try dsimp only at hSw); go_simp <;> with_reducible rfl
   (try simp only [pE])
   refine wpAnyH_take (i := 8) (v := ?_) rfl (by kernel_rfl) (by kernel_rfl) (by kernel_rfl) (fun _ _ _ h => h) (Or.inl ⟨by rfl, ?_⟩) (by assumption) ?_
   rotate_left
   ·intro w hSw; (try dsimp only at hSw); go_simp <;> with_reducible rfl
   (try simp only [pE])
   refine wpAnyH_take (i := 9) (v := ?_) rfl (by kernel_rfl) (by kernel_rfl) (by kernel_rfl) (fun _ _ _ h => h) (Or.inl ⟨by rfl, ?_⟩) (by assumption) ?_
   rotate_left
   ·intro w hSw; (try dsimp only at hSw); go_simp <;> with_reducible rfl
   (try simp only [pE])
   refine wpAnyH_take (i := 10) (v := ?_) rfl (by kernel_rfl) (by kernel_rfl) (by kernel_rfl) (fun _ _ _ h => h) (Or.inl ⟨by rfl, ?_⟩) (by assumption) ?_
   rotate_left
   ·intro w hSw; (try dsimp only at hSw); go_simp <;> with_reducible rfl
   (try simp only [pE])
   refine wpAnyH_take (i := 11) (v := ?_) rfl (by kernel_rfl) (by kernel_rfl) (by kernel_rfl) (fun _ _ _ h => h) (Or.inl ⟨by rfl, ?_⟩) (by assumption) ?_
   rotate_left
   ·intro w hSw; (try dsimp only at hSw); go_simp <;> with_reducible rfl
   (try simp only [pE])
   refine wpAnyH_take (i := 12) (v := ?_) rfl (by kernel_rfl) (by kernel_rfl) (by kernel_rfl) (fun _ _ _ h => h) (Or.inl ⟨by rfl, ?_⟩) (by assumption) ?_
   rotate_left
   ·intro w hSw; (try dsimp only at hSw); go_simp <;> with_reducible rfl
   (try simp only [pE])
   refine wpAnyH_take (i := 13) (v := .agg #[.int .u64 ((T : Nat) : Int), .int .i64 (tp : Nat), .int .u64 (tx : Nat)]) rfl (by kernel_rfl) (by kernel_rfl) (by kernel_rfl) (fun _ _ _ h => h) (Or.inl ⟨by rfl, fun V _ => exec_build V 191 _ rfl (vs := #[(0, .int .u64 ((T : Nat) : Int)), (1, .agg #[.int .i64 (tp : Nat), .int .u64 (tx : Nat)])]) (by simp [Act.eval]) (unhide HBLT)⟩) (by assumption) ?_
   (try simp only [pE])
   refine wpAnyH_ready (rs := [14]) (by kernel_rfl) (by simp) ?_
   refine AllReadyH.cons (i := 14) rfl ?_ AllReadyH.nil
   intro K hK
   go_simp
   go_at_call 160
   refine (unhide HC3).mono ?_
   rintro e X ⟨rfl, hcX, HC4⟩
   go_wp2_with fail
   refine hK.out _ _ hcX (fun hH14 => ?_)
   clear hK K
   (try simp only [pE])
   refine wpAnyH_ready (rs := [15]) (by kernel_rfl) (by simp) ?_
   refine AllReadyH.cons (i := 15) rfl ?_ AllReadyH.nil
   intro K hK
   go_simp
   go_at_call 159
   refine (unhide HC4).mono ?_
   rintro e Y ⟨rfl, hcY, HC5⟩
   go_wp2_with fail
   refine hK.out _ _ hcY (fun hH15 => ?_)
   clear hK K
   (try simp only [pE])
   refine wpAnyH_done (by kernel_rfl) ?_ _
   obtain ⟨y0, y1, y2, y3⟩ := hcY
   clear HC3 HC4 hH14 hH15 hHeld hcX m4 m5 m6 m7
   go_wp2_with (go_at_call 200; refine (unhide HC5).mono ?_; rintro e Z ⟨rfl, hrZ, z0, z1, z2, HP⟩; have b1 := hrZ.cell 1; have b2 := hrZ.cell 2; have b3 := hrZ.cell 3; have g1 := hrZ.frozen 1; have g2 := hrZ.frozen 2; have g3 := hrZ.frozen 3; clear hrZ HC5 y0 y1 y2 y3)
   go_end0
   exact unhide HP
end Go.Proofs.YtaieidcohdhgpaaGreatDoor
