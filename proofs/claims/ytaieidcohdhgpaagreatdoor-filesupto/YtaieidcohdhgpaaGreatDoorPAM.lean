/- Files. -/
import Derived.Test.YtaieidcohdhgpaaGreatDoorPAL
import Derived.Test.YtaieidcohdhgpaaGreatDoorPAC
namespace Go.Proofs.YtaieidcohdhgpaaGreatDoor
open Go.RowKit Go.Shelf
attribute [local go_sem] Oper.semAt_some
set_option maxHeartbeats 2000000
set_option maxRecDepth 100000
theorem rowIs_own {β : Type} (B : Nat) (t : TypeId) (f : β → List Value) : Own (fun s W => RowIs W B t (f s)) := fun s X Y row hs hg hrow =>
 hs.kept hg (fun e' => by obtain ⟨o, ho, hc⟩ := hrow B e'.symm; rw [show X.heap[B]? = _ from hs] at ho; cases ho; cases hc)
theorem row_new (w : World) (L : List Value) (e : TypeId) : RowIs (w.alloc (.cells L.toArray e)) w.heap.size e L := World.alloc_heap_new w _
def useU (l : List Nat) : Nat := (l.map (fun n => (n + 63) / 64)).sum
theorem useU_snoc (l : List Nat) (n : Nat) : useU (l ++ [n]) = useU l + (n + 63) / 64 := by simp [useU]
theorem useU_le (l : List Nat) (h : ∀ n ∈ l, n ≤ 2000000) : useU l ≤ l.length * 40000 := by
 induction l with
 | nil => simp [useU]
 | cons a l ih =>
  have h1 := ih (fun n hn => h n (by simp [hn]))
  have h2 := h a (by simp)
  have h3 : useU (a :: l) = (a + 63) / 64 + useU l := by simp [useU]
  rw [h3, List.length_cons]; omega
theorem usage_code (w : World) (tb : Nat) (rp vi : Value) (I : List (Int × VF)) (hrow : RowIs w tb 214 [rp, vi]) (hS : Sl w 293 3 vi I.length (cellsI I)) (hn : I.length ≤ 10000) (hl : ∀ x ∈ I, x.2.l ≤ 2000000) :
  Calls Tryz.prog 82 #[.pointer (some ⟨tb, 0, none⟩)] w fun e w' => e = .returned (.int .i64 (useU (I.map (·.2.l)) : Nat)) ∧ Below w.heap.size w w' := by
 refine (callsIn_wide (n := 3)).1 ?_
 refine callsIn_of_wp_marks Tryz.func82 rfl trivial ?_ rfl
 simp only [Tryz.ntmps82, List.size_toArray, List.length_cons, List.length_nil, Nat.reduceAdd, Nat.reduceSub, Array.replicate_succ, Array.replicate_zero, List.push_toArray, List.append_toArray, List.nil_append, List.cons_append]
 gi_wp2_with (refine ⟨trivial, ?_⟩; gi_at_call 145; refine (allI_in _ _ trivial rfl _ _).mono ?_; rintro e w' ⟨rfl, rfl⟩)
 obtain ⟨W0, hW0⟩ : ∃ W0, (w.alloc (Obj.cells #[Value.int IntKind.i64 0] 3)).alloc (Obj.cells #[Value.pointer (some { block := tb, off := 1 })] 290) = W0 := ⟨_, rfl⟩
 rw [hW0]
 have hsz : W0.heap.size = w.heap.size + 2 := by rw [← hW0]; simp
 have hB0 : Below w.heap.size w W0 := by rw [← hW0]; exact ((Below.refl _ w).alloc (Nat.le_refl _) _).alloc (by simp) _
 have hX0 : Boxed W0 w.heap.size 3 (.int .i64 0) := by rw [← hW0]; exact (Boxed.new w 3 _).alloc _
 have hX1 : Boxed W0 (w.heap.size + 1) 290 (.pointer (some ⟨tb, 1, none⟩)) := by rw [← hW0]; have := Boxed.new (w.alloc (Obj.cells #[Value.int IntKind.i64 0] 3)) 290 (.pointer (some ⟨tb, 1, none⟩)); simpa using this
 have htb : tb < w.heap.size := hrow.lt
 have hS0 : Sl W0 293 3 vi I.length (cellsI I) := hS.kept (fun k hk _ => hB0.block k hk)
 have hc0 : W0.cell? ⟨tb, 1, none⟩ = some vi := (hB0.cell (p := ⟨tb, 1, none⟩) htb).trans (hrow.cell 1)
 have hat : I.attach.map (fun x => x.1) = I := List.attach_map_subtype_val I
 clear hW0
 refine wpIn_rangeFunc_ownH (α := { x // x ∈ I }) rfl (by omega) (gf := 204) (lb := #[.pointer (some ⟨w.heap.size + 1, 0, none⟩)]) rfl trivial (enters_of Tryz.func204 (by kernel_rfl) rfl)
  (allI_stops Fence.wide 2 trivial rfl (by omega) (w.heap.size + 1) w.heap.size tb 1 vi (fun x => x.1) I.attach (by simpa using hn) W0 (by omega) (by omega) (by omega) hX1.cell hc0 (by rw [hat]; simpa using hS0) (fun g hg => hS.lt hg))
  belowK_t (belowK_b (by omega)) (Below.refl _ _) (fun _ => rfl)
  (fun pre W => Boxed W w.heap.size 3 (.int .i64 (useU (pre.map (·.1.2.l)) : Nat)) ∧ Below w.heap.size w W)
  (fun _ _ _ => False)
  (OwnFrom.and (Own.from (boxed_own _ _ _) _) (ownFrom_below (Nat.le_refl _) (by omega)))
  (fun _ _ _ _ _ hs _ _ => hs)
  ⟨hX0, hB0⟩
  (fun x a' W => ∃ Bx, w.heap.size < Bx ∧ RowIs W Bx 217 [.slice x.1.2.a x.1.2.l x.1.2.c, .int .i64 x.1.2.f] ∧ a' = { tmps := #[.pointer (some ⟨tb, 0, none⟩), undef, .int .i64 0, .pointer (some ⟨w.heap.size, 0, none⟩), undef, .pointer (some ⟨Bx, 0, none⟩), .pointer (some ⟨tb, 0, none⟩), .pointer (some ⟨tb, 0, none⟩), .pointer (some ⟨tb, 1, none⟩), .func (.func 204) #[] #[.pointer (some ⟨w.heap.size + 1, 0, none⟩)], .int .i64 x.1.1, .agg #[.slice x.1.2.a x.1.2.l x.1.2.c, .int .i64 x.1.2.f], undef, undef, undef, undef, undef, undef, undef, undef, undef], defers := [] })
  (fun x a' _ X Y row hs hg hr => by
   obtain ⟨Bx, h1, h2, h3⟩ := hs
   exact ⟨Bx, h1, (rowIs_own (β := Unit) Bx 217 (fun _ => _)).from _ () X Y row h2 hg hr, h3⟩)
  ?assign ?body ?done ?stop
 case assign =>
  rintro l pre x W K ⟨hi, hB⟩ hK
  gi_wp2
  refine hK _ _ ((KeepsOthers.alloc _ _).from _) ((Below.refl _ W).alloc hB.size _) ⟨hi.alloc _, hB.alloc hB.size _⟩ ⟨W.heap.size, hi.lt, row_new W _ _, rfl⟩
 case body =>
  rintro l pre x a' W hl0 ⟨r, hr⟩ ⟨hi, hB⟩ ⟨Bx, hBx, bX, rfl⟩ hlt
  have hx := hl x.1 x.2
  have hc := hi.cell
  have hf := hi.frozen
  have x0 := bX.cell 0
  have hpl : useU (pre.map (·.1.2.l)) ≤ 10000 * 40000 := by
   have h1 := useU_le (pre.map (·.1.2.l)) (fun n hn => by obtain ⟨y, hy, e⟩ := List.mem_map.1 hn; rw [← e]; exact hl _ y.2)
   rw [List.length_map] at h1
   have h2 : pre.length < I.length := by simpa using hlt
   omega
  gi_wp2
  have e : ((useU (pre.map (·.1.2.l)) : Nat) : Int) + ((x.1.2.l : Int) + 64 - 1) / 64 = ((useU ((pre ++ [x]).map (·.1.2.l)) : Nat) : Int) := by
   rw [List.map_append, List.map_cons, List.map_nil, useU_snoc]; omega
  exact ⟨(KeepsOthers.setCell _ _ _).from _, (Below.refl w.heap.size W).setCell (p := ⟨w.heap.size, 0, none⟩) (Nat.le_refl _) _, by rw [e]; exact hi.set _, hB.setCell (p := ⟨w.heap.size, 0, none⟩) (Nat.le_refl _) _⟩
 case done =>
  rintro D ys W hD rfl ⟨hi, hB⟩ hK
  have hc := hi.cell
  gi_wp2
  refine ⟨by simp, .inl ⟨_, _, rfl, run_takeDeferred hK, ?_⟩⟩
  exact ⟨_, results_tmp rfl _ _ _, by
   have : I.attach.map (fun x => x.1.2.l) = I.map (fun x => x.2.l) := by
    have := congrArg (List.map (fun x : Int × VF => x.2.l)) hat
    rw [List.map_map] at this; exact this
   rw [← this]; rfl, hB.trans (belowK_b (w := w) (Nat.le_refl _) W D _ _ (by omega) hK rfl rfl)⟩
 case stop =>
  rintro D c pre W _ _ h _
  exact h.elim
theorem free_code (w : World) (tb : Nat) (rp vi : Value) (I : List (Int × VF)) (hrow : RowIs w tb 214 [rp, vi]) (hS : Sl w 293 3 vi I.length (cellsI I)) (hn : I.length ≤ 10000) (hs : SrtI I) (h0 : ∀ x ∈ I, 0 ≤ x.1) :
  Calls Tryz.prog 186 #[.pointer (some ⟨tb, 0, none⟩)] w fun e w' => ∃ f : Nat, e = .returned (.int .i64 f) ∧ f ≤ I.length ∧ (∀ x ∈ I, x.1 ≠ f) ∧ Below w.heap.size w w' := by
 refine (callsIn_wide (n := 3)).1 ?_
 refine callsIn_of_wp_marks Tryz.func186 rfl trivial ?_ rfl
 simp only [Tryz.ntmps186, List.size_toArray, List.length_cons, List.length_nil, Nat.reduceAdd, Nat.reduceSub, Array.replicate_succ, Array.replicate_zero, List.push_toArray, List.append_toArray, List.nil_append, List.cons_append]
 gi_wp2_with (refine ⟨trivial, ?_⟩; gi_at_call 145; refine (allI_in _ _ trivial rfl _ _).mono ?_; rintro e w' ⟨rfl, rfl⟩)
 obtain ⟨W0, hW0⟩ : ∃ W0, (w.alloc (Obj.cells #[Value.int IntKind.i64 0] 3)).alloc (Obj.cells #[Value.pointer (some { block := tb, off := 1 })] 290) = W0 := ⟨_, rfl⟩
 rw [hW0]
 have hsz : W0.heap.size = w.heap.size + 2 := by rw [← hW0]; simp
 have hB0 : Below w.heap.size w W0 := by rw [← hW0]; exact ((Below.refl _ w).alloc (Nat.le_refl _) _).alloc (by simp) _
 have hX0 : Boxed W0 w.heap.size 3 (.int .i64 0) := by rw [← hW0]; exact (Boxed.new w 3 _).alloc _
 have hX1 : Boxed W0 (w.heap.size + 1) 290 (.pointer (some ⟨tb, 1, none⟩)) := by rw [← hW0]; have := Boxed.new (w.alloc (Obj.cells #[Value.int IntKind.i64 0] 3)) 290 (.pointer (some ⟨tb, 1, none⟩)); simpa using this
 have htb : tb < w.heap.size := hrow.lt
 have hS0 : Sl W0 293 3 vi I.length (cellsI I) := hS.kept (fun k hk _ => hB0.block k hk)
 have hc0 : W0.cell? ⟨tb, 1, none⟩ = some vi := (hB0.cell (p := ⟨tb, 1, none⟩) htb).trans (hrow.cell 1)
 have hat : I.map (fun x => x) = I := List.map_id I
 clear hW0
 refine wpIn_rangeFunc_ownF rfl (by omega) (gf := 204) (lb := #[.pointer (some ⟨w.heap.size + 1, 0, none⟩)]) rfl trivial (enters_of Tryz.func204 (by kernel_rfl) rfl)
  (allI_stops Fence.wide 2 trivial rfl (by omega) (w.heap.size + 1) w.heap.size tb 1 vi (fun x => x) I (by simpa using hn) W0 (by omega) (by omega) (by omega) hX1.cell hc0 (by rw [hat]; exact hS0) (fun g hg => hS.lt hg))
  belowK_t (belowK_b (by omega)) (Below.refl _ _) (fun _ => rfl)
  (fun pre W => (Boxed W w.heap.size 3 (.int .i64 (pre.length : Nat)) ∧ Below w.heap.size w W) ∧ ∀ (j : Nat) (y : Int × VF), pre[j]? = some y → y.1 = j)
  (fun c pre W => (Boxed W w.heap.size 3 (.int .i64 ((pre.length - 1 : Nat) : Int)) ∧ Below w.heap.size w W) ∧ c = .exit 0 ∧ (∃ y, pre[pre.length - 1]? = some y ∧ y.1 ≠ (pre.length - 1 : Nat)) ∧ ∀ (j : Nat) (y : Int × VF), j < pre.length - 1 → pre[j]? = some y → y.1 = j)
  (OwnFrom.and (OwnFrom.and (Own.from (boxed_own _ _ _) _) (ownFrom_below (Nat.le_refl _) (by omega))) (ownFrom_pure _ _))
  (fun c => OwnFrom.and (OwnFrom.and (Own.from (boxed_own _ _ _) _) (ownFrom_below (Nat.le_refl _) (by omega))) (ownFrom_pure _ _))
  ⟨⟨hX0, hB0⟩, fun j y h => by simp at h⟩
  (fun x => { tmps := #[.pointer (some ⟨tb, 0, none⟩), undef, .int .i64 0, .pointer (some ⟨w.heap.size, 0, none⟩), .int .i64 x.1, .pointer (some ⟨tb, 0, none⟩), .pointer (some ⟨tb, 0, none⟩), .pointer (some ⟨tb, 1, none⟩), .func (.func 204) #[] #[.pointer (some ⟨w.heap.size + 1, 0, none⟩)], .int .i64 x.1, .agg #[.slice x.2.a x.2.l x.2.c, .int .i64 x.2.f], undef, undef, undef, undef, undef, undef], defers := [] })
  ?assign ?body ?done ?stop
 case assign =>
  intro l x W K hK
  gi_wp2
  exact hK
 case body =>
  rintro l pre x W ⟨⟨hi, hB⟩, hk⟩ hlt
  have hc := hi.cell
  have hf := hi.frozen
  by_cases hx : x.1 = (pre.length : Nat)
  ·gi_wp2
   refine ⟨(KeepsOthers.setCell _ _ _), (Below.refl w.heap.size W).setCell (p := ⟨w.heap.size, 0, none⟩) (Nat.le_refl _) _, ⟨by rw [List.length_append]; exact hi.set _, hB.setCell (p := ⟨w.heap.size, 0, none⟩) (Nat.le_refl _) _⟩, fun j y h => ?_⟩
   rw [List.getElem?_append] at h
   split at h
   ·exact hk j y h
   ·rename_i hj
    have : j - pre.length = 0 := by
     rcases Nat.eq_zero_or_pos (j - pre.length) with e | e
     ·exact e
     ·rw [List.getElem?_eq_none (by simp; omega)] at h; cases h
    rw [this] at h
    simp at h
    rw [← h, hx]
    omega
  ·gi_wp2
   refine ⟨KeepsOthers.refl _, ⟨by rw [List.length_append]; exact hi, hB⟩, rfl, ⟨x, by simp, by simpa using hx⟩, fun j y hj h => ?_⟩
   rw [List.getElem?_append_left (by simpa using hj)] at h
   exact hk j y h
 case done =>
  rintro D ys W hD rfl ⟨⟨hi, hB⟩, hk⟩ hK
  have hc := hi.cell
  gi_wp2
  refine ⟨by simp, .inl ⟨_, _, rfl, run_takeDeferred hK, ?_⟩⟩
  refine ⟨_, results_tmp rfl _ _ _, _, rfl, Nat.le_refl _, fun x hx e => ?_, hB.trans (belowK_b (w := w) (Nat.le_refl _) W D _ _ (by omega) hK rfl rfl)⟩
  obtain ⟨j, hj⟩ := List.getElem?_of_mem hx
  have h1 := hk j x hj
  have h2 := (List.getElem?_eq_some_iff.1 hj).1
  omega
 case stop =>
  rintro D c pre W hD hp ⟨⟨hi, hB⟩, rfl, ⟨y, hy, hyn⟩, hk⟩ hK
  have hc := hi.cell
  gi_wp2
  refine ⟨by simp, .inl ⟨_, _, rfl, run_takeDeferred hK, ?_⟩⟩
  have hpl := hp.length_le
  have hlt := (List.getElem?_eq_some_iff.1 hy).1
  refine ⟨_, results_tmp rfl _ _ _, _, rfl, by omega, fun x hx e => ?_, hB.trans (belowK_b (w := w) (Nat.le_refl _) W D _ _ (by omega) hK rfl rfl)⟩
  obtain ⟨i, hi'⟩ := List.getElem?_of_mem hx
  have hpre : ∀ j, j < pre.length → I[j]? = pre[j]? := fun j hj => by
   obtain ⟨t, rfl⟩ := hp
   rw [List.getElem?_append_left hj]
  have hge : ∀ (j : Nat) (z : Int × VF), I[j]? = some z → (j : Int) ≤ z.1 := by
   intro j
   induction j with
   | zero => intro z hz; exact h0 z (List.mem_of_getElem? hz)
   | succ j ih =>
    intro z hz
    have hj := (List.getElem?_eq_some_iff.1 hz).1
    have h1 := ih I[j] (List.getElem?_eq_getElem (by omega))
    have h2 := hs j (j + 1) I[j] z (by omega) (List.getElem?_eq_getElem (by omega)) hz
    have h3 : I[j].1 < z.1 := of_decide_eq_true h2
    omega
  rcases Nat.lt_trichotomy i (pre.length - 1) with hl | hl | hl
  ·have := hk i x hl (by rw [← hpre i (by omega)]; exact hi')
   omega
  ·rw [hl, hpre _ (by omega), hy] at hi'
   cases hi'; exact hyn e
  ·have h1 := hs (pre.length - 1) i y x hl (by rw [hpre _ (by omega)]; exact hy) hi'
   have h2 : y.1 < x.1 := of_decide_eq_true h1
   have h3 := hge _ y (by rw [hpre (pre.length - 1) (by omega)]; exact hy)
   omega
end Go.Proofs.YtaieidcohdhgpaaGreatDoor
