/- Files. -/
import Derived.Test.YtaieidcohdhgpaaGreatDoorPAV
import Derived.Test.YtaieidcohdhgpaaGreatDoorPAL
import Derived.RangeFuncNested
import Derived.RangeFuncBound
import Derived.RangeFuncCalls
import Derived.RangeFuncLeaves
import Derived.RangeFuncBox
import Derived.Shelf.Abstract
import Derived.Shelf.RegionOpen
import Derived.WalkKit
import Derived.OwnWalkIn
import Derived.TacticsInMore
import Derived.LoopNIn
import Derived.LoopIn
namespace Go.Proofs.YtaieidcohdhgpaaGreatDoor
open Go.RowKit Go.Shelf
attribute [local go_sem] Oper.semAt_some
set_option maxHeartbeats 2000000
set_option maxRecDepth 100000
theorem all1R (F : Fence) (n : Nat) (hf : F.fn 270) (hro : F.round = none) (hn : 1 ≤ n) (l Bm n0 hb ho g cap : Nat) {α : Type} (pr : α → Int × Int) (es : List α) (hes : es.length ≤ 10000) (hgn : g < n0) (J Jx : List α → World → Prop)
  (W : World) (hJ : AbidesFrom W.heap.size J)
  (hY : ∀ pre x W, J pre W → pre.length < es.length → YieldAt F (n - 1) Tryz.prog l #[.int .u64 (pr x).1, .int .i64 (pr x).2] W fun e W' =>
   (e = .returned (.bool true) ∧ J (pre ++ [x]) W' ∧ Below n0 W W') ∨ (e = .returned (.bool false) ∧ Jx (pre ++ [x]) W'))
  (hBm : W.cell? ⟨Bm, 0, none⟩ = some (.pointer (some ⟨hb, ho, none⟩))) (hc : W.cell? ⟨hb, ho, none⟩ = some (.slice (some ⟨g, 0, none⟩) es.length cap)) 
  (hcell : ∀ j u, (cellsR (es.map pr))[j]? = some u → W.cell? ⟨g, j, none⟩ = some u) (hn0 : n0 ≤ W.heap.size) (h0 : J [] W) :
  CallsIn F n Tryz.prog 270 #[.func (.yield l) #[] #[], .pointer (some ⟨Bm, 0, none⟩)] W fun e W' => (∃ v, e = .returned v) ∧
   ((∃ ys, ys = es ∧ J ys W') ∨ (∃ pre, pre <+: es ∧ Jx pre W')) := by
 refine callsIn_of_wp Tryz.func270 rfl hf ?_ hro
 simp only [Tryz.ntmps270, List.size_toArray, List.length_cons, List.length_nil, Nat.reduceAdd, Nat.reduceSub, Array.replicate_succ, Array.replicate_zero, List.push_toArray, List.append_toArray, List.nil_append, List.cons_append]
 gi_wp2
 gi_loopw [10] (fun i wr => ∃ k : Nat, k ≤ es.length ∧ i = .int .i64 k ∧ J (es.take k) wr ∧ Below n0 W wr)
  (fun i _ => es.length - (intOf i).toNat)
 case atStart => exact ⟨0, Nat.zero_le _, rfl, h0, Below.refl _ _⟩
 case round =>
  obtain ⟨k, hk, rfl, hJs, hnx⟩ := hrel
  by_cases hlt : k < es.length
  ·obtain ⟨x, hx⟩ : ∃ x, es[k]? = some x := ⟨_, List.getElem?_eq_getElem hlt⟩
   have HT : Hid (es.take (k + 1) = es.take k ++ [x]) := by show _ = _; rw [List.take_add_one, hx]; rfl
   have q := cellsR_at (es.map pr) k (pr x) (by rw [List.getElem?_map, hx]; rfl)
   have q0 := (hnx.cell (p := ⟨g, k * 2, none⟩) hgn).trans (hcell _ _ q.1)
   have q1 := (hnx.cell (p := ⟨g, k * 2 + 1, none⟩) hgn).trans (hcell _ _ q.2)
   have hlen : (es.take k).length < es.length := by rw [List.length_take]; omega
   have hJ1 : ∀ o, J (es.take k) (wr.alloc o) := fun o => hJ _ _ _ none hJs (grown_alloc wr o) (fun r e => by cases e)
   obtain ⟨fn, tmps, assign, body, hy, hR⟩ := hY _ x (wr.alloc (.cells #[.int .u64 (pr x).1, .int .i64 (pr x).2] 350)) (hJ1 _) hlen
   have HX := hide hx
   clear q hx hlen hJ1 hcell
   gi_wp2
   refine hR.mono ?_
   rintro e W3 (⟨rfl, hJ3, hk3⟩ | ⟨rfl, hJx3⟩)
   ·gi_wp2
    go_roundw
    case rel => exact ⟨k + 1, by omega, by go_num, by rw [unhide HT]; exact hJ3, (hnx.alloc (Nat.le_trans hn0 hnx.size) _).trans hk3⟩
    case measure => simp [intOf]; omega
   ·gi_wp2
    refine bodyPost_ret (results_none rfl _ _ _) rfl ?_
    exact ⟨⟨_, rfl⟩, .inr ⟨_, by rw [← unhide HT]; exact List.take_prefix _ _, hJx3⟩⟩
  ·obtain rfl : k = es.length := by omega
   gi_wp2
   go_end0
   exact ⟨⟨_, rfl⟩, .inl ⟨_, rfl, by rw [List.take_length] at hJs; exact hJs⟩⟩
theorem all1R_nil (F : Fence) (n : Nat) (hf : F.fn 270) (hro : F.round = none) (l Bm hb ho : Nat) {α : Type} (J : List α → World → Prop) (W : World)
  (hBm : W.cell? ⟨Bm, 0, none⟩ = some (.pointer (some ⟨hb, ho, none⟩))) (hc : W.cell? ⟨hb, ho, none⟩ = some (.slice none 0 0)) (h0 : J [] W) :
  CallsIn F n Tryz.prog 270 #[.func (.yield l) #[] #[], .pointer (some ⟨Bm, 0, none⟩)] W fun e W' => (∃ v, e = .returned v) ∧ J [] W' := by
 refine callsIn_of_wp Tryz.func270 rfl hf ?_ hro
 simp only [Tryz.ntmps270, List.size_toArray, List.length_cons, List.length_nil, Nat.reduceAdd, Nat.reduceSub, Array.replicate_succ, Array.replicate_zero, List.push_toArray, List.append_toArray, List.nil_append, List.cons_append]
 gi_wp2
 gi_loopw [10] (fun i wr => i = .int .i64 0 ∧ J [] wr) (fun _ _ => 0)
 case atStart => exact ⟨rfl, h0⟩
 case round =>
  obtain ⟨rfl, hJs⟩ := hrel
  gi_wp2
  go_end0
  exact ⟨⟨_, rfl⟩, hJs⟩
theorem allR_in (F : Fence) (n : Nat) (hf : F.fn 235) (hro : F.round = none) (a : Option Addr) (w : World) :
  CallsIn F n Tryz.prog 235 #[.pointer a] w fun e w' => e = .returned (.func (.func 270) #[] #[.pointer (some ⟨w.heap.size, 0, none⟩)]) ∧ w' = w.alloc (.cells #[.pointer a] 294) := by
 refine callsIn_of_wp Tryz.func235 rfl hf ?_ hro
 simp only [Tryz.ntmps235, List.size_toArray, List.length_cons, List.length_nil, Nat.reduceAdd, Nat.reduceSub, Array.replicate_succ, Array.replicate_zero, List.push_toArray, List.append_toArray, List.nil_append, List.cons_append]
 gi_wp2
 go_ret
 exact ⟨rfl, rfl⟩
theorem allR_stops (F : Fence) (n : Nat) (hf : F.fn 270) (hro : F.round = none) (hn : 1 ≤ n) (Bm n0 hb ho : Nat) (v : Value) {α : Type} (pr : α → Int × Int) (es : List α) (hes : es.length ≤ 10000) (w : World) (hBmw : Bm < w.heap.size) (hbw : hb < w.heap.size) (hn0 : n0 ≤ w.heap.size)
  (hBm : w.cell? ⟨Bm, 0, none⟩ = some (.pointer (some ⟨hb, ho, none⟩))) (hc : w.cell? ⟨hb, ho, none⟩ = some v) (hS : Sl w 350 2 v es.length (cellsR (es.map pr))) (hown : ∀ g, v.ownBlock = some g → g < n0) :
  SeqStopsK F n Tryz.prog 270 #[.pointer (some ⟨Bm, 0, none⟩)] (fun x : α => #[.int .u64 (pr x).1, .int .i64 (pr x).2]) (Below n0) (fun ys => ys = es) (fun pre => pre <+: es) es.length w := fun l J Jx W hW hJ _ hY h0 => by
 have hBm' := (hW.cell (p := ⟨Bm, 0, none⟩) hBmw).trans hBm
 have hc' := (hW.cell (p := ⟨hb, ho, none⟩) hbw).trans hc
 rcases hS.2 with ⟨rfl, he⟩ | ⟨g, cap, R, rfl, hR, _, _, _, hT⟩
 ·obtain rfl : es = [] := List.eq_nil_of_length_eq_zero he
  exact (all1R_nil F n hf hro l Bm hb ho J W hBm' hc' h0).mono fun e W' ⟨he, hj⟩ => ⟨he, .inl ⟨_, rfl, hj⟩⟩
 ·exact all1R F n hf hro hn l Bm n0 hb ho g cap pr es hes (hown g rfl) J Jx W hJ hY hBm' hc' (fun j u hu => by
   rw [hW.cell (p := ⟨g, j, none⟩) hR.lt, hR.cell]
   rw [← hT, List.getElem?_take] at hu
   split at hu
   ·exact hu
   ·cases hu) (Nat.le_trans hn0 hW.size) h0
end Go.Proofs.YtaieidcohdhgpaaGreatDoor
