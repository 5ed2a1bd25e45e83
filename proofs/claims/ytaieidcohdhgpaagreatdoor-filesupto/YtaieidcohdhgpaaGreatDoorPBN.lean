/- Files. -/
import Derived.Test.YtaieidcohdhgpaaGreatDoorPBL
import Derived.Test.YtaieidcohdhgpaaGreatDoorPBM
import Derived.Sort.CutIn
namespace Go.Proofs.YtaieidcohdhgpaaGreatDoor
open Go.RowKit Go.Shelf
attribute [local go_sem] Oper.semAt_some
set_option maxHeartbeats 2000000
set_option maxRecDepth 100000
theorem stepIn_append_post {F : Fence} {n : Nat} {P : Program} {ops : Array Oper} {o : Oper} {a : Act} {w : World} {K : Act → World → Prop} {Q : Exit → Act → World → Prop} {E : Prop}
  (hg : o.guard = none) (d x : Operand) (dT sT : TypeId) (hop : o.op = Op.call { callee := Callee.builtin Builtin.append, args := #[d, x], argTypes := #[dT, sT] })
  (v u : Value) (hd : a.eval d = v) (hx : a.eval x = u) {Post : Value → World → Prop} (hr : ∃ v' w', (Builtin.append_ #[dT, sT] o.type #[v, u]).run P w = .ok v' w' ∧ Post v' w') (hK : ∀ v' w', Post v' w' → K (a.put o.dst v') w') :
  if Region.wanted o (yielded ops a.tmps) = true then Oper.wpIn F n P o a w K Q else E := by
 obtain ⟨v', w', h1, h2⟩ := hr
 have hw : Region.wanted o (yielded ops a.tmps) = true := by simp [Region.wanted, hg]
 rw [if_pos hw]
 unfold Oper.wpIn
 refine ⟨?_, ?_⟩
 ·simp [Oper.about, hop, resolve, Target.leads, Sem.run_pure]
 ·rw [Oper.semAt_plain F _ _ (by rw [hop]; intro c hc'; cases hc')]
  simp [execOp, hop, resolve, invoke, builtin, hd, hx, h1, Result.andThen]
  exact hK _ _ h2
theorem stepIn_call3 {l n : Nat} {P : Program} {ops : Array Oper} {o : Oper} {a : Act} {w : World} {K : Act → World → Prop} {Q : Exit → Act → World → Prop} {E : Prop}
  (hg : o.guard = none) (f : FuncId) (x1 x2 x3 : Operand) (ts : Array TypeId) (hop : o.op = Op.call { callee := Callee.value (.func f), args := #[x1, x2, x3], argTypes := ts })
  (u1 u2 u3 : Value) (h1 : a.eval x1 = u1) (h2 : a.eval x2 = u2) (h3 : a.eval x3 = u3) (hcf : (callFunc f #[u1, u2, u3]).run P w = .ok (.enter f #[u1, u2, u3]) w) {Post : Ending → World → Prop} (hc : Calls P f #[u1, u2, u3] w Post) (hK : ∀ e w', Post e w' → ∃ v, e = .returned v ∧ K (a.put o.dst v) w') :
  if Region.wanted o (yielded ops a.tmps) = true then Oper.wpIn (Fence.wide.inRound l) n P o a w K Q else E := by
 have hw : Region.wanted o (yielded ops a.tmps) = true := by simp [Region.wanted, hg]
 rw [if_pos hw]
 unfold Oper.wpIn
 have hf : a.eval (.func f) = .func (.func f) #[] #[] := rfl
 have he : (execOp a.eval o).run P w = .ok (.enter f #[u1, u2, u3]) w := by
  simp [execOp, hop, resolve, h1, h2, h3, hf, Deferred.ofValue, invoke, hcf]
 refine ⟨fun _ _ => trivial, ?_⟩
 rw [Oper.semAt_plain _ _ _ (by rw [hop]; intro c hc'; cases hc'), he, Oper.uponIn_enter]
 refine ⟨fun h => by simp [Fence.inRound, Fence.wide] at h, (CallsIn.inRound l (callsIn_wide.2 hc)).mono (fun e w' hp => ?_)⟩
 obtain ⟨v, rfl, hk⟩ := hK e w' hp
 exact hk
def Tells (G : Gh) (I : List (Int × VF)) (ns : List ByteArray) (xs : List (ByteArray × VS)) (es : List En) : Prop :=
 es.length = xs.length ∧ ∀ (j : Nat) x y, xs[j]? = some x → es[j]? = some y → tellV G I (ns ++ [x.1]) x.1 x.2 (.agg #[.string y.n, .bool y.d, .int .i64 y.s, .int .i64 y.l])
theorem Tells.snoc {G : Gh} {I : List (Int × VF)} {ns : List ByteArray} {xs : List (ByteArray × VS)} {es : List En} (h : Tells G I ns xs es) {x : ByteArray × VS} {y : En} (hx : tellV G I (ns ++ [x.1]) x.1 x.2 (.agg #[.string y.n, .bool y.d, .int .i64 y.s, .int .i64 y.l])) : Tells G I ns (xs ++ [x]) (es ++ [y]) := by
 refine ⟨by simp [h.1], fun j x' y' hx' hy' => ?_⟩
 rcases Nat.lt_trichotomy j xs.length with hj | hj | hj
 ·rw [List.getElem?_append_left hj] at hx'
  rw [List.getElem?_append_left (by rw [h.1]; exact hj)] at hy'
  exact h.2 j x' y' hx' hy'
 ·subst hj
  rw [List.getElem?_concat_length] at hx'
  rw [← h.1, List.getElem?_concat_length] at hy'
  cases hx'; cases hy'; exact hx
 ·rw [List.getElem?_eq_none (by simp; omega)] at hx'; cases hx'
def LiJ (w : World) (tb BL : Nat) (G : Gh) (I : List (Int × VF)) (ns : List ByteArray) (xs : List (ByteArray × VS)) (W : World) : Prop :=
 ∃ v es, RowIs W BL 99 [v] ∧ RowIs W w.heap.size 37 [.pointer (some ⟨tb, 0, none⟩)] ∧ Sl W 112 4 v es.length (cellsE es) ∧ Tells G I ns xs es ∧ Below w.heap.size w W ∧ (∀ g, v.ownBlock = some g → w.heap.size ≤ g)
theorem isCells_of_row {W : World} {k : Nat} {t : TypeId} {R : List Value} (h : RowIs W k t R) {o : Obj} (ho : W.heap[k]? = some o) : o.isCells = true := by
 unfold RowIs at h; rw [h] at ho; cases ho; rfl
theorem LiJ.own {α : Type} (pr : α → ByteArray × VS) (w : World) (tb BL : Nat) (G : Gh) (I : List (Int × VF)) (ns : List ByteArray) (B : Nat) (hB : w.heap.size ≤ B) : OwnFrom B (fun (pre : List α) W => LiJ w tb BL G I ns (pre.map pr) W) := by
 rintro pre X Y row ⟨v, es, h1, h2, h3, h4, h5, h6⟩ hg hrow
 have hk : ∀ k t R, RowIs X k t R → RowIs Y k t R := fun k t R h => h.kept hg (fun e' => by
  obtain ⟨_, o, ho, hc⟩ := hrow k e'.symm
  rw [isCells_of_row h ho] at hc; cases hc)
 refine ⟨v, es, hk _ _ _ h1, hk _ _ _ h2, h3.kept (fun k hk' e => hg.block k hk' (fun e' => ?_)), h4, h5.grown hg h5.size (fun k e => Nat.le_trans hB (hrow k e).1), h6⟩
 obtain ⟨R, hR⟩ := h3.type e
 obtain ⟨_, o, ho, hc⟩ := hrow k e'.symm
 rw [isCells_of_row hR ho] at hc; cases hc
end Go.Proofs.YtaieidcohdhgpaaGreatDoor
