/- Files. -/
import Derived.Test.YtaieidcohdhgpaaGreatDoorPBA
import Derived.OrdersIn
namespace Go.Proofs.YtaieidcohdhgpaaGreatDoor
open Go.RowKit Go.Shelf
attribute [local go_sem] Oper.semAt_some
set_option maxHeartbeats 4000000
set_option maxRecDepth 100000
theorem wpIn_of_wp {P : Program} {n l : Nat} {Q : Exit → Act → World → Prop} {o : Oper} {a : Act} {w : World} {K : Act → World → Prop} (hnd : ∀ c, o.op ≠ .defer c) (h : o.wp P a w K Q) : o.wpIn (Fence.wide.inRound l) n P a w K Q := by
 refine ⟨fun f _ => trivial, ?_⟩
 have e : (o.semAt (Fence.wide.inRound l).round a.eval) = execOp a.eval o := Oper.semAt_some l a.eval o hnd
 rw [e]
 unfold Oper.wp at h
 generalize (execOp a.eval o).run P w = r at *
 cases r with
 | ok x w' =>
  cases x with
  | enter f args => exact ⟨fun h' => (by cases h'), CallsIn.inRound l (callsIn_wide.2 h)⟩
  | row row args => exact ⟨fun h' => (by cases h'), fun c cs _ => let ⟨v, w', r, s⟩ := h c cs; ⟨v, w', r, stepsIn_wide.2 s⟩⟩
  | _ => first | exact h | exact h.elim
 | halt x w' => cases x <;> first | exact h | exact h.elim
theorem wpAnyIn_of_any {P : Program} {n l : Nat} {md : Region.Mode} {ops : Array Oper} {Q : Exit → Act → World → Prop} (hlo : ¬ LetsOut Q) (hnd : ∀ (i : Nat) (o : Oper), ops[i]? = some o → ∀ c, o.op ≠ .defer c) :
  ∀ (fuel : Nat) (listed : Array Bool) (a : Act) (w : World), wpAny P md ops Q fuel listed a w → wpAnyIn (Fence.wide.inRound l) n P md ops Q fuel listed a w
 | 0, _, _, _, h => h
 | fuel + 1, listed, a, w, h => ⟨h.1, fun i hi => by
  have h1 := wpOp_mono (fun a' w' h' => wpAnyIn_of_any hlo hnd (n := n) (l := l) fuel _ a' w' h') (h.2 i hi)
  unfold wpOp at h1
  unfold wpOpIn
  cases ho : ops[i]? with
  | none => rw [ho] at h1; exact h1
  | some o =>
   rw [ho] at h1
   simp only at h1 ⊢
   by_cases hw : Region.wanted o (yielded ops a.tmps) = true
   ·rw [if_pos hw] at h1 ⊢
    rcases h1 with h1 | h1
    ·exact wpIn_of_wp (hnd i o ho) h1
    ·exact absurd h1.2 hlo
   ·rw [if_neg hw] at h1 ⊢
    exact ⟨fun f _ => trivial, h1⟩⟩
def noDefer (ops : Array Oper) : Bool := ops.all fun o => match o.op with | .defer _ => false | _ => true
theorem noDefer_of {ops : Array Oper} (h : noDefer ops = true) : ∀ (i : Nat) (o : Oper), ops[i]? = some o → ∀ c, o.op ≠ .defer c := fun i o ho c e => by
 have := Array.all_eq_true_iff_forall_mem.1 h o (Array.mem_of_getElem? ho)
 rw [e] at this; cases this
theorem wpIn_region_held {P : Program} {n l id : Nat} {ops : Array Oper} {Q : Exit → Act → World → Prop} {a : Act} {w : World} (S : World → Prop) (hm : P.follows .mixedOrders = true) (hlo : ¬ LetsOut Q) (hnd : noDefer ops = true) (hS : S w.drew)
  (h : S w.drew → wpAnyH P .any ops Q S ops.size (Array.replicate ops.size false) a w.drew) : (Code.region id ops true).wpIn (Fence.wide.inRound l) n P Q a w :=
 wpIn_region_any hm (wpAnyIn_of_any hlo (noDefer_of hnd) _ _ _ _ (wpAny_of_held _ _ _ _ (h hS)))
theorem chunk_in (v : Value) (sz : Nat) (h1 : 0 < sz) (hz : sz < 1000000) (n : Nat) (w : World) (hv : ∃ a l c, v = .slice a l c) :
  CallsIn Fence.wide n Tryz.prog 172 #[v, .int .i64 sz] w fun e w' => e = .returned (.func (.func 220) #[] #[.pointer (some ⟨w.heap.size, 0, none⟩), .pointer (some ⟨w.heap.size + 1, 0, none⟩)]) ∧ w' = (w.alloc (.cells #[v] 59)).alloc (.cells #[.int .i64 sz] 3) := by
 obtain ⟨a, l, c, rfl⟩ := hv
 refine callsIn_wide.2 ?_
 have h2 : ¬ ((sz : Int) < 1) := by omega
 go_enter Tryz.func172, Tryz.ntmps172
 go_wp2
 go_ret
 exact ⟨rfl, rfl⟩
def chV (g off sz len k : Nat) : Value := .slice (some ⟨g, off + k * sz, none⟩) (min sz (len - k * sz)) (min sz (len - k * sz))
theorem chunk_stops (n : Nat) (hn : 1 ≤ n) (B1 B2 g off sz len cap : Nat) (h1 : 0 < sz) (hz : sz < 1000000) (hlc : len ≤ cap) (hl : len < 1000000) (N : Nat) (hN : N = (len + sz - 1) / sz) (w : World) (hB1w : B1 < w.heap.size) (hB2w : B2 < w.heap.size)
  (hB1 : w.cell? ⟨B1, 0, none⟩ = some (.slice (some ⟨g, off, none⟩) len cap)) (hB2 : w.cell? ⟨B2, 0, none⟩ = some (.int .i64 sz)) (Kp : World → World → Prop)
  (hK : ∀ A B, Kp A B → A.cell? ⟨B1, 0, none⟩ = some (.slice (some ⟨g, off, none⟩) len cap) → A.cell? ⟨B2, 0, none⟩ = some (.int .i64 sz) → B.cell? ⟨B1, 0, none⟩ = some (.slice (some ⟨g, off, none⟩) len cap) ∧ B.cell? ⟨B2, 0, none⟩ = some (.int .i64 sz)) :
  SeqStopsK Fence.wide n Tryz.prog 220 #[.pointer (some ⟨B1, 0, none⟩), .pointer (some ⟨B2, 0, none⟩)] (fun k : Nat => #[chV g off sz len k]) Kp (fun ys => ys = List.range N) (fun pre => pre <+: List.range N) N w := fun l J Jx W hW hJ _ hY h0 => by
 have c1 := (hW.cell (p := ⟨B1, 0, none⟩) hB1w).trans hB1
 have c2 := (hW.cell (p := ⟨B2, 0, none⟩) hB2w).trans hB2
 have HY := hide hY
 have hNl : ∀ k, k < N → k * sz < len := fun k hk => by
  have h2 : (k + 1) * sz ≤ N * sz := Nat.mul_le_mul_right _ hk
  have h3 : N * sz ≤ len + sz - 1 := by rw [hN]; exact Nat.div_mul_le_self _ _
  rw [Nat.add_mul] at h2; omega
 have hNN : len ≤ N * sz := by
  have h3 := Nat.lt_div_mul_add (a := len + sz - 1) h1
  rw [← hN] at h3; omega
 have HNL := hide hNl
 have HNN := hide hNN
 have HK := hide hK
 have HJ := hide hJ
 clear hY hW hNl hNN hB1 hB2 hN hK hJ
 refine callsIn_of_wp Tryz.func220 rfl trivial ?_ rfl
 simp only [Tryz.ntmps220, List.size_toArray, List.length_cons, List.length_nil, Nat.reduceAdd, Nat.reduceSub, Array.replicate_succ, Array.replicate_zero, List.push_toArray, List.append_toArray, List.nil_append, List.cons_append]
 gi_wp2
 gi_loopw [4] (fun i wr => ∃ k : Nat, k ≤ N ∧ i = .int .i64 ((k * sz : Nat) : Int) ∧ wr.cell? ⟨B1, 0, none⟩ = some (.slice (some ⟨g, off, none⟩) len cap) ∧ wr.cell? ⟨B2, 0, none⟩ = some (.int .i64 sz) ∧ Hid (J (List.range k) wr))
  (fun i _ => len - (intOf i).toNat)
 case atStart => exact ⟨0, Nat.zero_le _, by rw [Nat.zero_mul]; rfl, c1, c2, h0⟩
 case round =>
  obtain ⟨k, hk, rfl, d1, d2, HJs⟩ := hrel
  by_cases hlt : k < N
  ·have hkl := unhide HNL k hlt
   obtain ⟨q, hq⟩ : ∃ q, q = k * sz := ⟨_, rfl⟩
   rw [← hq] at hkl ⊢
   obtain ⟨m, hm⟩ : ∃ m, m = min sz (len - q) := ⟨_, rfl⟩
   have hm0 : 0 < m := by omega
   have hml : m ≤ len - q := by omega
   have hms : m ≤ sz := by omega
   have HT : Hid (List.range (k + 1) = List.range k ++ [k]) := List.range_succ
   have HQ := hide hq
   have HM := hide hm
   have hqi : (q : Int) < (len : Int) := by omega
   have hqc : ¬ cap = q := by omega
   have hql : q ≤ len := by omega
   clear hq hm
   have hJd : J (List.range k) wr.drew := unhide HJ _ _ _ none (unhide HJs) ⟨rfl, rfl, rfl, Nat.le_refl _, fun _ _ _ => rfl⟩ (fun r e => by cases e)
   have hch : chV g off sz len k = .slice (some ⟨g, off + q, none⟩) m m := by unfold chV; rw [← unhide HQ, ← unhide HM]
   obtain ⟨fn, tmps, assign, body, hy, hR⟩ := unhide HY (List.range k) k wr.drew hJd (by rw [List.length_range]; exact hlt)
   rw [hch] at hy
   have hmi : (if (sz : Int) ≤ (len : Int) - (q : Int) then (sz : Int) else (len : Int) - (q : Int)) = (m : Int) := by
    have := unhide HM
    split <;> omega
   clear hJd hch
   gi_wp2
   refine wpIn_wide.2 ?_
   refine wp_region_held_drew (S := fun X => X.cell? ⟨B1, 0, none⟩ = some (.slice (some ⟨g, off, none⟩) len cap) ∧ X.cell? ⟨B2, 0, none⟩ = some (.int .i64 sz)) (by kernel_rfl) ⟨d1, d2⟩ (fun hHeld => ?_)
   refine wpAnyH_take (i := 0) (v := ?_) rfl (by kernel_rfl) (by kernel_rfl) (by kernel_rfl) (fun _ _ _ h => h) (Or.inl ⟨by rfl, ?_⟩) (by assumption) ?_
   rotate_left
   ·intro w hSw; (try dsimp only at hSw); go_simp <;> with_reducible rfl
   (try simp only [pE])
   refine wpAnyH_take (i := 1) (v := ?_) rfl (by kernel_rfl) (by kernel_rfl) (by kernel_rfl) (fun _ _ _ h => h) (Or.inl ⟨by rfl, ?_⟩) (by assumption) ?_
   rotate_left
   ·intro w hSw; (try dsimp only at hSw); go_simp <;> with_reducible rfl
   (try simp only [pE])
   refine wpAnyH_take (i := 2) (v := ?_) rfl (by kernel_rfl) (by kernel_rfl) (by kernel_rfl) (fun _ _ _ h => h) (Or.inl ⟨by rfl, ?_⟩) (by assumption) ?_
   rotate_left
   ·intro w hSw; (try dsimp only at hSw); go_simp <;> with_reducible rfl
   (try simp only [pE])
   refine wpAnyH_take (i := 3) (v := ?_) rfl (by kernel_rfl) (by kernel_rfl) (by kernel_rfl) (fun _ _ _ h => h) (Or.inl ⟨by rfl, ?_⟩) (by assumption) ?_
   rotate_left
   ·intro w hSw; (try dsimp only at hSw); go_simp <;> with_reducible rfl
   (try simp only [pE])
   refine wpAnyH_take (i := 4) (v := ?_) rfl (by kernel_rfl) (by kernel_rfl) (by kernel_rfl) (fun _ _ _ h => h) (Or.inl ⟨by rfl, ?_⟩) (by assumption) ?_
   rotate_left
   ·intro w hSw; (try dsimp only at hSw); go_simp <;> with_reducible rfl
   (try simp only [pE])
   refine wpAnyH_take (i := 5) (v := .int .i64 (m : Nat)) rfl (by kernel_rfl) (by kernel_rfl) (by kernel_rfl) (fun _ _ _ h => h) (Or.inl ⟨by rfl, ?_⟩) (by assumption) ?_
   ·intro w hSw; (try dsimp only at hSw); go_simp
    have h9 := unhide HM
    omega
   (try simp only [pE])
   refine wpAnyH_take (i := 6) (v := ?_) rfl (by kernel_rfl) (by kernel_rfl) (by kernel_rfl) (fun _ _ _ h => h) (Or.inl ⟨by rfl, ?_⟩) (by assumption) ?_
   rotate_left
   ·intro w hSw; (try dsimp only at hSw); go_simp <;> with_reducible rfl
   (try simp only [pE])
   refine wpAnyH_done (by kernel_rfl) ?_ _
   clear hHeld
   have hqm : q + m ≤ cap := by omega
   have hqm2 : q + m - q = m := by omega
   have hne : ¬ q + m = q := by omega
   have hqm3 : ((q : Int) + (m : Int)) ≤ (cap : Int) := by omega
   gi_wp2
   refine hR.mono ?_
   rintro e W3 (⟨rfl, hJ3, hk3⟩ | ⟨rfl, hJx3⟩)
   ·obtain ⟨k1, k2⟩ := unhide HK _ _ hk3 d1 d2
    gi_wp2
    go_roundw
    case rel => exact ⟨k + 1, by omega, by rw [Nat.add_mul, Nat.one_mul, ← unhide HQ] <;> go_num, k1, k2, by show J _ _; rw [unhide HT]; exact hJ3⟩
    case measure => simp [intOf]; omega
   ·gi_wp2
    refine bodyPost_ret (results_none rfl _ _ _) rfl ?_
    exact ⟨⟨_, rfl⟩, .inr ⟨_, by rw [← unhide HT]; (have h9 := List.take_prefix (k + 1) (List.range N); rw [List.take_range, Nat.min_eq_left hlt] at h9; exact h9), hJx3⟩⟩
  ·obtain rfl : k = N := by omega
   have hge := unhide HNN
   have hge' : ¬ (((k * sz : Nat) : Int) < (len : Int)) := by omega
   gi_wp2
   go_end0
   exact ⟨⟨_, rfl⟩, .inl (unhide HJs)⟩
end Go.Proofs.YtaieidcohdhgpaaGreatDoor
