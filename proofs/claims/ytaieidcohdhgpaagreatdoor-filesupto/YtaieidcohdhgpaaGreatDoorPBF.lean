/- Files. -/
import Derived.Test.YtaieidcohdhgpaaGreatDoorPBE
import Derived.Test.YtaieidcohdhgpaaGreatDoorPAO
namespace Go.Proofs.YtaieidcohdhgpaaGreatDoor
open Go.RowKit Go.Shelf
attribute [local go_sem] Oper.semAt_some
set_option maxHeartbeats 8000000
set_option maxRecDepth 100000
theorem walk_empty (w : World) (rb l : Nat) (t q : Option Addr) (s : ByteArray) (hrow : RowIs w rb 229 [.slice none 0 0]) :
  Calls Tryz.prog 170 #[.pointer t, .pointer (some ⟨rb, 0, none⟩), .string s, .pointer q, .func (.yield l) #[] #[]] w fun e w' => e = .returned (.bool true) ∧ Below w.heap.size w w' := by
 obtain ⟨W1, e1, x1, k1, s1, b1⟩ := alloc_name w [.pointer t] 37
 obtain ⟨W2, e2, x2, k2, s2, b2⟩ := alloc_name W1 [.string s] 9
 obtain ⟨W3, e3, x3, k3, s3, b3⟩ := alloc_name W2 [.pointer q] 247
 obtain ⟨W4, e4, x4, k4, s4, b4⟩ := alloc_name W3 [.func (.yield l) #[] #[]] 144
 obtain ⟨W5, e5, x5, k5, s5, b5⟩ := alloc_name W4 [.bool false] 4
 obtain ⟨W6, e6, x6, k6, s6, b6⟩ := alloc_name W5 [.pointer (some ⟨rb, 0, none⟩)] 307
 have hb6 : Below w.heap.size w W6 := b1.trans ((b2.mono (by omega)).trans ((b3.mono (by omega)).trans ((b4.mono (by omega)).trans ((b5.mono (by omega)).trans (b6.mono (by omega))))))
 have y5 := k6 _ _ _ x5
 have t4 : W4.heap.size = w.heap.size + 1 + 1 + 1 + 1 := by omega
 have t5 : W5.heap.size = w.heap.size + 1 + 1 + 1 + 1 + 1 := by omega
 have t6 : W6.heap.size = w.heap.size + 6 := by omega
 rw [t4] at y5; rw [t5] at x6
 have hrb := hrow.lt
 have hcB : W6.cell? ⟨w.heap.size + 1 + 1 + 1 + 1 + 1, 0, none⟩ = some (.pointer (some ⟨rb, 0, none⟩)) := (x6.cell 0).trans rfl
 have hcr : W6.cell? ⟨rb, 0, none⟩ = some (.slice none 0 0) := (hb6.cell (p := ⟨rb, 0, none⟩) hrb).trans ((hrow.cell 0).trans rfl)
 have HT6 := hide t6
 have HY5 := hide y5
 have HB6 := hide hb6
 have HCB := hide hcB
 have HCR := hide hcr
 have HE1 := hide e1; have HE2 := hide e2; have HE3 := hide e3; have HE4 := hide e4; have HE5 := hide e5; have HE6 := hide e6
 have hc := hrow.cell 0
 clear x1 x2 x3 x4 x5 x6 k1 k2 k3 k4 k5 k6 s1 s2 s3 s4 s5 s6 b1 b2 b3 b4 b5 b6 y5 t4 t5 t6 e1 e2 e3 e4 e5 e6 hb6 hcB hcr hrow
 refine (callsIn_wide (n := 3)).1 ?_
 refine callsIn_of_wp_marks Tryz.func170 rfl trivial ?_ rfl
 simp only [Tryz.ntmps170, List.size_toArray, List.length_cons, List.length_nil, Nat.reduceAdd, Nat.reduceSub, Array.replicate_succ, Array.replicate_zero, List.push_toArray, List.append_toArray, List.nil_append, List.cons_append]
 gi_wp2_with (refine ⟨trivial, ?_⟩; gi_at_call 179; refine (allS_in _ _ trivial rfl _ _).mono ?_; rintro e w' ⟨rfl, rfl⟩)
 rw [show w.alloc (.cells #[.pointer t] 37) = W1 from unhide HE1, show W1.alloc (.cells #[.string s] 9) = W2 from unhide HE2, show W2.alloc (.cells #[.pointer q] 247) = W3 from unhide HE3, show W3.alloc (.cells #[.func (.yield l) #[] #[]] 144) = W4 from unhide HE4, show W4.alloc (.cells #[.bool false] 4) = W5 from unhide HE5, show W5.alloc (.cells #[.pointer (some ⟨rb, 0, none⟩)] 307) = W6 from unhide HE6]
 rename_i K0 hK0
 have t6 := unhide HT6
 refine wpIn_rangeFunc_ownH (α := ByteArray × VS) rfl (by omega) (gf := 222) (lb := #[.pointer (some ⟨w.heap.size + 1 + 1 + 1 + 1 + 1, 0, none⟩)]) rfl trivial (enters_of Tryz.func222 (by kernel_rfl) rfl)
  (allS_stops Fence.wide 2 trivial rfl (by omega) (w.heap.size + 1 + 1 + 1 + 1 + 1) w.heap.size rb 0 (.slice none 0 0) (fun x => x) [] (by simp) W6 (by omega) (by omega) (by omega) (unhide HCB) (unhide HCR) ⟨rfl, .inl ⟨rfl, rfl⟩⟩ (fun g hg => by simp [Value.ownBlock] at hg))
  belowK_t (belowK_b (by omega)) (Below.refl _ _) (fun _ => rfl)
  (fun _ X => Boxed X (w.heap.size + 1 + 1 + 1 + 1) 4 (.bool false) ∧ Below w.heap.size w X)
  (fun _ _ _ => False)
  (OwnFrom.and (Own.from (boxed_own _ _ (fun _ => .bool false)) _) (ownFrom_below (Nat.le_refl _) (by omega)))
  (fun _ _ _ _ _ hs _ _ => hs)
  ⟨unhide HY5, unhide HB6⟩
  (fun _ _ _ => True)
  (fun _ _ _ _ _ _ hs _ _ => hs)
  ?assign ?body ?done ?stop
 case assign =>
  rintro l2 pre x X K ⟨hi, hB⟩ hK
  clear t6
  gi_wp2
  exact hK _ _ ((KeepsOthers.alloc _ _).from _) ((Below.refl _ X).alloc hB.size _) ⟨hi.alloc _, hB.alloc hB.size _⟩ trivial
 case body =>
  rintro l2 pre x a' X _ _ _ _ hlt
  exact absurd hlt (by simp)
 case done =>
  rintro D ys X hD rfl ⟨hi, hB⟩ hK
  have hc4 := hi.cell
  have hf4 := hi.frozen
  clear t6
  show K0 _ _
  refine hK0 _ _ ?_
  gi_wp2
  have t6 := unhide HT6
  have hle : w.heap.size ≤ w.heap.size + 1 + 1 + 1 + 1 := by omega
  have hK5 : (X.setCell ⟨w.heap.size + 1 + 1 + 1 + 1, 0, none⟩ (.bool true)).heap[D]? = some (.deferred (some [])) := (Below.heap_setCell _ _ _ _ (show D ≠ w.heap.size + 1 + 1 + 1 + 1 by omega)).trans hK
  refine ⟨by simp, .inl ⟨_, _, rfl, run_takeDeferred hK5, ?_⟩⟩
  have hb5 : Below w.heap.size w (X.setCell ⟨w.heap.size + 1 + 1 + 1 + 1, 0, none⟩ (.bool true)) := hB.setCell (p := ⟨w.heap.size + 1 + 1 + 1 + 1, 0, none⟩) hle _
  have hbx : Boxed (X.setCell ⟨w.heap.size + 1 + 1 + 1 + 1, 0, none⟩ (.bool true)) (w.heap.size + 1 + 1 + 1 + 1) 4 (.bool true) := hi.set _
  have hbK := belowK_b (w := w) (Nat.le_refl _) _ D _ (.deferred none) (by omega) hK5 rfl rfl
  have hfin : Boxed ((X.setCell ⟨w.heap.size + 1 + 1 + 1 + 1, 0, none⟩ (.bool true)).putObj D (.deferred none)) (w.heap.size + 1 + 1 + 1 + 1) 4 (.bool true) := ((belowK_b (w := W5) (Nat.le_refl _) _ D _ (.deferred none) (by have := unhide HE6; rw [← this] at hD; simp at hD; omega) hK5 rfl rfl).block _ (by have h8 := unhide HE6; have h9 := congrArg (fun X : World => X.heap.size) h8; simp at h9; omega)).trans hbx
  have hcf := hfin.cell
  exact ⟨_, by simp [results, Tryz.results170, go_sem, hcf] <;> rfl, rfl, hb5.trans hbK⟩
 case stop =>
  rintro D c pre X _ _ h _
  exact h.elim
theorem info245 : (Tryz.prog.info? 245).map (fun i => (i.zero, i.size)) = some (some (.agg (List.replicate 60 (.bool false)).toArray), 60) := by kernel_rfl
theorem zero245 : ∀ w, (zeroValue 245).run Tryz.prog w = .ok (.agg (List.replicate 60 (.bool false)).toArray) w := (zero_of_info info245).1
theorem allT_in (n : Nat) (a : Option Addr) (w : World) :
  CallsIn Fence.wide n Tryz.prog 115 #[.pointer a] w fun e w' => e = .returned (.func (.func 169) #[] #[.pointer (some ⟨w.heap.size, 0, none⟩)]) ∧ w' = w.alloc (.cells #[.pointer a] 37) := by
 refine callsIn_wide.2 ?_
 go_enter Tryz.func115, Tryz.ntmps115
 go_wp2
 go_ret
 exact ⟨rfl, rfl⟩
theorem allT_empty (n : Nat) (Bt tb rb : Nat) (vi : Value) (w : World) (hBw : Bt < w.heap.size) (hB : w.cell? ⟨Bt, 0, none⟩ = some (.pointer (some ⟨tb, 0, none⟩))) (ht : RowIs w tb 214 [.pointer (some ⟨rb, 0, none⟩), vi]) (hr : RowIs w rb 229 [.slice none 0 0]) (Kp : World → World → Prop) :
  SeqStopsK Fence.wide n Tryz.prog 169 #[.pointer (some ⟨Bt, 0, none⟩)] (fun x : Empty => (x.elim : Array Value)) Kp (fun ys => ys = []) (fun _ => False) 0 w := fun l J Jx W hW hJ _ hY h0 => by
 have c1 := (hW.cell (p := ⟨Bt, 0, none⟩) hBw).trans hB
 have ht' : RowIs W tb 214 [.pointer (some ⟨rb, 0, none⟩), vi] := (hW.block _ ht.lt).trans ht
 have hr' : RowIs W rb 229 [.slice none 0 0] := (hW.block _ hr.lt).trans hr
 obtain ⟨W1, e1, x1, k1, s1, b1⟩ := alloc_name W (List.replicate 60 (.bool false)) 245
 have d1 : W1.cell? ⟨Bt, 0, none⟩ = some (.pointer (some ⟨tb, 0, none⟩)) := (b1.cell (p := ⟨Bt, 0, none⟩) (World.block_lt_of_cell? _ _ c1)).trans c1
 have d2 : W1.cell? ⟨tb, 0, none⟩ = some (.pointer (some ⟨rb, 0, none⟩)) := ((k1 _ _ _ ht').cell 0).trans rfl
 have HW : Hid (Calls Tryz.prog 170 #[.pointer (some ⟨tb, 0, none⟩), .pointer (some ⟨rb, 0, none⟩), .string ⟨#[]⟩, .pointer (some ⟨W.heap.size, 0, none⟩), .func (.yield l) #[] #[]] W1.drew fun e w' => e = .returned (.bool true) ∧ w'.cell? ⟨Bt, 0, none⟩ = some (.pointer (some ⟨tb, 0, none⟩)) ∧ w'.cell? ⟨tb, 0, none⟩ = some (.pointer (some ⟨rb, 0, none⟩)) ∧ Hid (J [] w')) := (walk_empty W1.drew rb l _ _ _ (show RowIs W1.drew rb 229 _ from k1 _ _ _ hr')).mono fun e w' ⟨he, hb⟩ => by
  refine ⟨he, (hb.cell (p := ⟨Bt, 0, none⟩) (World.block_lt_of_cell? _ _ d1)).trans d1, (hb.cell (p := ⟨tb, 0, none⟩) (World.block_lt_of_cell? _ _ d2)).trans d2, hJ _ _ _ none h0 ⟨hb.os.trans b1.os, hb.tape.trans b1.tape, hb.output.trans b1.output, Nat.le_trans b1.size hb.size, fun k hk _ => (hb.block k (by show k < W1.heap.size; omega)).trans (b1.block k hk)⟩ (fun r e => by cases e)⟩
 have HE := hide e1
 clear hY hJ hW hB ht hr ht' hr' x1 k1 s1 b1 e1
 refine callsIn_wide.2 ?_
 go_enter Tryz.func169, Tryz.ntmps169
 go_upto_region 0 with fail
 refine wp_region_lit ?_
 refine wpList_alloc_z rfl 245 rfl zero245 ?_
 refine wpList_nil ?_
 rw [show W.alloc (.cells (List.replicate 60 (Value.bool false)).toArray 245) = W1 from unhide HE]
 (try simp only [pE])
 go_upto_region 1 with fail
 refine wp_region_held_drew (S := fun X => X.cell? ⟨Bt, 0, none⟩ = some (.pointer (some ⟨tb, 0, none⟩)) ∧ X.cell? ⟨tb, 0, none⟩ = some (.pointer (some ⟨rb, 0, none⟩))) (by kernel_rfl) ⟨d1, d2⟩ (fun hHeld => ?_)
 refine wpAnyH_take (i := 0) (v := ?_) rfl (by kernel_rfl) (by kernel_rfl) (by kernel_rfl) (fun _ _ _ h => h) (Or.inl ⟨by rfl, ?_⟩) (by assumption) ?_
 rotate_left
 ·intro w hSw; (try dsimp only at hSw); go_simp <;> with_reducible rfl
 (try simp only [pE])
 refine wpAnyH_take (i := 1) (v := ?_) rfl (by kernel_rfl) (by kernel_rfl) (by kernel_rfl) (fun _ _ _ h => h) (Or.inl ⟨by rfl, ?_⟩) (by assumption) ?_
 rotate_left
 ·intro w hSw; (try dsimp only at hSw); go_simp <;> with_reducible rfl
 (try simp only [pE])
 refine wpAnyH_take (i := 2) (v := ?_) rfl (by kernel_rfl) (by kernel_rfl) (by kernel_rfl) (fun _ _ _ h => h) (Or.inl ⟨by rfl, ?_⟩) (by assumption) ?_
 rotate_left
 ·intro w hSw; (try dsimp only at hSw); go_simp <;> with_reducible rfl
 (try simp only [pE])
 refine wpAnyH_take (i := 3) (v := ?_) rfl (by kernel_rfl) (by kernel_rfl) (by kernel_rfl) (fun _ _ _ h => h) (Or.inl ⟨by rfl, ?_⟩) (by assumption) ?_
 rotate_left
 ·intro w hSw; (try dsimp only at hSw); go_simp <;> with_reducible rfl
 (try simp only [pE])
 refine wpAnyH_take (i := 4) (v := ?_) rfl (by kernel_rfl) (by kernel_rfl) (by kernel_rfl) (fun _ _ _ h => h) (Or.inl ⟨by rfl, ?_⟩) (by assumption) ?_
 rotate_left
 ·intro w hSw; (try dsimp only at hSw); go_simp <;> with_reducible rfl
 (try simp only [pE])
 refine wpAnyH_take (i := 5) (v := ?_) rfl (by kernel_rfl) (by kernel_rfl) (by kernel_rfl) (fun _ _ _ h => h) (Or.inl ⟨by rfl, ?_⟩) (by assumption) ?_
 rotate_left
 ·intro w hSw; (try dsimp only at hSw); go_simp <;> with_reducible rfl
 (try simp only [pE])
 refine wpAnyH_ready (rs := [6]) (by kernel_rfl) (by simp) ?_
 refine AllReadyH.cons (i := 6) rfl ?_ AllReadyH.nil
 intro K hK
 go_simp
 go_at_call 170
 refine (unhide HW).mono ?_
 rintro e w' ⟨rfl, q1, q2, HJ⟩
 go_wp2_with fail
 refine hK.out _ _ ⟨q1, q2⟩ (fun hH6 => ?_)
 clear hK K
 (try simp only [pE])
 refine wpAnyH_done (by kernel_rfl) ?_ _
 go_wp2
 go_end0
 exact ⟨⟨_, rfl⟩, .inl ⟨[], rfl, unhide HJ⟩⟩
end Go.Proofs.YtaieidcohdhgpaaGreatDoor
