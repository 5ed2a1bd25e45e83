/- Files: slices.Insert and slices.Delete at the two kinds of pairs: one pair more, one pair fewer, in a row of the Map's own. -/
import Derived.Test.YtfabjhgkigagpaaGreatDoorPAA
import Derived.Lib.AppendZerosOnto
import Derived.BigRegion
namespace Go.Proofs.YtfabjhgkigagpaaGreatDoor
open Go.RowKit

set_option maxHeartbeats 1000000
set_option maxRecDepth 100000
/-- clear, of a part of a row, whatever the elements' width. -/
theorem run_clear_spl {P : Program} (w : World) (t e ty : TypeId) (z : Value) (ht : P.underlying t = some (.slice e)) (hv : ∀ w, (zeroValue e).run P w = .ok z w) (zs : List Value) (hz : (Builtin.zeroCells z.cells 1).toList = zs) (h1 : ∀ u ∈ zs, u.oneCell' = true) (g o c : Nat) (L : List Value) (tt : TypeId)
    (hL : RowIs w g tt L) (hfit : o + zs.length ≤ L.length) :
    ∃ w', (Builtin.clear_ #[t] ty #[.slice (some ⟨g, o, none⟩) 1 c]).run P w = .ok (.tuple #[]) w' ∧ RowIs w' g tt (spl L o zs) ∧ w.grownBy w' (some g) := by
  have hst := run_storeCells_at P g o tt zs 0 L.toArray w hL (by simpa using hfit) h1
  simp only [Nat.add_zero] at hst
  refine ⟨w.setRow g (spl L o zs).toArray, ?_, setRow_heap w g L.toArray _ tt _ hL, ⟨rfl, rfl, rfl, by simp, fun k _ hk => setRow_other w g k _ (fun e => hk (by rw [e]))⟩⟩
  simp [Builtin.clear_, run_underlying ht, hv, hz, hst, spl]
theorem wp_clear_run {P : Program} (w : World) {o : Oper} {a : Act} {K : Act → World → Prop} {Q : Exit → Act → World → Prop} (d : Operand) (t : TypeId)
    (ho : o.op = .call { callee := .builtin .clear, args := #[d], argTypes := #[t] }) (v : Value) (hd : a.eval d = v) {v' : Value} {w' : World}
    (hr : (Builtin.clear_ #[t] o.type #[v]).run P w = .ok v' w') (h : K (a.put o.dst v') w') : o.wp P a w K Q := by
  unfold Oper.wp execOp
  simp only [ho, resolve, invoke, builtin, Sem.run_bind, Sem.run_pure, Result.andThen_ok, List.map_toArray, List.map_cons, List.map_nil, hd, hr]
  exact h
theorem wpList_clear_run {P : Program} (w : World) {ops : Array Oper} {rest : List Oper} {o : Oper} {a : Act} {Q : Exit → Act → World → Prop} (hgd : o.guard = none) (d : Operand) (t : TypeId)
    (ho : o.op = .call { callee := .builtin .clear, args := #[d], argTypes := #[t] }) (v : Value) (hd : a.eval d = v) {v' : Value} {w' : World}
    (hr : (Builtin.clear_ #[t] o.type #[v]).run P w = .ok v' w') (h : wpList P ops Q rest (a.put o.dst v') w') : wpList P ops Q (o :: rest) a w :=
  wpList_plain hgd fun _ hK => wp_clear_run w d t ho v hd hr (hK _ _ h)
theorem mul3 (a b : Nat) (h : a ≤ b) : a * 3 ≤ b * 3 := by omega

theorem info164 : (Tryz.prog.info? 164).map (fun i => (i.zero, i.size, i.bytes)) = some (some (.agg #[.string ⟨#[]⟩, .pointer none, .int .i64 0]), 3, 32) := by kernel_rfl
theorem size164 : (Tryz.prog.info? 164).map (fun i => i.size) = some 3 := by kernel_rfl
/-- At the end. -/
theorem insEnd164 (w : World) (v : Value) (n : Nat) (xs : List Value) (vb : Nat) (news : List Value) (hown : Sl w 164 3 v n xs) (hn : n ≤ 10000)
    (hnews : RowIs w vb 164 news) (hnl : news.length = 3) (h1 : ∀ u ∈ news, u.oneCell' = true) :
    Calls Tryz.prog 143 #[v, .int .i64 n, .slice (some ⟨vb, 0, none⟩) 1 1] w fun e w' => ∃ v', e = .returned v' ∧ Sl w' 164 3 v' (n + 1) (xs ++ news) ∧ w.grownBy w' v.ownBlock ∧ NewOr w v v' := by
  obtain ⟨i0, hi, hz0, hz1, hz2⟩ := info_parts info164
  have hrun := fun ty => append_new (P := Tryz.prog) w 127 ty 164 i0 _ 3 32 Tryz.underlying127 hi hz0 hz1 hz2 rfl (by decide) v n xs hown ⟨vb, 0, none⟩ 1 1 news (by omega)
    (fun j u hu => by rw [Addr.add_lit, Nat.zero_add, hnews.cell]; exact hu) h1 (by unfold maxLen; omega) (by omega)
  obtain ⟨v', w', hr, hS, hg, hnew⟩ := hrun 127
  have hv : (v = .slice none 0 0 ∧ n = 0) ∨ ∃ g cap, v = .slice (some ⟨g, 0, none⟩) n cap ∧ n ≤ cap := by
    rcases hown.2 with h | ⟨g, cap, L, h, _, hc, _⟩
    · exact .inl h
    · exact .inr ⟨g, cap, h, hc⟩
  clear hrun
  rcases hv with ⟨rfl, rfl⟩ | ⟨g, cap, rfl, hc⟩
  · go_enter Tryz.func143, Tryz.ntmps143
    go_wp2_with (at_builtin; refine Lib.wpList_append_run _ rfl _ _ 127 127 rfl _ _ rfl rfl _ _ hr ?_)
    go_ret
    exact ⟨_, rfl, hS, hg, hnew⟩
  · go_enter Tryz.func143, Tryz.ntmps143
    go_wp2_with (at_builtin; refine Lib.wpList_append_run _ rfl _ _ 127 127 rfl _ _ rfl rfl _ _ hr ?_)
    all_goals (go_ret; exact ⟨_, rfl, hS, hg, hnew⟩)
/-- In the middle, where there is room. -/
theorem insMid164 (w : World) (g n cap : Nat) (xs L : List Value) (i vb : Nat) (news : List Value) (hL : RowIs w g 164 L) (hLl : L.length = cap * 3) (hxs : L.take (n * 3) = xs) (hi : i < n) (hcap : n + 1 ≤ cap) (hcm : cap ≤ maxLen) (hn : n ≤ 10000)
    (hnews : RowIs w vb 164 news) (hnl : news.length = 3) (h1x : ∀ u ∈ xs, u.oneCell' = true) (h1 : ∀ u ∈ news, u.oneCell' = true) (hne : vb ≠ g) :
    Calls Tryz.prog 143 #[.slice (some ⟨g, 0, none⟩) n cap, .int .i64 i, .slice (some ⟨vb, 0, none⟩) 1 1] w fun e w' => e = .returned (.slice (some ⟨g, 0, none⟩) (n + 1) cap) ∧ RowIs w' g 164 (spl (spl L ((i + 1) * 3) (xs.drop (i * 3))) (i * 3) news) ∧ w.grownBy w' (some g) := by
  have hxl : xs.length = n * 3 := by rw [← hxs, List.length_take]; omega
  have hdl : (xs.drop (i * 3)).length = (n - i) * 3 := by rw [List.length_drop, hxl]; omega
  obtain ⟨W1, hr1, hR1, hg1⟩ := run_copy_spl (P := Tryz.prog) w.drew 127 127 3 164 3 g ((i + 1) * 3) (n - i) (cap - (i + 1)) ⟨g, i * 3, none⟩ (n + 1 - i) (cap - i) L 164 (xs.drop (i * 3)) Tryz.underlying127 size164 hL
    (by rw [hdl]; simp only [Nat.min_def]; split <;> omega)
    (fun j u hu => by
      rw [Addr.add_lit, show (w.drew.cell? ⟨g, i * 3 + j, none⟩) = L[i * 3 + j]? from hL.cell _]
      rw [List.getElem?_drop, ← hxs, List.getElem?_take] at hu
      split at hu
      · exact hu
      · cases hu) (by rw [hdl]; omega) (fun u hu => h1x u (List.mem_of_mem_drop hu))
  have hnews1 : RowIs W1 vb 164 news := (show RowIs w.drew vb 164 news from hnews).kept hg1 (by simpa using hne)
  obtain ⟨W2, hr2, hR2, hg2⟩ := run_copy_spl (P := Tryz.prog) W1 127 127 3 164 3 g (i * 3) (n + 1 - i) (cap - i) ⟨vb, 0, none⟩ 1 1 _ 164 news Tryz.underlying127 size164 hR1
    (by rw [hnl]; simp only [Nat.min_def]; split <;> omega)
    (fun j u hu => by rw [Addr.add_lit, Nat.zero_add, hnews1.cell]; exact hu) (by rw [spl_length (by rw [hdl]; omega), hnl]; omega) h1
  have hov : ∀ lb cb, (callFunc 154 #[.slice (some ⟨vb, 0, none⟩) 1 1, .slice (some ⟨g, (i + 1) * 3, none⟩) lb cb]).run Tryz.prog w = .ok (.value (.bool false)) w := fun lb cb => by
    rw [run_callFunc_extern Tryz.func154 (by kernel_rfl) (by kernel_rfl) (by kernel_rfl) (e := Extern.SlicesOverlaps.overlaps #[127, 127] #[4]) (by kernel_rfl),
      Lib.run_overlaps_apart w 127 4 164 Tryz.underlying127 3 (fun _ => by kernel_rfl) ⟨vb, 0, none⟩ ⟨g, (i + 1) * 3, none⟩ 1 1 lb cb hne 164 164 3 (cap * 3) (by unfold World.shape?; rw [hnews]; simp [hnl]) (by unfold World.shape?; rw [hL]; simp [hLl]) (by omega) (hnews.frozen 0) (hnews.frozen 3)]
    rfl
  have hcm' : cap ≤ 9223372036854775807 := by unfold maxLen at hcm; omega
  have fin : RowIs W2 g 164 (spl (spl L ((i + 1) * 3) (xs.drop (i * 3))) (i * 3) news) ∧ w.grownBy W2 (some g) := ⟨hR2, grownBy_trans (show w.grownBy w.drew (some g) from grownBy_drew (grownBy_refl _ _)) (grownBy_trans hg1 hg2)⟩
  have FIN := hide fin
  clear fin hR1 hR2 hg1 hg2 hnews1 h1x h1 hcm hxs hdl hxl hLl hnl hnews hL
  have hw1 : IntKind.i64.wrap ((i : Int) + 1) = (i : Int) + 1 := by rw [IntKind.wrap_i64]; omega
  have hb1 : (0 : Int) ≤ (i : Int) + 1 := by omega
  have hin : i ≤ n := by omega
  have htn : ((i : Int) + 1).toNat = i + 1 := by omega
  have hb2 : ¬ (cap = i + 1) := by omega
  have hb3 : (i : Int) ≤ (n : Int) + 1 := by omega
  have hb4 : ¬ (cap = i) := by omega
  go_enter Tryz.func143, Tryz.ntmps143
  go_wp2_with (simp only [hov])
  go_region_law (refine step_copy_run rfl _ _ 127 127 rfl _ _ (by simp [Act.eval, Act.put]) (by simp [Act.eval, Act.put]) hr1 ?_)
  go_wp2_with (at_builtin; refine wpList_copy_run _ rfl _ _ 127 127 rfl _ _ rfl rfl hr2 ?_)
  go_ret
  exact ⟨rfl, unhide FIN⟩
/-- In the middle, where there is no room: a new row. -/
theorem insGrow164 (w : World) (g n cap : Nat) (xs L : List Value) (i vb : Nat) (news : List Value) (hL : RowIs w g 164 L) (hLl : L.length = cap * 3) (hxs : L.take (n * 3) = xs) (hi : i < n) (hnc : n ≤ cap) (hcap : cap < n + 1) (hn : n ≤ 10000)
    (hnews : RowIs w vb 164 news) (hnl : news.length = 3) (h1x : ∀ u ∈ xs, u.oneCell' = true) (h1 : ∀ u ∈ news, u.oneCell' = true) :
    Calls Tryz.prog 143 #[.slice (some ⟨g, 0, none⟩) n cap, .int .i64 i, .slice (some ⟨vb, 0, none⟩) 1 1] w fun e w' => ∃ G Z, e = .returned (.slice (some ⟨w.heap.size, 0, none⟩) (n + 1) G) ∧ n + 1 ≤ G ∧ G ≤ maxLen ∧ (xs.take (i * 3) ++ Z).length = G * 3 ∧
      RowIs w' w.heap.size 164 (spl (spl (xs.take (i * 3) ++ Z) (i * 3) news) ((i + 1) * 3) (xs.drop (i * 3))) ∧ w.grownBy w' (some w.heap.size) := by
  have hxl : xs.length = n * 3 := by rw [← hxs, List.length_take]; omega
  have hdl : (xs.drop (i * 3)).length = (n - i) * 3 := by rw [List.length_drop, hxl]; omega
  obtain ⟨i0, hi0, hz0, hzs, hzb⟩ := info_parts info164
  have hxc : ∀ j u, xs[j]? = some u → w.cell? ⟨g, j, none⟩ = some u := fun j u hu => by
    rw [hL.cell]
    rw [← hxs, List.getElem?_take] at hu
    split at hu
    · exact hu
    · cases hu
  have hold : (Builtin.firstCells i0.size i (.slice (some ⟨g, 0, none⟩) i cap)).run Tryz.prog w.drew = .ok (xs.take (i * 3)).toArray w.drew := by
    rw [hzs]
    exact run_firstCells_some w.drew 3 i ⟨g, 0, none⟩ i cap (xs.take (i * 3)) (by rw [List.length_take]; omega) (fun j v hj => by
      rw [Addr.add_lit, Nat.zero_add]
      rw [List.getElem?_take] at hj
      split at hj
      · exact hxc j v hj
      · cases hj)
  have hik : i + (n + 1 - i) = n + 1 := by omega
  have hkk : (n : Int) + 1 - (i : Int) = ((n + 1 - i : Nat) : Int) := by omega
  obtain ⟨G, hG⟩ : ∃ G, G = grownCap w (n + 1) cap 164 := ⟨_, rfl⟩
  obtain ⟨Z, hZ⟩ : ∃ Z : Array Value, Z = Builtin.zeroCells (Value.agg #[.string ⟨#[]⟩, .pointer none, .int .i64 0]).cells (n + 1 - i) ++ Builtin.zeroCells (Value.agg #[.string ⟨#[]⟩, .pointer none, .int .i64 0]).cells (G - (n + 1)) := ⟨_, rfl⟩
  have hrz : ∀ ty, (Builtin.append_ #[127, 3] ty #[.slice (some ⟨g, 0, none⟩) i cap, .int .i64 ((n : Int) + 1 - (i : Int))]).run Tryz.prog w =
      .ok (.slice (some ⟨w.heap.size, 0, none⟩) (n + 1) G) (w.drew.alloc (.cells (xs.take (i * 3) ++ Z.toList).toArray 164)) := fun ty => by
    have h := Lib.run_append_grow_zeros w 127 3 ty 164 i0 _ .i64 .i64 Tryz.underlying127 Tryz.underlying3 hi0 hz0 (some ⟨g, 0, none⟩) i cap (xs.take (i * 3)) hold (n + 1 - i) (by omega) (by omega) (by omega) (by omega) (by rw [hzb]; omega) (by rw [hzb, hik]; exact growslice_fits (by omega) (by omega))
    rw [hik, ← hG] at h
    rw [hkk, h, hZ]
    congr 2
    simp [Array.append_assoc]
  have hGn : n + 1 ≤ G := by rw [hG]; exact grownCap_ge w _ _ _
  have hGm : G ≤ maxLen := by rw [hG]; exact grownCap_le_maxLen w _ _ _ (by unfold maxLen; omega)
  have hZl : (xs.take (i * 3) ++ Z.toList).length = G * 3 := by
    have e1 : Z.size = (n + 1 - i) * 3 + (G - (n + 1)) * 3 := by rw [hZ, Array.size_append, size_zeroCells, size_zeroCells]; rfl
    have e2 : Z.toList.length = Z.size := Array.length_toList
    rw [List.length_append, List.length_take, e2, e1]
    omega
  have hR0 : RowIs (w.drew.alloc (.cells (xs.take (i * 3) ++ Z.toList).toArray 164)) w.heap.size 164 (xs.take (i * 3) ++ Z.toList) := heap_alloc_new w.drew _
  have hg0 : w.grownBy (w.drew.alloc (.cells (xs.take (i * 3) ++ Z.toList).toArray 164)) (some w.heap.size) := ⟨rfl, rfl, rfl, by simp, fun k hk _ => Below.heap_alloc w.drew _ k hk⟩
  obtain ⟨W0, hW0⟩ : ∃ W0, W0 = w.drew.alloc (.cells (xs.take (i * 3) ++ Z.toList).toArray 164) := ⟨_, rfl⟩
  rw [← hW0] at hrz hR0 hg0
  have hnews0 : RowIs W0 vb 164 news := hnews.kept hg0 (by have := hnews.lt; simp; omega)
  obtain ⟨W1, hr1, hR1, hg1⟩ := run_copy_spl (P := Tryz.prog) W0 127 127 3 164 3 w.heap.size (i * 3) (n + 1 - i) (G - i) ⟨vb, 0, none⟩ 1 1 _ 164 news Tryz.underlying127 size164 hR0
    (by rw [hnl]; simp only [Nat.min_def]; split <;> omega)
    (fun j u hu => by rw [Addr.add_lit, Nat.zero_add, hnews0.cell]; exact hu) (by rw [hZl, hnl]; omega) h1
  have hL1 : RowIs W1 g 164 L := (hL.kept hg0 (by have := hL.lt; simp; omega)).kept hg1 (by have := hL.lt; simp; omega)
  obtain ⟨W2, hr2, hR2, hg2⟩ := run_copy_spl (P := Tryz.prog) W1.drew 127 127 3 164 3 w.heap.size ((i + 1) * 3) (n - i) (G - (i + 1)) ⟨g, i * 3, none⟩ (n - i) (cap - i) _ 164 (xs.drop (i * 3)) Tryz.underlying127 size164 hR1
    (by rw [hdl]; simp only [Nat.min_def]; split <;> omega)
    (fun j u hu => by
      rw [Addr.add_lit, show (W1.drew.cell? ⟨g, i * 3 + j, none⟩) = L[i * 3 + j]? from hL1.cell _]
      rw [List.getElem?_drop, ← hxs, List.getElem?_take] at hu
      split at hu
      · exact hu
      · cases hu) (by rw [spl_length (by rw [hZl, hnl]; omega), hZl, hdl]; omega) (fun u hu => h1x u (List.mem_of_mem_drop hu))
  have fin : (xs.take (i * 3) ++ Z.toList).length = G * 3 ∧ RowIs W2 w.heap.size 164 (spl (spl (xs.take (i * 3) ++ Z.toList) (i * 3) news) ((i + 1) * 3) (xs.drop (i * 3))) ∧ w.grownBy W2 (some w.heap.size) :=
    ⟨hZl, hR2, grownBy_trans hg0 (grownBy_trans hg1 (grownBy_trans (grownBy_drew (grownBy_refl W1 _)) hg2))⟩
  have FIN := hide fin
  have hGm' : G ≤ 9223372036854775807 := by unfold maxLen at hGm; omega
  have hGi : ¬ (G = i) := by omega
  have hGi1 : ¬ (G = i + 1) := by omega
  have hci : ¬ (cap = i) := by omega
  have hw1 : IntKind.i64.wrap ((i : Int) + 1) = (i : Int) + 1 := by rw [IntKind.wrap_i64]; omega
  have hb1 : (0 : Int) ≤ (i : Int) + 1 := by omega
  have hin : i ≤ n := by omega
  have htn : ((i : Int) + 1).toNat = i + 1 := by omega
  have hb3 : (i : Int) ≤ (n : Int) := by omega
  clear fin hZl hR0 hR1 hR2 hg0 hg1 hg2 hnews0 hL1 h1x h1 hxs hdl hxl hLl hnl hnews hL hxc hold hW0 hG hZ hik hkk hi0 hz0 hzs hzb
  have hGM := hide hGm
  clear hGm
  go_enter Tryz.func143, Tryz.ntmps143
  go_wp2_with (first
    | (at_builtin; refine Lib.wpList_append_run _ rfl _ _ _ _ rfl _ _ rfl rfl _ _ (hrz _) ?_)
    | (at_builtin; refine wpList_copy_run _ rfl _ _ 127 127 rfl _ _ rfl rfl hr1 ?_))
  go_region_law (refine step_copy_run rfl _ _ 127 127 rfl _ _ (by simp [Act.eval, Act.put]) (by simp [Act.eval, Act.put]) hr2 ?_)
  go_wp2
  go_ret
  exact ⟨G, Z.toList, rfl, hGn, unhide hGM, unhide FIN⟩
/-- One element fewer: in place. -/
theorem del164 (w : World) (g n cap : Nat) (xs L : List Value) (i : Nat) (hL : RowIs w g 164 L) (hLl : L.length = cap * 3) (hxs : L.take (n * 3) = xs) (hi : i < n) (hnc : n ≤ cap) (hcm : cap ≤ maxLen) (hn : n ≤ 10000)
    (h1x : ∀ u ∈ xs, u.oneCell' = true) :
    Calls Tryz.prog 145 #[.slice (some ⟨g, 0, none⟩) n cap, .int .i64 i, .int .i64 ((i : Int) + 1)] w fun e w' => e = .returned (.slice (some ⟨g, 0, none⟩) (n - 1) cap) ∧
      RowIs w' g 164 (spl (spl L (i * 3) (xs.drop ((i + 1) * 3))) ((n - 1) * 3) [.string ⟨#[]⟩, .pointer none, .int .i64 0]) ∧ w.grownBy w' (some g) := by
  have hxl : xs.length = n * 3 := by rw [← hxs, List.length_take]; omega
  have hdl : (xs.drop ((i + 1) * 3)).length = (n - (i + 1)) * 3 := by rw [List.length_drop, hxl]; omega
  obtain ⟨i0, hi0, hz0, hzs, hzb⟩ := info_parts info164
  have hsl : spl L (i * 3) (xs.drop ((i + 1) * 3)) = L.toArray.toList.take (i * 3) ++ xs.drop ((i + 1) * 3) ++ L.toArray.toList.drop (i * 3 + (xs.drop ((i + 1) * 3)).length) := rfl
  obtain ⟨W1, hW1⟩ : ∃ W1, W1 = w.drew.setRow g (spl L (i * 3) (xs.drop ((i + 1) * 3))).toArray := ⟨_, rfl⟩
  have hr1 : ∀ (a : Addr) (c : Nat), (n - (i + 1) ≠ 0 → a = ⟨g, (i + 1) * 3, none⟩) → (Builtin.append_ #[127, 127] 127 #[.slice (some ⟨g, 0, none⟩) i cap, .slice (some a) (n - (i + 1)) c]).run Tryz.prog w.drew = .ok (.slice (some ⟨g, 0, none⟩) (n - 1) cap) W1 := fun a c ha => by
    have h := run_append_room (P := Tryz.prog) w.drew 127 127 164 i0 Tryz.underlying127 hi0 g i cap L.toArray hL a (n - (i + 1)) c (xs.drop ((i + 1) * 3)) (by rw [hzs]; exact hdl)
      (fun j u hu => by
        by_cases h0 : n - (i + 1) = 0
        · have : xs.drop ((i + 1) * 3) = [] := List.eq_nil_of_length_eq_zero (by rw [hdl, h0])
          rw [this] at hu; cases hu
        · rw [ha h0, Addr.add_lit, show (w.drew.cell? ⟨g, (i + 1) * 3 + j, none⟩) = L[(i + 1) * 3 + j]? from hL.cell _]
          rw [List.getElem?_drop, ← hxs, List.getElem?_take] at hu
          split at hu
          · exact hu
          · cases hu) (fun u hu => h1x u (List.mem_of_mem_drop hu)) (by omega) (by rw [hzs, hdl]; simp [hLl]; omega)
    rw [h, hW1, hsl, hzs, show i + (n - (i + 1)) = n - 1 by omega]
  have hR1 : RowIs W1 g 164 (spl L (i * 3) (xs.drop ((i + 1) * 3))) := by rw [hW1]; exact setRow_heap w.drew g L.toArray _ 164 _ hL
  have hg1 : w.grownBy W1 (some g) := by rw [hW1]; exact ⟨rfl, rfl, rfl, by simp, fun k _ hk => setRow_other w.drew g k _ (fun e => hk (by rw [e]))⟩
  obtain ⟨W2, hr2, hR2, hg2⟩ := run_clear_spl (P := Tryz.prog) W1 127 164 0 (.agg #[.string ⟨#[]⟩, .pointer none, .int .i64 0]) Tryz.underlying127 (fun _ => by kernel_rfl) [.string ⟨#[]⟩, .pointer none, .int .i64 0] (by kernel_rfl) (by simp [Value.oneCell']) g ((n - 1) * 3) (cap - (n - 1)) _ 164 hR1 (by rw [spl_length (by rw [hdl]; omega), hLl]; simp; omega)
  have fin : RowIs W2 g 164 (spl (spl L (i * 3) (xs.drop ((i + 1) * 3))) ((n - 1) * 3) [.string ⟨#[]⟩, .pointer none, .int .i64 0]) ∧ w.grownBy W2 (some g) := ⟨hR2, grownBy_trans hg1 hg2⟩
  have FIN := hide fin
  have hcm' : cap ≤ 9223372036854775807 := by unfold maxLen at hcm; omega
  have hb1 : (0 : Int) ≤ (i : Int) + 1 := by omega
  have htn : ((i : Int) + 1).toNat = i + 1 := by omega
  have hb3 : (i : Int) ≤ (n : Int) := by omega
  have hb4 : (i : Int) + 1 ≤ (n : Int) := by omega
  have hb5 : (i : Int) ≤ (i : Int) + 1 := by omega
  have hb6 : (i : Int) ≤ (cap : Int) := by omega
  have hc0 : ¬ (cap = n - 1) := by omega
  have hn1 : n - (n - 1) = 1 := by omega
  have hne : ((i : Int) == (i : Int) + 1) = false := by rw [beq_eq_false_iff_ne]; omega
  clear fin hR1 hR2 hg1 hg2 hW1 hsl hL hxs hdl hxl hLl h1x hi0 hz0 hzs hzb hcm
  go_enter Tryz.func145, Tryz.ntmps145
  by_cases hc1 : cap = i + 1
  · subst hc1
    obtain rfl : n = i + 1 := by omega
    rw [Nat.sub_self] at hr1
    rw [Nat.add_sub_cancel] at hr1 FIN hr2
    rw [Nat.add_sub_cancel_left] at hr2
    go_wp2
    go_region_law (refine step_append_run rfl _ _ 127 127 rfl _ _ (by simp [Act.eval, Act.put]) (by simp [Act.eval, Act.put]) (hr1 ⟨g, 0, none⟩ 0 (fun h => absurd h (by omega))) ?_)
    go_wp2_with (at_builtin; refine wpList_clear_run _ rfl _ 127 rfl _ rfl hr2 ?_)
    go_ret
    exact ⟨rfl, unhide FIN⟩
  · go_wp2
    go_region_law (refine step_append_run rfl _ _ 127 127 rfl _ _ (by simp [Act.eval, Act.put]) (by simp [Act.eval, Act.put]) (hr1 ⟨g, (i + 1) * 3, none⟩ (cap - (i + 1)) (fun _ => rfl)) ?_)
    go_wp2_with (at_builtin; refine wpList_clear_run _ rfl _ 127 rfl _ rfl hr2 ?_)
    go_ret
    exact ⟨rfl, unhide FIN⟩

theorem info160 : (Tryz.prog.info? 160).map (fun i => (i.zero, i.size, i.bytes)) = some (some (.agg #[.int .i64 0, .slice none 0 0, .int .i64 0]), 3, 40) := by kernel_rfl
theorem size160 : (Tryz.prog.info? 160).map (fun i => i.size) = some 3 := by kernel_rfl
/-- At the end. -/
theorem insEnd160 (w : World) (v : Value) (n : Nat) (xs : List Value) (vb : Nat) (news : List Value) (hown : Sl w 160 3 v n xs) (hn : n ≤ 10000)
    (hnews : RowIs w vb 160 news) (hnl : news.length = 3) (h1 : ∀ u ∈ news, u.oneCell' = true) :
    Calls Tryz.prog 144 #[v, .int .i64 n, .slice (some ⟨vb, 0, none⟩) 1 1] w fun e w' => ∃ v', e = .returned v' ∧ Sl w' 160 3 v' (n + 1) (xs ++ news) ∧ w.grownBy w' v.ownBlock ∧ NewOr w v v' := by
  obtain ⟨i0, hi, hz0, hz1, hz2⟩ := info_parts info160
  have hrun := fun ty => append_new (P := Tryz.prog) w 114 ty 160 i0 _ 3 40 Tryz.underlying114 hi hz0 hz1 hz2 rfl (by decide) v n xs hown ⟨vb, 0, none⟩ 1 1 news (by omega)
    (fun j u hu => by rw [Addr.add_lit, Nat.zero_add, hnews.cell]; exact hu) h1 (by unfold maxLen; omega) (by omega)
  obtain ⟨v', w', hr, hS, hg, hnew⟩ := hrun 114
  have hv : (v = .slice none 0 0 ∧ n = 0) ∨ ∃ g cap, v = .slice (some ⟨g, 0, none⟩) n cap ∧ n ≤ cap := by
    rcases hown.2 with h | ⟨g, cap, L, h, _, hc, _⟩
    · exact .inl h
    · exact .inr ⟨g, cap, h, hc⟩
  clear hrun
  rcases hv with ⟨rfl, rfl⟩ | ⟨g, cap, rfl, hc⟩
  · go_enter Tryz.func144, Tryz.ntmps144
    go_wp2_with (at_builtin; refine Lib.wpList_append_run _ rfl _ _ 114 114 rfl _ _ rfl rfl _ _ hr ?_)
    go_ret
    exact ⟨_, rfl, hS, hg, hnew⟩
  · go_enter Tryz.func144, Tryz.ntmps144
    go_wp2_with (at_builtin; refine Lib.wpList_append_run _ rfl _ _ 114 114 rfl _ _ rfl rfl _ _ hr ?_)
    all_goals (go_ret; exact ⟨_, rfl, hS, hg, hnew⟩)
/-- In the middle, where there is room. -/
theorem insMid160 (w : World) (g n cap : Nat) (xs L : List Value) (i vb : Nat) (news : List Value) (hL : RowIs w g 160 L) (hLl : L.length = cap * 3) (hxs : L.take (n * 3) = xs) (hi : i < n) (hcap : n + 1 ≤ cap) (hcm : cap ≤ maxLen) (hn : n ≤ 10000)
    (hnews : RowIs w vb 160 news) (hnl : news.length = 3) (h1x : ∀ u ∈ xs, u.oneCell' = true) (h1 : ∀ u ∈ news, u.oneCell' = true) (hne : vb ≠ g) :
    Calls Tryz.prog 144 #[.slice (some ⟨g, 0, none⟩) n cap, .int .i64 i, .slice (some ⟨vb, 0, none⟩) 1 1] w fun e w' => e = .returned (.slice (some ⟨g, 0, none⟩) (n + 1) cap) ∧ RowIs w' g 160 (spl (spl L ((i + 1) * 3) (xs.drop (i * 3))) (i * 3) news) ∧ w.grownBy w' (some g) := by
  have hxl : xs.length = n * 3 := by rw [← hxs, List.length_take]; omega
  have hdl : (xs.drop (i * 3)).length = (n - i) * 3 := by rw [List.length_drop, hxl]; omega
  obtain ⟨W1, hr1, hR1, hg1⟩ := run_copy_spl (P := Tryz.prog) w.drew 114 114 3 160 3 g ((i + 1) * 3) (n - i) (cap - (i + 1)) ⟨g, i * 3, none⟩ (n + 1 - i) (cap - i) L 160 (xs.drop (i * 3)) Tryz.underlying114 size160 hL
    (by rw [hdl]; simp only [Nat.min_def]; split <;> omega)
    (fun j u hu => by
      rw [Addr.add_lit, show (w.drew.cell? ⟨g, i * 3 + j, none⟩) = L[i * 3 + j]? from hL.cell _]
      rw [List.getElem?_drop, ← hxs, List.getElem?_take] at hu
      split at hu
      · exact hu
      · cases hu) (by rw [hdl]; omega) (fun u hu => h1x u (List.mem_of_mem_drop hu))
  have hnews1 : RowIs W1 vb 160 news := (show RowIs w.drew vb 160 news from hnews).kept hg1 (by simpa using hne)
  obtain ⟨W2, hr2, hR2, hg2⟩ := run_copy_spl (P := Tryz.prog) W1 114 114 3 160 3 g (i * 3) (n + 1 - i) (cap - i) ⟨vb, 0, none⟩ 1 1 _ 160 news Tryz.underlying114 size160 hR1
    (by rw [hnl]; simp only [Nat.min_def]; split <;> omega)
    (fun j u hu => by rw [Addr.add_lit, Nat.zero_add, hnews1.cell]; exact hu) (by rw [spl_length (by rw [hdl]; omega), hnl]; omega) h1
  have hov : ∀ lb cb, (callFunc 156 #[.slice (some ⟨vb, 0, none⟩) 1 1, .slice (some ⟨g, (i + 1) * 3, none⟩) lb cb]).run Tryz.prog w = .ok (.value (.bool false)) w := fun lb cb => by
    rw [run_callFunc_extern Tryz.func156 (by kernel_rfl) (by kernel_rfl) (by kernel_rfl) (e := Extern.SlicesOverlaps.overlaps #[114, 114] #[4]) (by kernel_rfl),
      Lib.run_overlaps_apart w 114 4 160 Tryz.underlying114 3 (fun _ => by kernel_rfl) ⟨vb, 0, none⟩ ⟨g, (i + 1) * 3, none⟩ 1 1 lb cb hne 160 160 3 (cap * 3) (by unfold World.shape?; rw [hnews]; simp [hnl]) (by unfold World.shape?; rw [hL]; simp [hLl]) (by omega) (hnews.frozen 0) (hnews.frozen 3)]
    rfl
  have hcm' : cap ≤ 9223372036854775807 := by unfold maxLen at hcm; omega
  have fin : RowIs W2 g 160 (spl (spl L ((i + 1) * 3) (xs.drop (i * 3))) (i * 3) news) ∧ w.grownBy W2 (some g) := ⟨hR2, grownBy_trans (show w.grownBy w.drew (some g) from grownBy_drew (grownBy_refl _ _)) (grownBy_trans hg1 hg2)⟩
  have FIN := hide fin
  clear fin hR1 hR2 hg1 hg2 hnews1 h1x h1 hcm hxs hdl hxl hLl hnl hnews hL
  have hw1 : IntKind.i64.wrap ((i : Int) + 1) = (i : Int) + 1 := by rw [IntKind.wrap_i64]; omega
  have hb1 : (0 : Int) ≤ (i : Int) + 1 := by omega
  have hin : i ≤ n := by omega
  have htn : ((i : Int) + 1).toNat = i + 1 := by omega
  have hb2 : ¬ (cap = i + 1) := by omega
  have hb3 : (i : Int) ≤ (n : Int) + 1 := by omega
  have hb4 : ¬ (cap = i) := by omega
  go_enter Tryz.func144, Tryz.ntmps144
  go_wp2_with (simp only [hov])
  go_region_law (refine step_copy_run rfl _ _ 114 114 rfl _ _ (by simp [Act.eval, Act.put]) (by simp [Act.eval, Act.put]) hr1 ?_)
  go_wp2_with (at_builtin; refine wpList_copy_run _ rfl _ _ 114 114 rfl _ _ rfl rfl hr2 ?_)
  go_ret
  exact ⟨rfl, unhide FIN⟩
/-- In the middle, where there is no room: a new row. -/
theorem insGrow160 (w : World) (g n cap : Nat) (xs L : List Value) (i vb : Nat) (news : List Value) (hL : RowIs w g 160 L) (hLl : L.length = cap * 3) (hxs : L.take (n * 3) = xs) (hi : i < n) (hnc : n ≤ cap) (hcap : cap < n + 1) (hn : n ≤ 10000)
    (hnews : RowIs w vb 160 news) (hnl : news.length = 3) (h1x : ∀ u ∈ xs, u.oneCell' = true) (h1 : ∀ u ∈ news, u.oneCell' = true) :
    Calls Tryz.prog 144 #[.slice (some ⟨g, 0, none⟩) n cap, .int .i64 i, .slice (some ⟨vb, 0, none⟩) 1 1] w fun e w' => ∃ G Z, e = .returned (.slice (some ⟨w.heap.size, 0, none⟩) (n + 1) G) ∧ n + 1 ≤ G ∧ G ≤ maxLen ∧ (xs.take (i * 3) ++ Z).length = G * 3 ∧
      RowIs w' w.heap.size 160 (spl (spl (xs.take (i * 3) ++ Z) (i * 3) news) ((i + 1) * 3) (xs.drop (i * 3))) ∧ w.grownBy w' (some w.heap.size) := by
  have hxl : xs.length = n * 3 := by rw [← hxs, List.length_take]; omega
  have hdl : (xs.drop (i * 3)).length = (n - i) * 3 := by rw [List.length_drop, hxl]; omega
  obtain ⟨i0, hi0, hz0, hzs, hzb⟩ := info_parts info160
  have hxc : ∀ j u, xs[j]? = some u → w.cell? ⟨g, j, none⟩ = some u := fun j u hu => by
    rw [hL.cell]
    rw [← hxs, List.getElem?_take] at hu
    split at hu
    · exact hu
    · cases hu
  have hold : (Builtin.firstCells i0.size i (.slice (some ⟨g, 0, none⟩) i cap)).run Tryz.prog w.drew = .ok (xs.take (i * 3)).toArray w.drew := by
    rw [hzs]
    exact run_firstCells_some w.drew 3 i ⟨g, 0, none⟩ i cap (xs.take (i * 3)) (by rw [List.length_take]; omega) (fun j v hj => by
      rw [Addr.add_lit, Nat.zero_add]
      rw [List.getElem?_take] at hj
      split at hj
      · exact hxc j v hj
      · cases hj)
  have hik : i + (n + 1 - i) = n + 1 := by omega
  have hkk : (n : Int) + 1 - (i : Int) = ((n + 1 - i : Nat) : Int) := by omega
  obtain ⟨G, hG⟩ : ∃ G, G = grownCap w (n + 1) cap 160 := ⟨_, rfl⟩
  obtain ⟨Z, hZ⟩ : ∃ Z : Array Value, Z = Builtin.zeroCells (Value.agg #[.int .i64 0, .slice none 0 0, .int .i64 0]).cells (n + 1 - i) ++ Builtin.zeroCells (Value.agg #[.int .i64 0, .slice none 0 0, .int .i64 0]).cells (G - (n + 1)) := ⟨_, rfl⟩
  have hrz : ∀ ty, (Builtin.append_ #[114, 3] ty #[.slice (some ⟨g, 0, none⟩) i cap, .int .i64 ((n : Int) + 1 - (i : Int))]).run Tryz.prog w =
      .ok (.slice (some ⟨w.heap.size, 0, none⟩) (n + 1) G) (w.drew.alloc (.cells (xs.take (i * 3) ++ Z.toList).toArray 160)) := fun ty => by
    have h := Lib.run_append_grow_zeros w 114 3 ty 160 i0 _ .i64 .i64 Tryz.underlying114 Tryz.underlying3 hi0 hz0 (some ⟨g, 0, none⟩) i cap (xs.take (i * 3)) hold (n + 1 - i) (by omega) (by omega) (by omega) (by omega) (by rw [hzb]; omega) (by rw [hzb, hik]; exact growslice_fits (by omega) (by omega))
    rw [hik, ← hG] at h
    rw [hkk, h, hZ]
    congr 2
    simp [Array.append_assoc]
  have hGn : n + 1 ≤ G := by rw [hG]; exact grownCap_ge w _ _ _
  have hGm : G ≤ maxLen := by rw [hG]; exact grownCap_le_maxLen w _ _ _ (by unfold maxLen; omega)
  have hZl : (xs.take (i * 3) ++ Z.toList).length = G * 3 := by
    have e1 : Z.size = (n + 1 - i) * 3 + (G - (n + 1)) * 3 := by rw [hZ, Array.size_append, size_zeroCells, size_zeroCells]; rfl
    have e2 : Z.toList.length = Z.size := Array.length_toList
    rw [List.length_append, List.length_take, e2, e1]
    omega
  have hR0 : RowIs (w.drew.alloc (.cells (xs.take (i * 3) ++ Z.toList).toArray 160)) w.heap.size 160 (xs.take (i * 3) ++ Z.toList) := heap_alloc_new w.drew _
  have hg0 : w.grownBy (w.drew.alloc (.cells (xs.take (i * 3) ++ Z.toList).toArray 160)) (some w.heap.size) := ⟨rfl, rfl, rfl, by simp, fun k hk _ => Below.heap_alloc w.drew _ k hk⟩
  obtain ⟨W0, hW0⟩ : ∃ W0, W0 = w.drew.alloc (.cells (xs.take (i * 3) ++ Z.toList).toArray 160) := ⟨_, rfl⟩
  rw [← hW0] at hrz hR0 hg0
  have hnews0 : RowIs W0 vb 160 news := hnews.kept hg0 (by have := hnews.lt; simp; omega)
  obtain ⟨W1, hr1, hR1, hg1⟩ := run_copy_spl (P := Tryz.prog) W0 114 114 3 160 3 w.heap.size (i * 3) (n + 1 - i) (G - i) ⟨vb, 0, none⟩ 1 1 _ 160 news Tryz.underlying114 size160 hR0
    (by rw [hnl]; simp only [Nat.min_def]; split <;> omega)
    (fun j u hu => by rw [Addr.add_lit, Nat.zero_add, hnews0.cell]; exact hu) (by rw [hZl, hnl]; omega) h1
  have hL1 : RowIs W1 g 160 L := (hL.kept hg0 (by have := hL.lt; simp; omega)).kept hg1 (by have := hL.lt; simp; omega)
  obtain ⟨W2, hr2, hR2, hg2⟩ := run_copy_spl (P := Tryz.prog) W1.drew 114 114 3 160 3 w.heap.size ((i + 1) * 3) (n - i) (G - (i + 1)) ⟨g, i * 3, none⟩ (n - i) (cap - i) _ 160 (xs.drop (i * 3)) Tryz.underlying114 size160 hR1
    (by rw [hdl]; simp only [Nat.min_def]; split <;> omega)
    (fun j u hu => by
      rw [Addr.add_lit, show (W1.drew.cell? ⟨g, i * 3 + j, none⟩) = L[i * 3 + j]? from hL1.cell _]
      rw [List.getElem?_drop, ← hxs, List.getElem?_take] at hu
      split at hu
      · exact hu
      · cases hu) (by rw [spl_length (by rw [hZl, hnl]; omega), hZl, hdl]; omega) (fun u hu => h1x u (List.mem_of_mem_drop hu))
  have fin : (xs.take (i * 3) ++ Z.toList).length = G * 3 ∧ RowIs W2 w.heap.size 160 (spl (spl (xs.take (i * 3) ++ Z.toList) (i * 3) news) ((i + 1) * 3) (xs.drop (i * 3))) ∧ w.grownBy W2 (some w.heap.size) :=
    ⟨hZl, hR2, grownBy_trans hg0 (grownBy_trans hg1 (grownBy_trans (grownBy_drew (grownBy_refl W1 _)) hg2))⟩
  have FIN := hide fin
  have hGm' : G ≤ 9223372036854775807 := by unfold maxLen at hGm; omega
  have hGi : ¬ (G = i) := by omega
  have hGi1 : ¬ (G = i + 1) := by omega
  have hci : ¬ (cap = i) := by omega
  have hw1 : IntKind.i64.wrap ((i : Int) + 1) = (i : Int) + 1 := by rw [IntKind.wrap_i64]; omega
  have hb1 : (0 : Int) ≤ (i : Int) + 1 := by omega
  have hin : i ≤ n := by omega
  have htn : ((i : Int) + 1).toNat = i + 1 := by omega
  have hb3 : (i : Int) ≤ (n : Int) := by omega
  clear fin hZl hR0 hR1 hR2 hg0 hg1 hg2 hnews0 hL1 h1x h1 hxs hdl hxl hLl hnl hnews hL hxc hold hW0 hG hZ hik hkk hi0 hz0 hzs hzb
  have hGM := hide hGm
  clear hGm
  go_enter Tryz.func144, Tryz.ntmps144
  go_wp2_with (first
    | (at_builtin; refine Lib.wpList_append_run _ rfl _ _ _ _ rfl _ _ rfl rfl _ _ (hrz _) ?_)
    | (at_builtin; refine wpList_copy_run _ rfl _ _ 114 114 rfl _ _ rfl rfl hr1 ?_))
  go_region_law (refine step_copy_run rfl _ _ 114 114 rfl _ _ (by simp [Act.eval, Act.put]) (by simp [Act.eval, Act.put]) hr2 ?_)
  go_wp2
  go_ret
  exact ⟨G, Z.toList, rfl, hGn, unhide hGM, unhide FIN⟩
/-- One element fewer: in place. -/
theorem del160 (w : World) (g n cap : Nat) (xs L : List Value) (i : Nat) (hL : RowIs w g 160 L) (hLl : L.length = cap * 3) (hxs : L.take (n * 3) = xs) (hi : i < n) (hnc : n ≤ cap) (hcm : cap ≤ maxLen) (hn : n ≤ 10000)
    (h1x : ∀ u ∈ xs, u.oneCell' = true) :
    Calls Tryz.prog 146 #[.slice (some ⟨g, 0, none⟩) n cap, .int .i64 i, .int .i64 ((i : Int) + 1)] w fun e w' => e = .returned (.slice (some ⟨g, 0, none⟩) (n - 1) cap) ∧
      RowIs w' g 160 (spl (spl L (i * 3) (xs.drop ((i + 1) * 3))) ((n - 1) * 3) [.int .i64 0, .slice none 0 0, .int .i64 0]) ∧ w.grownBy w' (some g) := by
  have hxl : xs.length = n * 3 := by rw [← hxs, List.length_take]; omega
  have hdl : (xs.drop ((i + 1) * 3)).length = (n - (i + 1)) * 3 := by rw [List.length_drop, hxl]; omega
  obtain ⟨i0, hi0, hz0, hzs, hzb⟩ := info_parts info160
  have hsl : spl L (i * 3) (xs.drop ((i + 1) * 3)) = L.toArray.toList.take (i * 3) ++ xs.drop ((i + 1) * 3) ++ L.toArray.toList.drop (i * 3 + (xs.drop ((i + 1) * 3)).length) := rfl
  obtain ⟨W1, hW1⟩ : ∃ W1, W1 = w.drew.setRow g (spl L (i * 3) (xs.drop ((i + 1) * 3))).toArray := ⟨_, rfl⟩
  have hr1 : ∀ (a : Addr) (c : Nat), (n - (i + 1) ≠ 0 → a = ⟨g, (i + 1) * 3, none⟩) → (Builtin.append_ #[114, 114] 114 #[.slice (some ⟨g, 0, none⟩) i cap, .slice (some a) (n - (i + 1)) c]).run Tryz.prog w.drew = .ok (.slice (some ⟨g, 0, none⟩) (n - 1) cap) W1 := fun a c ha => by
    have h := run_append_room (P := Tryz.prog) w.drew 114 114 160 i0 Tryz.underlying114 hi0 g i cap L.toArray hL a (n - (i + 1)) c (xs.drop ((i + 1) * 3)) (by rw [hzs]; exact hdl)
      (fun j u hu => by
        by_cases h0 : n - (i + 1) = 0
        · have : xs.drop ((i + 1) * 3) = [] := List.eq_nil_of_length_eq_zero (by rw [hdl, h0])
          rw [this] at hu; cases hu
        · rw [ha h0, Addr.add_lit, show (w.drew.cell? ⟨g, (i + 1) * 3 + j, none⟩) = L[(i + 1) * 3 + j]? from hL.cell _]
          rw [List.getElem?_drop, ← hxs, List.getElem?_take] at hu
          split at hu
          · exact hu
          · cases hu) (fun u hu => h1x u (List.mem_of_mem_drop hu)) (by omega) (by rw [hzs, hdl]; simp [hLl]; omega)
    rw [h, hW1, hsl, hzs, show i + (n - (i + 1)) = n - 1 by omega]
  have hR1 : RowIs W1 g 160 (spl L (i * 3) (xs.drop ((i + 1) * 3))) := by rw [hW1]; exact setRow_heap w.drew g L.toArray _ 160 _ hL
  have hg1 : w.grownBy W1 (some g) := by rw [hW1]; exact ⟨rfl, rfl, rfl, by simp, fun k _ hk => setRow_other w.drew g k _ (fun e => hk (by rw [e]))⟩
  obtain ⟨W2, hr2, hR2, hg2⟩ := run_clear_spl (P := Tryz.prog) W1 114 160 0 (.agg #[.int .i64 0, .slice none 0 0, .int .i64 0]) Tryz.underlying114 (fun _ => by kernel_rfl) [.int .i64 0, .slice none 0 0, .int .i64 0] (by kernel_rfl) (by simp [Value.oneCell']) g ((n - 1) * 3) (cap - (n - 1)) _ 160 hR1 (by rw [spl_length (by rw [hdl]; omega), hLl]; simp; omega)
  have fin : RowIs W2 g 160 (spl (spl L (i * 3) (xs.drop ((i + 1) * 3))) ((n - 1) * 3) [.int .i64 0, .slice none 0 0, .int .i64 0]) ∧ w.grownBy W2 (some g) := ⟨hR2, grownBy_trans hg1 hg2⟩
  have FIN := hide fin
  have hcm' : cap ≤ 9223372036854775807 := by unfold maxLen at hcm; omega
  have hb1 : (0 : Int) ≤ (i : Int) + 1 := by omega
  have htn : ((i : Int) + 1).toNat = i + 1 := by omega
  have hb3 : (i : Int) ≤ (n : Int) := by omega
  have hb4 : (i : Int) + 1 ≤ (n : Int) := by omega
  have hb5 : (i : Int) ≤ (i : Int) + 1 := by omega
  have hb6 : (i : Int) ≤ (cap : Int) := by omega
  have hc0 : ¬ (cap = n - 1) := by omega
  have hn1 : n - (n - 1) = 1 := by omega
  have hne : ((i : Int) == (i : Int) + 1) = false := by rw [beq_eq_false_iff_ne]; omega
  clear fin hR1 hR2 hg1 hg2 hW1 hsl hL hxs hdl hxl hLl h1x hi0 hz0 hzs hzb hcm
  go_enter Tryz.func146, Tryz.ntmps146
  by_cases hc1 : cap = i + 1
  · subst hc1
    obtain rfl : n = i + 1 := by omega
    rw [Nat.sub_self] at hr1
    rw [Nat.add_sub_cancel] at hr1 FIN hr2
    rw [Nat.add_sub_cancel_left] at hr2
    go_wp2
    go_region_law (refine step_append_run rfl _ _ 114 114 rfl _ _ (by simp [Act.eval, Act.put]) (by simp [Act.eval, Act.put]) (hr1 ⟨g, 0, none⟩ 0 (fun h => absurd h (by omega))) ?_)
    go_wp2_with (at_builtin; refine wpList_clear_run _ rfl _ 114 rfl _ rfl hr2 ?_)
    go_ret
    exact ⟨rfl, unhide FIN⟩
  · go_wp2
    go_region_law (refine step_append_run rfl _ _ 114 114 rfl _ _ (by simp [Act.eval, Act.put]) (by simp [Act.eval, Act.put]) (hr1 ⟨g, (i + 1) * 3, none⟩ (cap - (i + 1)) (fun _ => rfl)) ?_)
    go_wp2_with (at_builtin; refine wpList_clear_run _ rfl _ 114 rfl _ rfl hr2 ?_)
    go_ret
    exact ⟨rfl, unhide FIN⟩
end Go.Proofs.YtfabjhgkigagpaaGreatDoor
