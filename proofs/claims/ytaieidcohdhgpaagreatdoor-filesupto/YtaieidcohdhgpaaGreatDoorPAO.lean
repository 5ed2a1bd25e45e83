/- Files. -/
import Derived.Test.YtaieidcohdhgpaaGreatDoorPAN
import Derived.Test.YtaieidcohdhgpaaGreatDoorPAM
namespace Go.Proofs.YtaieidcohdhgpaaGreatDoor
open Go.RowKit Go.Shelf
attribute [local go_sem] Oper.semAt_some
set_option maxHeartbeats 2000000
set_option maxRecDepth 100000
theorem count_step (G : Gh) (hG : GOk G) (hGl : G.length ≤ 10000) (rd : Nat) (V : Nat → Value) (E : Nat → List (ByteArray × VS)) (ns : List ByteArray) (b : Nat) (hd : IsDir G rd ns b)
  (hrec : ∀ x b' w, x ∈ E b → IsDir G rd (ns ++ [x.1]) b' → DirW w G rd V E → Calls Tryz.prog 143 #[.pointer (some ⟨b', 0, none⟩)] w fun e w' => e = .returned (.tuple #[.int .i64 (cD G (ns ++ [x.1]) : Nat), .int .i64 (cE G (ns ++ [x.1]) : Nat)]) ∧ Below w.heap.size w w')
  (w : World) (h : DirW w G rd V E) :
  Calls Tryz.prog 143 #[.pointer (some ⟨b, 0, none⟩)] w fun e w' => e = .returned (.tuple #[.int .i64 (cD G ns : Nat), .int .i64 (cE G ns : Nat)]) ∧ Below w.heap.size w w' := by
 have hS := h.sl ns b hd
 have hle := h.le hG hd
 have hrow := h.row ns b hd
 have hc := hrow.cell 0
 have hbw : b < w.heap.size := hrow.lt
 have hlen := fun (W : World) (hb : Below w.heap.size w W) => lenS W b 0 (V b) (E b).length (cellsS (E b)) ((hb.cell (p := ⟨b, 0, none⟩) hbw).trans hc) (hS.kept (fun k hk _ => hb.block k hk))
 have HLEN := hide hlen
 clear hlen
 refine (callsIn_wide (n := 3)).1 ?_
 refine callsIn_of_wp_marks Tryz.func143 rfl trivial ?_ rfl
 simp only [Tryz.ntmps143, List.size_toArray, List.length_cons, List.length_nil, Nat.reduceAdd, Nat.reduceSub, Array.replicate_succ, Array.replicate_zero, List.push_toArray, List.append_toArray, List.nil_append, List.cons_append]
 gi_wp2_with (refine ⟨trivial, ?_⟩; first | (gi_at_call 178; refine (callsIn_wide.2 (unhide HLEN _ (by exact ((Below.refl _ w).alloc (Nat.le_refl _) _).alloc (by simp) _))).mono ?_; rintro e w' ⟨rfl, hw⟩; rw [hw]; clear hw) | (gi_at_call 179; refine (allS_in _ _ trivial rfl _ _).mono ?_; rintro e w' ⟨rfl, rfl⟩))
 obtain ⟨W0, hW0⟩ : ∃ W0, ((w.alloc (Obj.cells #[Value.int IntKind.i64 1] 3)).alloc (Obj.cells #[Value.int IntKind.i64 ((E b).length : Nat)] 3)).alloc (Obj.cells #[Value.pointer (some { block := b, off := 0 })] 307) = W0 := ⟨_, rfl⟩
 rw [hW0]
 have hsz : W0.heap.size = w.heap.size + 3 := by rw [← hW0]; simp
 have hB0 : Below w.heap.size w W0 := by rw [← hW0]; exact (((Below.refl _ w).alloc (Nat.le_refl _) _).alloc (by simp) _).alloc (by simp; omega) _
 have hX0 : Boxed W0 w.heap.size 3 (.int .i64 1) := by rw [← hW0]; exact ((Boxed.new w 3 _).alloc _).alloc _
 have hX1 : Boxed W0 (w.heap.size + 1) 3 (.int .i64 ((E b).length : Nat)) := by rw [← hW0]; have := (Boxed.new (w.alloc (Obj.cells #[Value.int IntKind.i64 1] 3)) 3 (.int .i64 ((E b).length : Nat))).alloc (Obj.cells #[Value.pointer (some { block := b, off := 0 })] 307); simpa using this
 have hX2 : Boxed W0 (w.heap.size + 1 + 1) 307 (.pointer (some ⟨b, 0, none⟩)) := by rw [← hW0]; have := Boxed.new ((w.alloc (Obj.cells #[Value.int IntKind.i64 1] 3)).alloc (Obj.cells #[Value.int IntKind.i64 ((E b).length : Nat)] 3)) 307 (.pointer (some ⟨b, 0, none⟩)); simpa using this
 have hS0 : Sl W0 310 3 (V b) (E b).length (cellsS (E b)) := hS.kept (fun k hk _ => hB0.block k hk)
 have hc0 : W0.cell? ⟨b, 0, none⟩ = some (V b) := (hB0.cell (p := ⟨b, 0, none⟩) hbw).trans hc
 have hat : (E b).attach.map (fun x => x.1) = E b := List.attach_map_subtype_val _
 have HREC := hide hrec
 have HH := hide h
 clear hW0 hrec h HLEN
 refine wpIn_rangeFunc_ownH (α := { x // x ∈ E b }) rfl (by omega) (gf := 222) (lb := #[.pointer (some ⟨w.heap.size + 1 + 1, 0, none⟩)]) rfl trivial (enters_of Tryz.func222 (by kernel_rfl) rfl)
  (allS_stops Fence.wide 2 trivial rfl (by omega) (w.heap.size + 1 + 1) w.heap.size b 0 (V b) (fun x => x.1) (E b).attach (by simpa using Nat.le_trans hle hGl) W0 (by omega) (by omega) (by omega) hX2.cell hc0 (by rw [hat]; simpa using hS0) (fun g hg => hS.lt hg))
  belowK_t (belowK_b (by omega)) (Below.refl _ _) (fun _ => rfl)
  (fun pre W => (Boxed W w.heap.size 3 (.int .i64 ((1 + sumF (fD G ns) (pre.map (·.1)) : Nat) : Int)) ∧ Boxed W (w.heap.size + 1) 3 (.int .i64 (((E b).length + sumF (fE G ns) (pre.map (·.1)) : Nat) : Int))) ∧ Below w.heap.size w W)
  (fun _ _ _ => False)
  (OwnFrom.and (OwnFrom.and (Own.from (boxed_own _ _ _) _) (Own.from (boxed_own _ _ _) _)) (ownFrom_below (Nat.le_refl _) (by omega)))
  (fun _ _ _ _ _ hs _ _ => hs)
  ⟨⟨hX0, hX1⟩, hB0⟩
  (fun x a' W => ∃ Bx, w.heap.size + 1 < Bx ∧ RowIs W Bx 260 [.pointer x.1.2.p, .int .i64 x.1.2.f] ∧ a' = { tmps := #[.pointer (some ⟨b, 0, none⟩), undef, .pointer (some ⟨w.heap.size, 0, none⟩), .pointer (some ⟨w.heap.size + 1, 0, none⟩), undef, .pointer (some ⟨Bx, 0, none⟩), undef, undef, .pointer (some ⟨b, 0, none⟩), .pointer (some ⟨b, 0, none⟩), .pointer (some ⟨b, 0, none⟩), .int .i64 ((E b).length : Nat), .pointer (some ⟨b, 0, none⟩), .pointer (some ⟨b, 0, none⟩), .pointer (some ⟨b, 0, none⟩), .func (.func 222) #[] #[.pointer (some ⟨w.heap.size + 1 + 1, 0, none⟩)], .string x.1.1, .agg #[.pointer x.1.2.p, .int .i64 x.1.2.f], undef, undef, undef, undef, undef, undef, undef, undef, undef, undef, undef, undef, undef, undef, undef, undef, undef], defers := [] })
  (fun x a' _ X Y row hs hg hr => by
   obtain ⟨Bx, h1, h2, h3⟩ := hs
   exact ⟨Bx, h1, (rowIs_own (β := Unit) Bx 260 (fun _ => _)).from _ () X Y row h2 hg hr, h3⟩)
  ?assign ?body ?done ?stop
 case assign =>
  rintro l pre x W K ⟨⟨hi, hj⟩, hB⟩ hK
  gi_wp2
  refine hK _ _ ((KeepsOthers.alloc _ _).from _) ((Below.refl _ W).alloc hB.size _) ⟨⟨hi.alloc _, hj.alloc _⟩, hB.alloc hB.size _⟩ ⟨W.heap.size, hj.lt, row_new W _ _, rfl⟩
 case body =>
  rintro l pre x a' W hl0 ⟨r, hr⟩ ⟨⟨hi, hj⟩, hB⟩ ⟨Bx, hBx, bX, rfl⟩ hlt
  have hpl : pre.length < (E b).length := by simpa using hlt
  have hm1 := sumF_le (fD G ns) 10001 (fun y => Nat.le_trans (fD_le G ns y) (by omega)) (pre.map (·.1))
  have hm2 := sumF_le (fE G ns) 10000 (fun y => Nat.le_trans (fE_le G ns y) (by omega)) (pre.map (·.1))
  rw [List.length_map] at hm1 hm2
  have e1 : sumF (fD G ns) ((pre ++ [x]).map (·.1)) = sumF (fD G ns) (pre.map (·.1)) + fD G ns x.1 := by rw [List.map_append, List.map_cons, List.map_nil, sumF_snoc]
  have e2 : sumF (fE G ns) ((pre ++ [x]).map (·.1)) = sumF (fE G ns) (pre.map (·.1)) + fE G ns x.1 := by rw [List.map_append, List.map_cons, List.map_nil, sumF_snoc]
  obtain ⟨s1, hs1⟩ : ∃ s, s = sumF (fD G ns) (pre.map (·.1)) := ⟨_, rfl⟩
  obtain ⟨s2, hs2⟩ : ∃ s, s = sumF (fE G ns) (pre.map (·.1)) := ⟨_, rfl⟩
  rw [← hs1] at hm1 e1 hi
  rw [← hs2] at hm2 e2 hj
  have E1 := hide e1
  have E2 := hide e2
  clear hs1 hs2 e1 e2
  have x0 := bX.cell 0
  have hm1' : s1 ≤ 100010000 := Nat.le_trans hm1 (by omega)
  have hm2' : s2 ≤ 100000000 := Nat.le_trans hm2 (by omega)
  clear hm1 hm2
  rcases (unhide HH).sub hd x.2 with hp | ⟨b', hxe, hsub⟩
  ·have hz1 : fD G ns x.1 = 0 := by unfold fD; rw [hp]; rfl
   have hz2 : fE G ns x.1 = 0 := by unfold fE; rw [hp]; rfl
   rw [hp] at x0
   gi_wp2
   exact ⟨(KeepsOthers.refl _).from _, Below.refl _ _, ⟨by rw [unhide E1, hz1]; exact hi, by rw [unhide E2, hz2]; exact hj⟩, hB⟩
  ·have hz1 : fD G ns x.1 = cD G (ns ++ [x.1.1]) := by unfold fD; rw [hxe]; rfl
   have hz2 : fE G ns x.1 = cE G (ns ++ [x.1.1]) := by unfold fE; rw [hxe]; rfl
   have hb1 := Nat.le_trans (cD_le G (ns ++ [x.1.1])) (by omega : _ ≤ 10001)
   have hb2 := Nat.le_trans (cE_le G (ns ++ [x.1.1])) hGl
   have hcall := unhide HREC x.1 b' W x.2 hsub ((unhide HH).below hB (Nat.le_refl _))
   rw [hxe] at x0
   rw [← hz1] at hcall hb1
   rw [← hz2] at hcall hb2
   obtain ⟨d1, hd1⟩ : ∃ d, d = fD G ns x.1 := ⟨_, rfl⟩
   obtain ⟨d2, hd2⟩ : ∃ d, d = fE G ns x.1 := ⟨_, rfl⟩
   have ED1 := hide hd1
   have ED2 := hide hd2
   rw [← hd1] at hcall hb1
   rw [← hd2] at hcall hb2
   clear hz1 hz2 hd1 hd2
   gi_wp2_with fail
   refine ⟨trivial, ?_⟩
   refine (CallsIn.inRound l (callsIn_wide.2 hcall)).mono ?_
   rintro e W2 ⟨rfl, hbW⟩
   have hi2 : Boxed W2 w.heap.size 3 _ := (hbW.block _ hi.lt).trans hi
   have hj2 : Boxed W2 (w.heap.size + 1) 3 _ := (hbW.block _ hj.lt).trans hj
   have c0 := hi2.cell
   have c1 := hj2.cell
   have f0 := hi2.frozen
   have f1 := hj2.frozen
   clear hcall
   gi_wp2
   have v1 : (1 + (s1 : Int) + (d1 : Int)) = ((1 + sumF (fD G ns) ((pre ++ [x]).map (·.1)) : Nat) : Int) := by rw [unhide E1, ← unhide ED1]; omega
   have v2 : (((E b).length : Int) + (s2 : Int) + (d2 : Int)) = (((E b).length + sumF (fE G ns) ((pre ++ [x]).map (·.1)) : Nat) : Int) := by rw [unhide E2, ← unhide ED2]; omega
   have hbw2 : Below w.heap.size W W2 := hbW.mono hB.size
   refine ⟨((keeps_of_below hbW).trans ((KeepsOthers.setCell _ _ _).trans (KeepsOthers.setCell _ _ _))).from _, (hbw2.setCell (p := ⟨w.heap.size, 0, none⟩) (Nat.le_refl _) _).setCell (p := ⟨w.heap.size + 1, 0, none⟩) (Nat.le_succ _) _, ⟨?_, ?_⟩, ((hB.trans hbw2).setCell (p := ⟨w.heap.size, 0, none⟩) (Nat.le_refl _) _).setCell (p := ⟨w.heap.size + 1, 0, none⟩) (Nat.le_succ _) _⟩
   ·rw [v1]; exact (hi2.set _).other (by omega) _
   ·rw [v2]; exact (hj2.other (by omega) _).set _
 case done =>
  rintro D ys W hD rfl ⟨⟨hi, hj⟩, hB⟩ hK
  have c0 := hi.cell
  have c1 := hj.cell
  have f0 := hi.frozen
  have f1 := hj.frozen
  obtain ⟨s1, s2⟩ := sum_all hG ((unhide HH).srt ns b hd) ((unhide HH).en ns b hd)
  rw [hat, s1] at c0 hi
  rw [hat, s2] at c1 hj
  have hi2 := hi
  have hj2 := hj
  clear hi hj
  gi_wp2
  gi_region
  all_goals gi_wp2
  have b0 : Boxed ((W.setCell ⟨w.heap.size, 0, none⟩ (.int .i64 (cD G ns : Nat))).setCell ⟨w.heap.size + 1, 0, none⟩ (.int .i64 (cE G ns : Nat))).drew w.heap.size 3 (.int .i64 (cD G ns : Nat)) := (hi2.set _).other (by omega) _
  have b1 : Boxed ((W.setCell ⟨w.heap.size, 0, none⟩ (.int .i64 (cD G ns : Nat))).setCell ⟨w.heap.size + 1, 0, none⟩ (.int .i64 (cE G ns : Nat))).drew (w.heap.size + 1) 3 (.int .i64 (cE G ns : Nat)) := (hj2.other (by omega) _).set _
  have hBf : Below w.heap.size w ((W.setCell ⟨w.heap.size, 0, none⟩ (.int .i64 (cD G ns : Nat))).setCell ⟨w.heap.size + 1, 0, none⟩ (.int .i64 (cE G ns : Nat))).drew := ((hB.setCell (p := ⟨w.heap.size, 0, none⟩) (Nat.le_refl _) _).setCell (p := ⟨w.heap.size + 1, 0, none⟩) (Nat.le_succ _) _).drew
  have hKf : ((W.setCell ⟨w.heap.size, 0, none⟩ (.int .i64 (cD G ns : Nat))).setCell ⟨w.heap.size + 1, 0, none⟩ (.int .i64 (cE G ns : Nat))).drew.heap[D]? = some (.deferred (some [])) := (((KeepsOthers.setCell W ⟨w.heap.size, 0, none⟩ (.int .i64 (cD G ns : Nat))).trans (KeepsOthers.setCell _ ⟨w.heap.size + 1, 0, none⟩ (.int .i64 (cE G ns : Nat)))).trans (KeepsOthers.drew _)).same D _ hK rfl
  obtain ⟨Wf, hWf⟩ : ∃ Wf, ((W.setCell ⟨w.heap.size, 0, none⟩ (.int .i64 (cD G ns : Nat))).setCell ⟨w.heap.size + 1, 0, none⟩ (.int .i64 (cE G ns : Nat))).drew = Wf := ⟨_, rfl⟩
  rw [hWf] at b0 b1 hBf hKf ⊢
  have c0' := (b0.kept (grownBy_putObj' Wf D (.deferred none)) (fun e => by cases e; have := b0.symm.trans hKf; cases this)).cell
  have c1' := (b1.kept (grownBy_putObj' Wf D (.deferred none)) (fun e => by cases e; have := b1.symm.trans hKf; cases this)).cell
  refine ⟨by simp, .inl ⟨_, _, rfl, run_takeDeferred hKf, ?_⟩⟩
  refine ⟨.tuple #[.int .i64 (cD G ns : Nat), .int .i64 (cE G ns : Nat)], ?_, rfl, hBf.trans (belowK_b (w := w) (Nat.le_refl _) Wf D _ _ (by omega) hKf rfl rfl)⟩
  simp [results, Tryz.results143, go_sem, c0', c1']
 case stop =>
  rintro D c pre W _ _ h _
  exact h.elim
theorem IsDir.le {G : Gh} (hG : GOk G) {rd : Nat} {ns : List ByteArray} {b : Nat} (h : IsDir G rd ns b) : ns.length ≤ 6 := by
 rcases h with ⟨rfl, _⟩ | h
 ·exact Nat.zero_le _
 ·exact hG.le _ h
theorem count_code (G : Gh) (hG : GOk G) (hGl : G.length ≤ 10000) (rd : Nat) (V : Nat → Value) (E : Nat → List (ByteArray × VS)) : ∀ (d : Nat) (ns : List ByteArray) (b : Nat) (w : World), 6 ≤ ns.length + d → IsDir G rd ns b → DirW w G rd V E →
  Calls Tryz.prog 143 #[.pointer (some ⟨b, 0, none⟩)] w fun e w' => e = .returned (.tuple #[.int .i64 (cD G ns : Nat), .int .i64 (cE G ns : Nat)]) ∧ Below w.heap.size w w' := by
 intro d
 induction d with
 | zero =>
  intro ns b w hd h hw
  exact count_step G hG hGl rd V E ns b h (fun x b' w' _ hs _ => by have := hs.le hG; simp at this; omega) w hw
 | succ d ih =>
  intro ns b w hd h hw
  exact count_step G hG hGl rd V E ns b h (fun x b' w' _ hs hw' => ih _ b' w' (by simp; omega) hs hw') w hw
def HgtL (G : Gh) (ns : List ByteArray) (pre : List (ByteArray × VS)) (h : Nat) : Prop :=
 (∀ x ∈ G, (∃ y ∈ pre, qP (ns ++ [y.1]) x = true) → x.1.length ≤ ns.length + h) ∧ (h = 0 ∨ ∃ x ∈ G, (∃ y ∈ pre, qP (ns ++ [y.1]) x = true) ∧ x.1.length = ns.length + h)
theorem HgtL.snoc {G : Gh} {ns : List ByteArray} {pre : List (ByteArray × VS)} {h m : Nat} {x : ByteArray × VS} (hh : HgtL G ns pre h) (h1 : ∀ z ∈ G, qP (ns ++ [x.1]) z = true → z.1.length ≤ ns.length + m) (h2 : ∃ z ∈ G, qP (ns ++ [x.1]) z = true ∧ z.1.length = ns.length + m) : HgtL G ns (pre ++ [x]) (max h m) := by
 refine ⟨fun z hz hy => ?_, ?_⟩
 ·obtain ⟨y, hy1, hy2⟩ := hy
  rcases List.mem_append.1 hy1 with hy1 | hy1
  ·have := hh.1 z hz ⟨y, hy1, hy2⟩; omega
  ·obtain rfl : y = x := by simpa using hy1
   have := h1 z hz hy2; omega
 ·rcases Nat.le_total m h with hm | hm
  ·rw [Nat.max_eq_left hm]
   rcases hh.2 with h0 | ⟨z, hz, ⟨y, hy1, hy2⟩, e⟩
   ·exact .inl h0
   ·exact .inr ⟨z, hz, ⟨y, List.mem_append_left _ hy1, hy2⟩, e⟩
  ·rw [Nat.max_eq_right hm]
   obtain ⟨z, hz, hq, e⟩ := h2
   exact .inr ⟨z, hz, ⟨x, by simp, hq⟩, e⟩
theorem HgtL.all {G : Gh} (hG : GOk G) {ns : List ByteArray} {es : List (ByteArray × VS)} (he : EnOk G ns es) {h : Nat} (hh : HgtL G ns es h) : Hgt G (qB ns) ns.length h := by
 have key : ∀ x ∈ G, qB ns x = true ↔ ∃ y ∈ es, qP (ns ++ [y.1]) x = true := by
  intro x hx
  constructor
  ·intro hq
   unfold qB at hq
   rw [decide_eq_true_eq] at hq
   obtain ⟨hl, t, ht⟩ := hq
   cases t with
   | nil => rw [← ht] at hl; simp at hl
   | cons n t =>
    have : ∃ u, (ns ++ [n], u) ∈ G := by
     by_cases ht2 : t = []
     ·subst ht2; exact ⟨x.2, by rw [ht]; exact hx⟩
     ·obtain ⟨v, hv, _⟩ := hG.pre' hx (ns := ns ++ [n]) (by simp) (by
       unfold qB; rw [decide_eq_true_eq, ← ht]
       refine ⟨?_, ⟨t, by simp⟩⟩
       cases t with
       | nil => exact absurd rfl ht2
       | cons m t => simp)
      exact ⟨v, hv⟩
    obtain ⟨u, hu⟩ := this
    exact ⟨(n, u), (he n u).2 hu, by unfold qP; rw [decide_eq_true_eq, ← ht]; exact ⟨t, by simp⟩⟩
  ·rintro ⟨y, hy, hq⟩
   unfold qP at hq
   unfold qB
   rw [decide_eq_true_eq] at hq ⊢
   have hl := hq.length_le
   simp at hl
   exact ⟨by omega, (List.prefix_append ns [y.1]).trans hq⟩
 exact ⟨fun x hx hq => hh.1 x hx ((key x hx).1 hq), hh.2.elim .inl (fun ⟨x, hx, hy, e⟩ => .inr ⟨x, hx, (key x hx).2 hy, e⟩)⟩
theorem hgt_le {G : Gh} (hG : GOk G) {q : List ByteArray × VS → Bool} {m h : Nat} (hh : Hgt G q m h) : h ≤ 6 := by
 rcases hh.2 with h0 | ⟨x, hx, _, e⟩
 ·omega
 ·have := hG.le x hx; omega
theorem qP_split {ns : List ByteArray} {z : List ByteArray × VS} (h : qP ns z = true) : z.1 = ns ∨ qB ns z = true := by
 unfold qP at h
 unfold qB
 rw [decide_eq_true_eq] at h ⊢
 rcases Nat.lt_or_ge ns.length z.1.length with hl | hl
 ·exact .inr ⟨hl, h⟩
 ·exact .inl (h.eq_of_length_le hl).symm
theorem height_step (G : Gh) (hG : GOk G) (hGl : G.length ≤ 10000) (rd : Nat) (V : Nat → Value) (E : Nat → List (ByteArray × VS)) (ns : List ByteArray) (b : Nat) (hd : IsDir G rd ns b)
  (hrec : ∀ x b' w, x ∈ E b → IsDir G rd (ns ++ [x.1]) b' → DirW w G rd V E → Calls Tryz.prog 232 #[.pointer (some ⟨b', 0, none⟩)] w fun e w' => ∃ h : Nat, e = .returned (.int .i64 h) ∧ Hgt G (qB (ns ++ [x.1])) (ns ++ [x.1]).length h ∧ Below w.heap.size w w')
  (w : World) (h : DirW w G rd V E) :
  Calls Tryz.prog 232 #[.pointer (some ⟨b, 0, none⟩)] w fun e w' => ∃ h : Nat, e = .returned (.int .i64 h) ∧ Hgt G (qB ns) ns.length h ∧ Below w.heap.size w w' := by
 have hS := h.sl ns b hd
 have hle := h.le hG hd
 have hrow := h.row ns b hd
 have hc := hrow.cell 0
 have hbw : b < w.heap.size := hrow.lt
 refine (callsIn_wide (n := 3)).1 ?_
 refine callsIn_of_wp_marks Tryz.func232 rfl trivial ?_ rfl
 simp only [Tryz.ntmps232, List.size_toArray, List.length_cons, List.length_nil, Nat.reduceAdd, Nat.reduceSub, Array.replicate_succ, Array.replicate_zero, List.push_toArray, List.append_toArray, List.nil_append, List.cons_append]
 gi_wp2_with (refine ⟨trivial, ?_⟩; gi_at_call 179; refine (allS_in _ _ trivial rfl _ _).mono ?_; rintro e w' ⟨rfl, rfl⟩)
 obtain ⟨W0, hW0⟩ : ∃ W0, (w.alloc (Obj.cells #[Value.int IntKind.i64 0] 3)).alloc (Obj.cells #[Value.pointer (some { block := b, off := 0 })] 307) = W0 := ⟨_, rfl⟩
 rw [hW0]
 have hsz : W0.heap.size = w.heap.size + 2 := by rw [← hW0]; simp
 have hB0 : Below w.heap.size w W0 := by rw [← hW0]; exact ((Below.refl _ w).alloc (Nat.le_refl _) _).alloc (by simp) _
 have hX0 : Boxed W0 w.heap.size 3 (.int .i64 0) := by rw [← hW0]; exact (Boxed.new w 3 _).alloc _
 have hX2 : Boxed W0 (w.heap.size + 1) 307 (.pointer (some ⟨b, 0, none⟩)) := by rw [← hW0]; have := Boxed.new (w.alloc (Obj.cells #[Value.int IntKind.i64 0] 3)) 307 (.pointer (some ⟨b, 0, none⟩)); simpa using this
 have hS0 : Sl W0 310 3 (V b) (E b).length (cellsS (E b)) := hS.kept (fun k hk _ => hB0.block k hk)
 have hc0 : W0.cell? ⟨b, 0, none⟩ = some (V b) := (hB0.cell (p := ⟨b, 0, none⟩) hbw).trans hc
 have hat : (E b).attach.map (fun x => x.1) = E b := List.attach_map_subtype_val _
 have HREC := hide hrec
 have HH := hide h
 clear hW0 hrec h
 refine wpIn_rangeFunc_ownH (α := { x // x ∈ E b }) rfl (by omega) (gf := 222) (lb := #[.pointer (some ⟨w.heap.size + 1, 0, none⟩)]) rfl trivial (enters_of Tryz.func222 (by kernel_rfl) rfl)
  (allS_stops Fence.wide 2 trivial rfl (by omega) (w.heap.size + 1) w.heap.size b 0 (V b) (fun x => x.1) (E b).attach (by simpa using Nat.le_trans hle hGl) W0 (by omega) (by omega) (by omega) hX2.cell hc0 (by rw [hat]; simpa using hS0) (fun g hg => hS.lt hg))
  belowK_t (belowK_b (by omega)) (Below.refl _ _) (fun _ => rfl)
  (fun pre W => (∃ m : Nat, Boxed W w.heap.size 3 (.int .i64 m) ∧ m ≤ 7 ∧ HgtL G ns (pre.map (·.1)) m) ∧ Below w.heap.size w W)
  (fun _ _ _ => False)
  (OwnFrom.and (fun s X Y row hs hg hr => by obtain ⟨m, h1, h2⟩ := hs; exact ⟨m, (boxed_own (β := Unit) _ _ (fun _ => _)).from _ () X Y row h1 hg hr, h2⟩) (ownFrom_below (Nat.le_refl _) (by omega)))
  (fun _ _ _ _ _ hs _ _ => hs)
  ⟨⟨0, hX0, by omega, fun x _ hy => by obtain ⟨y, hy, _⟩ := hy; simp at hy, .inl rfl⟩, hB0⟩
  (fun x a' W => ∃ Bx, w.heap.size < Bx ∧ RowIs W Bx 260 [.pointer x.1.2.p, .int .i64 x.1.2.f] ∧ a' = { tmps := #[.pointer (some ⟨b, 0, none⟩), undef, .int .i64 0, .pointer (some ⟨w.heap.size, 0, none⟩), undef, .pointer (some ⟨Bx, 0, none⟩), undef, .pointer (some ⟨b, 0, none⟩), .pointer (some ⟨b, 0, none⟩), .pointer (some ⟨b, 0, none⟩), .func (.func 222) #[] #[.pointer (some ⟨w.heap.size + 1, 0, none⟩)], .string x.1.1, .agg #[.pointer x.1.2.p, .int .i64 x.1.2.f], undef, undef, undef, undef, undef, undef, undef, undef, undef, undef, undef, undef], defers := [] })
  (fun x a' _ X Y row hs hg hr => by
   obtain ⟨Bx, h1, h2, h3⟩ := hs
   exact ⟨Bx, h1, (rowIs_own (β := Unit) Bx 260 (fun _ => _)).from _ () X Y row h2 hg hr, h3⟩)
  ?assign ?body ?done ?stop
 case assign =>
  rintro l pre x W K ⟨⟨m, hi, hm⟩, hB⟩ hK
  gi_wp2
  refine hK _ _ ((KeepsOthers.alloc _ _).from _) ((Below.refl _ W).alloc hB.size _) ⟨⟨m, hi.alloc _, hm⟩, hB.alloc hB.size _⟩ ⟨W.heap.size, hi.lt, row_new W _ _, rfl⟩
 case body =>
  rintro l pre x a' W hl0 ⟨r, hr⟩ ⟨⟨m, hi, hm, hL⟩, hB⟩ ⟨Bx, hBx, bX, rfl⟩ hlt
  have HL := hide hL
  clear hL
  have x0 := bX.cell 0
  have c0 := hi.cell
  have f0 := hi.frozen
  have hself : (ns ++ [x.1.1], x.1.2) ∈ G := ((unhide HH).en ns b hd x.1.1 x.1.2).1 x.2
  have HSELF := hide hself
  clear hself
  rcases (unhide HH).sub hd x.2 with hp | ⟨b', hxe, hsub⟩
  ·have hnew := (unhide HL).snoc (m := 1) (x := x.1) (fun z hz hq => by
    rcases qP_split hq with e | hq
    ·rw [e]; simp
    ·obtain ⟨v, hv, hs⟩ := hG.pre' hz (hG.ne _ (unhide HSELF)) hq
     rw [nodup_fst hG.nd hv (unhide HSELF), hp] at hs; cases hs) ⟨_, unhide HSELF, by unfold qP; simp, by simp⟩
   have HNEW := hide hnew
   clear hnew
   rw [hp] at x0
   gi_wp2
   have v1 : (max (m : Int) 1) = ((max m 1 : Nat) : Int) := by omega
   refine ⟨(KeepsOthers.setCell _ _ _).from _, (Below.refl w.heap.size W).setCell (p := ⟨w.heap.size, 0, none⟩) (Nat.le_refl _) _, ⟨max m 1, by rw [v1]; exact hi.set _, by omega, by rw [List.map_append]; exact unhide HNEW⟩, hB.setCell (p := ⟨w.heap.size, 0, none⟩) (Nat.le_refl _) _⟩
  ·have hcall := unhide HREC x.1 b' W x.2 hsub ((unhide HH).below hB (Nat.le_refl _))
   rw [hxe] at x0
   gi_wp2_with fail
   refine ⟨trivial, ?_⟩
   refine (CallsIn.inRound l (callsIn_wide.2 hcall)).mono ?_
   rintro e W2 ⟨k, rfl, hgt, hbW⟩
   have hk6 := hgt_le hG hgt
   have hnew := (unhide HL).snoc (m := 1 + k) (x := x.1) (fun z hz hq => by
    rcases qP_split hq with e | hq
    ·rw [e]; simp
    ·have := hgt.1 z hz hq; simp at this; omega) (by
    rcases hgt.2 with e | ⟨z, hz, hq, e⟩
    ·exact ⟨_, unhide HSELF, by unfold qP; simp, by simp [e]⟩
    ·refine ⟨z, hz, ?_, by simp at e; omega⟩
     unfold qB at hq; unfold qP
     rw [decide_eq_true_eq] at hq ⊢
     exact hq.2)
   have HNEW := hide hnew
   have hi2 : Boxed W2 w.heap.size 3 _ := (hbW.block _ hi.lt).trans hi
   have c2 := hi2.cell
   have f2 := hi2.frozen
   clear hcall hnew hgt
   gi_wp2
   have v1 : (max (m : Int) (1 + (k : Int))) = ((max m (1 + k) : Nat) : Int) := by omega
   have hbw2 : Below w.heap.size W W2 := hbW.mono hB.size
   refine ⟨((keeps_of_below hbW).trans (KeepsOthers.setCell _ _ _)).from _, hbw2.setCell (p := ⟨w.heap.size, 0, none⟩) (Nat.le_refl _) _, ⟨max m (1 + k), by rw [v1]; exact hi2.set _, by omega, by rw [List.map_append]; exact unhide HNEW⟩, (hB.trans hbw2).setCell (p := ⟨w.heap.size, 0, none⟩) (Nat.le_refl _) _⟩
 case done =>
  rintro D ys W hD rfl ⟨⟨m, hi, hm, hL⟩, hB⟩ hK
  have c0 := hi.cell
  rw [hat] at hL
  have HL := hide (hL.all hG ((unhide HH).en ns b hd))
  clear hL
  gi_wp2
  refine ⟨by simp, .inl ⟨_, _, rfl, run_takeDeferred hK, ?_⟩⟩
  exact ⟨_, results_tmp rfl _ _ _, m, rfl, unhide HL, hB.trans (belowK_b (w := w) (Nat.le_refl _) W D _ _ (by omega) hK rfl rfl)⟩
 case stop =>
  rintro D c pre W _ _ h _
  exact h.elim
theorem height_code (G : Gh) (hG : GOk G) (hGl : G.length ≤ 10000) (rd : Nat) (V : Nat → Value) (E : Nat → List (ByteArray × VS)) : ∀ (d : Nat) (ns : List ByteArray) (b : Nat) (w : World), 6 ≤ ns.length + d → IsDir G rd ns b → DirW w G rd V E →
  Calls Tryz.prog 232 #[.pointer (some ⟨b, 0, none⟩)] w fun e w' => ∃ h : Nat, e = .returned (.int .i64 h) ∧ Hgt G (qB ns) ns.length h ∧ Below w.heap.size w w' := by
 intro d
 induction d with
 | zero =>
  intro ns b w hd h hw
  exact height_step G hG hGl rd V E ns b h (fun x b' w' _ hs _ => by have := hs.le hG; simp at this; omega) w hw
 | succ d ih =>
  intro ns b w hd h hw
  exact height_step G hG hGl rd V E ns b h (fun x b' w' _ hs hw' => ih _ b' w' (by simp; omega) hs hw') w hw
end Go.Proofs.YtaieidcohdhgpaaGreatDoor
