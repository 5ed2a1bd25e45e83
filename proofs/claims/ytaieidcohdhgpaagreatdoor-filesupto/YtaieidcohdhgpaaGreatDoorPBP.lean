/- Files. -/
import Derived.Test.YtaieidcohdhgpaaGreatDoorPBO
namespace Go.Proofs.YtaieidcohdhgpaaGreatDoor
open Go.RowKit Go.Shelf
attribute [local go_sem] Oper.semAt_some
set_option maxHeartbeats 4000000
set_option maxRecDepth 100000
def LsPost (w : World) (G : Gh) (I : List (Int × VF)) (ns : List ByteArray) (xs : List (ByteArray × VS)) (e : Ending) (w' : World) : Prop :=
 (∃ a n c es, e = .returned (.tuple #[.slice a n c, .int .i64 0]) ∧ Sl w' 112 4 (.slice a n c) es.length (cellsE es) ∧ Tells G I ns xs es) ∧ Below w.heap.size w w'
theorem listD_code (w : World) (tb rd : Nat) (V : Nat → Value) (E : Nat → List (ByteArray × VS)) (vi : Value) (G : Gh) (I : List (Int × VF)) (C : Int → ByteArray) (h : TW w tb rd V E vi G I C) (hG : GOk G) (hGl : G.length ≤ 10000) (hIl : I.length ≤ 10000) (hFl : FlOk G I) (p : ByteArray) (hp : p.size ≤ 2000000)
  (hth : thE G p = 0) (b : Nat) (hd : IsDir G rd (names p) b) (hat : names p = [] ∨ atG G (names p) = some ⟨some ⟨b, 0, none⟩, 0⟩) :
  Calls Tryz.prog 120 #[.pointer (some ⟨tb, 0, none⟩), .string p] w (LsPost w G I (names p) (E b)) := by
 have hal : ∀ o, Below w.heap.size w (w.alloc o) := fun o => (Below.refl _ _).alloc (Nat.le_refl _) o
 have HTH : Hid (∀ o, Calls Tryz.prog 177 #[.pointer (some ⟨tb, 0, none⟩), .string p] (w.alloc o) fun e w' => ∃ d n, e = .returned (.tuple #[spotV d n true ⟨some ⟨b, 0, none⟩, 0⟩, .int .i64 0]) ∧ Below (w.alloc o).heap.size (w.alloc o) w') := fun o =>
  (there_code (w.alloc o) tb rd V E vi G I C (h.below (hal o) (Nat.le_refl _)) hG hGl p hp).mono (fun e w' ⟨hpost, hb⟩ => by
   rcases hpost with ⟨hne, _⟩ | ⟨_, hok, d, n, u, hsp, rfl⟩
   ·exact absurd hth hne
   ·refine ⟨d, n, ?_, hb⟩
    rcases spot_cases h.d hsp with ⟨e, _⟩ | ⟨_, h1, h2, h3⟩ | ⟨_, b', h2, h3, _⟩
    ·cases e
    ·rcases hat with h4 | h4
     ·exact absurd h4 h1
     ·rw [h4] at h2; cases h2; cases h3
    ·have := h3.func hG hd
     subst this
     rw [h2])
 have hS := h.d.sl (names p) b hd
 have hle := h.d.le hG hd
 have hrow := h.d.row (names p) b hd
 have hc := hrow.cell 0
 have hbw : b < w.heap.size := hrow.lt
 have HLEN : Hid (∀ W, Below w.heap.size w W → Calls Tryz.prog 178 #[.pointer (some ⟨b, 0, none⟩)] W fun e w' => e = .returned (.int .i64 (E b).length) ∧ w' = W) := fun W hb => lenS W b 0 (V b) (E b).length (cellsS (E b)) ((hb.cell (p := ⟨b, 0, none⟩) hbw).trans hc) (hS.kept (fun k hk _ => hb.block k hk))
 obtain ⟨i0, hi0, hz0, hz1, hz2⟩ := info_parts info51
 have HH := hide h
 have HFL := hide hFl
 have HHAT := hide hat
 clear h hFl hth hal hat
 refine (callsIn_wide (n := 3)).1 ?_
 refine callsIn_of_wp_marks Tryz.func120 rfl trivial ?_ rfl
 simp only [Tryz.ntmps120, List.size_toArray, List.length_cons, List.length_nil, Nat.reduceAdd, Nat.reduceSub, Array.replicate_succ, Array.replicate_zero, List.push_toArray, List.append_toArray, List.nil_append, List.cons_append]
 gi_wp2_with fail
 refine ⟨trivial, ?_⟩
 refine (callsIn_wide.2 (unhide HTH _)).mono ?_
 rintro e w1 ⟨d, n, rfl, hb1⟩
 have hb : Below w.heap.size w w1 := ((Below.refl _ w).alloc (Nat.le_refl _) _).trans (hb1.mono (by simp))
 have hr0 : RowIs w1 w.heap.size 37 [.pointer (some ⟨tb, 0, none⟩)] := (hb1.block _ (by simp)).trans (row_new w [.pointer (some ⟨tb, 0, none⟩)] 37)
 unfold spotV
 clear HTH hb1
 obtain ⟨W2, hW2, hx2, hk2, hsz2, hb2⟩ := alloc_name w1 (spotL d n true ⟨some ⟨b, 0, none⟩, 0⟩) 262
 have hr2 := hk2 _ _ _ hr0
 have hbw2 : Below w.heap.size w W2 := hb.trans (hb2.mono hb.size)
 have HW2 := hide hW2
 have HSZ2 := hide hsz2
 clear hW2 hk2 hr0 hsz2 hb2
 gi_upto_region 4 with fail
 rw [unhide HW2]
 have a3 := hx2.cell 3
 clear HW2
 gi_wp2_with fail
 refine ⟨trivial, ?_⟩
 refine (callsIn_wide.2 (unhide HLEN W2 hbw2)).mono ?_
 rintro e w' ⟨rfl, hw⟩
 rw [hw]
 clear hw
 gi_wp2_with (first | (gi_at_make; refine wpListIn_make_own _ rfl _ _ 99 rfl w.heap.size 112 i0 _ 4 und47 hi0 hz0 hz1 _ _ _ (E b).length rfl rfl rfl (by rw [hz2]; omega) (by unfold maxLen; omega) hbw2.size ?_; intro w3 hown hgr) | (refine ⟨trivial, ?_⟩; gi_at_call 179; refine (allS_in _ _ trivial rfl _ _).mono ?_; rintro e w' ⟨rfl, rfl⟩))
 obtain ⟨W0, hW0⟩ : ∃ W0, (w3.alloc (Obj.cells #[Value.slice (some { block := W2.heap.size, off := 0 }) 0 (E b).length] 99)).alloc (Obj.cells #[Value.pointer (some { block := b, off := 0 })] 307) = W0 := ⟨_, rfl⟩
 rw [hW0]
 have hsz : W0.heap.size = w3.heap.size + 2 := by rw [← hW0]; simp
 have hb3 : Below w.heap.size w w3 := hbw2.grown hgr hbw2.size (fun k e => by cases e)
 have hb03 : Below w3.heap.size w3 W0 := by rw [← hW0]; exact ((Below.refl _ w3).alloc (Nat.le_refl _) _).alloc (by simp) _
 have hB0 : Below w.heap.size w W0 := hb3.trans (hb03.mono hb3.size)
 have hX1 : RowIs W0 w3.heap.size 99 [.slice (some ⟨W2.heap.size, 0, none⟩) 0 (E b).length] := by rw [← hW0]; exact (row_new w3 _ 99).alloc _
 have hX2 : Boxed W0 (w3.heap.size + 1) 307 (.pointer (some ⟨b, 0, none⟩)) := by rw [← hW0]; have := Boxed.new (w3.alloc (Obj.cells #[Value.slice (some { block := W2.heap.size, off := 0 }) 0 (E b).length] 99)) 307 (.pointer (some ⟨b, 0, none⟩)); simpa using this
 have hX0 : RowIs W0 w.heap.size 37 [.pointer (some ⟨tb, 0, none⟩)] := (hb03.block _ (Nat.lt_of_lt_of_le hr2.lt hgr.size)).trans ((hgr.block _ hr2.lt (by simp)).trans hr2)
 have hS0 : Sl W0 310 3 (V b) (E b).length (cellsS (E b)) := hS.kept (fun k hk _ => hB0.block k hk)
 have hc0 : W0.cell? ⟨b, 0, none⟩ = some (V b) := (hB0.cell (p := ⟨b, 0, none⟩) hbw).trans hc
 have hSL : Sl W0 112 4 (.slice (some ⟨W2.heap.size, 0, none⟩) 0 (E b).length) ([] : List En).length (cellsE []) := (Sl.of_owns hown).kept (fun k hk _ => hb03.block k hk)
 have hJ0 : LiJ w tb w3.heap.size G I (names p) [] W0 := ⟨_, [], hX1, hX0, hSL, ⟨rfl, fun j x y hx => by simp at hx⟩, hB0, fun g hg => by simp [Value.ownBlock] at hg; subst hg; exact hbw2.size⟩
 have hatt : (E b).attach.map (fun x => x.1) = E b := List.attach_map_subtype_val _
 have hsw := hb3.size
 clear hW0 HLEN hX1 hX0 hSL hb03 hown hgr hr2 hx2 a3 HSZ2
 refine wpIn_rangeFunc_ownH (α := { x // x ∈ E b }) rfl (by omega) (gf := 222) (lb := #[.pointer (some ⟨w3.heap.size + 1, 0, none⟩)]) rfl trivial (enters_of Tryz.func222 (by kernel_rfl) rfl)
  (allS_stops Fence.wide 2 trivial rfl (by omega) (w3.heap.size + 1) w.heap.size b 0 (V b) (fun x => x.1) (E b).attach (by simpa using Nat.le_trans hle hGl) W0 (by omega) (by omega) (by omega) hX2.cell hc0 (by rw [hatt]; simpa using hS0) (fun g hg => hS.lt hg))
  belowK_t (belowK_b (by omega)) (Below.refl _ _) (fun _ => rfl)
  (fun pre W => LiJ w tb w3.heap.size G I (names p) (pre.map (fun x => x.1)) W)
  (fun _ _ _ => False)
  (LiJ.own (fun x : { x // x ∈ E b } => x.1) w tb w3.heap.size G I (names p) _ (by omega))
  (fun _ _ _ _ _ hs _ _ => hs)
  hJ0
  (fun x a' W => ∃ Bx, w3.heap.size < Bx ∧ RowIs W Bx 260 [.pointer x.1.2.p, .int .i64 x.1.2.f] ∧ a' = { tmps := #[.pointer (some ⟨tb, 0, none⟩), .string p, .pointer (some ⟨w.heap.size, 0, none⟩), undef, .slice none 0 0, .int .i64 0, .pointer (some ⟨w1.heap.size, 0, none⟩), .int .i64 0, .pointer (some ⟨b, 0, none⟩), .pointer (some ⟨w3.heap.size, 0, none⟩), .string x.1.1, .pointer (some ⟨Bx, 0, none⟩), .tuple #[.agg #[.pointer d, .string n, .bool true, .pointer (some ⟨b, 0, none⟩), .int .i64 0], .int .i64 0], .pointer (some ⟨tb, 0, none⟩), .string p, .tuple #[.agg #[.pointer d, .string n, .bool true, .pointer (some ⟨b, 0, none⟩), .int .i64 0], .int .i64 0], .agg #[.pointer d, .string n, .bool true, .pointer (some ⟨b, 0, none⟩), .int .i64 0], .int .i64 0, .int .i64 0, .bool false, undef, .pointer (some ⟨w1.heap.size, 3, none⟩), .pointer (some ⟨w1.heap.size, 3, none⟩), .pointer (some ⟨b, 0, none⟩), .pointer (some ⟨b, 0, none⟩), .bool false, .pointer (some ⟨b, 0, none⟩), .pointer (some ⟨b, 0, none⟩), .pointer (some ⟨b, 0, none⟩), .int .i64 ((E b).length : Nat), .slice (some ⟨W2.heap.size, 0, none⟩) 0 (E b).length, .pointer (some ⟨b, 0, none⟩), .pointer (some ⟨b, 0, none⟩), .pointer (some ⟨b, 0, none⟩), .func (.func 222) #[] #[.pointer (some ⟨w3.heap.size + 1, 0, none⟩)], .string x.1.1, .agg #[.pointer x.1.2.p, .int .i64 x.1.2.f], undef, undef, undef, undef, undef, undef, undef, undef], defers := [] })
  (fun x a' _ X Y row hs hg hr => by
   obtain ⟨Bx, h1, h2, h3⟩ := hs
   exact ⟨Bx, h1, (rowIs_own (β := Unit) Bx 260 (fun _ => _)).from _ () X Y row h2 hg hr, h3⟩)
  ?assign ?body ?done ?stop
 case assign =>
  rintro l pre x W K hJ hK
  have hJ' := hJ
  obtain ⟨v, es, j1, j2, j3, j4, j5, j6⟩ := hJ
  have hlt := j1.lt
  clear j1 j2 j3 j4 j6
  gi_wp2
  exact hK _ _ ((KeepsOthers.alloc _ _).from _) ((Below.refl _ W).alloc j5.size _) ((LiJ.own (fun x : { x // x ∈ E b } => x.1) w tb w3.heap.size G I (names p) w.heap.size (Nat.le_refl _)).alloc _ hJ') ⟨W.heap.size, hlt, row_new W _ _, rfl⟩
 case body =>
  rintro l pre x a' W hl0 ⟨r, hr⟩ ⟨v, es, j1, j2, j3, j4, j5, j6⟩ ⟨Bx, hBx, bX, rfl⟩ hlt
  have hmx : Tryz.prog.follows .mixedOrders = true := by kernel_rfl
  have hpl : es.length < (E b).length := by rw [j4.1, List.length_map]; simpa using hlt
  have hdW := (unhide HH).d
  have hxG := (hdW.en (names p) b hd x.1.1 x.1.2).1 x.2
  have hxn : x.1.1.size ≤ 2000000 := by
   have h1 := hG.nms _ hxG x.1.1 (by simp)
   simp only [okName, Bool.and_eq_true, decide_eq_true_eq] at h1
   have := h1.1.2; omega
  have HT : Hid (Calls Tryz.prog 180 #[.pointer (some ⟨tb, 0, none⟩), .string x.1.1, .agg #[.pointer x.1.2.p, .int .i64 x.1.2.f]] W.drew fun e w' => ∃ y : En, e = .returned (.agg #[.string y.n, .bool y.d, .int .i64 y.s, .int .i64 y.l]) ∧ tellV G I (names p ++ [x.1.1]) x.1.1 x.1.2 (.agg #[.string y.n, .bool y.d, .int .i64 y.s, .int .i64 y.l]) ∧ Below W.heap.size W w') :=
   (tell_code W.drew tb rd V E vi G I C ((unhide HH).below (j5.trans ((Below.refl _ W).drew.mono j5.size)) (Nat.le_refl _)) hG hGl hIl (unhide HFL) x.1.1 hxn (names p ++ [x.1.1]) x.1.2 (by
    rcases hdW.sub hd x.2 with hp0 | ⟨b', hxe, hsub⟩
    ·exact .inr ⟨hp0, _, hxG, rfl⟩
    ·exact .inl ⟨b', hxe, hsub⟩)).mono (fun e w' ⟨v, h1, h2, h3⟩ => by
     obtain ⟨yb, yc, yd, rfl⟩ := tellV_shape h2
     exact ⟨⟨x.1.1, yb, yc, yd⟩, h1, h2, (Below.refl _ W).drew.trans h3⟩)
  have hbl := j1.lt
  have hcl : ∀ g, v.ownBlock = some g → ∃ R, RowIs W g 112 R := fun g hg => j3.type hg
  have hvne : v.ownBlock ≠ some w3.heap.size := fun e => by
   obtain ⟨R, hR⟩ := hcl _ e
   have := hR.type j1; revert this; decide
  have HAP : Hid (∀ (w4 : World) (y : En), Below W.heap.size W w4 → tellV G I (names p ++ [x.1.1]) x.1.1 x.1.2 (.agg #[.string y.n, .bool y.d, .int .i64 y.s, .int .i64 y.l]) →
    ∃ v' w5, (Builtin.append_ #[99, 99] 99 #[v, .slice (some ⟨w4.heap.size, 0, none⟩) 1 1]).run Tryz.prog (w4.alloc (.cells #[.string y.n, .bool y.d, .int .i64 y.s, .int .i64 y.l] 112)) = .ok v' w5 ∧ ∃ a m c, v' = .slice a m c ∧ w5.cell? ⟨w3.heap.size, 0, none⟩ = some v ∧ w5.frozen? ⟨w3.heap.size, 0, none⟩ = false ∧
     Hid (KeepsFrom W0.heap.size W (w5.setCell ⟨w3.heap.size, 0, none⟩ (.slice a m c)) ∧ Below w.heap.size W (w5.setCell ⟨w3.heap.size, 0, none⟩ (.slice a m c)) ∧ LiJ w tb w3.heap.size G I (names p) ((pre ++ [x]).map (fun x => x.1)) (w5.setCell ⟨w3.heap.size, 0, none⟩ (.slice a m c)))) := fun w4 y hb4 hty => by
   obtain ⟨W4, hW4⟩ : ∃ W4, W4 = w4.alloc (.cells #[.string y.n, .bool y.d, .int .i64 y.s, .int .i64 y.l] 112) := ⟨_, rfl⟩
   have hr4 : RowIs W4 w4.heap.size 112 (clE y) := by rw [hW4]; exact row_new w4 _ 112
   have hb5 : Below W.heap.size W W4 := by rw [hW4]; exact hb4.alloc hb4.size _
   rw [← hW4]
   clear hW4
   have k1 : RowIs W4 w3.heap.size 99 [v] := (hb5.block _ hbl).trans j1
   have k2 : RowIs W4 w.heap.size 37 [.pointer (some ⟨tb, 0, none⟩)] := (hb5.block _ j2.lt).trans j2
   have k3 : Sl W4 112 4 v es.length (cellsE es) := j3.kept (fun k hk _ => hb5.block k hk)
   obtain ⟨v', w5, r1, a, m, c, rfl, r2, r3, r4⟩ := appE W4 v es k3 (by omega) y w4.heap.size hr4
   have q1 : RowIs w5 w3.heap.size 99 [v] := (r3.block _ k1.lt (fun e => hvne e.symm)).trans k1
   have q2 : RowIs w5 w.heap.size 37 [.pointer (some ⟨tb, 0, none⟩)] := (r3.block _ k2.lt (fun e => by
    obtain ⟨R, hR⟩ := hcl _ e.symm
    have := hR.type j2; revert this; decide)).trans k2
   have hbA : Below w.heap.size W W4 := hb5.mono j5.size
   have hbB : Below w.heap.size W w5 := hbA.grown r3 (Nat.le_trans j5.size hb5.size) (fun k e => j6 k e)
   have hne' : (Value.slice a m c).ownBlock ≠ some w3.heap.size := fun e => by
    obtain ⟨R, hR⟩ := r2.type e
    have := hR.type q1; revert this; decide
   refine ⟨_, w5, r1, a, m, c, rfl, (q1.cell 0).trans rfl, q1.frozen 0, ?_, hbB.setCell (p := ⟨w3.heap.size, 0, none⟩) hsw _, .slice a m c, es ++ [y], q1.set 0 _, q2.setOther _ _ (fun e => by
     have e' : w3.heap.size = w.heap.size := e
     rw [e'] at q1; have := q1.type q2; revert this; decide), r2.setCell _ _ hne', ?_, (j5.trans hbB).setCell (p := ⟨w3.heap.size, 0, none⟩) hsw _, fun g hg => (r4 g hg).elim (j6 g) (fun h => Nat.le_trans (Nat.le_trans j5.size hb5.size) h)⟩
   ·have kk : KeepsOthers W4 w5 := ⟨r3.size, fun k o hk ho => (r3.block k (Array.getElem?_eq_some_iff.1 hk).1 (fun e => by
     obtain ⟨R, hR⟩ := k3.type e.symm
     rw [isCells_of_row hR hk] at ho; cases ho)).trans hk⟩
    exact (((keeps_of_below hb5).trans kk).trans (KeepsOthers.setCell _ _ _)).from _
   ·rw [List.map_append]; exact j4.snoc hty
  have c9 : W.cell? ⟨w3.heap.size, 0, none⟩ = some v := (j1.cell 0).trans rfl
  have c2 : W.cell? ⟨w.heap.size, 0, none⟩ = some (.pointer (some ⟨tb, 0, none⟩)) := (j2.cell 0).trans rfl
  have x0 : W.cell? ⟨Bx, 0, none⟩ = some (.pointer x.1.2.p) := (bX.cell 0).trans rfl
  have x1 : W.cell? ⟨Bx, 1, none⟩ = some (.int .i64 x.1.2.f) := (bX.cell 1).trans rfl
  have HC9 : Hid (∀ w4, Below W.heap.size W w4 → w4.cell? ⟨w3.heap.size, 0, none⟩ = some v ∧ w3.heap.size < w4.heap.size) := fun w4 hb => ⟨(hb.cell (p := ⟨w3.heap.size, 0, none⟩) hbl).trans c9, Nat.lt_of_lt_of_le hbl hb.size⟩
  have HJ1 := hide j1
  clear j1 j2 j3 j4 j5 j6 bX hcl hvne hbl hdW hxG hxn hpl hr hlt
  gi_wp2
  refine wpIn_region_any hmx ?_
  (try (change wpAnyIn _ _ _ _ _ _ _ _ _ (World.drew _)))
  repeat (first | exact AllReadyIn.nil | refine AllReadyIn.cons rfl (fun K hK => ?_) ?_ | (refine stepIn_call3 rfl 180 _ _ _ _ rfl _ _ _ ?_ ?_ ?_ ?_ (unhide HT) ?_; (first | rfl | simp [Act.eval]); (first | rfl | simp [Act.eval]); (first | rfl | simp [Act.eval]); go_simp; rintro e w4 ⟨y, rfl, hty, hb4⟩; refine ⟨_, rfl, hK _ _ ?_⟩; clear hK K; have m9 := (unhide HC9 w4 hb4).1; have ml := (unhide HC9 w4 hb4).2; have mn1 : ¬ w3.heap.size = w4.heap.size := (by omega); have mn2 : ¬ w4.heap.size = w3.heap.size := (by omega); have HAP4 := hide (unhide HAP w4 y hb4 hty); clear hb4 hty) | (refine stepIn_append_post rfl _ _ 99 99 rfl _ _ ?_ ?_ (unhide HAP4) ?_; (first | rfl | simp [Act.eval]); (first | rfl | simp [Act.eval]); rintro v5 w5 ⟨a5, m5, c5, rfl, z9, zf, HF⟩; refine hK _ _ ?_; clear hK K HAP4) | refine wpAnyIn_ready (rs := [4]) (by decide +kernel) (by simp) ?_ | refine wpAnyIn_ready (rs := [5]) (by decide +kernel) (by simp) ?_ | refine wpAnyIn_ready (rs := [6]) (by decide +kernel) (by simp) ?_ | refine wpAnyIn_ready (rs := [7]) (by decide +kernel) (by simp) ?_ | refine wpAnyIn_ready (rs := [0, 4]) (by decide +kernel) (by simp) ?_ | refine wpAnyIn_ready (rs := [0, 5]) (by decide +kernel) (by simp) ?_ | refine wpAnyIn_ready (rs := [0]) (by decide +kernel) (by simp) ?_ | refine wpAnyIn_ready (rs := [1]) (by decide +kernel) (by simp) ?_ | refine wpAnyIn_ready (rs := [2]) (by decide +kernel) (by simp) ?_ | refine wpAnyIn_ready (rs := [3]) (by decide +kernel) (by simp) ?_ | refine wpAnyIn_ready (rs := [0, 1]) (by decide +kernel) (by simp) ?_ | refine wpAnyIn_ready (rs := [0, 2]) (by decide +kernel) (by simp) ?_ | refine wpAnyIn_ready (rs := [0, 3]) (by decide +kernel) (by simp) ?_ | refine wpAnyIn_ready (rs := [1, 2]) (by decide +kernel) (by simp) ?_ | refine wpAnyIn_ready (rs := [1, 3]) (by decide +kernel) (by simp) ?_ | refine wpAnyIn_ready (rs := [2, 3]) (by decide +kernel) (by simp) ?_ | refine wpAnyIn_ready (rs := [0, 1, 2]) (by decide +kernel) (by simp) ?_ | refine wpAnyIn_ready (rs := [0, 1, 3]) (by decide +kernel) (by simp) ?_ | refine wpAnyIn_ready (rs := [0, 2, 3]) (by decide +kernel) (by simp) ?_ | refine wpAnyIn_ready (rs := [1, 2, 3]) (by decide +kernel) (by simp) ?_ | refine wpAnyIn_ready (rs := [0, 1, 2, 3]) (by decide +kernel) (by simp) ?_ | (refine wpAnyIn_done (by decide +kernel) ?_ _; exact unhide HF) | (go_simp; refine hK _ _ ?_; clear hK K))
 case done =>
  rintro D ys W hD rfl ⟨v, es, j1, j2, j3, j4, j5, j6⟩ hK
  have c9 : W.cell? ⟨w3.heap.size, 0, none⟩ = some v := (j1.cell 0).trans rfl
  rw [hatt] at j4
  obtain ⟨a, m, c, rfl⟩ := j3.shape
  have HJ3 := hide j3
  have HJ4 := hide j4
  clear j1 j2 j3 j4 j6
  gi_wp2
  refine ⟨by simp, .inl ⟨_, _, rfl, run_takeDeferred hK, ?_⟩⟩
  refine ⟨.tuple #[.slice a m c, .int .i64 0], ?_, ⟨a, m, c, es, rfl, (unhide HJ3).kept (fun k hk e => ?_), unhide HJ4⟩, j5.trans (belowK_b (w := w) (Nat.le_refl _) W D _ _ (by omega) hK rfl rfl)⟩
  ·simp [results, Tryz.results120, go_sem]
  ·refine (grownBy_putObj' W D (.deferred none)).block k hk (fun e' => ?_)
   obtain ⟨R, hR⟩ := (unhide HJ3).type e
   cases e'
   have := isCells_of_row hR hK
   cases this
 case stop =>
  rintro D c pre W _ _ h _
  exact h.elim
end Go.Proofs.YtaieidcohdhgpaaGreatDoor
