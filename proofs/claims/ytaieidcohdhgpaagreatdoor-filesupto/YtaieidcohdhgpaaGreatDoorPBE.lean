/- Files. -/
import Derived.Test.YtaieidcohdhgpaaGreatDoorPBD
namespace Go.Proofs.YtaieidcohdhgpaaGreatDoor
open Go.RowKit Go.Shelf
attribute [local go_sem] Oper.semAt_some
set_option maxHeartbeats 16000000
set_option maxRecDepth 100000
theorem row3_code (w : World) (M : Nat) (hM : M ≤ 1000) (n0 pb : Nat) (below : Nat) (hbl : below < 65536) (g off len cap : Nat) (s : ByteArray) (hrd : RdB w (some ⟨g, off, none⟩) len cap s) (hlc : len ≤ cap) (hl : len < 60000) (P X : List Nat → Nat → Nat) (St : List Nat → (Nat → Prop) → World → Prop) (Yo O0 : Nat → Prop) (RB : List Nat → ByteArray)
  (hn0 : n0 ≤ w.heap.size) (L : PutLaw M n0 pb 3 below s 63 P X St) (hRB0 : RB [] = ⟨#[]⟩) (hRB : ∀ pre x, RB (pre ++ [x]) = RB pre ++ refB (P pre x) (X pre x)) (hRBs : ∀ pre, (RB pre).size = 10 * pre.length)
  (hst : St [] O0 w) (hO0 : ∀ j, O0 j → Yo j) (hyo : ∀ j, Yo j → j < w.heap.size) (hgy : ¬ Yo g) (hgl : g < w.heap.size) (N : Nat) (hN : N = (len + 63 - 1) / 63) (hNM : N ≤ M) :
  Calls Tryz.prog 237 #[.pointer (some ⟨pb, 0, none⟩), .int .u8 3, .int .i64 (below : Nat), .slice (some ⟨g, off, none⟩) len cap] w (RowPost w (w.heap.size + 7) St Yo RB N) := by
 obtain ⟨W1, e1, x1, k1, s1, b1⟩ := alloc_name w [.pointer (some ⟨pb, 0, none⟩)] 168
 obtain ⟨W2, e2, x2, k2, s2, b2⟩ := alloc_name W1 [.int .u8 3] 300
 obtain ⟨W3, e3, x3, k3, s3, b3⟩ := alloc_name W2 [.int .i64 (below : Nat)] 3
 obtain ⟨W4, e4, x4, k4, s4, b4⟩ := alloc_name W3 [.slice none 0 0] 59
 obtain ⟨W5, e5, x5, k5, s5, b5⟩ := alloc_name W4 [.int .i64 0] 3
 obtain ⟨W6, e6, x6, k6, s6, b6⟩ := alloc_name W5 [.slice (some ⟨g, off, none⟩) len cap] 59
 obtain ⟨W7, e7, x7, k7, s7, b7⟩ := alloc_name W6 [.int .i64 63] 3
 have hb7 : Below w.heap.size w W7 := b1.trans ((b2.mono (by omega)).trans ((b3.mono (by omega)).trans ((b4.mono (by omega)).trans ((b5.mono (by omega)).trans ((b6.mono (by omega)).trans (b7.mono (by omega)))))))
 have y1 := k7 _ _ _ (k6 _ _ _ (k5 _ _ _ (k4 _ _ _ (k3 _ _ _ (k2 _ _ _ x1)))))
 have y2 := k7 _ _ _ (k6 _ _ _ (k5 _ _ _ (k4 _ _ _ (k3 _ _ _ x2))))
 have y3 := k7 _ _ _ (k6 _ _ _ (k5 _ _ _ (k4 _ _ _ x3)))
 have y4 := k7 _ _ _ (k6 _ _ _ (k5 _ _ _ x4))
 have y5 := k7 _ _ _ (k6 _ _ _ x5)
 have y6 := k7 _ _ _ x6
 have t2 : W2.heap.size = w.heap.size + 1 + 1 := by omega
 have t3 : W3.heap.size = w.heap.size + 1 + 1 + 1 := by omega
 have t4 : W4.heap.size = w.heap.size + 1 + 1 + 1 + 1 := by omega
 have t5 : W5.heap.size = w.heap.size + 1 + 1 + 1 + 1 + 1 := by omega
 have t6 : W6.heap.size = w.heap.size + 1 + 1 + 1 + 1 + 1 + 1 := by omega
 have t7 : W7.heap.size = w.heap.size + 7 := by omega
 rw [s1] at y2; rw [t2] at y3; rw [t3] at y4; rw [t4] at y5; rw [t5] at y6; rw [t6] at x7
 have hB : BoxB w (w.heap.size + 7) w.heap.size (w.heap.size + 1) (w.heap.size + 1 + 1) (w.heap.size + 1 + 1 + 1) (w.heap.size + 1 + 1 + 1 + 1) g len Yo := ⟨rfl, rfl, rfl, rfl, rfl, by omega, hyo, hgy, hgl⟩
 have hI0 : RowE w (w.heap.size + 7) w.heap.size (w.heap.size + 1) (w.heap.size + 1 + 1) (w.heap.size + 1 + 1 + 1) (w.heap.size + 1 + 1 + 1 + 1) pb 3 below g off len cap s St Yo RB [] W7 := ⟨.slice none 0 0, O0, L.abides _ _ _ _ none hst ⟨hb7.os, hb7.tape, hb7.output, hb7.size, fun k hk _ => hb7.block k hk⟩ (fun r e => by cases e), fun j hj => .inl (hO0 j hj), y1, y2, y3, y4, y5, by rw [hRB0]; exact SlB.nil _ _, fun j _ e => by simp [Own, Value.ownBlock] at e, hrd.below hb7, Fr.of_below hb7, by omega⟩
 have HI0 := hide hI0
 have HT7 := hide t7
 have HBX := hide hB
 have HE1 := hide e1; have HE2 := hide e2; have HE3 := hide e3; have HE4 := hide e4; have HE5 := hide e5; have HE6 := hide e6; have HE7 := hide e7
 have cc1 : W7.cell? ⟨(w.heap.size + 1 + 1 + 1 + 1 + 1), 0, none⟩ = some (.slice (some ⟨g, off, none⟩) len cap) := (y6.cell 0).trans rfl
 have cc2 : W7.cell? ⟨(w.heap.size + 1 + 1 + 1 + 1 + 1 + 1), 0, none⟩ = some (.int .i64 63) := (x7.cell 0).trans rfl
 have HC1 := hide cc1
 have HC2 := hide cc2
 clear x1 x2 x3 x4 x5 x6 x7 k1 k2 k3 k4 k5 k6 k7 s1 s2 s3 s4 s5 s6 s7 b1 b2 b3 b4 b5 b6 b7 y1 y2 y3 y4 y5 y6 t2 t3 t4 t5 t6 t7 e1 e2 e3 e4 e5 e6 e7 hb7 hI0 cc1 cc2 hst hrd hB
 refine (callsIn_wide (n := 3)).1 ?_
 refine callsIn_of_wp_marks Tryz.func237 rfl trivial ?_ rfl
 simp only [Tryz.ntmps237, List.size_toArray, List.length_cons, List.length_nil, Nat.reduceAdd, Nat.reduceSub, Array.replicate_succ, Array.replicate_zero, List.push_toArray, List.append_toArray, List.nil_append, List.cons_append]
 gi_wp2_with (refine ⟨trivial, ?_⟩; gi_at_call 172; refine (chunk_in _ 63 (by omega) (by omega) _ _ ⟨_, _, _, rfl⟩).mono ?_; rintro e w' ⟨rfl, rfl⟩)
 rw [show w.alloc (.cells #[.pointer (some ⟨pb, 0, none⟩)] 168) = W1 from unhide HE1, show W1.alloc (.cells #[.int .u8 3] 300) = W2 from unhide HE2, show W2.alloc (.cells #[.int .i64 (below : Nat)] 3) = W3 from unhide HE3, show W3.alloc (.cells #[.slice none 0 0] 59) = W4 from unhide HE4, show W4.alloc (.cells #[.int .i64 0] 3) = W5 from unhide HE5, show W5.alloc (.cells #[.slice (some ⟨g, off, none⟩) len cap] 59) = W6 from unhide HE6, show W6.alloc (.cells #[.int .i64 63] 3) = W7 from unhide HE7]
 rename_i K0 hK0
 have t7 := unhide HT7
 have hNb : N ≤ 1000 := by rw [hN]; omega
 refine wpIn_rangeFunc_ownF (α := Nat) rfl (by omega) (gf := 220) (lb := #[.pointer (some ⟨(w.heap.size + 1 + 1 + 1 + 1 + 1), 0, none⟩), .pointer (some ⟨(w.heap.size + 1 + 1 + 1 + 1 + 1 + 1), 0, none⟩)]) rfl trivial (enters_of Tryz.func220 (by kernel_rfl) rfl)
  (chunk_stops 2 (by omega) (w.heap.size + 1 + 1 + 1 + 1 + 1) (w.heap.size + 1 + 1 + 1 + 1 + 1 + 1) g off 63 len cap (by omega) (by omega) hlc (by omega) N hN W7 (by omega) (by omega) (unhide HC1) (unhide HC2) (RowKp (w.heap.size + 7) (w.heap.size + 1 + 1 + 1) (w.heap.size + 1 + 1 + 1 + 1) Yo)
   (fun A B hAB h1 h2 => ⟨(World.cell?_of_block (w := A) (a := ⟨(w.heap.size + 1 + 1 + 1 + 1 + 1), 0, none⟩) (hAB.2 (w.heap.size + 1 + 1 + 1 + 1 + 1) (by omega) (fun e => by have := hyo _ e; omega) (by omega) (by omega))).trans h1, (World.cell?_of_block (w := A) (a := ⟨(w.heap.size + 1 + 1 + 1 + 1 + 1 + 1), 0, none⟩) (hAB.2 (w.heap.size + 1 + 1 + 1 + 1 + 1 + 1) (by omega) (fun e => by have := hyo _ e; omega) (by omega) (by omega))).trans h2⟩))
  (fun h1 h2 => ⟨Nat.le_trans h1.1 h2.1, fun k a b c d => (h2.2 k a b c d).trans (h1.2 k a b c d)⟩)
  (fun X l o o' hl ho _ _ => ⟨by simp [World.putObj], fun k hk _ _ _ => by
   have := t7
   simp only [World.putObj]
   rw [Array.getElem?_setIfInBounds]
   rw [if_neg (by omega)]⟩)
  (Below.refl _ _) (fun _ => rfl)
  (fun pre X => RowE w (w.heap.size + 7) w.heap.size (w.heap.size + 1) (w.heap.size + 1 + 1) (w.heap.size + 1 + 1 + 1) (w.heap.size + 1 + 1 + 1 + 1) pb 3 below g off len cap s St Yo RB pre X)
  (fun _ _ _ => False)
  (fun pre A B row hs hg hr => by
   obtain ⟨v, O, h⟩ := hs
   exact ⟨v, O, h.own L (unhide HBX) hg (fun r e => by rw [← t7]; exact hr r e)⟩)
  (fun _ _ _ _ _ hs _ _ => hs)
  (unhide HI0)
  (fun x => { tmps := #[.pointer (some ⟨pb, 0, none⟩), .int .u8 3, .int .i64 (below : Nat), .slice (some ⟨g, off, none⟩) len cap, .pointer (some ⟨w.heap.size, 0, none⟩), .pointer (some ⟨(w.heap.size + 1), 0, none⟩), .pointer (some ⟨(w.heap.size + 1 + 1), 0, none⟩), undef, .slice none 0 0, .int .i64 63, .pointer (some ⟨(w.heap.size + 1 + 1 + 1), 0, none⟩), .pointer (some ⟨(w.heap.size + 1 + 1 + 1 + 1), 0, none⟩), chV g off 63 len x, .int .u8 3, .bool false, undef, undef, .slice (some ⟨g, off, none⟩) len cap, .int .i64 63, .func (.func 220) #[] #[.pointer (some ⟨(w.heap.size + 1 + 1 + 1 + 1 + 1), 0, none⟩), .pointer (some ⟨(w.heap.size + 1 + 1 + 1 + 1 + 1 + 1), 0, none⟩)], chV g off 63 len x, undef, undef, undef, undef, undef, undef, undef, undef, undef, undef, undef, undef, undef, undef], defers := [] })
  ?assign ?body ?done ?stop
 case assign =>
  intro l x X K hK
  clear t7
  gi_wp2
  exact hK
 case body =>
  rintro l pre x W ⟨v, O, hR⟩ hlt
  obtain ⟨ra, rl, rc, rfl⟩ := hR.rs.1.shape
  obtain ⟨h4, h7, h8, h10⟩ := row_calls w M hM n0 (w.heap.size + 7) w.heap.size (w.heap.size + 1) (w.heap.size + 1 + 1) (w.heap.size + 1 + 1 + 1) (w.heap.size + 1 + 1 + 1 + 1) pb 3 below hbl g off len cap s 63 (by omega) P X St Yo RB (unhide HBX) hn0 L hRB hRBs pre x (by omega) W ra rl rc O hR
  have H4 := hide h4; have H7 := hide h7; have H8 := hide h8; have H10 := hide h10
  have HM : Hid (RowM w (w.heap.size + 7) w.heap.size (w.heap.size + 1) (w.heap.size + 1 + 1) (w.heap.size + 1 + 1 + 1) (w.heap.size + 1 + 1 + 1 + 1) pb 3 below g off len cap s St Yo RB pre pre (.slice ra rl rc) O O W W.drew) := ⟨hR.below L (Below.refl _ _).drew, ⟨rfl, rfl, rfl, Nat.le_refl _, fun _ _ _ => rfl⟩⟩
  have hS0 : RowS w.heap.size (w.heap.size + 1) (w.heap.size + 1 + 1) (w.heap.size + 1 + 1 + 1 + 1) pb 3 below pre.length W.drew := ⟨hR.b4.cell, hR.b5.cell, hR.b6.cell, hR.b11.cell⟩
  have hc10 : W.drew.cell? ⟨(w.heap.size + 1 + 1 + 1), 0, none⟩ = some (.slice ra rl rc) := hR.b10.cell
  clear h4 h7 h8 h10 hR t7
  gi_step
  gi_step
  gi_step
  refine wpIn_region_held (RowS w.heap.size (w.heap.size + 1) (w.heap.size + 1 + 1) (w.heap.size + 1 + 1 + 1 + 1) pb 3 below pre.length) (by kernel_rfl) (fun hh => by obtain ⟨_, _, hh⟩ := hh; exact hh) (by kernel_rfl) hS0 (fun hHeld => ?_)
  refine wpAnyH_take (i := 0) (v := ?_) rfl (by kernel_rfl) (by kernel_rfl) (by kernel_rfl) (fun _ _ _ h => h) (Or.inl ⟨by rfl, ?_⟩) (by assumption) ?_
  rotate_left
  ·intro w hSw; (try unfold RowS at hSw); go_simp <;> with_reducible rfl
  (try simp only [pE])
  refine wpAnyH_take (i := 1) (v := ?_) rfl (by kernel_rfl) (by kernel_rfl) (by kernel_rfl) (fun _ _ _ h => h) (Or.inl ⟨by rfl, ?_⟩) (by assumption) ?_
  rotate_left
  ·intro w hSw; (try unfold RowS at hSw); go_simp <;> with_reducible rfl
  (try simp only [pE])
  refine wpAnyH_take (i := 2) (v := ?_) rfl (by kernel_rfl) (by kernel_rfl) (by kernel_rfl) (fun _ _ _ h => h) (Or.inl ⟨by rfl, ?_⟩) (by assumption) ?_
  rotate_left
  ·intro w hSw; (try unfold RowS at hSw); go_simp <;> with_reducible rfl
  (try simp only [pE])
  refine wpAnyH_take (i := 3) (v := ?_) rfl (by kernel_rfl) (by kernel_rfl) (by kernel_rfl) (fun _ _ _ h => h) (Or.inl ⟨by rfl, ?_⟩) (by assumption) ?_
  rotate_left
  ·intro w hSw; (try unfold RowS at hSw); go_simp <;> with_reducible rfl
  (try simp only [pE])
  refine wpAnyH_take (i := 5) (v := ?_) rfl (by kernel_rfl) (by kernel_rfl) (by kernel_rfl) (fun _ _ _ h => h) (Or.inl ⟨by rfl, ?_⟩) (by assumption) ?_
  rotate_left
  ·intro w hSw; (try unfold RowS at hSw); go_simp <;> with_reducible rfl
  (try simp only [pE])
  refine wpAnyH_take (i := 6) (v := ?_) rfl (by kernel_rfl) (by kernel_rfl) (by kernel_rfl) (fun _ _ _ h => h) (Or.inl ⟨by rfl, ?_⟩) (by assumption) ?_
  rotate_left
  ·intro w hSw; (try unfold RowS at hSw); go_simp <;> with_reducible rfl
  (try simp only [pE])
  refine wpAnyH_ready (rs := [4, 9]) (by kernel_rfl) (by simp) ?_
  refine (AllReadyH.cons (i := 4) rfl ?_ (AllReadyH.cons (i := 9) rfl ?_ AllReadyH.nil))
  ·intro K hK
   go_simp
   go_at_call 244
   refine (unhide H4 _).mono ?_
   rintro e w' ⟨rfl, hw⟩
   rw [hw]; clear hw
   go_wp2_with fail
   refine hK.out _ _ (by assumption) (fun hS4 => ?_)
   clear hK K
   (try simp only [pE])
   refine wpAnyH_ready (rs := [7, 9]) (by kernel_rfl) (by simp) ?_
   refine (AllReadyH.cons (i := 7) rfl ?_ (AllReadyH.cons (i := 9) rfl ?_ AllReadyH.nil))
   ·intro K hK
    go_simp
    go_at_call 213
    refine (unhide H7 _ (unhide HM)).mono ?_
    clear HM
    rintro e V ⟨rfl, hSn, hc10, HM⟩
    go_wp2_with fail
    refine hK.out _ _ hSn (fun hS7 => ?_)
    clear hK K
    (try simp only [pE])
    refine wpAnyH_ready (rs := [8, 9]) (by kernel_rfl) (by simp) ?_
    refine (AllReadyH.cons (i := 8) rfl ?_ (AllReadyH.cons (i := 9) rfl ?_ AllReadyH.nil))
    ·intro K hK
     go_simp
     go_at_call 272
     refine (unhide H8 _ (unhide HM)).mono ?_
     clear HM
     rintro e V8 ⟨rfl, hSn8, hc10, HM⟩
     go_wp2_with fail
     refine hK.out _ _ hSn8 (fun hS8 => ?_)
     clear hK K
     (try simp only [pE])
     refine wpAnyH_ready (rs := [9]) (by kernel_rfl) (by simp) ?_
     refine (AllReadyH.cons (i := 9) rfl ?_ AllReadyH.nil)
     ·intro K hK
      go_simp
      refine hK.out _ _ (by assumption) (fun hS9 => ?_)
      clear hK K
      (try simp only [pE])
      refine wpAnyH_ready (rs := [10]) (by kernel_rfl) (by simp) ?_
      refine AllReadyH.cons (i := 10) rfl ?_ AllReadyH.nil
      intro K hK
      go_simp
      go_at_call 214
      refine (unhide H10 _ (unhide HM)).mono ?_
      clear HM
      rintro e V10 ⟨a', l', c', rfl, hSa, hSb, hcx, hfx, hfy, HF⟩
      go_wp2_with fail
      refine hK.out _ _ hSa (fun hS10 => ?_)
      clear hK K
      (try simp only [pE])
      refine wpAnyH_ready (rs := [11]) (by kernel_rfl) (by simp) ?_
      refine AllReadyH.cons (i := 11) rfl ?_ AllReadyH.nil
      intro K hK
      go_simp
      refine hK.out _ _ hSb (fun hS11 => ?_)
      clear hK K
      (try simp only [pE])
      refine wpAnyH_done (by kernel_rfl) ?_ _
      have cT := hSb.2.2.2
      clear hSa hS10 hS11
      gi_wp2
      exact ⟨(unhide HF).1, (unhide HF).2.1, (unhide HF).2.2⟩
    ·intro K hK
     go_simp
     refine hK.out _ _ (by assumption) (fun hS9 => ?_)
     clear hK K
     (try simp only [pE])
     refine wpAnyH_ready (rs := [8]) (by kernel_rfl) (by simp) ?_
     refine (AllReadyH.cons (i := 8) rfl ?_ AllReadyH.nil)
     ·intro K hK
      go_simp
      go_at_call 272
      refine (unhide H8 _ (unhide HM)).mono ?_
      clear HM
      rintro e V8 ⟨rfl, hSn8, hc10, HM⟩
      go_wp2_with fail
      refine hK.out _ _ hSn8 (fun hS8 => ?_)
      clear hK K
      (try simp only [pE])
      refine wpAnyH_ready (rs := [10]) (by kernel_rfl) (by simp) ?_
      refine AllReadyH.cons (i := 10) rfl ?_ AllReadyH.nil
      intro K hK
      go_simp
      go_at_call 214
      refine (unhide H10 _ (unhide HM)).mono ?_
      clear HM
      rintro e V10 ⟨a', l', c', rfl, hSa, hSb, hcx, hfx, hfy, HF⟩
      go_wp2_with fail
      refine hK.out _ _ hSa (fun hS10 => ?_)
      clear hK K
      (try simp only [pE])
      refine wpAnyH_ready (rs := [11]) (by kernel_rfl) (by simp) ?_
      refine AllReadyH.cons (i := 11) rfl ?_ AllReadyH.nil
      intro K hK
      go_simp
      refine hK.out _ _ hSb (fun hS11 => ?_)
      clear hK K
      (try simp only [pE])
      refine wpAnyH_done (by kernel_rfl) ?_ _
      have cT := hSb.2.2.2
      clear hSa hS10 hS11
      gi_wp2
      exact ⟨(unhide HF).1, (unhide HF).2.1, (unhide HF).2.2⟩
   ·intro K hK
    go_simp
    refine hK.out _ _ (by assumption) (fun hS9 => ?_)
    clear hK K
    (try simp only [pE])
    refine wpAnyH_ready (rs := [7]) (by kernel_rfl) (by simp) ?_
    refine (AllReadyH.cons (i := 7) rfl ?_ AllReadyH.nil)
    ·intro K hK
     go_simp
     go_at_call 213
     refine (unhide H7 _ (unhide HM)).mono ?_
     clear HM
     rintro e V ⟨rfl, hSn, hc10, HM⟩
     go_wp2_with fail
     refine hK.out _ _ hSn (fun hS7 => ?_)
     clear hK K
     (try simp only [pE])
     refine wpAnyH_ready (rs := [8]) (by kernel_rfl) (by simp) ?_
     refine (AllReadyH.cons (i := 8) rfl ?_ AllReadyH.nil)
     ·intro K hK
      go_simp
      go_at_call 272
      refine (unhide H8 _ (unhide HM)).mono ?_
      clear HM
      rintro e V8 ⟨rfl, hSn8, hc10, HM⟩
      go_wp2_with fail
      refine hK.out _ _ hSn8 (fun hS8 => ?_)
      clear hK K
      (try simp only [pE])
      refine wpAnyH_ready (rs := [10]) (by kernel_rfl) (by simp) ?_
      refine AllReadyH.cons (i := 10) rfl ?_ AllReadyH.nil
      intro K hK
      go_simp
      go_at_call 214
      refine (unhide H10 _ (unhide HM)).mono ?_
      clear HM
      rintro e V10 ⟨a', l', c', rfl, hSa, hSb, hcx, hfx, hfy, HF⟩
      go_wp2_with fail
      refine hK.out _ _ hSa (fun hS10 => ?_)
      clear hK K
      (try simp only [pE])
      refine wpAnyH_ready (rs := [11]) (by kernel_rfl) (by simp) ?_
      refine AllReadyH.cons (i := 11) rfl ?_ AllReadyH.nil
      intro K hK
      go_simp
      refine hK.out _ _ hSb (fun hS11 => ?_)
      clear hK K
      (try simp only [pE])
      refine wpAnyH_done (by kernel_rfl) ?_ _
      have cT := hSb.2.2.2
      clear hSa hS10 hS11
      gi_wp2
      exact ⟨(unhide HF).1, (unhide HF).2.1, (unhide HF).2.2⟩
  ·intro K hK
   go_simp
   refine hK.out _ _ (by assumption) (fun hS9 => ?_)
   clear hK K
   (try simp only [pE])
   refine wpAnyH_ready (rs := [4]) (by kernel_rfl) (by simp) ?_
   refine (AllReadyH.cons (i := 4) rfl ?_ AllReadyH.nil)
   ·intro K hK
    go_simp
    go_at_call 244
    refine (unhide H4 _).mono ?_
    rintro e w' ⟨rfl, hw⟩
    rw [hw]; clear hw
    go_wp2_with fail
    refine hK.out _ _ (by assumption) (fun hS4 => ?_)
    clear hK K
    (try simp only [pE])
    refine wpAnyH_ready (rs := [7]) (by kernel_rfl) (by simp) ?_
    refine (AllReadyH.cons (i := 7) rfl ?_ AllReadyH.nil)
    ·intro K hK
     go_simp
     go_at_call 213
     refine (unhide H7 _ (unhide HM)).mono ?_
     clear HM
     rintro e V ⟨rfl, hSn, hc10, HM⟩
     go_wp2_with fail
     refine hK.out _ _ hSn (fun hS7 => ?_)
     clear hK K
     (try simp only [pE])
     refine wpAnyH_ready (rs := [8]) (by kernel_rfl) (by simp) ?_
     refine (AllReadyH.cons (i := 8) rfl ?_ AllReadyH.nil)
     ·intro K hK
      go_simp
      go_at_call 272
      refine (unhide H8 _ (unhide HM)).mono ?_
      clear HM
      rintro e V8 ⟨rfl, hSn8, hc10, HM⟩
      go_wp2_with fail
      refine hK.out _ _ hSn8 (fun hS8 => ?_)
      clear hK K
      (try simp only [pE])
      refine wpAnyH_ready (rs := [10]) (by kernel_rfl) (by simp) ?_
      refine AllReadyH.cons (i := 10) rfl ?_ AllReadyH.nil
      intro K hK
      go_simp
      go_at_call 214
      refine (unhide H10 _ (unhide HM)).mono ?_
      clear HM
      rintro e V10 ⟨a', l', c', rfl, hSa, hSb, hcx, hfx, hfy, HF⟩
      go_wp2_with fail
      refine hK.out _ _ hSa (fun hS10 => ?_)
      clear hK K
      (try simp only [pE])
      refine wpAnyH_ready (rs := [11]) (by kernel_rfl) (by simp) ?_
      refine AllReadyH.cons (i := 11) rfl ?_ AllReadyH.nil
      intro K hK
      go_simp
      refine hK.out _ _ hSb (fun hS11 => ?_)
      clear hK K
      (try simp only [pE])
      refine wpAnyH_done (by kernel_rfl) ?_ _
      have cT := hSb.2.2.2
      clear hSa hS10 hS11
      gi_wp2
      exact ⟨(unhide HF).1, (unhide HF).2.1, (unhide HF).2.2⟩
 case done =>
  rintro D ys X hD rfl ⟨v, O, hR⟩ hK
  have c10 := hR.b10.cell
  obtain ⟨ra, rl, rc, rfl⟩ := hR.rs.1.shape
  have HR := hide hR
  clear hR t7
  show K0 _ _
  refine hK0 _ _ ?_
  gi_wp2
  have hR := unhide HR
  have t7 := unhide HT7
  refine ⟨by simp, .inl ⟨_, _, rfl, run_takeDeferred hK, ?_⟩⟩
  have hg : X.grownBy (X.putObj D (.deferred none)) (some D) := ⟨rfl, rfl, rfl, by simp [World.putObj], fun k _ hk => by
   simp only [World.putObj]
   rw [Array.getElem?_setIfInBounds, if_neg (fun e => hk (by rw [e]))]⟩
  have hR2 := hR.own L (unhide HBX) hg (fun r e => by cases e; exact ⟨by omega, _, hK, rfl⟩)
  exact ⟨_, results_tmp rfl _ _ _, ra, rl, rc, O, rfl, hR2.rs, hR2.st, hR2.hO, hR2.dis, hR2.fr⟩
 case stop =>
  rintro D c pre X _ _ h _
  exact h.elim
end Go.Proofs.YtaieidcohdhgpaaGreatDoor
