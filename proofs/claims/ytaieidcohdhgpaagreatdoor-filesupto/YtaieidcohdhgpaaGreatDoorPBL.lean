/- Files. -/
import Derived.Test.YtaieidcohdhgpaaGreatDoorPBK
import Derived.Test.YtaieidcohdhgpaaGreatDoorPBJ
namespace Go.Proofs.YtaieidcohdhgpaaGreatDoor
open Go.RowKit
set_option maxHeartbeats 1000000
set_option maxRecDepth 100000
def ListLaw : Prop := ∀ (w : World) (vb tb rb xb : Nat) (kp ep fs : Value) (L : List (ByteArray × Int)) (F : List ByteArray), BothW w xb vb rb kp ep fs → Md w vb tb rb L F L F → ∀ s : ByteArray, s.size ≤ 2000000 →
 Calls Tryz.prog 49 #[.pointer (some ⟨xb, 0, none⟩), .string s] w (ReadLaw w)
theorem trimR_len (L : List (ByteArray × Int)) (F : List ByteArray) (p : ByteArray) (n : Int) : (trimR L F p n).2.length ≤ F.length + 1 := by
 unfold trimR
 (repeat' split) <;> simp
theorem writeR_len (L : List (ByteArray × Int)) (F : List ByteArray) (p : ByteArray) (i : Int) (d : ByteArray) : (writeR L F p i d).2.2.length ≤ F.length + 1 := by
 have hput : ∀ (F : List ByteArray) (f : Nat), (putR F f i.toNat d).length = F.length := fun F f => by
  unfold putR
  (repeat' split) <;> simp
 unfold writeR writeEnd
 (repeat' split) <;> simp [hput]
theorem step8 (w : World) (vb tb rb xb : Nat) (kp ep fs : Value) (L : List (ByteArray × Int)) (F : List ByteArray) (hx : BothW w xb vb rb kp ep fs) (hm : Md w vb tb rb L F L F) (kk a b : Int) (s t u : ByteArray) (hl : ListLaw) (hs : s.size ≤ 1048576) :
  Calls Tryz.prog 36 #[.pointer (some ⟨xb, 0, none⟩), .agg (opL 8 kk a b s t u).toArray] w (StepPost w vb tb rb xb kp ep fs L F) := by
 have hk0 := K1.begin hx hm (opL 8 kk a b s t u)
 have HA : Hid (∀ W, K1 w W vb tb rb xb kp ep fs w.heap.size (opL 8 kk a b s t u) L F L F → Calls Tryz.prog 49 #[.pointer (some ⟨xb, 0, none⟩), .string s] W (ReadLaw W)) := fun W hk =>
  hl W vb tb rb xb kp ep fs L F hk.x hk.md s (by omega)
 clear hx hm hl
 go_enter Tryz.func36, Tryz.ntmps36
 obtain ⟨W, hW, -, -, -, -⟩ := alloc_name w (opL 8 kk a b s t u) 51
 rw [hW] at hk0
 have o0 := hk0.o.cell 0; have o4 := hk0.o.cell 4
 have HK := hide hk0
 clear hk0
 go_upto_region 1 with fail
 clear hW
 go_upto_region 18 with fail
 go_wp2_with (go_at_call 49; refine (unhide HA _ (unhide HK)).mono ?_; rintro e w1 ⟨⟨xa, xn, xc, rfl⟩, hb1⟩)
 go_ret
 exact ((unhide HK).below hb1).post
def AnyPost (w : World) (vb tb rb xb : Nat) (kp ep fs : Value) (F : List ByteArray) (e : Ending) (w' : World) : Prop := ∃ L' F', StepPost w vb tb rb xb kp ep fs L' F' e w' ∧ F'.length ≤ F.length + 1
theorem step_any (w : World) (vb tb rb xb : Nat) (kp ep fs : Value) (L : List (ByteArray × Int)) (F : List ByteArray) (hx : BothW w xb vb rb kp ep fs) (hm : Md w vb tb rb L F L F) (kk a b : Int) (s t u : ByteArray) (hl : ListLaw) (hF : F.length + 1 ≤ 2000000) (k : Int) (ha : a ≤ 9223372036854775807) (hb : b ≤ 9223372036854775807) (hs : s.size ≤ 1048576) (ht : t.size ≤ 1048576) (hu : u.size ≤ 1048576) :
  Calls Tryz.prog 36 #[.pointer (some ⟨xb, 0, none⟩), .agg (opL k kk a b s t u).toArray] w (AnyPost w vb tb rb xb kp ep fs F) := by
 have hs0 := Nat.le_succ F.length
 by_cases h0 : k ≤ 0 ∨ 10 < k
 ·exact (step0 w vb tb rb xb kp ep fs L F hx hm kk a b s t u k h0).mono (fun e w' h => ⟨_, _, h, hs0⟩)
 have hc : k = 1 ∨ k = 2 ∨ k = 3 ∨ k = 4 ∨ k = 5 ∨ k = 6 ∨ k = 7 ∨ k = 8 ∨ k = 9 ∨ k = 10 := by omega
 rcases hc with rfl | rfl | rfl | rfl | rfl | rfl | rfl | rfl | rfl | rfl
 ·exact (step1 w vb tb rb xb kp ep fs L F hx hm kk a b s t u hs).mono (fun e w' h => ⟨_, _, h, hs0⟩)
 ·exact (step2 w vb tb rb xb kp ep fs L F hx hm kk a b s t u hF hs hu).mono (fun e w' h => ⟨_, _, h, writeR_len _ _ _ _ _⟩)
 ·exact (step3 w vb tb rb xb kp ep fs L F hx hm kk a b s t u hs).mono (fun e w' h => ⟨_, _, h, trimR_len _ _ _ _⟩)
 ·exact (step4 w vb tb rb xb kp ep fs L F hx hm kk a b s t u hs ht).mono (fun e w' h => ⟨_, _, h, hs0⟩)
 ·exact (step5 w vb tb rb xb kp ep fs L F hx hm kk a b s t u hs ht).mono (fun e w' h => ⟨_, _, h, hs0⟩)
 ·exact (step6 w vb tb rb xb kp ep fs L F hx hm kk a b s t u hs).mono (fun e w' h => ⟨_, _, h, hs0⟩)
 ·exact (step7 w vb tb rb xb kp ep fs L F hx hm kk a b s t u ha hb hs).mono (fun e w' h => ⟨_, _, h, hs0⟩)
 ·exact (step8 w vb tb rb xb kp ep fs L F hx hm kk a b s t u hl hs).mono (fun e w' h => ⟨_, _, h, hs0⟩)
 ·exact (step9 w vb tb rb xb kp ep fs L F hx hm kk a b s t u hs).mono (fun e w' h => ⟨_, _, h, hs0⟩)
 ·exact (step10 w vb tb rb xb kp ep fs L F hx hm kk a b s t u).mono (fun e w' h => ⟨_, _, h, hs0⟩)
theorem keeps_code (w : World) (x : Option Addr) (k kk a b : Int) (s t u : ByteArray) (hk : k ≤ 10) :
  Calls Tryz.prog 38 #[.pointer x, .agg (opL k kk a b s t u).toArray] w fun e w' => e = .returned (.bool true) ∧ Below w.heap.size w w' := by
 have e1 : (k == 11) = false := by simp; omega
 have e2 : (k == 12) = false := by simp; omega
 have e3 : (k == 13) = false := by simp; omega
 have e4 : (k == 14) = false := by simp; omega
 have e5 : (k == 15) = false := by simp; omega
 have e6 : (k == 16) = false := by simp; omega
 have e7 : (k == 17) = false := by simp; omega
 clear hk
 go_enter Tryz.func38, Tryz.ntmps38
 obtain ⟨W, hW, hr, -, -, hb⟩ := alloc_name w (opL k kk a b s t u) 51
 have o0 := hr.cell 0
 go_upto_region 1 with fail
 clear hW
 go_wp2
 go_ret
 exact ⟨rfl, hb⟩
theorem held_code (hl : ListLaw) (w : World) (vb tb rb : Nat) (L : List (ByteArray × Int)) (F : List ByteArray) (hm : Md w vb tb rb L F L F) :
  Calls Tryz.prog 18 #[.pointer (some ⟨vb, 0, none⟩), .pointer (some ⟨rb, 0, none⟩)] w fun e w' => e = .returned (.bool true) ∧ Below w.heap.size w w' := by
 obtain ⟨vl, vf, hrf⟩ : ∃ vl vf, RefW w rb vl vf L F := by obtain ⟨G, I, C, ρ, vl, vf, hv, hps, hrf, hrl, hn⟩ := hm; exact ⟨vl, vf, hrf.toRefW⟩
 have hlen := hm.jf.len
 obtain ⟨av, cv, rfl, hrd⟩ := hrf.sl.rdL
 have HB : Hid (∀ W', Below w.heap.size w W' → W'.cell? ⟨rb, 0, none⟩ = some (.slice av L.length cv) ∧ ∀ m x, L[m]? = some x → ∃ g, av = some ⟨g, 0, none⟩ ∧ W'.cell? ⟨g, m * 2, none⟩ = some (.string x.1) ∧ W'.cell? ⟨g, m * 2 + 1, none⟩ = some (.int .i64 x.2) ∧ x.1.size ≤ 2000000) := fun W' hb => by
  have h1 := hrf.fr (X := fun _ => False) (Fr.of_below hb) (fun _ _ => id)
  refine ⟨h1.c.c0, fun m x hx => ?_⟩
  obtain ⟨a', c', e', hrd'⟩ := h1.sl.rdL
  simp only [Value.slice.injEq, true_and] at e'
  obtain ⟨rfl, rfl⟩ := e'
  obtain ⟨g, h2, h3, h4⟩ := hrd' m x hx
  exact ⟨g, h2, h3, h4, (hrf.ok x (List.mem_of_getElem? hx)).1⟩
 obtain ⟨W, hW, hr, -, -, hbW⟩ := alloc_name w [.pointer (some ⟨vb, 0, none⟩), .pointer (some ⟨rb, 0, none⟩), .slice none 0 0, .slice none 0 0, .string ⟨#[]⟩] 55
 have hq : ∀ W', Below w.heap.size w W' → RowIs W' w.heap.size 55 [.pointer (some ⟨vb, 0, none⟩), .pointer (some ⟨rb, 0, none⟩), .slice none 0 0, .slice none 0 0, .string ⟨#[]⟩] → BothW W' w.heap.size vb rb (.slice none 0 0) (.slice none 0 0) (.string ⟨#[]⟩) ∧ Md W' vb tb rb L F L F := fun W' hb hr => ⟨hr, hm.below hb⟩
 have HL : Hid (∀ W' s, s.size ≤ 2000000 → Below w.heap.size w W' → BothW W' w.heap.size vb rb (.slice none 0 0) (.slice none 0 0) (.string ⟨#[]⟩) → Calls Tryz.prog 49 #[.pointer (some ⟨w.heap.size, 0, none⟩), .string s] W' (ReadLaw W')) := fun W' s hs hb hr => hl W' vb tb rb _ _ _ _ L F hr (hm.below hb) s hs
 have HS : Hid (∀ W' s, s.size ≤ 2000000 → Below w.heap.size w W' → BothW W' w.heap.size vb rb (.slice none 0 0) (.slice none 0 0) (.string ⟨#[]⟩) → Calls Tryz.prog 50 #[.pointer (some ⟨w.heap.size, 0, none⟩), .string s] W' fun e w' => e = .returned (.bool true) ∧ Below W'.heap.size W' w') := fun W' s hs hb hr => stat_law W' vb tb rb _ _ _ _ L F hr (hm.below hb) s hs
 have HR : Hid (∀ W' s, s.size ≤ 2000000 → Below w.heap.size w W' → BothW W' w.heap.size vb rb (.slice none 0 0) (.slice none 0 0) (.string ⟨#[]⟩) → Calls Tryz.prog 51 #[.pointer (some ⟨w.heap.size, 0, none⟩), .agg (opL 0 0 0 1281 s ⟨#[]⟩ ⟨#[]⟩).toArray] W' (ReadLaw W')) := fun W' s hs hb hr => read_law W' vb tb rb _ _ _ _ L F hr (hm.below hb) 0 0 0 1281 (by omega) (by omega) s _ _ hs
 have HU : Hid (∀ W', Below w.heap.size w W' → Calls Tryz.prog 34 #[.pointer (some ⟨vb, 0, none⟩)] W' fun e w' => e = .returned (.int .i64 (usageR L F : Nat)) ∧ Below w.heap.size w w') := fun W' hb => (usageJ (hm.below hb)).mono (fun e w' h => ⟨h.1, hb.trans (h.2.mono hb.size)⟩)
 have HV : Hid (∀ W', Below w.heap.size w W' → Calls Tryz.prog 52 #[.pointer (some ⟨rb, 0, none⟩)] W' fun e w' => e = .returned (.int .i64 (usageR L F : Nat)) ∧ w' = W') := fun W' hb => usage_ref W' rb _ vf L F (hrf.fr (X := fun _ => False) (Fr.of_below hb) (fun _ _ => id)).c
 have HN : Hid (∀ W' W'', Below W'.heap.size W' W'' → Below w.heap.size w W' → BothW W' w.heap.size vb rb (.slice none 0 0) (.slice none 0 0) (.string ⟨#[]⟩) → Below w.heap.size w W'' ∧ BothW W'' w.heap.size vb rb (.slice none 0 0) (.slice none 0 0) (.string ⟨#[]⟩)) := fun W' W'' hb h1 h2 => ⟨h1.trans (hb.mono h1.size), RowIs.fr h2 (X := fun _ => False) (Fr.of_below hb) id⟩
 have HX : Hid (Below w.heap.size w W ∧ BothW W w.heap.size vb rb (.slice none 0 0) (.slice none 0 0) (.string ⟨#[]⟩)) := ⟨hbW, hr⟩
 obtain ⟨U, hU⟩ : ∃ U, U = usageR L F := ⟨_, rfl⟩
 rw [← hU] at HU HV
 clear hU hm hrf hrd hq hr hbW
 go_enter Tryz.func18, Tryz.ntmps18
 go_upto_region 2 with fail
 clear hW
 go_wp2_with (go_at_call 49; refine (unhide HL _ _ (by simp [ByteArray.size]) (unhide HX).1 (unhide HX).2).mono ?_; rintro e w1 ⟨⟨xa, xn, xc, rfl⟩, hb1⟩; have HX1 := hide (unhide HN _ _ hb1 (unhide HX).1 (unhide HX).2); clear hb1)
 go_loopw [7, 8] (fun ok i wr => ∃ m : Nat, m ≤ L.length ∧ ok = .bool true ∧ i = .int .i64 m ∧ Hid (Below w.heap.size w wr ∧ BothW wr w.heap.size vb rb (.slice none 0 0) (.slice none 0 0) (.string ⟨#[]⟩))) (fun _ i _ => L.length - (intOf i).toNat)
 case atStart => exact ⟨0, Nat.zero_le _, rfl, rfl, HX1⟩
 case round =>
  obtain ⟨m, hm, rfl, rfl, HXr⟩ := hrel
  have hc0 := (unhide HB wr (unhide HXr).1).1
  by_cases hlt : m < L.length
  ·obtain ⟨g, rfl, p0, p1, hsz⟩ := (unhide HB wr (unhide HXr).1).2 m L[m] (List.getElem?_eq_getElem hlt)
   obtain ⟨⟨ps, pf⟩, hpp⟩ : ∃ x, x = L[m] := ⟨_, rfl⟩
   rw [← hpp] at p0 p1 hsz
   simp only at p0 p1 hsz
   clear hpp
   by_cases hneg : pf < 0
   ·go_wp2_with (go_at_call 49; refine (unhide HL _ _ hsz (unhide HXr).1 (unhide HXr).2).mono ?_; rintro e w2 ⟨⟨ya, yn, yc, rfl⟩, hb2⟩; have HX2 := hide (unhide HN _ _ hb2 (unhide HXr).1 (unhide HXr).2); clear hb2)
    go_roundw
    case rel => first | exact ⟨m + 1, by omega, rfl, by go_num, HX2⟩ | ((repeat apply Exists.intro); exact ⟨⟨m + 1, by omega, rfl, by go_num, HX2⟩, rfl⟩)
    case measure => simp [intOf]; omega
   ·go_wp2_with (first | (go_at_call 50; refine (unhide HS _ _ hsz (unhide HXr).1 (unhide HXr).2).mono ?_; rintro e w2 ⟨rfl, hb2⟩; have HX2 := hide (unhide HN _ _ hb2 (unhide HXr).1 (unhide HXr).2); clear hb2) | (go_at_call 51; refine (unhide HR _ _ hsz (unhide HX2).1 (unhide HX2).2).mono ?_; rintro e w3 ⟨⟨ya, yn, yc, rfl⟩, hb3⟩; have HX3 := hide (unhide HN _ _ hb3 (unhide HX2).1 (unhide HX2).2); clear hb3))
    go_roundw
    case rel => first | exact ⟨m + 1, by omega, rfl, by go_num, HX3⟩ | ((repeat apply Exists.intro); exact ⟨⟨m + 1, by omega, rfl, by go_num, HX3⟩, rfl⟩)
    case measure => simp [intOf]; omega
  ·obtain rfl : m = L.length := by omega
   go_wp2_with (first | (go_at_call 34; refine (unhide HU _ (unhide HXr).1).mono ?_; rintro e w2 ⟨rfl, hb2⟩; have HB2 := hide hb2; clear hb2) | (go_at_call 52; refine (unhide HV _ (unhide HB2)).mono ?_; rintro e w3 ⟨rfl, rfl⟩))
   go_ret
   exact ⟨rfl, unhide HB2⟩
theorem step_call_run {P : Program} {ops : Array Oper} {o : Oper} {a : Act} {w : World} {K : Act → World → Prop} {Q : Exit → Act → World → Prop} {E : Prop}
  (hg : o.guard = none) (f : FuncId) (x : Operand) (t : TypeId) (hop : o.op = Op.call { callee := Callee.value (.func f), args := #[x], argTypes := #[t] })
  (u : Value) (hx : a.eval x = u) (hcf : (callFunc f #[u]).run P w = .ok (.enter f #[u]) w) {Post : Ending → World → Prop} (hc : Calls P f #[u] w Post) (hK : ∀ e w', Post e w' → ∃ v, e = .returned v ∧ K (a.put o.dst v) w') :
  if Region.wanted o (yielded ops a.tmps) = true then Oper.wp P o a w K Q else E := by
 have hw : Region.wanted o (yielded ops a.tmps) = true := by simp [Region.wanted, hg]
 rw [if_pos hw]
 unfold Oper.wp
 have hf : a.eval (.func f) = .func (.func f) #[] #[] := rfl
 have he : (execOp a.eval o).run P w = .ok (.enter f #[u]) w := by
  simp [execOp, hop, resolve, hx, hf, Deferred.ofValue, invoke, hcf]
 rw [he, Oper.upon_enter]
 refine hc.mono (fun e w' hp => ?_)
 obtain ⟨v, rfl, hk⟩ := hK e w' hp
 exact hk
theorem step_append_post {P : Program} {ops : Array Oper} {o : Oper} {a : Act} {w : World} {K : Act → World → Prop} {Q : Exit → Act → World → Prop} {E : Prop}
  (hg : o.guard = none) (d x : Operand) (dT sT : TypeId) (hop : o.op = Op.call { callee := Callee.builtin Builtin.append, args := #[d, x], argTypes := #[dT, sT] })
  (v u : Value) (hd : a.eval d = v) (hx : a.eval x = u) {Post : Value → World → Prop} (hr : ∃ v' w', (Builtin.append_ #[dT, sT] o.type #[v, u]).run P w = .ok v' w' ∧ Post v' w') (hK : ∀ v' w', Post v' w' → K (a.put o.dst v') w') :
  if Region.wanted o (yielded ops a.tmps) = true then Oper.wp P o a w K Q else E := by
 obtain ⟨v', w', h1, h2⟩ := hr
 exact step_append_run hg d x dT sT hop v u hd hx h1 (hK v' w' h2)
theorem info38 : (Tryz.prog.info? 30).map (fun i => (i.zero, i.size, i.bytes)) = some (some (.pointer none), 1, 8) := by kernel_rfl
theorem info3' : (Tryz.prog.info? 3).map (fun i => (i.zero, i.size, i.bytes)) = some (some (.int .i64 0), 1, 8) := by kernel_rfl
theorem und39 : Tryz.prog.underlying 52 = some (.slice 30) := by kernel_rfl
theorem und40 : Tryz.prog.underlying 53 = some (.slice 3) := by kernel_rfl
theorem app1 (W : World) (t e : TypeId) (i : TypeInfo) (z : Value) (ht : Tryz.prog.underlying t = some (.slice e)) (hi : Tryz.prog.info? e = some i) (hz : i.zero = some z)
  (hsize : i.size = 1) (hby : i.bytes = 8) (hzs : z.cells.size = 1) (u : Value) (hu : u.oneCell' = true) (nb : Nat) (hnb : RowIs W nb e [u]) :
  ∃ v' w', (Builtin.append_ #[t, t] t #[.slice none 0 0, .slice (some ⟨nb, 0, none⟩) 1 1]).run Tryz.prog W = .ok v' w' ∧ ∃ g c, v' = .slice (some ⟨g, 0, none⟩) 1 c ∧ w'.cell? ⟨g, 0, none⟩ = some u ∧ Below W.heap.size W w' ∧ W.heap.size ≤ g := by
 obtain ⟨v', w', r1, r2, r3, r4⟩ := append_new (P := Tryz.prog) W t t e i z 1 8 ht hi hz hsize hby hzs (by decide) (.slice none 0 0) 0 [] ⟨by simp, .inl ⟨rfl, rfl⟩⟩ ⟨nb, 0, none⟩ 1 1 [u] rfl
  (fun j x hx => by rw [Addr.add_lit, Nat.zero_add, hnb.cell]; exact hx) (fun x hx => by rw [List.mem_singleton.1 hx]; exact hu) (by unfold maxLen; omega) (by omega)
 refine ⟨v', w', r1, ?_⟩
 rcases r2.2 with ⟨_, h0⟩ | ⟨g, cap, R, rfl, hR, _, _, _, ht⟩
 ·omega
 ·refine ⟨g, cap, rfl, ?_, ⟨r3.os, r3.tape, r3.output, r3.size, fun k hk => r3.block k hk (by simp [Value.ownBlock])⟩, (r4 g rfl).resolve_left (by simp [Value.ownBlock])⟩
  rw [hR.cell]
  have : (R.take 1)[0]? = some u := by simp only [Nat.zero_add, Nat.mul_one] at ht; rw [ht]; rfl
  rwa [List.getElem?_take_of_lt (by omega)] at this
theorem Fr.ext' {X : Nat → Prop} {w w1 w2 : World} (h : Fr X w w1) (hb : Below w1.heap.size w1 w2) : Fr X w w2 :=
 ⟨hb.os.trans h.os, hb.tape.trans h.tape, hb.output.trans h.output, Nat.le_trans h.size hb.size, fun k hk hX => (hb.block k (Nat.lt_of_lt_of_le hk h.size)).trans (h.block k hk hX)⟩
theorem Md.setX {w : World} {vb tb rb xb : Nat} {L L' : List (ByteArray × Int)} {F F' : List ByteArray} (h : Md w vb tb rb L F L' F') {R : List Value} (hr : RowIs w xb 55 R) (j : Nat) (v : Value) : Md (w.setCell ⟨xb, j, none⟩ v) vb tb rb L F L' F' := by
 obtain ⟨G, I, C, ρ, vl, vf, hv, hps, hrf, hrl, hn⟩ := h
 have hf : Fr (fun k => k = xb) w (w.setCell ⟨xb, j, none⟩ v) := (Fr.refl _ _).set _ _ rfl
 refine ⟨G, I, C, ρ, vl, vf, VolW.fr hv hf (fun e => ?_), hps.fr hf (fun e => ?_) (fun k t R' e hR => ?_), ⟨hrf.fr hf (fun k hk e => ?_), hrf.lo⟩, hrl, hn⟩
 ·subst e; obtain ⟨R', hv'⟩ := hv.row; have := hr.type hv'; revert this; decide
 ·obtain ⟨rd, V, E, vi, h⟩ := hps
  subst e; have := h.pk.2 _ _ hr; revert this; decide
 ·subst e; have := hr.type hR; subst this; decide
 ·subst e
  obtain ⟨t, R', hR', ht⟩ := refOwn_type hrf.toRefW hk
  have := hr.type hR'
  subst this
  revert ht; decide
def EpOk (w : World) (vb tb xb : Nat) : Prop := ∃ db stb, VolR w vb tb db stb ∧ w.cell? ⟨db, 3, none⟩ = some (.slice none 0 0) ∧ db ≠ xb ∧ vb ≠ xb
theorem EpOk.call {w W W' : World} {vb tb xb : Nat} (h : EpOk w vb tb xb) (hf : Fr (fun k => k = xb) w W) (hb : Below W.heap.size W W') : Calls Tryz.prog 30 #[.pointer (some ⟨vb, 0, none⟩)] W' fun e w' => e = .returned (.int .i64 0) ∧ w' = W' := by
 obtain ⟨db, stb, h1, h2, h3, h4⟩ := h
 have hdl : db < w.heap.size := World.block_lt_of_cell? _ _ h2
 have e1 : W'.heap[vb]? = w.heap[vb]? := (hb.block _ (Nat.lt_of_lt_of_le (RowIs.lt h1) hf.size)).trans (hf.block _ (RowIs.lt h1) h4)
 have e2 : W'.heap[db]? = w.heap[db]? := (hb.block _ (Nat.lt_of_lt_of_le hdl hf.size)).trans (hf.block _ hdl h3)
 exact epochsV W' vb tb db stb (e1.trans h1) none 0 0 ((World.cell?_of_block (a := ⟨db, 3, none⟩) e2).trans h2)
def NotedPost (w : World) (vb tb rb xb : Nat) (fs : Value) (L : List (ByteArray × Int)) (F : List ByteArray) (e : Ending) (w' : World) : Prop :=
 e = .returned (.tuple #[]) ∧ ∃ ka kc pa ea ec, BothW w' xb vb rb (.slice (some ⟨ka, 0, none⟩) 1 kc) (.slice (some ⟨ea, 0, none⟩) 1 ec) fs ∧ w'.cell? ⟨ka, 0, none⟩ = some (.pointer (some pa)) ∧ w'.cell? ⟨ea, 0, none⟩ = some (.int .i64 0) ∧ Md w' vb tb rb L F L F ∧ Fr (fun k => k = xb) w w'
theorem noted_code (w : World) (vb tb rb xb : Nat) (fs : Value) (L : List (ByteArray × Int)) (F : List ByteArray) (hx : BothW w xb vb rb (.slice none 0 0) (.slice none 0 0) fs) (hm : Md w vb tb rb L F L F) (hE : EpOk w vb tb xb) :
  Calls Tryz.prog 86 #[.pointer (some ⟨xb, 0, none⟩)] w (NotedPost w vb tb rb xb fs L F) := by
 obtain ⟨i38, hi0, hz0, hz1, hz2⟩ := info_parts info38
 have HC : Hid (∀ W', Below w.heap.size w W' → Calls Tryz.prog 106 #[.pointer (some ⟨rb, 0, none⟩)] W' fun e w' => ∃ pb, e = .returned (.pointer (some ⟨pb, 0, none⟩)) ∧ Below w.heap.size w w') := fun W' hb => by
  obtain ⟨G, I, C, ρ, vl, vf, hv, hps, hrf, hrl, hn⟩ := hm.below hb
  exact (copy_ref W' rb vl vf L F hrf.toRefW).mono (fun e w' ⟨h1, vl', vf', h2, h3, h4⟩ => ⟨_, h1, hb.trans (h3.mono hb.size)⟩)
 have HAPP : Hid (∀ W' nb p, RowIs W' nb 30 [.pointer (some p)] → ∃ v' w', (Builtin.append_ #[52, 52] 52 #[.slice none 0 0, .slice (some ⟨nb, 0, none⟩) 1 1]).run Tryz.prog W' = .ok v' w' ∧ ∃ g c, v' = .slice (some ⟨g, 0, none⟩) 1 c ∧ w'.cell? ⟨g, 0, none⟩ = some (.pointer (some p)) ∧ Below W'.heap.size W' w' ∧ W'.heap.size ≤ g) := fun W' nb p hr =>
  app1 W' 52 30 i38 _ und39 hi0 hz0 hz1 hz2 rfl _ rfl nb hr
 obtain ⟨i3, hi3, hy0, hy1, hy2⟩ := info_parts info3'
 have HAPP2 : Hid (∀ W' nb, RowIs W' nb 3 [.int .i64 0] → ∃ v' w', (Builtin.append_ #[53, 53] 53 #[.slice none 0 0, .slice (some ⟨nb, 0, none⟩) 1 1]).run Tryz.prog W' = .ok v' w' ∧ ∃ g c, v' = .slice (some ⟨g, 0, none⟩) 1 c ∧ w'.cell? ⟨g, 0, none⟩ = some (.int .i64 0) ∧ Below W'.heap.size W' w' ∧ W'.heap.size ≤ g) := fun W' nb hr =>
  app1 W' 53 3 i3 _ und40 hi3 hy0 hy1 hy2 rfl _ rfl nb hr
 have x2 : w.cell? ⟨xb, 2, none⟩ = some (.slice none 0 0) := (RowIs.cell hx 2).trans rfl
 have x1 : w.cell? ⟨xb, 1, none⟩ = some (.pointer (some ⟨rb, 0, none⟩)) := (RowIs.cell hx 1).trans rfl
 have hlt := RowIs.lt hx
 have HX := hide hx
 have HM := hide hm
 have HE := hide hE
 clear hx hm hE
 go_enter Tryz.func86, Tryz.ntmps86
 go_wp2_with fail
 go_region_law (first | (refine step_call_run rfl 106 _ 30 rfl _ (by simp [Act.eval]) (by go_simp) (unhide HC _ (by first | exact (Below.refl _ _).drew | exact Below.refl _ _)) ?_; rintro e w1 ⟨pb, rfl, hb1⟩; refine ⟨_, rfl, ?_⟩; have m2 := (hb1.cell (p := ⟨xb, 2, none⟩) hlt).trans x2; have m2a : (w1.alloc (.cells #[.pointer (some ⟨pb, 0, none⟩)] 30)).cell? ⟨xb, 2, none⟩ = some (.slice none 0 0) := ((hb1.alloc hb1.size _).cell (p := ⟨xb, 2, none⟩) hlt).trans x2; have hne1 : ¬ xb = w1.heap.size := (by have := hb1.size; omega); have hne2 : ¬ w1.heap.size = xb := (by have := hb1.size; omega)) | (refine step_append_post rfl _ _ 52 52 rfl _ _ (by simp [Act.eval]) (by simp [Act.eval]) (unhide HAPP _ _ _ (row_new _ _ _)) ?_; rintro v2 w2 ⟨ka, kc, rfl, k0, hb2, hka⟩; have hb3 : Below w.heap.size w w2 := (hb1.alloc hb1.size _).trans (hb2.mono (by have := hb1.size; simp; omega)); have hr3 : RowIs w2 xb 55 _ := RowIs.fr (unhide HX) (X := fun _ => False) (Fr.of_below hb3) id; have c2 := hr3.cell 2; have f2 := hr3.frozen 2))
 all_goals
  have hlt2 : xb < w2.heap.size := hr3.lt
  have hkne : xb ≠ ka := fun e => by have h1 := hb1.size; have h2 := hka; simp at h2; omega
  have hr4 := hr3.set 2 (.slice (some ⟨ka, 0, none⟩) 1 kc)
  have hm4 := ((unhide HM).below hb3).setX hr3 2 (.slice (some ⟨ka, 0, none⟩) 1 kc)
  have hf4 : Fr (fun k => k = xb) w (w2.setCell ⟨xb, 2, none⟩ (.slice (some ⟨ka, 0, none⟩) 1 kc)) := (Fr.of_below hb3).set _ _ rfl
  have hk4 : (w2.setCell ⟨xb, 2, none⟩ (.slice (some ⟨ka, 0, none⟩) 1 kc)).cell? ⟨ka, 0, none⟩ = some (.pointer (some ⟨pb, 0, none⟩)) := (World.cell?_of_block (a := ⟨ka, 0, none⟩) (Below.heap_setCell _ _ _ _ hkne.symm)).trans k0
  obtain ⟨W3, hW3⟩ : ∃ W3, W3 = w2.setCell ⟨xb, 2, none⟩ (.slice (some ⟨ka, 0, none⟩) 1 kc) := ⟨_, rfl⟩
  rw [← hW3] at hr4 hm4 hf4 hk4
  try rw [← hW3]
  have HEP : Hid (∀ W, Below W3.heap.size W3 W → Calls Tryz.prog 30 #[.pointer (some ⟨vb, 0, none⟩)] W fun e w' => e = .returned (.int .i64 0) ∧ w' = W) := fun W hW => (unhide HE).call hf4 hW
  have y3 : W3.cell? ⟨xb, 3, none⟩ = some (.slice none 0 0) := (hr4.cell 3).trans rfl
  have y0 : W3.cell? ⟨xb, 0, none⟩ = some (.pointer (some ⟨vb, 0, none⟩)) := (hr4.cell 0).trans rfl
  have hlt3 : xb < W3.heap.size := hr4.lt
  have hne3 : ¬ xb = W3.heap.size := by omega
  have hne4 : ¬ W3.heap.size = xb := by omega
  have HR4 := hide hr4
  have HM4 := hide hm4
  have HF4 := hide hf4
  have HK4 := hide hk4
  have HKNE := hide hkne
  clear hW3 hr4 hm4 hf4 hk4 hr3 hb3 hb2 hb1 hka k0 hne1 hne2 hkne hlt2 x1 x2
  go_wp2_with fail
  go_region_law (first | (refine step_call_run rfl 30 _ 25 rfl _ (by simp [Act.eval]) (by go_simp) (unhide HEP _ (by first | exact (Below.refl _ _).drew | exact Below.refl _ _)) ?_; rintro e w4 ⟨rfl, rfl⟩; refine ⟨_, rfl, ?_⟩) | (refine step_append_post rfl _ _ 53 53 rfl _ _ (by simp [Act.eval]) (by simp [Act.eval]) (unhide HAPP2 _ _ (row_new _ _ _)) ?_; rintro v5 w5 ⟨ea, ec, rfl, e0, hb5, hea⟩; have hb6 : Below W3.heap.size W3 w5 := ((Below.refl _ W3).drew.alloc (by simp) _).trans (hb5.mono (by simp)); have hr5 : RowIs w5 xb 55 _ := RowIs.fr (unhide HR4) (X := fun _ => False) (Fr.of_below hb6) id; have c3 := hr5.cell 3; have f3 := hr5.frozen 3))
  all_goals
   have hene : xb ≠ ea := fun e => by simp at hea; omega
   have hr6 := hr5.set 3 (.slice (some ⟨ea, 0, none⟩) 1 ec)
   have hm6 := ((unhide HM4).below hb6).setX hr5 3 (.slice (some ⟨ea, 0, none⟩) 1 ec)
   have hf6 : Fr (fun k => k = xb) w (w5.setCell ⟨xb, 3, none⟩ (.slice (some ⟨ea, 0, none⟩) 1 ec)) := ((unhide HF4).ext' hb6).set _ _ rfl
   have he6 : (w5.setCell ⟨xb, 3, none⟩ (.slice (some ⟨ea, 0, none⟩) 1 ec)).cell? ⟨ea, 0, none⟩ = some (.int .i64 0) := (World.cell?_of_block (a := ⟨ea, 0, none⟩) (Below.heap_setCell _ _ _ _ hene.symm)).trans e0
   have hka5 : w5.cell? ⟨ka, 0, none⟩ = some (.pointer (some ⟨pb, 0, none⟩)) := (hb6.cell (p := ⟨ka, 0, none⟩) (World.block_lt_of_cell? _ _ (unhide HK4))).trans (unhide HK4)
   have hk6 : (w5.setCell ⟨xb, 3, none⟩ (.slice (some ⟨ea, 0, none⟩) 1 ec)).cell? ⟨ka, 0, none⟩ = some (.pointer (some ⟨pb, 0, none⟩)) := (World.cell?_of_block (a := ⟨ka, 0, none⟩) (Below.heap_setCell _ _ _ _ (unhide HKNE).symm)).trans hka5
   have HP : Hid (NotedPost w vb tb rb xb fs L F (.returned (.tuple #[])) (w5.setCell ⟨xb, 3, none⟩ (.slice (some ⟨ea, 0, none⟩) 1 ec))) := ⟨rfl, ka, kc, _, ea, ec, hr6, hk6, he6, hm6, hf6⟩
   clear hr6 hm6 hf6 he6 hk6 hka5
   go_wp2
   go_end0
   exact unhide HP
theorem Rl.none (C : Int → ByteArray) (ρ : Int → Nat) : Rl [] [] C ρ [] [] := by
 refine ⟨rfl, ⟨fun x hx => (by cases hx), fun x hx => (by cases hx), fun x hx => (by cases hx), List.nodup_nil, fun ns n u hx => (by cases hx)⟩, ⟨List.nodup_nil, fun x hx => (by cases hx), fun x hx => (by cases hx), fun x hx => (by cases hx), fun f hf => (by simp at hf), fun x hx => (by cases hx), fun x hx => (by cases hx)⟩, fun x hx => (by cases hx), fun x hx => (by cases hx), fun x hx => (by cases hx), by simp, by simp, fun x hx => (by cases hx)⟩
theorem conv_SlB {W : World} {b : Nat} {a : Option Addr} {l c : Nat} {s : ByteArray} (h : SlB b W (.slice a l c) s) : (convert 59 9 (.slice a l c)).run Tryz.prog W = .ok (.string s) W := by
 have hl := Sl.len h.1
 subst hl
 exact conv_sl h.1 rfl
def BegunPost (w : World) (e : Ending) (w' : World) : Prop :=
 ∃ xb vb tb rb kp ep fs, e = .returned (.tuple #[.pointer (some ⟨xb, 0, none⟩), .bool true]) ∧ BothW w' xb vb rb kp ep fs ∧ Md w' vb tb rb [] [] [] [] ∧ w.heap.size < tb ∧ Below w.heap.size w w'
theorem begun_code (w : World) (hp : PkgOk w) : Calls Tryz.prog 35 #[] w (BegunPost w) := by
 have hfm := format_code w hp
 clear hp
 go_enter Tryz.func35, Tryz.ntmps35
 go_wp2_with fail
 refine hfm.mono ?_
 rintro e w1 ⟨tb, w0, htb, hb0, htl0, hps, vb, db, stb, vf, vn, va, rfl, hv, hst, _, _, hb01, hvb, hdb, _, hvd, _⟩
 have hb1 : Below w.heap.size w w1 := hb0.trans (hb01.mono hb0.size)
 have htl : tb < w1.heap.size := Nat.lt_of_lt_of_le htl0 hb01.size
 have hvl : vb < w1.heap.size := RowIs.lt hv
 have hdl : db < w1.heap.size := hst.disk.1.lt
 have HV := hide hv
 have HST := hide hst
 have HPS := hide hps
 clear hfm hv hps hst hb0 hb01 htl0 hvb hdb hvd
 obtain ⟨W2, hW2, hr2, hk2, hsz2, hb2⟩ := alloc_name w1 [.slice none 0 0, .slice none 0 0] 89
 obtain ⟨W3, hW3, hr3, hk3, hsz3, hb3⟩ := alloc_name W2 [.pointer (some ⟨vb, 0, none⟩), .pointer (some ⟨w1.heap.size, 0, none⟩), .slice none 0 0, .slice none 0 0, .string ⟨#[]⟩] 55
 have hbw2 : Below w1.heap.size w1 W3 := hb2.trans (hb3.mono (by omega))
 have hrf : RefW W3 w1.heap.size (.slice none 0 0) (.slice none 0 0) [] [] := ⟨hk3 _ _ _ hr2, ⟨rfl, .inl ⟨rfl, rfl⟩⟩, ⟨rfl, .inl ⟨rfl, rfl⟩⟩, by simp, by simp, fun x hx => (by cases hx), fun x hx => (by cases hx), fun g hg => by simp [Value.ownBlock] at hg⟩
 have hV3 : VolR W3 vb tb db stb := (hbw2.block _ hvl).trans (unhide HV)
 have hS3 := (unhide HST).below hbw2
 have hm3 : Md W3 vb tb w1.heap.size [] [] [] [] := by
  obtain ⟨rd, V, E, vi, h⟩ := unhide HPS
  exact ⟨[], [], _, fun _ => 0, _, _, hV3.vol, ⟨rd, V, E, vi, h.below hbw2 (Nat.le_refl _)⟩, ⟨hrf, fun k hk => by rcases hk with rfl | hk | hk <;> first | omega | simp [Value.ownBlock] at hk⟩, Rl.none _ _, by simp [cD]⟩
 have hbw3 : Below w.heap.size w W3 := hb1.trans (hbw2.mono hb1.size)
 have hlb : w.heap.size ≤ W2.heap.size := by have := hb1.size; omega
 obtain ⟨AA, hFS⟩ : ∃ s, s = joinB fmtD := ⟨_, rfl⟩
 obtain ⟨xb, hxb⟩ : ∃ xb, xb = W2.heap.size := ⟨_, rfl⟩
 rw [← hxb] at hr3 hlb
 have hvx : vb ≠ xb := by omega
 have hdx : db ≠ xb := by omega
 have HIM : Hid (Calls Tryz.prog 28 #[.pointer (some ⟨vb, 0, none⟩)] W3 fun e w4 => ∃ a' l' c', e = .returned (.slice a' l' c') ∧ (convert 59 9 (.slice a' l' c')).run Tryz.prog w4 = .ok (.string AA) w4 ∧ w4.cell? ⟨xb, 4, none⟩ = some (.string ⟨#[]⟩) ∧ w4.frozen? ⟨xb, 4, none⟩ = false ∧ Hid (Calls Tryz.prog 86 #[.pointer (some ⟨xb, 0, none⟩)] (w4.setCell ⟨xb, 4, none⟩ (.string AA)) fun e w5 => NotedPost (w4.setCell ⟨xb, 4, none⟩ (.string AA)) vb tb w1.heap.size xb (.string AA) [] [] e w5 ∧ Below w.heap.size w w5)) := by
  refine (imageV W3 vb tb db stb hV3 vf vn _ _ fmtD hS3.disk).mono ?_
  rintro e w4 ⟨a', l', c', rfl, hS4, hb4⟩
  have hr4 : RowIs w4 xb 55 _ := (hb4.block _ hr3.lt).trans hr3
  have hs4 := hS3.below hb4
  have hm4 := (hm3.below hb4).setX hr4 4 (.string AA)
  have hx4 := hr4.set 4 (.string AA)
  have hsz4 := hb4.size
  have hE : EpOk (w4.setCell ⟨xb, 4, none⟩ (.string AA)) vb tb xb := by
   refine ⟨db, stb, ?_, ?_, hdx, hvx⟩
   ·have h1 : VolR w4 vb tb db stb := (hb4.block _ (RowIs.lt hV3)).trans hV3
    exact RowIs.fr h1 (X := fun k => k = xb) ((Fr.refl _ _).set _ _ rfl) hvx
   ·exact (World.cell?_of_block (a := ⟨db, 3, none⟩) (Below.heap_setCell _ _ _ _ hdx)).trans ((hs4.disk.1.cell 3).trans rfl)
  refine ⟨a', l', c', rfl, ?_, (hr4.cell 4).trans rfl, hr4.frozen 4, ?_⟩
  ·rw [hFS]; exact conv_SlB hS4
  ·refine (noted_code _ vb tb w1.heap.size xb (.string AA) [] [] hx4 hm4 hE).mono ?_
   intro e w5 hq
   refine ⟨hq, ?_⟩
   obtain ⟨-, ka, kc, pa, ea, ec, -, -, -, -, hf5⟩ := hq
   have hb6 : Below w.heap.size w (w4.setCell ⟨xb, 4, none⟩ (.string AA)) := (hbw3.trans (hb4.mono hbw3.size)).setCell (p := ⟨xb, 4, none⟩) hlb _
   exact ⟨hf5.os.trans hb6.os, hf5.tape.trans hb6.tape, hf5.output.trans hb6.output, Nat.le_trans hb6.size hf5.size, fun k hk => (hf5.block k (Nat.lt_of_lt_of_le hk hb6.size) (fun e => by omega)).trans (hb6.block k hk)⟩
 have HTB := hide htb
 have HXB := hide hxb
 have x0 := hr3.cell 0
 clear hxb htb htl hvl hdl HST HPS hr2 hk2 hk3 hsz3 hb2 hb3 hbw2 hrf hm3 hbw3 hsz2 hFS hS3 hV3 hvx hdx HV hr3 hb1
 go_upto_region 2 with fail
 rw [← unhide HXB]
 clear hW3 hW2
 go_wp2_with (first | (go_at_call 28; refine (unhide HIM).mono ?_; rintro e w4 ⟨a', l', c', rfl, hcv, x4, f4, HNT⟩) | (go_at_call 86; refine (unhide HNT).mono ?_; rintro e w5 ⟨⟨rfl, ka, kc, pa, ea, ec, hb, hk, he, hm5, hf5⟩, hb5⟩))
 have HP : Hid (∀ W, Below w5.heap.size w5 W → BegunPost w (.returned (.tuple #[.pointer (some ⟨xb, 0, none⟩), .bool true])) W) := fun W hw => ⟨xb, vb, tb, _, _, _, _, rfl, RowIs.fr hb (X := fun _ => False) (Fr.of_below hw) id, hm5.below hw, unhide HTB, hb5.trans (hw.mono hb5.size)⟩
 have y2 : w5.cell? ⟨xb, 2, none⟩ = some (.slice (some ⟨ka, 0, none⟩) 1 kc) := (RowIs.cell hb 2).trans rfl
 have y3 : w5.cell? ⟨xb, 3, none⟩ = some (.slice (some ⟨ea, 0, none⟩) 1 ec) := (RowIs.cell hb 3).trans rfl
 clear hb5 hb hm5 hf5 hcv x4 f4
 go_region_held3 (fun W => W.cell? ⟨xb, 2, none⟩ = some (.slice (some ⟨ka, 0, none⟩) 1 kc) ∧ W.cell? ⟨xb, 3, none⟩ = some (.slice (some ⟨ea, 0, none⟩) 1 ec) ∧ W.cell? ⟨ka, 0, none⟩ = some (.pointer (some pa)) ∧ W.cell? ⟨ea, 0, none⟩ = some (.int .i64 0)) (go_keep) (first | fail)
 all_goals
  go_wp2
  go_ret2
  exact unhide HP _ (by first | exact (Below.refl _ _).drew | exact Below.refl _ _)
structure En where
 n : ByteArray
 d : Bool
 s : Int
 l : Int
def clE (x : En) : List Value := [.string x.n, .bool x.d, .int .i64 x.s, .int .i64 x.l]
def cellsE (es : List En) : List Value := es.flatMap clE
theorem cellsE_append (a b : List En) : cellsE (a ++ b) = cellsE a ++ cellsE b := by simp [cellsE]
theorem cellsE_one (es : List En) : ∀ u ∈ cellsE es, u.oneCell' = true := by
 intro u hu
 simp only [cellsE, List.mem_flatMap, clE, List.mem_cons, List.mem_nil_iff, or_false] at hu
 obtain ⟨x, _, rfl | rfl | rfl | rfl⟩ := hu <;> simp [Value.oneCell']
theorem cellsE_at (es : List En) (k : Nat) (x : En) (h : es[k]? = some x) : (cellsE es)[k * 4]? = some (.string x.n) ∧ (cellsE es)[k * 4 + 1]? = some (.bool x.d) ∧ (cellsE es)[k * 4 + 2]? = some (.int .i64 x.s) ∧ (cellsE es)[k * 4 + 3]? = some (.int .i64 x.l) := by
 induction es generalizing k with
 | nil => simp at h
 | cons a l ih =>
  cases k with
  | zero => simp at h; subst h; simp [cellsE, clE]
  | succ k =>
   simp at h
   have := ih k h
   simp only [cellsE, List.flatMap_cons] at this ⊢
   have e : ∀ r, (clE a ++ List.flatMap clE l)[(k + 1) * 4 + r]? = (List.flatMap clE l)[k * 4 + r]? := fun r => by
    rw [List.getElem?_append_right (by simp [clE]; omega)]; congr 1; simp [clE]; omega
   have e0 := e 0
   simp only [Nat.add_zero] at e0
   rw [e0, e 1, e 2, e 3]; exact this
def RdE (w : World) (a : Option Addr) (L : List En) : Prop := ∀ (k : Nat) (x : En), L[k]? = some x → ∃ g, a = some ⟨g, 0, none⟩ ∧ w.cell? ⟨g, k * 4, none⟩ = some (.string x.n) ∧ w.cell? ⟨g, k * 4 + 1, none⟩ = some (.bool x.d) ∧ w.cell? ⟨g, k * 4 + 2, none⟩ = some (.int .i64 x.s) ∧ w.cell? ⟨g, k * 4 + 3, none⟩ = some (.int .i64 x.l)
theorem Sl.rdE {w : World} {v : Value} {L : List En} (h : Sl w 112 4 v L.length (cellsE L)) : ∃ a c, v = .slice a L.length c ∧ RdE w a L := by
 rcases h.2 with ⟨rfl, h0⟩ | ⟨g, cap, R, rfl, hR, hc, hcm, hL, hT⟩
 ·have : L = [] := List.eq_nil_of_length_eq_zero h0
  subst this
  exact ⟨none, 0, rfl, fun k x h => by simp at h⟩
 ·have key : ∀ j u, (cellsE L)[j]? = some u → w.cell? ⟨g, j, none⟩ = some u := fun j u hu => by
   rw [hR.cell]; rw [← hT, List.getElem?_take] at hu
   split at hu
   ·exact hu
   ·cases hu
  refine ⟨_, cap, rfl, fun k x hx => ?_⟩
  obtain ⟨h1, h2, h3, h4⟩ := cellsE_at L k x hx
  exact ⟨g, rfl, key _ _ h1, key _ _ h2, key _ _ h3, key _ _ h4⟩
theorem neq51 (s : ByteArray) (b : Bool) (c d : Int) (w : World) : (binOp .neq 112 (.agg #[.string s, .bool b, .int .i64 c, .int .i64 d]) (.agg #[.string s, .bool b, .int .i64 c, .int .i64 d])).run Tryz.prog w = .ok (.bool false) w := by
 go_simp
theorem same_code (w : World) (va vb : Value) (L : List En) (hn : L.length ≤ 2000000) (ha : Sl w 112 4 va L.length (cellsE L)) (hb : Sl w 112 4 vb L.length (cellsE L)) :
  Calls Tryz.prog 110 #[va, vb] w fun e w' => e = .returned (.bool true) ∧ Below w.heap.size w w' := by
 have HA : Hid (∀ W, Below w.heap.size w W → ∃ a c, va = .slice a L.length c ∧ RdE W a L) := fun W h => (ha.kept (fun k hk _ => h.block k hk)).rdE
 have HB : Hid (∀ W, Below w.heap.size w W → ∃ a c, vb = .slice a L.length c ∧ RdE W a L) := fun W h => (hb.kept (fun k hk _ => h.block k hk)).rdE
 obtain ⟨a1, c1, rfl, -⟩ := ha.rdE
 obtain ⟨a2, c2, rfl, -⟩ := hb.rdE
 clear ha hb
 go_enter Tryz.func110, Tryz.ntmps110
 go_wp2_with fail
 go_loopw [5] (fun i wr => ∃ m : Nat, m ≤ L.length ∧ i = .int .i64 m ∧ Hid (Below w.heap.size w wr)) (fun i _ => L.length - (intOf i).toNat)
 case atStart => exact ⟨0, Nat.zero_le _, rfl, Below.refl _ _⟩
 case round =>
  obtain ⟨m, hm, rfl, HW⟩ := hrel
  by_cases hlt : m < L.length
  ·obtain ⟨y1, z1, e1, r1⟩ := unhide HA wr (unhide HW)
   obtain ⟨y2, z2, e2, r2⟩ := unhide HB wr (unhide HW)
   simp only [Value.slice.injEq, true_and] at e1 e2
   obtain ⟨rfl, rfl⟩ := e1
   obtain ⟨rfl, rfl⟩ := e2
   obtain ⟨g1, rfl, p0, p1, p2, p3⟩ := r1 m L[m] (List.getElem?_eq_getElem hlt)
   obtain ⟨g2, rfl, q0, q1, q2, q3⟩ := r2 m L[m] (List.getElem?_eq_getElem hlt)
   obtain ⟨x, hx⟩ : ∃ x, x = L[m] := ⟨_, rfl⟩
   rw [← hx] at p0 p1 p2 p3 q0 q1 q2 q3
   have hq := neq51 x.n x.d x.s x.l
   have HD : Hid (∀ W, Below wr.heap.size wr W → Below w.heap.size w W) := fun W h => (unhide HW).trans (h.mono (unhide HW).size)
   clear hx r1 r2
   go_upto_region 6 with fail
   go_region_held3 (fun W => W.cell? ⟨g1, m * 4, none⟩ = some (.string x.n) ∧ W.cell? ⟨g1, m * 4 + 1, none⟩ = some (.bool x.d) ∧ W.cell? ⟨g1, m * 4 + 2, none⟩ = some (.int .i64 x.s) ∧ W.cell? ⟨g1, m * 4 + 3, none⟩ = some (.int .i64 x.l) ∧ W.cell? ⟨g2, m * 4, none⟩ = some (.string x.n) ∧ W.cell? ⟨g2, m * 4 + 1, none⟩ = some (.bool x.d) ∧ W.cell? ⟨g2, m * 4 + 2, none⟩ = some (.int .i64 x.s) ∧ W.cell? ⟨g2, m * 4 + 3, none⟩ = some (.int .i64 x.l)) (go_keep) (first | fail)
   all_goals
    go_wp2
    go_roundw
    case rel => first | exact ⟨m + 1, by omega, by go_num, unhide HD _ (Below.refl _ _).drew⟩ | ((repeat apply Exists.intro); exact ⟨⟨m + 1, by omega, by go_num, unhide HD _ (Below.refl _ _).drew⟩, rfl⟩)
    case measure => simp [intOf]; omega
  ·obtain rfl : m = L.length := by omega
   go_wp2
   go_ret
   exact ⟨rfl, unhide HW⟩
def ListPost (es : List En) (k : Int) (w : World) (e : Ending) (w' : World) : Prop :=
 (∃ a n c, e = .returned (.tuple #[.slice a n c, .int .i64 k]) ∧ Sl w' 112 4 (.slice a n c) es.length (cellsE es)) ∧ Below w.heap.size w w'
def ListBoth : Prop := ∀ (vb tb rb : Nat) (L : List (ByteArray × Int)) (F : List ByteArray) (s : ByteArray), Jf L F → s.size ≤ 2000000 → ∃ (es : List En) (k : Int), es.length ≤ 2000000 ∧ ∀ W, Md W vb tb rb L F L F →
 Calls Tryz.prog 56 #[.pointer (some ⟨vb, 0, none⟩), .string s] W (ListPost es k W) ∧ Calls Tryz.prog 109 #[.pointer (some ⟨rb, 0, none⟩), .string s] W (ListPost es k W)
theorem list_law (hb : ListBoth) : ListLaw := by
 intro w vb tb rb xb kp ep fs L F hx hm s hs
 obtain ⟨es, k, hes, hc⟩ := hb vb tb rb L F s hm.jf hs
 have x0 : w.cell? ⟨xb, 0, none⟩ = some (.pointer (some ⟨vb, 0, none⟩)) := (RowIs.cell hx 0).trans rfl
 have h1 := (hc w hm).1
 have HX : Hid (∀ W, Below w.heap.size w W → W.cell? ⟨xb, 1, none⟩ = some (.pointer (some ⟨rb, 0, none⟩))) := fun W hb => ((RowIs.fr hx (X := fun _ => False) (Fr.of_below hb) id).cell 1).trans rfl
 have H2 : Hid (∀ W, Below w.heap.size w W → Calls Tryz.prog 109 #[.pointer (some ⟨rb, 0, none⟩), .string s] W (ListPost es k W)) := fun W hb => (hc W (hm.below hb)).2
 clear hc hm hx hb
 go_enter Tryz.func49, Tryz.ntmps49
 go_wp2_with fail
 refine h1.mono ?_
 rintro e w1 ⟨⟨a1, n1, c1, rfl, hS1⟩, hb1⟩
 have x1 := unhide HX w1 hb1
 have h2 := unhide H2 w1 hb1
 have HS1 := hide hS1
 clear h1 hS1 x0
 go_wp2_with fail
 refine h2.mono ?_
 rintro e w2 ⟨⟨a2, n2, c2, rfl, hS2⟩, hb2⟩
 have hb3 : Below w.heap.size w w2 := hb1.trans (hb2.mono hb1.size)
 have h3 := same_code w2 (.slice a1 n1 c1) (.slice a2 n2 c2) es hes ((unhide HS1).kept (fun k hk _ => hb2.block k hk)) hS2
 clear h2 hS2 x1
 go_wp2_with (first | (go_at_call 110; refine h3.mono ?_; rintro e w3 ⟨rfl, hb4⟩) | (go_at_call 16; refine (num_code _ _).mono ?_; rintro e w4 ⟨rfl, rfl⟩))
 go_ret2
 exact ⟨⟨_, _, _, rfl⟩, hb3.trans (hb4.mono hb3.size)⟩
structure Op7 where
 k : Int
 kk : Int
 a : Int
 b : Int
 s : ByteArray
 t : ByteArray
 u : ByteArray
def Op7.ok (o : Op7) : Prop := o.a ≤ 9223372036854775807 ∧ o.b ≤ 9223372036854775807 ∧ o.s.size ≤ 1048576 ∧ o.t.size ≤ 1048576 ∧ o.u.size ≤ 1048576
def RdO (w : World) (sa : Option Addr) (os : List Op7) : Prop := ∀ (m : Nat) (o : Op7), os[m]? = some o → ∃ g f, sa = some ⟨g, f, none⟩ ∧ w.cell? ⟨g, f + m * 7, none⟩ = some (.int .i64 o.k) ∧ w.cell? ⟨g, f + m * 7 + 1, none⟩ = some (.int .i64 o.kk) ∧ w.cell? ⟨g, f + m * 7 + 2, none⟩ = some (.int .i64 o.a) ∧ w.cell? ⟨g, f + m * 7 + 3, none⟩ = some (.int .i64 o.b) ∧ w.cell? ⟨g, f + m * 7 + 4, none⟩ = some (.string o.s) ∧ w.cell? ⟨g, f + m * 7 + 5, none⟩ = some (.string o.t) ∧ w.cell? ⟨g, f + m * 7 + 6, none⟩ = some (.string o.u)
def PlayPost (w : World) (e : Ending) (w' : World) : Prop := e = .returned (.bool true) ∧ Below w.heap.size w w'
theorem Fr.toBelow {tb : Nat} {w w1 w' : World} (hf : Fr (JT tb w1) w1 w') (hb : Below w.heap.size w w1) (ht : w.heap.size < tb) : Below w.heap.size w w' :=
 ⟨hf.os.trans hb.os, hf.tape.trans hb.tape, hf.output.trans hb.output, Nat.le_trans hb.size hf.size, fun k hk => (hf.block k (Nat.lt_of_lt_of_le hk hb.size) (fun e => by have := e.2; omega)).trans (hb.block k hk)⟩
theorem RdO.below {w w' : World} {sa : Option Addr} {os : List Op7} (h : RdO w sa os) (hb : Below w.heap.size w w') : RdO w' sa os := fun m o ho => by
 obtain ⟨g, f, e, q0, q1, q2, q3, q4, q5, q6⟩ := h m o ho
 have hg : g < w.heap.size := World.block_lt_of_cell? _ _ q0
 exact ⟨g, f, e, (hb.cell (p := ⟨g, f + m * 7, none⟩) hg).trans q0, (hb.cell (p := ⟨g, f + m * 7 + 1, none⟩) hg).trans q1, (hb.cell (p := ⟨g, f + m * 7 + 2, none⟩) hg).trans q2, (hb.cell (p := ⟨g, f + m * 7 + 3, none⟩) hg).trans q3, (hb.cell (p := ⟨g, f + m * 7 + 4, none⟩) hg).trans q4, (hb.cell (p := ⟨g, f + m * 7 + 5, none⟩) hg).trans q5, (hb.cell (p := ⟨g, f + m * 7 + 6, none⟩) hg).trans q6⟩
theorem play_code (hl : ListLaw) (w : World) (hp : PkgOk w) (sa : Option Addr) (c : Nat) (os : List Op7) (hn : os.length ≤ 1048576) (hok : ∀ o ∈ os, o.ok) (hrd : RdO w sa os) :
  Calls Tryz.prog 14 #[.slice sa os.length c, .int .i64 10] w (PlayPost w) := by
 have hbg := begun_code w hp
 have HL := hide hl
 have HRD := hide hrd
 have HOK := hide hok
 clear hp hl hrd hok
 go_enter Tryz.func14, Tryz.ntmps14
 go_wp2_with fail
 refine hbg.mono ?_
 rintro e w1 ⟨xb, vb, tb, rb, kp, ep, fs, rfl, hx, hm, htb, hb1⟩
 have HSCR : Hid (∀ W', Fr (JT tb w1) w1 W' → RdO W' sa os) := fun W' hf => (unhide HRD).below (hf.toBelow hb1 htb)
 have HTB := hide htb
 clear htb HRD
 have H1 : Hid (Calls Tryz.prog 36 #[.pointer (some ⟨xb, 0, none⟩), .agg (opL 1 0 0 0 ⟨#[47, 97]⟩ ⟨#[]⟩ ⟨#[]⟩).toArray] w1 fun e w' => e = .returned (.bool true) ∧ ∃ L' F', Fr (JT tb w1) w1 w' ∧ BothW w' xb vb rb kp ep fs ∧ Md w' vb tb rb L' F' L' F' ∧ F'.length ≤ 1) :=
  (step_any w1 vb tb rb xb kp ep fs [] [] hx hm 0 0 0 ⟨#[47, 97]⟩ ⟨#[]⟩ ⟨#[]⟩ (unhide HL) (by simp) 1 (by omega) (by omega) (by simp [ByteArray.size]) (by simp [ByteArray.size]) (by simp [ByteArray.size])).mono (fun e w' ⟨L', F', ⟨h1, h2, h3, h4⟩, h5⟩ => ⟨h1, L', F', h2, h3, h4, by simpa using h5⟩)
 have HW : Hid (∀ W L F, Fr (JT tb w1) w1 W → BothW W xb vb rb kp ep fs → Md W vb tb rb L F L F → F.length ≤ 1 → Calls Tryz.prog 37 #[.pointer (some ⟨xb, 0, none⟩), .agg (opL 0 0 3 0 ⟨#[47, 97, 47, 102]⟩ ⟨#[]⟩ ⟨#[120, 121, 122]⟩).toArray] W fun e w' => e = .returned (.bool true) ∧ ∃ L' F', Fr (JT tb w1) w1 w' ∧ BothW w' xb vb rb kp ep fs ∧ Md w' vb tb rb L' F' L' F' ∧ F'.length ≤ 2) := fun W L F hf hx hm hF =>
  (write_law W vb tb rb xb kp ep fs L F hx hm (by omega) 0 0 3 0 ⟨#[47, 97, 47, 102]⟩ ⟨#[]⟩ ⟨#[120, 121, 122]⟩ (by simp [ByteArray.size]) (by simp [ByteArray.size])).mono (fun e w' ⟨h1, h2, h3, h4⟩ => ⟨h1, _, _, hf.jTrans h2, h3, h4, Nat.le_trans (writeR_len L F _ _ _) (by omega)⟩)
 have HB1 := hide hb1
 clear hbg hx hm hb1
 go_wp2_with fail
 refine (unhide H1).mono ?_
 rintro e w2 ⟨rfl, L2, F2, hf2, hx2, hm2, hF2⟩
 have h3 := unhide HW w2 L2 F2 hf2 hx2 hm2 hF2
 clear H1 HW hf2 hx2 hm2 hF2
 go_wp2_with fail
 refine h3.mono ?_
 rintro e w3 ⟨rfl, L3, F3, hf3, hx3, hm3, hF3⟩
 have HX3 : Hid (Fr (JT tb w1) w1 w3 ∧ BothW w3 xb vb rb kp ep fs ∧ ∃ L F, Md w3 vb tb rb L F L F ∧ F.length ≤ 0 + 2) := ⟨hf3, hx3, L3, F3, hm3, hF3⟩
 clear h3 hf3 hx3 hm3 hF3
 go_wp2_with fail
 go_loopw [7] (fun i wr => ∃ m : Nat, m ≤ os.length ∧ i = .int .i64 m ∧ Hid (Fr (JT tb w1) w1 wr ∧ BothW wr xb vb rb kp ep fs ∧ ∃ L F, Md wr vb tb rb L F L F ∧ F.length ≤ m + 2)) (fun i _ => os.length - (intOf i).toNat)
 case atStart => exact ⟨0, Nat.zero_le _, rfl, HX3⟩
 case round =>
  obtain ⟨m, hm, rfl, HR⟩ := hrel
  by_cases hlt : m < os.length
  ·obtain ⟨o, ho⟩ : ∃ o, os[m]? = some o := ⟨_, List.getElem?_eq_getElem hlt⟩
   obtain ⟨g, f, rfl, q0, q1, q2, q3, q4, q5, q6⟩ := unhide HSCR wr (unhide HR).1 m o ho
   have HO : Hid o.ok := unhide HOK o (List.mem_of_getElem? ho)
   obtain ⟨k, kk, a, b, s, t, u⟩ := o
   simp only at q0 q1 q2 q3 q4 q5 q6
   have HO2 : Hid (a ≤ 9223372036854775807 ∧ b ≤ 9223372036854775807 ∧ s.size ≤ 1048576 ∧ t.size ≤ 1048576 ∧ u.size ≤ 1048576) := unhide HO
   have HSN := hide ho
   clear ho HO
   by_cases hk : k ≤ 10
   ·have HST : Hid (Calls Tryz.prog 36 #[.pointer (some ⟨xb, 0, none⟩), .agg (opL k kk a b s t u).toArray] wr fun e w' => e = .returned (.bool true) ∧ Hid (Fr (JT tb w1) w1 w' ∧ BothW w' xb vb rb kp ep fs ∧ ∃ L F, Md w' vb tb rb L F L F ∧ F.length ≤ m + 1 + 2)) := by
     obtain ⟨r1, r2, L, F, r3, r4⟩ := unhide HR
     obtain ⟨h1, h2, h3, h4, h5⟩ := unhide HO2
     exact (step_any wr vb tb rb xb kp ep fs L F r2 r3 kk a b s t u (unhide HL) (by omega) k h1 h2 h3 h4 h5).mono (fun e w' ⟨L', F', ⟨h1, h2, h3, h4⟩, h5⟩ => ⟨h1, r1.jTrans h2, h3, L', F', h4, by omega⟩)
    have HKP : Hid (∀ W, Calls Tryz.prog 38 #[.pointer (some ⟨xb, 0, none⟩), .agg (opL k kk a b s t u).toArray] W fun e w' => e = .returned (.bool true) ∧ Below W.heap.size W w') := fun W => keeps_code W _ k kk a b s t u hk
    have HNX : Hid (∀ W W', Below W.heap.size W W' → Hid (Fr (JT tb w1) w1 W ∧ BothW W xb vb rb kp ep fs ∧ ∃ L F, Md W vb tb rb L F L F ∧ F.length ≤ m + 1 + 2) → Hid (Fr (JT tb w1) w1 W' ∧ BothW W' xb vb rb kp ep fs ∧ ∃ L F, Md W' vb tb rb L F L F ∧ F.length ≤ m + 1 + 2)) := fun W W' hb h => by
     obtain ⟨r1, r2, L, F, r3, r4⟩ := unhide h
     exact ⟨r1.jBelow hb, RowIs.jt (tb := tb) r2 (Fr.of_below hb) (by decide), L, F, r3.below hb, r4⟩
    go_wp2_with fail
    refine (unhide HST).mono ?_
    rintro e w4 ⟨rfl, HR4⟩
    obtain ⟨g', f', e', p0, p1, p2, p3, p4, p5, p6⟩ := unhide HSCR w4 (unhide HR4).1 m _ (unhide HSN)
    simp only [Option.some.injEq, Addr.mk.injEq, and_true] at e'
    obtain ⟨rfl, rfl⟩ := e'
    simp only at p0 p1 p2 p3 p4 p5 p6
    clear q0 q1 q2 q3 q4 q5 q6
    go_wp2_with fail
    refine (unhide HKP w4).mono ?_
    rintro e w5 ⟨rfl, hb5⟩
    have HR5 := unhide HNX w4 w5 hb5 HR4
    clear hb5
    go_wp2
    go_roundw
    case rel => first | exact ⟨m + 1, by omega, by go_num, HR5⟩ | ((repeat apply Exists.intro); exact ⟨⟨m + 1, by omega, by go_num, HR5⟩, rfl⟩)
    case measure => simp [intOf]; omega
   ·have HR5 : Hid (Fr (JT tb w1) w1 wr ∧ BothW wr xb vb rb kp ep fs ∧ ∃ L F, Md wr vb tb rb L F L F ∧ F.length ≤ m + 1 + 2) := by
     obtain ⟨r1, r2, L, F, r3, r4⟩ := unhide HR
     exact ⟨r1, r2, L, F, r3, by omega⟩
    go_wp2
    go_roundw
    case rel => first | exact ⟨m + 1, by omega, by go_num, HR5⟩ | ((repeat apply Exists.intro); exact ⟨⟨m + 1, by omega, by go_num, HR5⟩, rfl⟩)
    case measure => simp [intOf]; omega
  ·obtain rfl : m = os.length := by omega
   obtain ⟨r1, r2, L, F, r3, r4⟩ := unhide HR
   have HH : Hid (∀ W', Below wr.heap.size wr W' → Calls Tryz.prog 18 #[.pointer (some ⟨vb, 0, none⟩), .pointer (some ⟨rb, 0, none⟩)] W' fun e w' => e = .returned (.bool true) ∧ PlayPost w (.returned (.bool true)) w' ∧ BothW w' xb vb rb kp ep fs) := fun W' hb =>
    (held_code (unhide HL) W' vb tb rb L F (r3.below hb)).mono (fun e w' h => ⟨h.1, ⟨rfl, ((r1.jBelow hb).jBelow h.2).toBelow (unhide HB1) (unhide HTB)⟩, RowIs.jt (RowIs.jt (tb := tb) r2 (Fr.of_below hb) (by decide)) (tb := tb) (Fr.of_below h.2) (by decide)⟩)
   have y0 : wr.cell? ⟨xb, 0, none⟩ = some (.pointer (some ⟨vb, 0, none⟩)) := (RowIs.cell r2 0).trans rfl
   have y1 : wr.cell? ⟨xb, 1, none⟩ = some (.pointer (some ⟨rb, 0, none⟩)) := (RowIs.cell r2 1).trans rfl
   clear r1 r2 r3 r4 HR
   go_upto_region 18 with fail
   go_region_held3 (fun W => W.cell? ⟨xb, 0, none⟩ = some (.pointer (some ⟨vb, 0, none⟩)) ∧ W.cell? ⟨xb, 1, none⟩ = some (.pointer (some ⟨rb, 0, none⟩))) (go_keep)
    (first | (go_at_call 18; refine (unhide HH _ (Below.refl _ _).drew).mono ?_; rintro e w6 ⟨rfl, hq, hx6⟩; have z0 : w6.cell? ⟨xb, 0, none⟩ = some (.pointer (some ⟨vb, 0, none⟩)) := (RowIs.cell hx6 0).trans rfl; have z1 : w6.cell? ⟨xb, 1, none⟩ = some (.pointer (some ⟨rb, 0, none⟩)) := (RowIs.cell hx6 1).trans rfl))
   all_goals
    go_wp2
    go_ret
    exact hq
theorem files_code (hl : ListLaw) (w : World) (hp : PkgOk w) (sa : Option Addr) (c : Nat) (os : List Op7) (hn : os.length ≤ 1048576) (hok : ∀ o ∈ os, o.ok) (hrd : RdO w sa os) :
  Calls Tryz.prog 3 #[.slice sa os.length c] w (PlayPost w) := by
 have h := play_code hl w hp sa c os hn hok hrd
 clear hp hrd hok hl
 go_enter Tryz.func3, Tryz.ntmps3
 go_wp2_with fail
 refine h.mono ?_
 rintro e w1 ⟨rfl, hq⟩
 go_wp2
 go_ret
 exact ⟨rfl, hq⟩
end Go.Proofs.YtaieidcohdhgpaaGreatDoor
