/- Files. -/
import Derived.Test.YtaieidcohdhgpaaGreatDoorPAH
namespace Go.Proofs.YtaieidcohdhgpaaGreatDoor
open Go.RowKit
set_option maxHeartbeats 1000000
set_option maxRecDepth 100000
def wrR (s : ByteArray) (i : Nat) (d : ByteArray) : ByteArray := longR s i ++ d ++ (if i + d.size < s.size then s.extract (i + d.size) s.size else ⟨#[]⟩)
def putR (F : List ByteArray) (f i : Nat) (d : ByteArray) : List ByteArray := if 0 < d.size then F.set f (wrR (F[f]?.getD ⟨#[]⟩) i d) else F
def writeEnd (L : List (ByteArray × Int)) (F : List ByteArray) (L' : List (ByteArray × Int)) (F' : List ByteArray) : Int × List (ByteArray × Int) × List ByteArray :=
 if 160 < usageR L' F' then (9, L, F) else (0, L', F')
def writeR (L : List (ByteArray × Int)) (F : List ByteArray) (p : ByteArray) (i : Int) (d : ByteArray) : Int × List (ByteArray × Int) × List ByteArray :=
 if nmOk p = false then (1, L, F) else
 if i < 0 ∨ 1280 < i ∨ 1280 < i + d.size then (2, L, F) else
 if aheadR L p ≠ 0 then (aheadR L p, L, F) else
 if (p.toList == [47]) = true then (5, L, F) else
 match look L p with
 | none => if roomR L F p 1 = false then (8, L, F) else writeEnd L F (L ++ [(p, (F.length : Int))]) (putR (F ++ [⟨#[]⟩]) F.length i.toNat d)
 | some f => if f < 0 then (5, L, F) else writeEnd L F L (putR F f.toNat i.toNat d)
theorem appF (w W : World) (rb : Nat) (vl vf : Value) (L : List (ByteArray × Int)) (F : List ByteArray) (h : RefW w rb vl vf L F) (hbb : Below w.heap.size w W) (hF : F.length + 1 ≤ 2000000) (s : ByteArray) (hs : s.size ≤ 2000000)
  (nb : Nat) (hnb : RowIs W nb 9 [.string s]) :
  ∃ a' n' c' w2, (Builtin.append_ #[84, 84] 84 #[vf, .slice (some ⟨nb, 0, none⟩) 1 1]).run Tryz.prog W = .ok (.slice a' n' c') w2 ∧ w2.cell? ⟨rb, 1, none⟩ = some vf ∧ w2.frozen? ⟨rb, 1, none⟩ = false ∧
   Hid (RefPost w rb vl vf (w2.setCell ⟨rb, 1, none⟩ (.slice a' n' c')) L (F ++ [s])) := by
 obtain ⟨i0, hi0, hz0, hz1, hz2⟩ := info_parts info9
 have h1 : RefW W rb vl vf L F := h.fr (X := fun _ => False) (Fr.of_below hbb) (fun _ _ => id)
 obtain ⟨v', w2, r1, r2, r3, r4⟩ := append_new (P := Tryz.prog) W 84 84 9 i0 _ 1 16 Tryz.underlying84 hi0 hz0 hz1 hz2 rfl (by decide) vf F.length (F.map .string) h1.sf ⟨nb, 0, none⟩ 1 1 [.string s] rfl
  (fun j u hu => by rw [Addr.add_lit, Nat.zero_add, hnb.cell]; exact hu) (by intro u hu; simp at hu; subst hu; rfl) (by unfold maxLen; omega) (by omega)
 obtain ⟨a', n', c', rfl⟩ := r2.shape
 have hrb : w2.heap[rb]? = W.heap[rb]? := r3.block rb h1.hd.lt (fun e => h.nef e.symm)
 have hd2 : RowIs w2 rb 89 [vl, vf] := by unfold RowIs; rw [hrb]; exact h1.hd
 refine ⟨a', n', c', w2, r1, (hd2.cell 1).trans rfl, hd2.frozen 1, vl, .slice a' n' c', ⟨?_, ?_, ?_, h.nl, ?_, h.ok, ?_, ?_⟩, ?_, ?_⟩
 ·exact hd2.set 1 _
 ·refine (h1.sl.kept (w' := w2) (fun k hk e => r3.block k hk (fun e' => ?_))).setCell ⟨rb, 1, none⟩ _ (fun e => h.nel e)
  exact h.sep k e e'.symm
 ·have hne : (Value.slice a' n' c').ownBlock ≠ some rb := fun e => by
   obtain ⟨R, hR⟩ := r2.type e
   exact absurd (hR.type hd2) (by decide)
  have := r2.setCell ⟨rb, 1, none⟩ (.slice a' n' c') hne
  rw [List.length_append, List.map_append]
  exact this
 ·simpa using hF
 ·intro x hx
  rcases List.mem_append.1 hx with hx | hx
  ·exact h.okf x hx
  ·simp at hx; subst hx; exact hs
 ·intro g hg e
  rcases r4 g e with h' | h'
  ·exact h.sep g hg h'
  ·have := h1.sl.lt hg; omega
 ·refine Fr.set ⟨r3.os.trans hbb.os, r3.tape.trans hbb.tape, r3.output.trans hbb.output, Nat.le_trans hbb.size r3.size, fun k hk hn => ?_⟩ _ _ (.inl rfl)
  rw [r3.block k (Nat.lt_of_lt_of_le hk hbb.size) (fun e => hn (.inr (.inr e.symm))), hbb.block k hk]
 ·rintro k (rfl | hk | hk)
  ·exact .inl (.inl rfl)
  ·exact .inl (.inr (.inl hk))
  ·rcases r4 k hk with h' | h'
   ·exact .inl (.inr (.inr h'))
   ·exact .inr (Nat.le_trans hbb.size h')
def WrMid (w2 w5 : World) (L : List (ByteArray × Int)) (F : List ByteArray) (m : Nat) (d : ByteArray) (R : Int × List (ByteArray × Int) × List ByteArray) (t : Value) : Prop :=
 ∃ (k f : Nat) (x : ByteArray × Int) (vl' vf' : Value) (L' : List (ByteArray × Int)) (F' : List ByteArray), t = .int .i64 k ∧ L'[k]? = some x ∧ x.2 = f ∧ f < F'.length ∧ RefW w5 w2.heap.size vl' vf' L' F' ∧ Below w2.heap.size w2 w5 ∧ (∀ j, RefOwn w2.heap.size vl' vf' j → w2.heap.size ≤ j) ∧ R = writeEnd L F L' (putR F' f m d)
def WrLate (w2 w6 : World) (L' : List (ByteArray × Int)) (F' : List ByteArray) : Prop := ∃ vl' vf', RefW w6 w2.heap.size vl' vf' L' F' ∧ Below w2.heap.size w2 w6 ∧ (∀ j, RefOwn w2.heap.size vl' vf' j → w2.heap.size ≤ j)
theorem wrR_size (s : ByteArray) (m : Nat) (d : ByteArray) : (wrR s m d).size = max (m + d.size) s.size := by
 unfold wrR
 rw [ByteArray.size_append, ByteArray.size_append, longR_size]
 split
 ·rw [ByteArray.size_extract]; omega
 ·have : (ByteArray.mk #[]).size = 0 := rfl
  omega
theorem below_fr {X : Nat → Prop} {w w3 w4 : World} (hb : Below w.heap.size w w3) (hf : Fr X w3 w4) (hX : ∀ k, X k → w.heap.size ≤ k) : Below w.heap.size w w4 :=
 ⟨hf.os.trans hb.os, hf.tape.trans hb.tape, hf.output.trans hb.output, Nat.le_trans hb.size hf.size, fun k hk => (hf.block k (Nat.lt_of_lt_of_le hk hb.size) (fun e => absurd (hX k e) (by omega))).trans (hb.block k hk)⟩
theorem newFile (wc w3 : World) (xb : Nat) (vl' vf' : Value) (L : List (ByteArray × Int)) (F : List ByteArray) (hx : RefW w3 xb vl' vf' L F) (hb3 : Below wc.heap.size wc w3) (hn3 : ∀ j, RefOwn xb vl' vf' j → wc.heap.size ≤ j) (hL : L.length + 1 ≤ 2000000) (hF : F.length + 1 ≤ 2000000) (p : ByteArray) (hp : p.size ≤ 2000000) (hsl : HasSl p) :
  ∃ a1 n1 c1 w4, (Builtin.append_ #[87, 87] 87 #[vl', .slice (some ⟨w3.heap.size, 0, none⟩) 1 1]).run Tryz.prog (w3.alloc (.cells #[.string p, .int .i64 F.length] 103)).drew = .ok (.slice a1 n1 c1) w4 ∧ w4.cell? ⟨xb, 0, none⟩ = some vl' ∧ w4.frozen? ⟨xb, 0, none⟩ = false ∧ xb < w4.heap.size ∧
   ∃ a2 n2 c2, w4.cell? ⟨xb, 1, none⟩ = some (.slice a2 n2 c2) ∧
   ∃ a3 n3 c3 w5, (Builtin.append_ #[84, 84] 84 #[.slice a2 n2 c2, .slice (some ⟨w4.heap.size, 0, none⟩) 1 1]).run Tryz.prog ((w4.setCell ⟨xb, 0, none⟩ (.slice a1 n1 c1)).alloc (.cells #[.string ⟨#[]⟩] 9)) = .ok (.slice a3 n3 c3) w5 ∧ w5.cell? ⟨xb, 1, none⟩ = some (.slice a2 n2 c2) ∧ w5.frozen? ⟨xb, 1, none⟩ = false ∧
    Hid (∃ vl2 vf2, RefW (w5.setCell ⟨xb, 1, none⟩ (.slice a3 n3 c3)) xb vl2 vf2 (L ++ [(p, (F.length : Int))]) (F ++ [⟨#[]⟩]) ∧ Below wc.heap.size wc (w5.setCell ⟨xb, 1, none⟩ (.slice a3 n3 c3)) ∧ (∀ j, RefOwn xb vl2 vf2 j → wc.heap.size ≤ j)) := by
 obtain ⟨a1, n1, c1, w4, r1, r2, r3, r4⟩ := appL w3 (w3.alloc (.cells #[.string p, .int .i64 F.length] 103)).drew xb vl' vf' L F hx (((Below.refl _ _).alloc (Nat.le_refl _) _).drew) hL p F.length hp hsl w3.heap.size (heap_alloc_new w3 _)
 obtain ⟨vl1, vf1, h1, f1, o1⟩ := unhide r4
 obtain ⟨a2, n2, c2, rfl⟩ := h1.sf.shape
 have e1 : w4.cell? ⟨xb, 1, none⟩ = some (.slice a2 n2 c2) := (World.cell?_setCell_other _ _ _ _ (by simp)).symm.trans h1.c.c1
 have hsz : (w4.setCell ⟨xb, 0, none⟩ (.slice a1 n1 c1)).heap.size = w4.heap.size := by simp [World.setCell]
 have hxl : xb < w4.heap.size := by rw [← hsz]; exact h1.hd.lt
 have o1' : ∀ j, RefOwn xb vl1 (.slice a2 n2 c2) j → wc.heap.size ≤ j := fun j hj => (o1 j hj).elim (hn3 j) (fun h => Nat.le_trans hb3.size h)
 have b1 := below_fr hb3 f1 hn3
 obtain ⟨a3, n3, c3, w5, s1, s2, s3, s4⟩ := appF (w4.setCell ⟨xb, 0, none⟩ (.slice a1 n1 c1)) ((w4.setCell ⟨xb, 0, none⟩ (.slice a1 n1 c1)).alloc (.cells #[.string ⟨#[]⟩] 9)) xb vl1 (.slice a2 n2 c2) _ F h1 ((Below.refl _ _).alloc (Nat.le_refl _) _) hF ⟨#[]⟩ (by decide) _ (heap_alloc_new _ _)
 rw [hsz] at s1
 obtain ⟨vl2, vf2, h2, f2, o2⟩ := unhide s4
 exact ⟨a1, n1, c1, w4, r1, r2, r3, hxl, a2, n2, c2, e1, a3, n3, c3, w5, s1, s2, s3, vl2, vf2, h2, below_fr b1 f2 o1', fun j hj => (o2 j hj).elim (o1' j) (fun h => Nat.le_trans b1.size h)⟩
theorem write_ref (w : World) (rb : Nat) (vl vf : Value) (L : List (ByteArray × Int)) (F : List ByteArray) (h : RefW w rb vl vf L F) (hfv : ∀ x ∈ L, x.2 < F.length) (hL : L.length + 1 ≤ 2000000) (hF : F.length + 1 ≤ 2000000) (p : ByteArray) (hp : p.size ≤ 2000000) (i : Int) (d : ByteArray) (hd : d.size ≤ 2000000) :
  Calls Tryz.prog 47 #[.pointer (some ⟨rb, 0, none⟩), .string p, .int .i64 i, .string d] w fun e w' => e = .returned (.int .i64 (writeR L F p i d).1) ∧ RefPost w rb vl vf w' (writeR L F p i d).2.1 (writeR L F p i d).2.2 := by
 obtain ⟨R, hR⟩ : ∃ R, R = writeR L F p i d := ⟨_, rfl⟩
 rw [← hR]
 unfold writeR at hR
 have HW := hide h
 have HFV := hide hfv
 obtain ⟨av, cv, rfl, hrd⟩ := h.sl.rdL
 have HRD := hide hrd
 have hSame : Hid (∀ e0 w', R = (e0, L, F) → Below w.heap.size w w' → R.1 = e0 ∧ RefPost w rb (.slice av L.length cv) vf w' R.2.1 R.2.2) := fun e0 w' e hb => by
  rw [e]; exact ⟨rfl, RefPost.same h hb⟩
 clear h hrd hfv
 go_enter Tryz.func47, Tryz.ntmps47
 go_wp2_with fail
 refine (names_ref p _ hp).mono ?_
 rintro e w2 ⟨a2, n2, c2, rfl, _, hb⟩
 cases hob : nmOk p with
 | false =>
  have hR2 : R = (1, L, F) := by rw [hR, hob]; rfl
  have H1 := hide hR2
  clear hR hR2
  go_wp2
  go_ret
  exact (unhide hSame _ _ (unhide H1) hb).elim fun a b => ⟨by rw [a] <;> rfl, b⟩
 | true =>
 rw [hob, if_neg (by simp)] at hR
 by_cases hneg : i < 0
 ·have hR2 : R = (2, L, F) := by rw [hR, if_pos (.inl hneg)]
  have H1 := hide hR2
  clear hR hR2
  go_wp2
  go_ret
  exact (unhide hSame _ _ (unhide H1) hb).elim fun a b => ⟨by rw [a] <;> rfl, b⟩
 by_cases hneg2 : 1280 < i
 ·have hR2 : R = (2, L, F) := by rw [hR, if_pos (.inr (.inl hneg2))]
  have H1 := hide hR2
  clear hR hR2
  go_wp2
  go_ret
  exact (unhide hSame _ _ (unhide H1) hb).elim fun a b => ⟨by rw [a] <;> rfl, b⟩
 obtain ⟨m, rfl⟩ : ∃ m : Nat, i = m := ⟨i.toNat, by omega⟩
 by_cases hneg3 : (1280 : Int) < m + d.size
 ·have hR2 : R = (2, L, F) := by rw [hR, if_pos (.inr (.inr hneg3))]
  have H1 := hide hR2
  clear hR hR2
  go_wp2
  go_ret
  exact (unhide hSame _ _ (unhide H1) hb).elim fun a b => ⟨by rw [a] <;> rfl, b⟩
 rw [if_neg (by omega), Int.toNat_natCast] at hR
 obtain ⟨e1, he1⟩ : ∃ e1, e1 = aheadR L p := ⟨_, rfl⟩
 have hah : Calls Tryz.prog 104 #[.pointer (some ⟨rb, 0, none⟩), .string p] w2 fun e w'' => e = .returned (.int .i64 (aheadR L p)) ∧ w'' = w2 := ((unhide HW).at hb).ahead p hp
 rw [← he1] at hR hah
 by_cases h0 : e1 ≠ 0
 ·have hbb : (e1 != 0) = true := by rw [bne_iff_ne]; exact h0
  rw [if_pos h0] at hR
  clear h0 he1
  have H1 := hide hR
  clear hR
  go_wp2_with (go_at_call 104; refine hah.mono ?_; rintro e w' ⟨rfl, hw⟩; rw [hw]; clear hw)
  go_ret
  exact (unhide hSame _ _ (unhide H1) hb).elim fun a b => ⟨by rw [a] <;> rfl, b⟩
 rw [if_neg h0] at hR
 obtain rfl : e1 = 0 := by omega
 clear h0 he1
 go_wp2_with (go_at_call 104; refine hah.mono ?_; rintro e w' ⟨rfl, hw⟩; rw [hw]; clear hw)
 have hfd := ((unhide HW).at hb).find p
 refine hfd.mono ?_
 rintro e w' ⟨r, ⟨rfl, hfi⟩, hw⟩
 rw [hw]; clear hw hfd
 have hcw := ((unhide HW).at hb).c.c0
 have hcw1 := ((unhide HW).at hb).c.c1
 clear hah
 cases h1 : (p.toList == [47]) with
 | true =>
  have h1' : (p.toList != [47]) = false := by simp only [bne, h1]; rfl
  rw [if_pos h1] at hR
  clear hfi
  have H1 := hide hR
  clear hR
  go_wp2
  go_ret
  exact (unhide hSame _ _ (unhide H1) hb).elim fun a b => ⟨by rw [a] <;> rfl, b⟩
 | false =>
 rw [if_neg (by rw [h1]; simp)] at hR
 have h1' : (p.toList != [47]) = true := by simp only [bne, h1]; rfl
 have hdec : (∃ k x, r = ((k : Nat) : Int) ∧ L[k]? = some x ∧ x.2 < 0 ∧ R = (5, L, F)) ∨ ((r = -1 ∧ R = if roomR L F p 1 = false then (8, L, F) else writeEnd L F (L ++ [(p, (F.length : Int))]) (putR (F ++ [⟨#[]⟩]) F.length m d)) ∨ (∃ (k : Nat) (x : ByteArray × Int) (f : Nat), r = k ∧ L[k]? = some x ∧ x.2 = f ∧ f < F.length ∧ R = writeEnd L F L (putR F f m d))) := by
  rcases hfi with ⟨rfl, hno⟩ | ⟨k, x, rfl, hk', hx, hfst⟩
  ·have hl : look L p = none := (look_of_find (.inl ⟨rfl, hno⟩)).elim (fun h => h.2) (fun ⟨_, _, h, _⟩ => by omega)
   rw [hl] at hR
   exact .inr (.inl ⟨rfl, hR⟩)
  ·rw [FindIs.look hk' hx hfst] at hR
   by_cases hx0 : x.2 < 0
   ·exact .inl ⟨k, x, rfl, hk', hx0, by rw [hR]; simp [hx0]⟩
   ·have hfl := unhide HFV x (List.mem_of_getElem? hk')
    refine .inr (.inr ⟨k, x, x.2.toNat, rfl, hk', by omega, by omega, ?_⟩)
    rw [hR]; simp [hx0]
 clear hfi hR
 rcases hdec with ⟨k, x, rfl, hk', hx0, hR⟩ | hdec
 ·obtain ⟨g, rfl, q0, q1⟩ := (unhide HRD) k x hk'
  have hg : g < w.heap.size := (unhide HW).sl.lt rfl
  have q1' := (hb.cell (p := ⟨g, k * 2 + 1, none⟩) hg).trans q1
  have hkl := (List.getElem?_eq_some_iff.1 hk').1
  clear hk' q0 q1
  have H1 := hide hR
  clear hR
  go_wp2
  go_ret
  exact (unhide hSame _ _ (unhide H1) hb).elim fun a b => ⟨by rw [a] <;> rfl, b⟩
 go_upto_region 10 with fail
 go_cut [64] (fun t wc => t = .bool false ∧ wc = w2)
 case first =>
  rcases hdec with ⟨rfl, hR⟩ | ⟨k, x, f, rfl, hk', hf, hfl, hR⟩
  ·clear hR
   go_wp2
   go_meet
   exact ⟨rfl, rfl⟩
  ·clear hR
   obtain ⟨g, rfl, q0, q1⟩ := (unhide HRD) k x hk'
   have hg : g < w.heap.size := (unhide HW).sl.lt rfl
   have q1' := (hb.cell (p := ⟨g, k * 2 + 1, none⟩) hg).trans q1
   have hkl := (List.getElem?_eq_some_iff.1 hk').1
   rw [hf] at q1'
   clear hk' q0 q1
   go_wp2
   go_meet
   exact ⟨rfl, rfl⟩
 case rest =>
 obtain ⟨rfl, hwc⟩ := hcut
 obtain rfl := hwc.symm
 have HDEC := hide hdec
 clear hdec hcw hcw1
 have hcp : Hid (Calls Tryz.prog 106 #[.pointer (some ⟨rb, 0, none⟩)] w2 fun e w' => e = .returned (.pointer (some ⟨w2.heap.size, 0, none⟩)) ∧ ∃ vl' vf', RefW w' w2.heap.size vl' vf' L F ∧ Below w2.heap.size w2 w' ∧ ∀ k, RefOwn w2.heap.size vl' vf' k → w2.heap.size ≤ k) := copy_ref w2 rb _ vf L F ((unhide HW).at hb)
 have hneg3' : m + d.size ≤ 1280 := by omega
 go_wp2_with fail
 refine (unhide hcp).mono ?_
 rintro e w3 ⟨rfl, vl', vf', hx3, hb3, hn3⟩
 clear hcp
 have HX3 := hide hx3
 have HN3 := hide hn3
 obtain ⟨al, cl, rfl, hrd'⟩ := hx3.sl.rdL
 obtain ⟨af, cf, rfl, hrf'⟩ := hx3.sf.rdF
 have v0 := hx3.c.c0
 have v1 := hx3.c.c1
 have hnf := hx3.nf
 have hnl := hx3.nl
 clear hx3 hn3 hrd' hrf'
 go_upto_if 68 with fail
 go_cut [12, 14] (fun t _ w5 => WrMid w2 w5 L F m d R t)
 case first =>
  rcases unhide HDEC with ⟨rfl, hR⟩ | ⟨k, x, f, rfl, hk', hf, hfl, hR⟩
  ·have hrm := room_ref w3 rb _ vf L F ((unhide HW).at (hb.trans (hb3.mono hb.size))).c p hp (hasSl_of_ok p hob) 1 (by omega)
   cases hroom : roomR L F p 1 with
   | false =>
    rw [if_pos hroom] at hR
    rw [hroom] at hrm
    have H1 := hide hR
    clear hR HDEC
    go_wp2_with (go_at_call 102; refine hrm.mono ?_; rintro e w' ⟨rfl, hw⟩; rw [hw]; clear hw)
    go_ret
    exact (unhide hSame _ _ (unhide H1) (hb.trans (hb3.mono hb.size))).elim fun a b => ⟨by rw [a] <;> rfl, b⟩
   | true =>
    rw [if_neg (by rw [hroom]; simp)] at hR
    rw [hroom] at hrm
    obtain ⟨a1, n1, c1, w4, r1, r2, r3, hxl, a2', n2', c2', e1, a3, n3, c3, w5, s1, s2, s3, s4⟩ := newFile w2 w3 _ _ _ L F (unhide HX3) hb3 (unhide HN3) hL hF p hp (hasSl_of_ok p hob)
    have HP : Hid (WrMid w2 (w5.setCell ⟨w2.heap.size, 1, none⟩ (.slice a3 n3 c3)) L F m d R (.int .i64 (L.length : Nat))) := by
     obtain ⟨vl2, vf2, h2, b2, o2⟩ := unhide s4
     exact ⟨L.length, F.length, (p, (F.length : Int)), vl2, vf2, _, _, rfl, by simp, rfl, by simp, h2, b2, o2, hR⟩
    have hxl3 : w2.heap.size < w3.heap.size := (unhide HX3).hd.lt
    clear hR HDEC s4
    go_wp2_with (go_at_call 102; refine hrm.mono ?_; rintro e w' ⟨rfl, hw⟩; rw [hw]; clear hw)
    go_region_law (refine step_append_run rfl _ _ 87 87 rfl _ _ (by simp [Act.eval]) (by simp [Act.eval]) r1 ?_)
    all_goals
     go_wp2_with (at_builtin; refine Lib.wpList_append_run _ rfl _ _ 84 84 rfl _ _ rfl rfl _ _ s1 ?_; clear s1)
     go_meet
     exact unhide HP
  ·have HP : Hid (WrMid w2 w3 L F m d R (.int .i64 k)) := ⟨k, f, x, _, _, L, F, rfl, hk', hf, hfl, unhide HX3, hb3, unhide HN3, hR⟩
   clear hR hk' hf
   go_wp2
   go_meet
   exact unhide HP
 case rest =>
 obtain ⟨k, f, x, vl2, vf2, L', F', rfl, hk', hf, hfl, hx5, hb5, hn5, hR⟩ := hcut
 clear HDEC v0 v1 HX3 HN3
 obtain ⟨a5, c5, rfl, hrd5⟩ := hx5.sl.rdL
 obtain ⟨b5, d5, rfl, hrf5⟩ := hx5.sf.rdF
 obtain ⟨g', rfl, q0', q1⟩ := hrd5 k x hk'
 rw [hf] at q1
 have hFf : F'[f]? = some F'[f] := List.getElem?_eq_getElem hfl
 obtain ⟨gf, rfl, s0⟩ := hrf5 f _ hFf
 have hkl := (List.getElem?_eq_some_iff.1 hk').1
 have v0 := hx5.c.c0
 have v1 := hx5.c.c1
 have hnf5 := hx5.nf
 have hnl5 := hx5.nl
 have hsz : F'[f].size ≤ 2000000 := hx5.okf _ (List.getElem_mem _)
 obtain ⟨s, hs⟩ : ∃ s, s = F'[f] := ⟨_, rfl⟩
 rw [← hs] at s0 hsz
 have HX5 := hide hx5
 have HN5 := hide hn5
 have HPF : Hid (putR F' f m d = if 0 < d.size then F'.set f (wrR s m d) else F') := by unfold Hid putR; rw [hFf, hs]; rfl
 have HR := hide hR
 clear q0' hrd5 hrf5 hk' hf hFf hs hR hx5 hn5
 go_upto_if 121 with fail
 go_cut [17, 18] (fun _ _ w6 => WrLate w2 w6 L' (putR F' f m d))
 case first =>
  by_cases hd0 : 0 < d.size
  ·have hd0' : (0 : Int) < (d.size : Int) := by omega
   have hws := wrR_size s m d
   have hne1 : gf ≠ w2.heap.size := fun e => (unhide HX5).nef (by rw [e]; rfl)
   have hne3 : w2.heap.size ≠ gf := fun e => hne1 e.symm
   have HLG : Hid (∀ W, Calls Tryz.prog 107 #[.string s, .int .i64 m] W fun e w' => e = .returned (.string (longR s m)) ∧ Below W.heap.size W w') := fun W => long_ref s m W hsz (by omega)
   have HC : Hid (∀ w4, Below wc.drew.heap.size wc.drew w4 → w4.cell? ⟨gf, f, none⟩ = some (.string s) ∧ w4.frozen? ⟨gf, f, none⟩ = false ∧ w4.cell? ⟨w2.heap.size, 1, none⟩ = some (.slice (some ⟨gf, 0, none⟩) F'.length d5) ∧ Hid (WrLate w2 (w4.setCell ⟨gf, f, none⟩ (.string (wrR s m d))) L' (putR F' f m d))) := fun w4 hb4 => by
    have hb4' : Below wc.heap.size wc w4 := ⟨hb4.os, hb4.tape, hb4.output, hb4.size, hb4.block⟩
    have h4 := (unhide HX5).at hb4'
    obtain ⟨Rr, hRr⟩ := h4.sf.type (g := gf) rfl
    refine ⟨(hb4'.cell (p := ⟨gf, f, none⟩) ((unhide HX5).sf.lt rfl)).trans s0, hRr.frozen f, h4.c.c1, _, _, ?_, ?_, unhide HN5⟩
    ·rw [unhide HPF, if_pos hd0]; exact h4.setF f hfl _ (by omega)
    ·exact (hb5.trans (hb4'.mono hb5.size)).setCell (p := ⟨gf, f, none⟩) (unhide HN5 gf (.inr (.inr rfl))) _
   have hls := longR_size s m
   by_cases hmd : m + d.size < s.size
   ·have hwr : wrR s m d = longR s m ++ d ++ s.extract (m + d.size) s.size := by unfold wrR; rw [if_pos hmd]
    have HWR := hide hwr
    clear hwr hws
    go_wp2_with fail
    refine wp_region_held_drew (S := fun W => W.cell? ⟨w2.heap.size, 1, none⟩ = some (.slice (some ⟨gf, 0, none⟩) F'.length d5)) (by kernel_rfl) (by go_keep) (fun hHeld => ?_)
    refine wpAnyH_take (i := 0) (v := ?_) rfl (by kernel_rfl) (by kernel_rfl) (by kernel_rfl) (fun _ _ _ h => h) (Or.inl ⟨by rfl, ?_⟩) (by assumption) ?_
    rotate_left
    ·intro w hSw; (try dsimp only at hSw); go_simp <;> with_reducible rfl
    (try simp only [pE])
    refine wpAnyH_take (i := 1) (v := ?_) rfl (by kernel_rfl) (by kernel_rfl) (by kernel_rfl) (fun _ _ _ h => h) (Or.inl ⟨by rfl, ?_⟩) (by assumption) ?_
    rotate_left
    ·intro w hSw; (try dsimp only at hSw); go_simp <;> with_reducible rfl
    (try simp only [Act.put])
    refine wpAnyH_take (i := 2) (v := ?_) rfl (by kernel_rfl) (by kernel_rfl) (by kernel_rfl) (fun _ _ _ h => h) (Or.inl ⟨by rfl, ?_⟩) (by assumption) ?_
    rotate_left
    ·intro w hSw; (try dsimp only at hSw); go_simp <;> with_reducible rfl
    (try simp only [Act.put])
    refine wpAnyH_take (i := 3) (v := ?_) rfl (by kernel_rfl) (by kernel_rfl) (by kernel_rfl) (fun _ _ _ h => h) (Or.inl ⟨by rfl, ?_⟩) (by assumption) ?_
    rotate_left
    ·intro w hSw; (try dsimp only at hSw); go_simp <;> with_reducible rfl
    (try simp only [Act.put])
    refine wpAnyH_take (i := 4) (v := ?_) rfl (by kernel_rfl) (by kernel_rfl) (by kernel_rfl) (fun _ _ _ h => h) (Or.inl ⟨by rfl, ?_⟩) (by assumption) ?_
    rotate_left
    ·intro w hSw; (try dsimp only at hSw); go_simp <;> with_reducible rfl
    (try simp only [Act.put])
    refine wpAnyH_take (i := 5) (v := ?_) rfl (by kernel_rfl) (by kernel_rfl) (by kernel_rfl) (fun _ _ _ h => h) (Or.inl ⟨by rfl, ?_⟩) (by assumption) ?_
    rotate_left
    ·intro w hSw; (try dsimp only at hSw); go_simp <;> with_reducible rfl
    (try simp only [Act.put])
    refine wpAnyH_take (i := 6) (v := ?_) rfl (by kernel_rfl) (by kernel_rfl) (by kernel_rfl) (fun _ _ _ h => h) (Or.inl ⟨by rfl, ?_⟩) (by assumption) ?_
    rotate_left
    ·intro w hSw; (try dsimp only at hSw); go_simp <;> with_reducible rfl
    (try simp only [Act.put])
    refine wpAnyH_take (i := 8) (v := ?_) rfl (by kernel_rfl) (by kernel_rfl) (by kernel_rfl) (fun _ _ _ h => h) (Or.inl ⟨by rfl, ?_⟩) (by assumption) ?_
    rotate_left
    ·intro w hSw; (try dsimp only at hSw); go_simp <;> with_reducible rfl
    (try simp only [Act.put])
    refine wpAnyH_take (i := 10) (v := ?_) rfl (by kernel_rfl) (by kernel_rfl) (by kernel_rfl) (fun _ _ _ h => h) (Or.inl ⟨by rfl, ?_⟩) (by assumption) ?_
    rotate_left
    ·intro w hSw; (try dsimp only at hSw); go_simp <;> with_reducible rfl
    (try simp only [Act.put])
    refine wpAnyH_ready (rs := [7]) (by kernel_rfl) (by simp) ?_
    refine AllReadyH.cons rfl (fun K hK => ?_) AllReadyH.nil
    go_simp
    go_at_call 107
    refine (unhide HLG _).mono ?_
    rintro e w4 ⟨rfl, hb4⟩
    obtain ⟨z1, z2, z3, z4⟩ := unhide HC w4 hb4
    go_wp2_with fail
    refine hK.out _ _ (by go_keep) (fun hHeld1 => ?_)
    clear hK K hHeld
    (try simp only [pE])
    refine wpAnyH_take (i := 9) (v := ?_) rfl (by kernel_rfl) (by kernel_rfl) (by kernel_rfl) (fun _ _ _ h => h) (Or.inl ⟨by rfl, ?_⟩) (by assumption) ?_
    rotate_left
    ·intro w hSw; (try dsimp only at hSw); go_simp
     rw [if_neg (by first | omega | (simp only [ByteArray.size_append, ByteArray.size_extract]; omega))]
    (try simp only [pE])
    refine wpAnyH_take (i := 11) (v := ?_) rfl (by kernel_rfl) (by kernel_rfl) (by kernel_rfl) (fun _ _ _ h => h) (Or.inl ⟨by rfl, ?_⟩) (by assumption) ?_
    rotate_left
    ·intro w hSw; (try dsimp only at hSw); go_simp
     rw [if_neg (by first | omega | (simp only [ByteArray.size_append, ByteArray.size_extract]; omega))]
    (try simp only [Act.put])
    refine wpAnyH_take (i := 12) (v := ?_) rfl (by kernel_rfl) (by kernel_rfl) (by kernel_rfl) (fun _ _ _ h => h) (Or.inl ⟨by rfl, ?_⟩) (by assumption) ?_
    rotate_left
    ·intro w hSw; (try dsimp only at hSw); go_simp <;> with_reducible rfl
    (try simp only [Act.put])
    refine wpAnyH_ready (rs := [13]) (by kernel_rfl) (by simp) ?_
    refine AllReadyH.cons rfl (fun K hK => ?_) AllReadyH.nil
    go_simp
    refine hK.out _ _ (by go_keep) (fun hHeld2 => ?_)
    clear hK K hHeld1
    (try simp only [pE])
    refine wpAnyH_done (by kernel_rfl) ?_ _
    clear hHeld2
    go_wp2
    go_meet
    rw [← unhide HWR]; exact unhide z4
   ·have hwr : wrR s m d = longR s m ++ d ++ ⟨#[]⟩ := by unfold wrR; rw [if_neg hmd]
    have HWR := hide hwr
    clear hwr hws
    go_wp2_with fail
    refine wp_region_held_drew (S := fun W => W.cell? ⟨w2.heap.size, 1, none⟩ = some (.slice (some ⟨gf, 0, none⟩) F'.length d5)) (by kernel_rfl) (by go_keep) (fun hHeld => ?_)
    refine wpAnyH_take (i := 0) (v := ?_) rfl (by kernel_rfl) (by kernel_rfl) (by kernel_rfl) (fun _ _ _ h => h) (Or.inl ⟨by rfl, ?_⟩) (by assumption) ?_
    rotate_left
    ·intro w hSw; (try dsimp only at hSw); go_simp <;> with_reducible rfl
    (try simp only [pE])
    refine wpAnyH_take (i := 1) (v := ?_) rfl (by kernel_rfl) (by kernel_rfl) (by kernel_rfl) (fun _ _ _ h => h) (Or.inl ⟨by rfl, ?_⟩) (by assumption) ?_
    rotate_left
    ·intro w hSw; (try dsimp only at hSw); go_simp <;> with_reducible rfl
    (try simp only [Act.put])
    refine wpAnyH_take (i := 2) (v := ?_) rfl (by kernel_rfl) (by kernel_rfl) (by kernel_rfl) (fun _ _ _ h => h) (Or.inl ⟨by rfl, ?_⟩) (by assumption) ?_
    rotate_left
    ·intro w hSw; (try dsimp only at hSw); go_simp <;> with_reducible rfl
    (try simp only [Act.put])
    refine wpAnyH_take (i := 3) (v := ?_) rfl (by kernel_rfl) (by kernel_rfl) (by kernel_rfl) (fun _ _ _ h => h) (Or.inl ⟨by rfl, ?_⟩) (by assumption) ?_
    rotate_left
    ·intro w hSw; (try dsimp only at hSw); go_simp <;> with_reducible rfl
    (try simp only [Act.put])
    refine wpAnyH_take (i := 4) (v := ?_) rfl (by kernel_rfl) (by kernel_rfl) (by kernel_rfl) (fun _ _ _ h => h) (Or.inl ⟨by rfl, ?_⟩) (by assumption) ?_
    rotate_left
    ·intro w hSw; (try dsimp only at hSw); go_simp <;> with_reducible rfl
    (try simp only [Act.put])
    refine wpAnyH_take (i := 5) (v := ?_) rfl (by kernel_rfl) (by kernel_rfl) (by kernel_rfl) (fun _ _ _ h => h) (Or.inl ⟨by rfl, ?_⟩) (by assumption) ?_
    rotate_left
    ·intro w hSw; (try dsimp only at hSw); go_simp <;> with_reducible rfl
    (try simp only [Act.put])
    refine wpAnyH_take (i := 6) (v := ?_) rfl (by kernel_rfl) (by kernel_rfl) (by kernel_rfl) (fun _ _ _ h => h) (Or.inl ⟨by rfl, ?_⟩) (by assumption) ?_
    rotate_left
    ·intro w hSw; (try dsimp only at hSw); go_simp <;> with_reducible rfl
    (try simp only [Act.put])
    refine wpAnyH_take (i := 8) (v := ?_) rfl (by kernel_rfl) (by kernel_rfl) (by kernel_rfl) (fun _ _ _ h => h) (Or.inl ⟨by rfl, ?_⟩) (by assumption) ?_
    rotate_left
    ·intro w hSw; (try dsimp only at hSw); go_simp <;> with_reducible rfl
    (try simp only [Act.put])
    refine wpAnyH_take (i := 10) (v := ?_) rfl (by kernel_rfl) (by kernel_rfl) (by kernel_rfl) (fun _ _ _ h => h) (Or.inl ⟨by rfl, ?_⟩) (by assumption) ?_
    rotate_left
    ·intro w hSw; (try dsimp only at hSw); go_simp <;> with_reducible rfl
    (try simp only [Act.put])
    refine wpAnyH_ready (rs := [7]) (by kernel_rfl) (by simp) ?_
    refine AllReadyH.cons rfl (fun K hK => ?_) AllReadyH.nil
    go_simp
    go_at_call 107
    refine (unhide HLG _).mono ?_
    rintro e w4 ⟨rfl, hb4⟩
    obtain ⟨z1, z2, z3, z4⟩ := unhide HC w4 hb4
    go_wp2_with fail
    refine hK.out _ _ (by go_keep) (fun hHeld1 => ?_)
    clear hK K hHeld
    (try simp only [pE])
    refine wpAnyH_take (i := 9) (v := ?_) rfl (by kernel_rfl) (by kernel_rfl) (by kernel_rfl) (fun _ _ _ h => h) (Or.inl ⟨by rfl, ?_⟩) (by assumption) ?_
    rotate_left
    ·intro w hSw; (try dsimp only at hSw); go_simp
     rw [if_neg (by first | omega | (simp only [ByteArray.size_append, ByteArray.size_extract]; omega))]
    (try simp only [pE])
    refine wpAnyH_take (i := 11) (v := ?_) rfl (by kernel_rfl) (by kernel_rfl) (by kernel_rfl) (fun _ _ _ h => h) (Or.inl ⟨by rfl, ?_⟩) (by assumption) ?_
    rotate_left
    ·intro w hSw; (try dsimp only at hSw); go_simp
     rw [if_neg (by first | omega | (simp only [ByteArray.size_append, ByteArray.size_extract]; omega))]
    (try simp only [Act.put])
    refine wpAnyH_take (i := 12) (v := ?_) rfl (by kernel_rfl) (by kernel_rfl) (by kernel_rfl) (fun _ _ _ h => h) (Or.inl ⟨by rfl, ?_⟩) (by assumption) ?_
    rotate_left
    ·intro w hSw; (try dsimp only at hSw); go_simp <;> with_reducible rfl
    (try simp only [Act.put])
    refine wpAnyH_ready (rs := [13]) (by kernel_rfl) (by simp) ?_
    refine AllReadyH.cons rfl (fun K hK => ?_) AllReadyH.nil
    go_simp
    refine hK.out _ _ (by go_keep) (fun hHeld2 => ?_)
    clear hK K hHeld1
    (try simp only [pE])
    refine wpAnyH_done (by kernel_rfl) ?_ _
    clear hHeld2
    go_wp2
    go_meet
    rw [← unhide HWR]; exact unhide z4
  ·have HP : Hid (WrLate w2 wc L' (putR F' f m d)) := by
    refine ⟨_, _, ?_, hb5, unhide HN5⟩
    rw [unhide HPF, if_neg hd0]; exact unhide HX5
   go_wp2
   go_meet
   exact unhide HP
 case rest =>
 obtain ⟨vl6, vf6, h5, hb6, hn6⟩ := hcut
 obtain ⟨F6, hF6⟩ : ∃ F6, F6 = putR F' f m d := ⟨_, rfl⟩
 have hR2 := unhide HR
 rw [← hF6] at h5 hR2
 obtain ⟨a6, n6, c6, rfl⟩ := h5.sl.shape
 obtain ⟨b6, m6, d6, rfl⟩ := h5.sf.shape
 clear HR HPF hF6 v0 v1 q1 s0 HX5 HN5 hb5 hsz
 have hbw5 := hb.trans (hb6.mono hb.size)
 have hus := usage_ref _ w2.heap.size _ _ L' F6 h5.c
 have hul : usageR L' F6 ≤ F6.length * 40000 := useT_le L' F6 h5.okf _
 have hnf6 := h5.nf
 unfold writeEnd at hR2
 obtain ⟨u, hu⟩ : ∃ u, u = usageR L' F6 := ⟨_, rfl⟩
 rw [← hu] at hus hul hR2
 have y0 := h5.c.c0
 have y1 := h5.c.c1
 have x0 := ((unhide HW).at hbw5).c.c0
 have x1 := ((unhide HW).at hbw5).c.c1
 have f0 := ((unhide HW).at hbw5).hd.frozen 0
 have f1 := ((unhide HW).at hbw5).hd.frozen 1
 have hrbl := (unhide HW).hd.lt
 have hrb2 : rb < w2.heap.size := Nat.lt_of_lt_of_le hrbl hb.size
 have hnr : rb ≠ w2.heap.size := by omega
 have hnr' : w2.heap.size ≠ rb := by omega
 have HTK := hide (takeOver (unhide HW) hbw5 h5 (fun k hk => Nat.le_trans hb.size (hn6 k hk)))
 clear hu h5 hn6
 by_cases hc : 160 < u
 ·rw [if_pos hc] at hR2
  have H1 := hide hR2
  clear hR2
  have hc' : (160 : Int) < (u : Int) := by omega
  go_wp2_with (go_at_call 52; refine hus.mono ?_; rintro e w' ⟨rfl, hw⟩; rw [hw]; clear hw)
  go_ret
  exact (unhide hSame _ _ (unhide H1) hbw5).elim fun a b => ⟨by rw [a] <;> rfl, b⟩
 ·rw [if_neg hc] at hR2
  have H1 := hide hR2
  clear hR2
  have hc' : ¬ (160 : Int) < (u : Int) := by omega
  go_wp2_with (go_at_call 52; refine hus.mono ?_; rintro e w' ⟨rfl, hw⟩; rw [hw]; clear hw)
  go_ret
  exact ⟨by rw [unhide H1] <;> rfl, by rw [unhide H1]; exact unhide HTK⟩
end Go.Proofs.YtaieidcohdhgpaaGreatDoor
