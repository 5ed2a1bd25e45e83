/- Files. -/
import Derived.Test.YtaieidcohdhgpaaGreatDoorPAE
namespace Go.Proofs.YtaieidcohdhgpaaGreatDoor
open Go.RowKit
set_option maxHeartbeats 1000000
set_option maxRecDepth 100000
structure Fr (X : Nat → Prop) (w w' : World) : Prop where
 os : w'.os = w.os
 tape : w'.tape = w.tape
 output : w'.output = w.output
 size : w.heap.size ≤ w'.heap.size
 block : ∀ k, k < w.heap.size → ¬ X k → w'.heap[k]? = w.heap[k]?
theorem Fr.refl (X : Nat → Prop) (w : World) : Fr X w w := ⟨rfl, rfl, rfl, Nat.le_refl _, fun _ _ _ => rfl⟩
theorem Fr.of_below {X : Nat → Prop} {w w' : World} (h : Below w.heap.size w w') : Fr X w w' := ⟨h.os, h.tape, h.output, h.size, fun k hk _ => h.block k hk⟩
theorem Fr.mono {X Y : Nat → Prop} {w w' : World} (h : Fr X w w') (hXY : ∀ k, k < w.heap.size → X k → Y k) : Fr Y w w' := ⟨h.os, h.tape, h.output, h.size, fun k hk hn => h.block k hk (fun e => hn (hXY k hk e))⟩
theorem Fr.trans {X : Nat → Prop} {a b c : World} (h : Fr X a b) (k : Fr X b c) : Fr X a c :=
 ⟨k.os.trans h.os, k.tape.trans h.tape, k.output.trans h.output, Nat.le_trans h.size k.size, fun i hi hn => (k.block i (Nat.lt_of_lt_of_le hi h.size) hn).trans (h.block i hi hn)⟩
theorem Fr.of_grown {X : Nat → Prop} {w w' : World} {row : Option Nat} (h : w.grownBy w' row) (hX : ∀ k, row = some k → X k) : Fr X w w' :=
 ⟨h.os, h.tape, h.output, h.size, fun k hk hn => h.block k hk (fun e => hn (hX k e.symm))⟩
theorem Fr.set {X : Nat → Prop} {w w' : World} (h : Fr X w w') (a : Addr) (u : Value) (hX : X a.block) : Fr X w (w'.setCell a u) :=
 ⟨h.os, h.tape, h.output, by simpa [World.setCell] using h.size, fun k hk hn => by rw [Below.heap_setCell _ _ _ _ (fun e => hn (by rw [e]; exact hX))]; exact h.block k hk hn⟩
theorem RowIs.fr {X : Nat → Prop} {w w' : World} {g : Nat} {e : TypeId} {L : List Value} (h : RowIs w g e L) (hf : Fr X w w') (hX : ¬ X g) : RowIs w' g e L := by
 unfold RowIs; rw [hf.block g h.lt hX]; exact h
theorem Sl.fr {X : Nat → Prop} {w w' : World} {e : TypeId} {sz : Nat} {v : Value} {n : Nat} {xs : List Value} (h : Sl w e sz v n xs) (hf : Fr X w w') (hX : ∀ g, v.ownBlock = some g → ¬ X g) : Sl w' e sz v n xs :=
 h.kept (fun k hk e => hf.block k hk (hX k e))
structure RefW (w : World) (rb : Nat) (vl vf : Value) (L : List (ByteArray × Int)) (F : List ByteArray) : Prop where
 hd : RowIs w rb 89 [vl, vf]
 sl : Sl w 103 2 vl L.length (cellsL L)
 sf : Sl w 9 1 vf F.length (F.map .string)
 nl : L.length ≤ 2000000
 nf : F.length ≤ 2000000
 ok : ∀ x ∈ L, x.1.size ≤ 2000000 ∧ HasSl x.1
 okf : ∀ s ∈ F, s.size ≤ 2000000
 sep : ∀ g, vl.ownBlock = some g → vf.ownBlock ≠ some g
theorem RefW.c {w : World} {rb : Nat} {vl vf : Value} {L : List (ByteArray × Int)} {F : List ByteArray} (h : RefW w rb vl vf L F) : RefC w rb vl vf L F :=
 ⟨(h.hd.cell 0).trans rfl, (h.hd.cell 1).trans rfl, h.sl, h.sf, h.nl, h.nf, h.ok, h.okf⟩
theorem Sl.type {w : World} {e : TypeId} {sz : Nat} {v : Value} {n : Nat} {xs : List Value} (h : Sl w e sz v n xs) {g : Nat} (hg : v.ownBlock = some g) : ∃ L, RowIs w g e L := by
 rcases h.2 with ⟨rfl, _⟩ | ⟨g', cap, L, rfl, hr, _⟩
 ·simp [Value.ownBlock] at hg
 ·simp [Value.ownBlock] at hg; subst hg; exact ⟨L, hr⟩
theorem RowIs.type {w : World} {g : Nat} {e e' : TypeId} {L L' : List Value} (h : RowIs w g e L) (h' : RowIs w g e' L') : e = e' := by
 unfold RowIs at h h'; rw [h] at h'; simp at h'; exact h'.2
theorem RefW.nel {w : World} {rb : Nat} {vl vf : Value} {L : List (ByteArray × Int)} {F : List ByteArray} (h : RefW w rb vl vf L F) : vl.ownBlock ≠ some rb := fun e => by
 obtain ⟨R, hR⟩ := h.sl.type e
 exact absurd (hR.type h.hd) (by decide)
theorem RefW.nef {w : World} {rb : Nat} {vl vf : Value} {L : List (ByteArray × Int)} {F : List ByteArray} (h : RefW w rb vl vf L F) : vf.ownBlock ≠ some rb := fun e => by
 obtain ⟨R, hR⟩ := h.sf.type e
 exact absurd (hR.type h.hd) (by decide)
def RefOwn (rb : Nat) (vl vf : Value) (k : Nat) : Prop := k = rb ∨ vl.ownBlock = some k ∨ vf.ownBlock = some k
theorem RefW.fr {X : Nat → Prop} {w w' : World} {rb : Nat} {vl vf : Value} {L : List (ByteArray × Int)} {F : List ByteArray} (h : RefW w rb vl vf L F) (hf : Fr X w w') (hX : ∀ k, RefOwn rb vl vf k → ¬ X k) : RefW w' rb vl vf L F :=
 ⟨h.hd.fr hf (hX rb (.inl rfl)), h.sl.fr hf (fun g hg => hX g (.inr (.inl hg))), h.sf.fr hf (fun g hg => hX g (.inr (.inr hg))), h.nl, h.nf, h.ok, h.okf, h.sep⟩
def RefPost (w : World) (rb : Nat) (vl vf : Value) (w' : World) (L' : List (ByteArray × Int)) (F' : List ByteArray) : Prop :=
 ∃ vl' vf', RefW w' rb vl' vf' L' F' ∧ Fr (RefOwn rb vl vf) w w' ∧ (∀ k, RefOwn rb vl' vf' k → RefOwn rb vl vf k ∨ w.heap.size ≤ k)
theorem RefPost.same {w : World} {rb : Nat} {vl vf : Value} {L : List (ByteArray × Int)} {F : List ByteArray} {w' : World} (h : RefW w rb vl vf L F) (hb : Below w.heap.size w w') : RefPost w rb vl vf w' L F :=
 ⟨vl, vf, h.fr (X := fun _ => False) (Fr.of_below hb) (fun _ _ => id), Fr.of_below hb, fun _ hk => .inl hk⟩
def askR (L : List (ByteArray × Int)) (p : ByteArray) : Int := if nmOk p = true then aheadP L (prefs p (p.size - 1) 1) else 1
theorem ask_ref (w : World) (rb : Nat) (vl vf : Value) (L : List (ByteArray × Int)) (F : List ByteArray) (h : RefW w rb vl vf L F) (p : ByteArray) (hp : p.size ≤ 2000000) :
  Calls Tryz.prog 100 #[.pointer (some ⟨rb, 0, none⟩), .string p] w fun e w' => e = .returned (.int .i64 (askR L p)) ∧ Below w.heap.size w w' := by
 have hn := names_ref p w hp
 have ha : ∀ w', Below w.heap.size w w' → Calls Tryz.prog 104 #[.pointer (some ⟨rb, 0, none⟩), .string p] w' fun e w'' => e = .returned (.int .i64 (aheadP L (prefs p (p.size - 1) 1))) ∧ w'' = w' := fun w' hb => by
  have h' := (h.fr (X := fun _ => False) (Fr.of_below hb) (fun _ _ => id)).c
  exact ahead_ref w' rb vl L p h'.c0 h'.sl h'.nl hp
 have HA := hide ha
 have HU := hide (show askR L p = if nmOk p = true then aheadP L (prefs p (p.size - 1) 1) else 1 from rfl)
 clear ha h
 go_enter Tryz.func100, Tryz.ntmps100
 go_wp2_with fail
 refine hn.mono ?_
 rintro e w1 ⟨a, n, c, rfl, _, hb⟩
 cases hok : nmOk p with
 | false =>
  go_wp2
  go_ret
  exact ⟨by rw [unhide HU, hok]; rfl, hb⟩
 | true =>
  go_wp2_with (go_at_call 104; refine (unhide HA _ hb).mono ?_; rintro e w' ⟨rfl, hw⟩; rw [hw]; clear hw)
  go_ret
  exact ⟨by rw [unhide HU, hok]; rfl, hb⟩
theorem info81 : (Tryz.prog.info? 103).map (fun i => (i.zero, i.size, i.bytes)) = some (some (.agg #[.string ⟨#[]⟩, .int .i64 0]), 2, 24) := by kernel_rfl
def mkdirR (L : List (ByteArray × Int)) (F : List ByteArray) (p : ByteArray) : Int × List (ByteArray × Int) :=
 if askR L p ≠ 0 then (askR L p, L) else if (p.toList == [47]) = true ∨ (look L p).isSome = true then (6, L) else if roomR L F p 1 = false then (8, L) else (0, L ++ [(p, -1)])
theorem appL (w W : World) (rb : Nat) (vl vf : Value) (L : List (ByteArray × Int)) (F : List ByteArray) (h : RefW w rb vl vf L F) (hbb : Below w.heap.size w W) (hL : L.length + 1 ≤ 2000000) (p : ByteArray) (f : Int) (hp : p.size ≤ 2000000) (hsl : HasSl p)
  (nb : Nat) (hnb : RowIs W nb 103 (clL (p, f))) :
  ∃ a' n' c' w2, (Builtin.append_ #[87, 87] 87 #[vl, .slice (some ⟨nb, 0, none⟩) 1 1]).run Tryz.prog W = .ok (.slice a' n' c') w2 ∧ w2.cell? ⟨rb, 0, none⟩ = some vl ∧ w2.frozen? ⟨rb, 0, none⟩ = false ∧
   Hid (RefPost w rb vl vf (w2.setCell ⟨rb, 0, none⟩ (.slice a' n' c')) (L ++ [(p, f)]) F) := by
 obtain ⟨i0, hi0, hz0, hz1, hz2⟩ := info_parts info81
 have h1 : RefW W rb vl vf L F := h.fr (X := fun _ => False) (Fr.of_below hbb) (fun _ _ => id)
 obtain ⟨v', w2, r1, r2, r3, r4⟩ := append_new (P := Tryz.prog) W 87 87 103 i0 _ 2 24 Tryz.underlying87 hi0 hz0 hz1 hz2 rfl (by decide) vl L.length (cellsL L) h1.sl ⟨nb, 0, none⟩ 1 1 (clL (p, f)) rfl
  (fun j u hu => by rw [Addr.add_lit, Nat.zero_add, hnb.cell]; exact hu) (cellsL_one [(p, f)]) (by unfold maxLen; omega) (by omega)
 obtain ⟨a', n', c', rfl⟩ := r2.shape
 have hrb : w2.heap[rb]? = W.heap[rb]? := r3.block rb h1.hd.lt (fun e => h.nel e.symm)
 have hd2 : RowIs w2 rb 89 [vl, vf] := by unfold RowIs; rw [hrb]; exact h1.hd
 refine ⟨a', n', c', w2, r1, (hd2.cell 0).trans rfl, hd2.frozen 0, .slice a' n' c', vf, ⟨?_, ?_, ?_, ?_, h.nf, ?_, h.okf, ?_⟩, ?_, ?_⟩
 ·exact hd2.set 0 _
 ·have hne : (Value.slice a' n' c').ownBlock ≠ some rb := fun e => by
   obtain ⟨R, hR⟩ := r2.type e
   exact absurd (hR.type hd2) (by decide)
  have := r2.setCell ⟨rb, 0, none⟩ (.slice a' n' c') hne
  rw [List.length_append, cellsL_append]
  exact this
 ·refine (h1.sf.kept (w' := w2) (fun k hk e => r3.block k hk (fun e' => ?_))).setCell ⟨rb, 0, none⟩ _ (fun e => h.nef e)
  exact h.sep k e'.symm e
 ·simpa using hL
 ·intro x hx
  rcases List.mem_append.1 hx with hx | hx
  ·exact h.ok x hx
  ·simp at hx; subst hx; exact ⟨hp, hsl⟩
 ·intro g hg e
  rcases r4 g hg with h' | h'
  ·exact h.sep g h' e
  ·have := h1.sf.lt e; omega
 ·refine Fr.set ⟨r3.os.trans hbb.os, r3.tape.trans hbb.tape, r3.output.trans hbb.output, Nat.le_trans hbb.size r3.size, fun k hk hn => ?_⟩ _ _ (.inl rfl)
  rw [r3.block k (Nat.lt_of_lt_of_le hk hbb.size) (fun e => hn (.inr (.inl e.symm))), hbb.block k hk]
 ·rintro k (rfl | hk | hk)
  ·exact .inl (.inl rfl)
  ·rcases r4 k hk with h' | h'
   ·exact .inl (.inr (.inl h'))
   ·exact .inr (Nat.le_trans hbb.size h')
  ·exact .inl (.inr (.inr hk))
theorem hasSl_of_ok (p : ByteArray) (h : nmOk p = true) : HasSl p := by
 have h0 : p.data.toList[0]? = some 47 := by
  unfold nmOk at h
  rw [Bool.or_eq_true] at h
  rcases h with h | h
  ·have h1 : p.toList = [47] := by simpa using h
   rw [ByteArray.toList_eq] at h1; rw [h1]; rfl
  ·simp only [Bool.and_eq_true] at h; simpa using h.1.1
 cases hl : lastSl p.data.toList with
 | none => exact absurd h0 (lastSl_none hl 0)
 | some k => exact ⟨k, hl⟩
theorem askR_ok {L : List (ByteArray × Int)} {p : ByteArray} (h : askR L p = 0) : nmOk p = true := by
 unfold askR at h
 by_cases e : nmOk p = true
 ·exact e
 ·rw [if_neg e] at h; omega
theorem mkdir_ref (w : World) (rb : Nat) (vl vf : Value) (L : List (ByteArray × Int)) (F : List ByteArray) (h : RefW w rb vl vf L F) (hL : L.length + 1 ≤ 2000000) (p : ByteArray) (hp : p.size ≤ 2000000) :
  Calls Tryz.prog 43 #[.pointer (some ⟨rb, 0, none⟩), .string p] w fun e w' => e = .returned (.int .i64 (mkdirR L F p).1) ∧ RefPost w rb vl vf w' (mkdirR L F p).2 F := by
 have hk := ask_ref w rb vl vf L F h p hp
 obtain ⟨e0, he0⟩ : ∃ e0, e0 = askR L p := ⟨_, rfl⟩
 obtain ⟨R, hR⟩ : ∃ R, R = mkdirR L F p := ⟨_, rfl⟩
 rw [← he0] at hk
 rw [← hR]
 unfold mkdirR at hR
 rw [← he0] at hR
 have hc0 := h.c.c0
 by_cases h0 : e0 ≠ 0
 ·rw [if_pos h0] at hR
  have hbb : (e0 != 0) = true := by rw [bne_iff_ne]; exact h0
  have HP : Hid (∀ w', Below w.heap.size w w' → RefPost w rb vl vf w' R.2 F) := fun w' hb => by rw [hR]; exact RefPost.same h hb
  have H1 : Hid (R.1 = e0) := by rw [hR]; exact rfl
  clear hR h he0 h0
  go_enter Tryz.func43, Tryz.ntmps43
  go_wp2_with (go_at_call 100; refine hk.mono ?_; rintro e w1 ⟨rfl, hb⟩)
  go_ret
  exact ⟨by rw [unhide H1]; rfl, unhide HP _ hb⟩
 ·rw [if_neg h0] at hR
  obtain rfl : e0 = 0 := by omega
  have hok := askR_ok he0.symm
  have hsl := hasSl_of_ok p hok
  by_cases h1 : (p.toList == [47]) = true
  ·rw [if_pos (.inl h1)] at hR
   have HP : Hid (∀ w', Below w.heap.size w w' → RefPost w rb vl vf w' R.2 F) := fun w' hb => by rw [hR]; exact RefPost.same h hb
   have H1 : Hid (R.1 = 6) := by rw [hR]; exact rfl
   clear hR h he0 h0
   go_enter Tryz.func43, Tryz.ntmps43
   go_wp2_with (go_at_call 100; refine hk.mono ?_; rintro e w1 ⟨rfl, hb⟩)
   go_ret
   exact ⟨by rw [unhide H1]; rfl, unhide HP _ hb⟩
  have h1' : (p.toList == [47]) = false := by simpa using h1
  have hf : ∀ w', Below w.heap.size w w' → Calls Tryz.prog 101 #[.pointer (some ⟨rb, 0, none⟩), .string p] w' fun e w'' => ∃ r, (e = .returned (.int .i64 r) ∧ FindIs L p r) ∧ w'' = w' := fun w' hb => by
   have h' := (h.fr (X := fun _ => False) (Fr.of_below hb) (fun _ _ => id)).c
   exact find_ref w' rb vl L p h'.c0 h'.sl h'.nl
  have hrm : ∀ w', Below w.heap.size w w' → Calls Tryz.prog 102 #[.pointer (some ⟨rb, 0, none⟩), .string p, .int .i64 ((1 : Nat) : Int)] w' fun e w'' => e = .returned (.bool (roomR L F p 1)) ∧ w'' = w' := fun w' hb => by
   have h' := (h.fr (X := fun _ => False) (Fr.of_below hb) (fun _ _ => id)).c
   exact room_ref w' rb vl vf L F h' p hp hsl 1 (Nat.le_refl _)
  have hap : ∀ w1, Below w.heap.size w w1 → _ := fun w1 hb => appL w (w1.alloc (.cells #[.string p, .int .i64 (-1)] 103)) rb vl vf L F h (hb.trans (((Below.refl _ _).alloc (Nat.le_refl _) _).mono hb.size)) hL p (-1) hp hsl w1.heap.size (heap_alloc_new w1 _)
  have hsame := fun w' (hb : Below w.heap.size w w') => RefPost.same h hb
  have hcc : ∀ w', Below w.heap.size w w' → w'.cell? ⟨rb, 0, none⟩ = some vl := fun w' hb => (hb.cell (p := ⟨rb, 0, none⟩) h.hd.lt).trans hc0
  have hrbl := h.hd.lt
  obtain ⟨av, mv, cv, rfl⟩ := h.sl.shape
  have HF := hide hf
  have HRM := hide hrm
  have HAP := hide hap
  have HSM := hide hsame
  have HCC := hide hcc
  clear h hf hrm hap hsame hcc he0 h0 hok hsl h1 hc0
  go_enter Tryz.func43, Tryz.ntmps43
  go_wp2_with (go_at_call 100; refine hk.mono ?_; rintro e w1 ⟨rfl, hb⟩)
  refine (unhide HF _ hb).mono ?_
  rintro e w' ⟨r, ⟨rfl, hfi⟩, hw⟩
  rw [hw]; clear hw
  have hcw := unhide HCC _ hb
  have hrb1 : rb < w1.heap.size := Nat.lt_of_lt_of_le hrbl hb.size
  rcases look_of_find hfi with ⟨rfl, hl⟩ | ⟨j, x, rfl, hj, hx, hl⟩
  ·rw [if_neg (by simp [h1', hl])] at hR
   cases hroom : roomR L F p 1 with
   | false =>
    rw [if_pos hroom] at hR
    have HP : Hid (∀ w', Below w.heap.size w w' → RefPost w rb (.slice av mv cv) vf w' R.2 F) := fun w' hb => by rw [hR]; exact unhide HSM w' hb
    have H1 : Hid (R.1 = 8) := by rw [hR]; exact rfl
    clear hR hl hfi
    go_wp2_with (go_at_call 102; refine (unhide HRM _ hb).mono ?_; rintro e w' ⟨rfl, hw⟩; rw [hw]; clear hw)
    go_ret
    exact ⟨by rw [unhide H1]; rfl, unhide HP _ hb⟩
   | true =>
    rw [if_neg (by rw [hroom]; simp)] at hR
    obtain ⟨a', n', c', w2, r1, r2, r3, r4⟩ := unhide HAP w1 hb
    have HP : Hid (RefPost w rb (.slice av mv cv) vf (w2.setCell ⟨rb, 0, none⟩ (.slice a' n' c')) R.2 F) := by rw [hR]; exact unhide r4
    have H1 : Hid (R.1 = 0) := by rw [hR]; exact rfl
    clear hR hl hfi
    go_wp2_with (first | (go_at_call 102; refine (unhide HRM _ hb).mono ?_; rintro e w' ⟨rfl, hw⟩; rw [hw]; clear hw) | (at_builtin; refine Lib.wpList_append_run _ rfl _ _ 87 87 rfl _ _ rfl rfl _ _ r1 ?_))
    go_ret
    exact ⟨by rw [unhide H1]; rfl, unhide HP⟩
  ·rw [if_pos (.inr (by simp [hl]))] at hR
   have HP : Hid (∀ w', Below w.heap.size w w' → RefPost w rb (.slice av mv cv) vf w' R.2 F) := fun w' hb => by rw [hR]; exact unhide HSM w' hb
   have H1 : Hid (R.1 = 6) := by rw [hR]; exact rfl
   clear hR hl hfi hj hx
   go_wp2
   go_ret
   exact ⟨by rw [unhide H1]; rfl, unhide HP _ hb⟩
section
variable {w : World} {rb : Nat} {vl vf : Value} {L : List (ByteArray × Int)} {F : List ByteArray}
theorem RefW.at (h : RefW w rb vl vf L F) {w' : World} (hb : Below w.heap.size w w') : RefW w' rb vl vf L F := h.fr (X := fun _ => False) (Fr.of_below hb) (fun _ _ => id)
theorem RefW.find (h : RefW w rb vl vf L F) (p : ByteArray) : Calls Tryz.prog 101 #[.pointer (some ⟨rb, 0, none⟩), .string p] w fun e w'' => ∃ r, (e = .returned (.int .i64 r) ∧ FindIs L p r) ∧ w'' = w := find_ref w rb vl L p h.c.c0 h.sl h.nl
theorem RefW.ahead (h : RefW w rb vl vf L F) (p : ByteArray) (hp : p.size ≤ 2000000) : Calls Tryz.prog 104 #[.pointer (some ⟨rb, 0, none⟩), .string p] w fun e w'' => e = .returned (.int .i64 (aheadP L (prefs p (p.size - 1) 1))) ∧ w'' = w := ahead_ref w rb vl L p h.c.c0 h.sl h.nl hp
theorem RefW.within (h : RefW w rb vl vf L F) (d : ByteArray) : Calls Tryz.prog 149 #[.pointer (some ⟨rb, 0, none⟩), .string d] w fun e w' => e = .returned (.int .i64 (L.countP (qDir d) : Nat)) ∧ w' = w := within_ref w rb vl L d h.c.c0 h.sl h.nl h.ok
end
theorem cellsL_take (es : List (ByteArray × Int)) (i : Nat) : (cellsL es).take (i * 2) = cellsL (es.take i) := by
 induction es generalizing i with
 | nil => simp [cellsL]
 | cons a l ih =>
  cases i with
  | zero => simp [cellsL]
  | succ i =>
   have := ih i
   simp only [cellsL, List.flatMap_cons, List.take_succ_cons] at this ⊢
   rw [← this, show (i + 1) * 2 = (clL a).length + i * 2 by simp [clL]; omega, List.take_length_add_append]
theorem cellsL_drop (es : List (ByteArray × Int)) (i : Nat) : (cellsL es).drop (i * 2) = cellsL (es.drop i) := by
 induction es generalizing i with
 | nil => simp [cellsL]
 | cons a l ih =>
  cases i with
  | zero => simp [cellsL]
  | succ i =>
   have := ih i
   simp only [cellsL, List.flatMap_cons, List.drop_succ_cons] at this ⊢
   rw [← this, show (i + 1) * 2 = (clL a).length + i * 2 by simp [clL]; omega, List.drop_length_add_append]
def remL (L : List (ByteArray × Int)) (p : ByteArray) : List (ByteArray × Int) := L.eraseP (fun x => decide (x.1 = p))
theorem remL_eq : ∀ (L : List (ByteArray × Int)) (p : ByteArray) (k : Nat) (x : ByteArray × Int), L[k]? = some x → x.1 = p → (∀ (j : Nat) y, j < k → L[j]? = some y → y.1 ≠ p) → remL L p = L.take k ++ L.drop (k + 1)
 | [], _, k, x, h, _, _ => by simp at h
 | a :: l, p, 0, x, h, h1, _ => by simp at h; subst h; simp [remL, h1]
 | a :: l, p, k + 1, x, h, h1, h2 => by
  have ha : a.1 ≠ p := h2 0 a (by omega) (by simp)
  have := remL_eq l p k x (by simpa using h) h1 (fun j y hj hy => h2 (j + 1) y (by omega) (by simpa using hy))
  simp only [remL] at this ⊢
  rw [List.eraseP_cons_of_neg (by simpa using ha), this]
  simp
def removeR (L : List (ByteArray × Int)) (p : ByteArray) : Int × List (ByteArray × Int) :=
 if askR L p ≠ 0 then (askR L p, L) else if (p.toList == [47]) = true then (7, L) else
 match look L p with
 | none => (3, L)
 | some f => if f < 0 ∧ 0 < L.countP (qDir p) then (7, L) else (0, remL L p)
theorem remW (w w1 : World) (rb : Nat) (g cap : Nat) (vf : Value) (L : List (ByteArray × Int)) (F : List ByteArray) (h : RefW w rb (.slice (some ⟨g, 0, none⟩) L.length cap) vf L F) (hb : Below w.heap.size w w1) (k : Nat) (hk : k < L.length) :
  ∃ a1 n1 c1 w2, (Builtin.append_ #[87, 87] 87 #[.slice none 0 0, .slice (some ⟨g, 0, none⟩) k cap]).run Tryz.prog w1 = .ok (.slice a1 n1 c1) w2 ∧ w2.cell? ⟨rb, 0, none⟩ = some (.slice (some ⟨g, 0, none⟩) L.length cap) ∧
   ∀ a c, (L.length - (k + 1) ≠ 0 → a = ⟨g, (k + 1) * 2, none⟩) → ∃ a2 n2 c2 w3, (Builtin.append_ #[87, 87] 87 #[.slice a1 n1 c1, .slice (some a) (L.length - (k + 1)) c]).run Tryz.prog w2 = .ok (.slice a2 n2 c2) w3 ∧ w3.cell? ⟨rb, 0, none⟩ = some (.slice (some ⟨g, 0, none⟩) L.length cap) ∧ w3.frozen? ⟨rb, 0, none⟩ = false ∧
    Hid (RefPost w rb (.slice (some ⟨g, 0, none⟩) L.length cap) vf (w3.setCell ⟨rb, 0, none⟩ (.slice a2 n2 c2)) (L.take k ++ L.drop (k + 1)) F) := by
 obtain ⟨i0, hi0, hz0, hz1, hz2⟩ := info_parts info81
 have h1 := h.at hb
 have hnl := h.nl
 obtain ⟨a', c', e', hrd⟩ := h1.sl.rdL
 cases e'
 have hcell : ∀ (W : World), (∀ j, W.cell? ⟨g, j, none⟩ = w1.cell? ⟨g, j, none⟩) → ∀ j u, (cellsL L)[j]? = some u → W.cell? ⟨g, j, none⟩ = some u := fun W hW j u hu => by
  rcases h1.sl.2 with ⟨e, _⟩ | ⟨g', cap', R, e, hR, _, _, _, hT⟩
  ·cases e
  ·cases e
   rw [hW, hR.cell]; rw [← hT, List.getElem?_take] at hu
   split at hu
   ·exact hu
   ·cases hu
 have hlk : (cellsL (L.take k)).length = k * 2 := by rw [cellsL_length, List.length_take]; omega
 obtain ⟨v1, w2, r1, r2, r3, r4⟩ := append_new (P := Tryz.prog) w1 87 87 103 i0 _ 2 24 Tryz.underlying87 hi0 hz0 hz1 hz2 rfl (by decide) (.slice none 0 0) 0 [] ⟨rfl, .inl ⟨rfl, rfl⟩⟩ ⟨g, 0, none⟩ k cap (cellsL (L.take k)) hlk
  (fun j u hu => by
   rw [Addr.add_lit, Nat.zero_add]
   refine hcell w1 (fun _ => rfl) j u ?_
   rw [← cellsL_take, List.getElem?_take] at hu
   split at hu
   ·exact hu
   ·cases hu) (cellsL_one _) (by unfold maxLen; omega) (by omega)
 obtain ⟨a1, n1, c1, rfl⟩ := r2.shape
 have hnew1 : ∀ x, (Value.slice a1 n1 c1).ownBlock = some x → w1.heap.size ≤ x := fun x hx => (r4 x hx).resolve_left (by simp [Value.ownBlock])
 have hbl2 : Below w1.heap.size w1 w2 := ⟨r3.os, r3.tape, r3.output, r3.size, fun k hk => r3.block k hk (by simp [Value.ownBlock])⟩
 have h2 := h1.at hbl2
 refine ⟨a1, n1, c1, w2, r1, h2.c.c0, fun a c ha => ?_⟩
 have hld : (cellsL (L.drop (k + 1))).length = (L.length - (k + 1)) * 2 := by rw [cellsL_length, List.length_drop]
 obtain ⟨v2, w3, s1, s2, s3, s4⟩ := append_new (P := Tryz.prog) w2 87 87 103 i0 _ 2 24 Tryz.underlying87 hi0 hz0 hz1 hz2 rfl (by decide) (.slice a1 n1 c1) (0 + k) ([] ++ cellsL (L.take k)) r2 a (L.length - (k + 1)) c (cellsL (L.drop (k + 1))) hld
  (fun j u hu => by
   by_cases h0 : L.length - (k + 1) = 0
   ·have : cellsL (L.drop (k + 1)) = [] := List.eq_nil_of_length_eq_zero (by rw [hld, h0])
    rw [this] at hu; cases hu
   ·rw [ha h0, Addr.add_lit]
    refine hcell w2 (fun j => hbl2.cell (p := ⟨g, j, none⟩) (h1.sl.lt rfl)) _ u ?_
    rw [← cellsL_drop, List.getElem?_drop] at hu
    exact hu) (cellsL_one _) (by unfold maxLen; omega) (by omega)
 obtain ⟨a2, n2, c2, rfl⟩ := s2.shape
 have hnew2 : ∀ x, (Value.slice a2 n2 c2).ownBlock = some x → w1.heap.size ≤ x := fun x hx => by
  rcases s4 x hx with h' | h'
  ·exact hnew1 x h'
  ·have := hbl2.size; omega
 have hbl3 : Below w1.heap.size w1 w3 := hbl2.trans ⟨s3.os, s3.tape, s3.output, s3.size, fun i hi => s3.block i (by have := hbl2.size; omega) (fun e => by have := hnew1 i e.symm; omega)⟩
 have h3 := h1.at hbl3
 refine ⟨a2, n2, c2, w3, s1, h3.c.c0, h3.hd.frozen 0, .slice a2 n2 c2, vf, ⟨h3.hd.set 0 _, ?_, ?_, ?_, h.nf, ?_, h.okf, ?_⟩, ?_, ?_⟩
 ·have hne : (Value.slice a2 n2 c2).ownBlock ≠ some rb := fun e => by have := hnew2 rb e; have := h1.hd.lt; omega
  have := s2.setCell ⟨rb, 0, none⟩ (.slice a2 n2 c2) hne
  have e1 : (L.take k ++ L.drop (k + 1)).length = 0 + k + (L.length - (k + 1)) := by simp; omega
  rw [e1, cellsL_append]
  simpa using this
 ·exact h3.sf.setCell ⟨rb, 0, none⟩ _ (fun e => h.nef e)
 ·simp; omega
 ·intro x hx
  rcases List.mem_append.1 hx with hx | hx
  ·exact h.ok x (List.mem_of_mem_take hx)
  ·exact h.ok x (List.mem_of_mem_drop hx)
 ·intro x hx e
  have := hnew2 x hx
  have := h1.sf.lt e
  omega
 ·exact Fr.set (Fr.of_below (hb.trans (hbl3.mono hb.size))) _ _ (.inl rfl)
 ·rintro x (rfl | hx | hx)
  ·exact .inl (.inl rfl)
  ·exact .inr (Nat.le_trans hb.size (hnew2 x hx))
  ·exact .inl (.inr (.inr hx))
theorem remove_ref (w : World) (rb : Nat) (vl vf : Value) (L : List (ByteArray × Int)) (F : List ByteArray) (h : RefW w rb vl vf L F) (p : ByteArray) (hp : p.size ≤ 2000000) :
  Calls Tryz.prog 89 #[.pointer (some ⟨rb, 0, none⟩), .string p] w fun e w' => e = .returned (.int .i64 (removeR L p).1) ∧ RefPost w rb vl vf w' (removeR L p).2 F := by
 have hk := ask_ref w rb vl vf L F h p hp
 obtain ⟨e0, he0⟩ : ∃ e0, e0 = askR L p := ⟨_, rfl⟩
 obtain ⟨R, hR⟩ : ∃ R, R = removeR L p := ⟨_, rfl⟩
 rw [← he0] at hk
 rw [← hR]
 unfold removeR at hR
 rw [← he0] at hR
 have HW := hide h
 by_cases h0 : e0 ≠ 0
 ·rw [if_pos h0] at hR
  have hbb : (e0 != 0) = true := by rw [bne_iff_ne]; exact h0
  have HP : Hid (∀ w', Below w.heap.size w w' → RefPost w rb vl vf w' R.2 F) := fun w' hb => by rw [hR]; exact RefPost.same h hb
  have H1 : Hid (R.1 = e0) := by rw [hR]; exact rfl
  clear hR h he0 h0
  go_enter Tryz.func89, Tryz.ntmps89
  go_wp2_with (go_at_call 100; refine hk.mono ?_; rintro e w1 ⟨rfl, hb⟩)
  go_ret
  exact ⟨by rw [unhide H1]; rfl, unhide HP _ hb⟩
 ·rw [if_neg h0] at hR
  obtain rfl : e0 = 0 := by omega
  have hHF : Hid (∀ w1, Below w.heap.size w w1 → Calls Tryz.prog 101 #[.pointer (some ⟨rb, 0, none⟩), .string p] w1 fun e w'' => ∃ r, (e = .returned (.int .i64 r) ∧ FindIs L p r) ∧ w'' = w1) := fun w1 hb => (h.at hb).find p
  have hHI : Hid (∀ w1, Below w.heap.size w w1 → Calls Tryz.prog 149 #[.pointer (some ⟨rb, 0, none⟩), .string p] w1 fun e w' => e = .returned (.int .i64 (L.countP (qDir p) : Nat)) ∧ w' = w1) := fun w1 hb => (h.at hb).within p
  have hcl : L.countP (qDir p) ≤ L.length := List.countP_le_length
  have hnl := h.nl
  have hrbl := h.hd.lt
  cases h1 : (p.toList == [47]) with
  | true =>
   rw [if_pos h1] at hR
   have h1' : (p.toList != [47]) = false := by simp only [bne, h1]; rfl
   have HP : Hid (∀ w', Below w.heap.size w w' → RefPost w rb vl vf w' R.2 F) := fun w' hb => by rw [hR]; exact RefPost.same h hb
   have H1 : Hid (R.1 = 7) := by rw [hR]; exact rfl
   clear hR h he0 h0
   go_enter Tryz.func89, Tryz.ntmps89
   go_wp2_with (go_at_call 100; refine hk.mono ?_; rintro e w1 ⟨rfl, hb⟩)
   refine (unhide hHF _ hb).mono ?_
   rintro e w' ⟨r, ⟨rfl, hfi⟩, hw⟩
   rw [hw]; clear hw hfi
   go_wp2
   go_ret
   exact ⟨by rw [unhide H1]; rfl, unhide HP _ hb⟩
  | false =>
  rw [if_neg (by rw [h1]; simp)] at hR
  have h1' : (p.toList != [47]) = true := by simp only [bne, h1]; rfl
  obtain ⟨av, cv, rfl, hrd⟩ := h.sl.rdL
  have HRD := hide hrd
  clear h he0 h0 hrd
  go_enter Tryz.func89, Tryz.ntmps89
  go_wp2_with (go_at_call 100; refine hk.mono ?_; rintro e w1 ⟨rfl, hb⟩)
  refine (unhide hHF _ hb).mono ?_
  rintro e w' ⟨r, ⟨rfl, hfi⟩, hw⟩
  rw [hw]; clear hw
  have hcw := ((unhide HW).at hb).c.c0
  have hrb1 : rb < w1.heap.size := Nat.lt_of_lt_of_le hrbl hb.size
  rcases hfi with ⟨rfl, hno⟩ | ⟨k, x, rfl, hk', hx, hfst⟩
  ·have hl : look L p = none := (look_of_find (.inl ⟨rfl, hno⟩)).elim (fun h => h.2) (fun ⟨_, _, h, _⟩ => by omega)
   rw [hl] at hR
   have HP : Hid (∀ w', Below w.heap.size w w' → RefPost w rb (.slice av L.length cv) vf w' R.2 F) := fun w' hb => by rw [hR]; exact RefPost.same (unhide HW) hb
   have H1 : Hid (R.1 = 3) := by rw [hR]; exact rfl
   clear hR hl hno
   go_wp2
   go_ret
   exact ⟨by rw [unhide H1]; rfl, unhide HP _ hb⟩
  ·have hl : look L p = some x.2 := (look_of_find (.inr ⟨k, x, rfl, hk', hx, hfst⟩)).elim (fun h => by have := h.1; omega) (fun ⟨k2, x2, h2, h3, _, h5⟩ => by
    have : k2 = k := by omega
    subst this; rw [hk'] at h3; cases h3; exact h5)
   rw [hl] at hR
   have hkl := (List.getElem?_eq_some_iff.1 hk').1
   obtain ⟨g, rfl, q0, q1⟩ := (unhide HRD) k x hk'
   have hg : g < w.heap.size := (unhide HW).sl.lt rfl
   have q1' := (hb.cell (p := ⟨g, k * 2 + 1, none⟩) hg).trans q1
   obtain ⟨a1, n1, c1, w2, t1, t2, t3⟩ := remW w w1 rb g cv vf L F (unhide HW) hb k hkl
   have HT3 := hide t3
   have hre := remL_eq L p k x hk' hx hfst
   have HRE := hide hre
   clear hl hfst hx hk' q0 q1 t3 hre
   by_cases hneg : x.2 < 0
   ·by_cases hwi : 0 < L.countP (qDir p)
    ·have hR2 : R = (7, L) := by rw [hR]; simp [hneg, hwi]
     have HP : Hid (∀ w', Below w.heap.size w w' → RefPost w rb (.slice (some ⟨g, 0, none⟩) L.length cv) vf w' R.2 F) := fun w' hb => by rw [hR2]; exact RefPost.same (unhide HW) hb
     have H1 : Hid (R.1 = 7) := by rw [hR2]; exact rfl
     clear hR hR2
     go_wp2_with (go_at_call 149; refine (unhide hHI _ hb).mono ?_; rintro e w' ⟨rfl, hw⟩; rw [hw]; clear hw)
     go_ret
     exact ⟨by rw [unhide H1]; rfl, unhide HP _ hb⟩
    ·have hR2 : R = (0, remL L p) := by rw [hR]; simp [hneg, hwi]
     have H1 : Hid (R.1 = 0) := by rw [hR2]; exact rfl
     have H2 : Hid (R.2 = L.take k ++ L.drop (k + 1)) := by rw [hR2]; exact unhide HRE
     clear hR hR2 HRE
     obtain ⟨hcl2, hnn⟩ : L.length ≤ cv ∧ cv ≤ 9223372036854775807 := by
      rcases (unhide HW).sl.2 with ⟨e, _⟩ | ⟨g', cap', R', e, _, hc1, hc2, _⟩
      ·cases e
      ·cases e; exact ⟨hc1, hc2⟩
     have hki : (k : Int) ≤ cv := by omega
     by_cases hcv : cv = k + 1
     ·obtain ⟨a2, n2, c2, w3, u1, u2, u3, u4⟩ := unhide HT3 ⟨g, 0, none⟩ 0 (fun h => absurd h (by omega))
      have hle : L.length = k + 1 := by omega
      have HP : Hid (RefPost w rb (.slice (some ⟨g, 0, none⟩) L.length cv) vf (w3.setCell ⟨rb, 0, none⟩ (.slice a2 n2 c2)) R.2 F) := by rw [unhide H2]; exact unhide u4
      have HCV := hide hcv
      have HLE := hide hle
      clear u4 HT3 H2 hle
      go_wp2_with (first | (go_at_call 149; refine (unhide hHI _ hb).mono ?_; rintro e w' ⟨rfl, hw⟩; rw [hw]; clear hw) | (at_builtin; refine Lib.wpList_append_run _ rfl _ _ 87 87 rfl _ _ rfl rfl _ _ t1 ?_; clear t1) | (at_builtin; refine Lib.wpList_append_run _ rfl _ _ 87 87 rfl _ _ rfl rfl _ _ u1 ?_; clear u1))
      go_ret
      exact ⟨by rw [unhide H1]; rfl, unhide HP⟩
     ·obtain ⟨a2, n2, c2, w3, u1, u2, u3, u4⟩ := unhide HT3 ⟨g, (k + 1) * 2, none⟩ (cv - (k + 1)) (fun _ => rfl)
      have HP : Hid (RefPost w rb (.slice (some ⟨g, 0, none⟩) L.length cv) vf (w3.setCell ⟨rb, 0, none⟩ (.slice a2 n2 c2)) R.2 F) := by rw [unhide H2]; exact unhide u4
      clear u4 HT3 H2
      go_wp2_with (first | (go_at_call 149; refine (unhide hHI _ hb).mono ?_; rintro e w' ⟨rfl, hw⟩; rw [hw]; clear hw) | (at_builtin; refine Lib.wpList_append_run _ rfl _ _ 87 87 rfl _ _ rfl rfl _ _ t1 ?_; clear t1) | (at_builtin; refine Lib.wpList_append_run _ rfl _ _ 87 87 rfl _ _ rfl rfl _ _ u1 ?_; clear u1))
      go_ret
      exact ⟨by rw [unhide H1]; rfl, unhide HP⟩
   ·have hR2 : R = (0, remL L p) := by rw [hR]; simp [hneg]
    have H1 : Hid (R.1 = 0) := by rw [hR2]; exact rfl
    have H2 : Hid (R.2 = L.take k ++ L.drop (k + 1)) := by rw [hR2]; exact unhide HRE
    clear hR hR2 HRE
    obtain ⟨hcl2, hnn⟩ : L.length ≤ cv ∧ cv ≤ 9223372036854775807 := by
     rcases (unhide HW).sl.2 with ⟨e, _⟩ | ⟨g', cap', R', e, _, hc1, hc2, _⟩
     ·cases e
     ·cases e; exact ⟨hc1, hc2⟩
    have hki : (k : Int) ≤ cv := by omega
    by_cases hcv : cv = k + 1
    ·obtain ⟨a2, n2, c2, w3, u1, u2, u3, u4⟩ := unhide HT3 ⟨g, 0, none⟩ 0 (fun h => absurd h (by omega))
     have hle : L.length = k + 1 := by omega
     have HP : Hid (RefPost w rb (.slice (some ⟨g, 0, none⟩) L.length cv) vf (w3.setCell ⟨rb, 0, none⟩ (.slice a2 n2 c2)) R.2 F) := by rw [unhide H2]; exact unhide u4
     have HCV := hide hcv
     have HLE := hide hle
     clear u4 HT3 H2 hle
     go_wp2_with (first | (go_at_call 149; refine (unhide hHI _ hb).mono ?_; rintro e w' ⟨rfl, hw⟩; rw [hw]; clear hw) | (at_builtin; refine Lib.wpList_append_run _ rfl _ _ 87 87 rfl _ _ rfl rfl _ _ t1 ?_; clear t1) | (at_builtin; refine Lib.wpList_append_run _ rfl _ _ 87 87 rfl _ _ rfl rfl _ _ u1 ?_; clear u1))
     go_ret
     exact ⟨by rw [unhide H1]; rfl, unhide HP⟩
    ·obtain ⟨a2, n2, c2, w3, u1, u2, u3, u4⟩ := unhide HT3 ⟨g, (k + 1) * 2, none⟩ (cv - (k + 1)) (fun _ => rfl)
     have HP : Hid (RefPost w rb (.slice (some ⟨g, 0, none⟩) L.length cv) vf (w3.setCell ⟨rb, 0, none⟩ (.slice a2 n2 c2)) R.2 F) := by rw [unhide H2]; exact unhide u4
     clear u4 HT3 H2
     go_wp2_with (first | (go_at_call 149; refine (unhide hHI _ hb).mono ?_; rintro e w' ⟨rfl, hw⟩; rw [hw]; clear hw) | (at_builtin; refine Lib.wpList_append_run _ rfl _ _ 87 87 rfl _ _ rfl rfl _ _ t1 ?_; clear t1) | (at_builtin; refine Lib.wpList_append_run _ rfl _ _ 87 87 rfl _ _ rfl rfl _ _ u1 ?_; clear u1))
     go_ret
     exact ⟨by rw [unhide H1]; rfl, unhide HP⟩
def aheadR (L : List (ByteArray × Int)) (p : ByteArray) : Int := aheadP L (prefs p (p.size - 1) 1)
def linkR (L : List (ByteArray × Int)) (F : List ByteArray) (a b : ByteArray) : Int × List (ByteArray × Int) :=
 if (nmOk a && nmOk b) = false then (1, L) else
 if aheadR L a ≠ 0 then (aheadR L a, L) else
 if (a.toList == [47]) = true then (5, L) else
 match look L a with
 | none => (3, L)
 | some f => if f < 0 then (5, L) else
  if aheadR L b ≠ 0 then (aheadR L b, L) else
  if (b.toList == [47]) = true ∨ (look L b).isSome = true then (6, L) else
  if roomR L F b 0 = false then (8, L) else (0, L ++ [(b, f)])
theorem FindIs.look {L : List (ByteArray × Int)} {p : ByteArray} {k : Nat} {x : ByteArray × Int} (hk' : L[k]? = some x) (hx : x.1 = p) (hfst : ∀ (j : Nat) y, j < k → L[j]? = some y → y.1 ≠ p) : look L p = some x.2 :=
 (look_of_find (.inr ⟨k, x, rfl, hk', hx, hfst⟩)).elim (fun h => by have := h.1; omega) (fun ⟨k2, x2, h2, h3, _, h5⟩ => by
  have : k2 = k := by omega
  subst this; rw [hk'] at h3; cases h3; exact h5)
theorem link_ref (w : World) (rb : Nat) (vl vf : Value) (L : List (ByteArray × Int)) (F : List ByteArray) (h : RefW w rb vl vf L F) (hL : L.length + 1 ≤ 2000000) (a b : ByteArray) (ha : a.size ≤ 2000000) (hbs : b.size ≤ 2000000) :
  Calls Tryz.prog 44 #[.pointer (some ⟨rb, 0, none⟩), .string a, .string b] w fun e w' => e = .returned (.int .i64 (linkR L F a b).1) ∧ RefPost w rb vl vf w' (linkR L F a b).2 F := by
 obtain ⟨R, hR⟩ : ∃ R, R = linkR L F a b := ⟨_, rfl⟩
 rw [← hR]
 unfold linkR at hR
 have HW := hide h
 have HHF : Hid (∀ p w1, Below w.heap.size w w1 → Calls Tryz.prog 101 #[.pointer (some ⟨rb, 0, none⟩), .string p] w1 fun e w'' => ∃ r, (e = .returned (.int .i64 r) ∧ FindIs L p r) ∧ w'' = w1) := fun p w1 hb => (h.at hb).find p
 have HHA : Hid (∀ p w1, p.size ≤ 2000000 → Below w.heap.size w w1 → Calls Tryz.prog 104 #[.pointer (some ⟨rb, 0, none⟩), .string p] w1 fun e w'' => e = .returned (.int .i64 (aheadR L p)) ∧ w'' = w1) := fun p w1 hp hb => (h.at hb).ahead p hp
 have HRM : Hid (∀ w1, nmOk b = true → Below w.heap.size w w1 → Calls Tryz.prog 102 #[.pointer (some ⟨rb, 0, none⟩), .string b, .int .i64 ((0 : Nat) : Int)] w1 fun e w'' => e = .returned (.bool (roomR L F b 0)) ∧ w'' = w1) := fun w1 hok hb => room_ref w1 rb vl vf L F (h.at hb).c b hbs (hasSl_of_ok b hok) 0 (Nat.zero_le _)
 have HSM : Hid (∀ w', Below w.heap.size w w' → RefPost w rb vl vf w' L F) := fun w' hb => RefPost.same h hb
 have HAP : Hid (∀ (W : World) (f : Int) (nb : Nat), nmOk b = true → Below w.heap.size w W → RowIs W nb 103 (clL (b, f)) → _) := fun W f nb hok hb hn => appL w W rb vl vf L F h hb hL b f hbs (hasSl_of_ok b hok) nb hn
 have hrbl := h.hd.lt
 obtain ⟨av, cv, rfl, hrd⟩ := h.sl.rdL
 have HRD := hide hrd
 clear h hrd
 go_enter Tryz.func44, Tryz.ntmps44
 go_wp2_with fail
 refine (names_ref a _ ha).mono ?_
 rintro e w1 ⟨a1, n1, c1, rfl, _, hb1⟩
 go_wp2_with fail
 refine (names_ref b _ hbs).mono ?_
 rintro e w2 ⟨a2, n2, c2, rfl, _, hb2⟩
 have hb := hb1.trans (hb2.mono hb1.size)
 cases hoa : nmOk a with
 | false =>
  have hR2 : R = (1, L) := by rw [hR, hoa]; rfl
  have HP : Hid (RefPost w rb (.slice av L.length cv) vf w2 R.2 F) := by rw [hR2]; exact unhide HSM _ hb
  have H1 : Hid (R.1 = 1) := by rw [hR2]; exact rfl
  clear hR hR2
  go_wp2
  go_ret
  exact ⟨by rw [unhide H1]; rfl, unhide HP⟩
 | true =>
 cases hob : nmOk b with
 | false =>
  have hR2 : R = (1, L) := by rw [hR, hoa, hob]; rfl
  have HP : Hid (RefPost w rb (.slice av L.length cv) vf w2 R.2 F) := by rw [hR2]; exact unhide HSM _ hb
  have H1 : Hid (R.1 = 1) := by rw [hR2]; exact rfl
  clear hR hR2
  go_wp2
  go_ret
  exact ⟨by rw [unhide H1]; rfl, unhide HP⟩
 | true =>
 rw [hoa, hob, if_neg (by simp)] at hR
 obtain ⟨e1, he1⟩ : ∃ e1, e1 = aheadR L a := ⟨_, rfl⟩
 have hah := unhide HHA a w2 ha hb
 rw [← he1] at hR hah
 by_cases h0 : e1 ≠ 0
 ·rw [if_pos h0] at hR
  have hbb : (e1 != 0) = true := by rw [bne_iff_ne]; exact h0
  have HP : Hid (RefPost w rb (.slice av L.length cv) vf w2 R.2 F) := by rw [hR]; exact unhide HSM _ hb
  have H1 : Hid (R.1 = e1) := by rw [hR]; exact rfl
  clear hR h0 he1
  go_wp2_with (go_at_call 104; refine hah.mono ?_; rintro e w' ⟨rfl, hw⟩; rw [hw]; clear hw)
  go_ret
  exact ⟨by rw [unhide H1]; rfl, unhide HP⟩
 rw [if_neg h0] at hR
 obtain rfl : e1 = 0 := by omega
 go_wp2_with (go_at_call 104; refine hah.mono ?_; rintro e w' ⟨rfl, hw⟩; rw [hw]; clear hw)
 refine (unhide HHF a _ hb).mono ?_
 rintro e w' ⟨r, ⟨rfl, hfi⟩, hw⟩
 rw [hw]; clear hw
 have hcw := ((unhide HW).at hb).c.c0
 have hrb1 : rb < w2.heap.size := Nat.lt_of_lt_of_le hrbl hb.size
 clear hah he1 h0
 cases h1 : (a.toList == [47]) with
 | true =>
  rw [if_pos h1] at hR
  have HP : Hid (RefPost w rb (.slice av L.length cv) vf w2 R.2 F) := by rw [hR]; exact unhide HSM _ hb
  have H1 : Hid (R.1 = 5) := by rw [hR]; exact rfl
  clear hR hfi
  go_wp2
  go_ret
  exact ⟨by rw [unhide H1]; rfl, unhide HP⟩
 | false =>
 rw [if_neg (by rw [h1]; simp)] at hR
 rcases hfi with ⟨rfl, hno⟩ | ⟨k, x, rfl, hk', hx, hfst⟩
 ·have hl : look L a = none := (look_of_find (.inl ⟨rfl, hno⟩)).elim (fun h => h.2) (fun ⟨_, _, h, _⟩ => by omega)
  rw [hl] at hR
  have HP : Hid (RefPost w rb (.slice av L.length cv) vf w2 R.2 F) := by rw [hR]; exact unhide HSM _ hb
  have H1 : Hid (R.1 = 3) := by rw [hR]; exact rfl
  clear hR hl hno
  go_wp2
  go_ret
  exact ⟨by rw [unhide H1]; rfl, unhide HP⟩
 rw [FindIs.look hk' hx hfst] at hR
 have hkl := (List.getElem?_eq_some_iff.1 hk').1
 obtain ⟨g, rfl, q0, q1⟩ := (unhide HRD) k x hk'
 have hg : g < w.heap.size := (unhide HW).sl.lt rfl
 have hg2 : g < w2.heap.size := Nat.lt_of_lt_of_le hg hb.size
 have q1' := (hb.cell (p := ⟨g, k * 2 + 1, none⟩) hg).trans q1
 clear hfst hx hk' q0 q1
 by_cases hneg : x.2 < 0
 ·have hR2 : R = (5, L) := by rw [hR]; simp [hneg]
  have HP : Hid (RefPost w rb (.slice (some ⟨g, 0, none⟩) L.length cv) vf w2 R.2 F) := by rw [hR2]; exact unhide HSM _ hb
  have H1 : Hid (R.1 = 5) := by rw [hR2]; exact rfl
  clear hR hR2
  go_wp2
  go_ret
  exact ⟨by rw [unhide H1]; rfl, unhide HP⟩
 simp only [if_neg hneg] at hR
 obtain ⟨e2, he2⟩ : ∃ e2, e2 = aheadR L b := ⟨_, rfl⟩
 have hah := unhide HHA b w2 hbs hb
 rw [← he2] at hR hah
 by_cases h0 : e2 ≠ 0
 ·rw [if_pos h0] at hR
  have hbb : (e2 != 0) = true := by rw [bne_iff_ne]; exact h0
  have HP : Hid (RefPost w rb (.slice (some ⟨g, 0, none⟩) L.length cv) vf w2 R.2 F) := by rw [hR]; exact unhide HSM _ hb
  have H1 : Hid (R.1 = e2) := by rw [hR]; exact rfl
  clear hR h0 he2
  go_wp2_with (go_at_call 104; refine hah.mono ?_; rintro e w' ⟨rfl, hw⟩; rw [hw]; clear hw)
  go_ret
  exact ⟨by rw [unhide H1]; rfl, unhide HP⟩
 rw [if_neg h0] at hR
 obtain rfl : e2 = 0 := by omega
 clear h0 he2
 cases h2 : (b.toList == [47]) with
 | true =>
  rw [if_pos (.inl h2)] at hR
  have HP : Hid (RefPost w rb (.slice (some ⟨g, 0, none⟩) L.length cv) vf w2 R.2 F) := by rw [hR]; exact unhide HSM _ hb
  have H1 : Hid (R.1 = 6) := by rw [hR]; exact rfl
  clear hR
  go_wp2_with (go_at_call 104; refine hah.mono ?_; rintro e w' ⟨rfl, hw⟩; rw [hw]; clear hw)
  go_ret
  exact ⟨by rw [unhide H1]; rfl, unhide HP⟩
 | false =>
 go_wp2_with (go_at_call 104; refine hah.mono ?_; rintro e w' ⟨rfl, hw⟩; rw [hw]; clear hw)
 refine (unhide HHF b _ hb).mono ?_
 rintro e w' ⟨r, ⟨rfl, hfi⟩, hw⟩
 rw [hw]; clear hw
 rcases look_of_find hfi with ⟨rfl, hl⟩ | ⟨j, y, rfl, hj, hy, hl⟩
 ·rw [if_neg (by simp [h2, hl])] at hR
  cases hroom : roomR L F b 0 with
  | false =>
   rw [if_pos hroom] at hR
   have HP : Hid (RefPost w rb (.slice (some ⟨g, 0, none⟩) L.length cv) vf w2 R.2 F) := by rw [hR]; exact unhide HSM _ hb
   have H1 : Hid (R.1 = 8) := by rw [hR]; exact rfl
   clear hR hl hfi
   go_wp2_with (go_at_call 102; refine (unhide HRM _ hob hb).mono ?_; rintro e w' ⟨rfl, hw⟩; rw [hw]; clear hw)
   go_ret
   exact ⟨by rw [unhide H1]; rfl, unhide HP⟩
  | true =>
   rw [if_neg (by rw [hroom]; simp)] at hR
   obtain ⟨a', n', c', w3, r1, r2, r3, r4⟩ := unhide HAP (w2.alloc (.cells #[.string b, .int .i64 x.2] 103)).drew x.2 w2.heap.size hob (hb.trans ((((Below.refl _ _).alloc (Nat.le_refl _) _).drew).mono hb.size)) (heap_alloc_new w2 _)
   have HP : Hid (RefPost w rb (.slice (some ⟨g, 0, none⟩) L.length cv) vf (w3.setCell ⟨rb, 0, none⟩ (.slice a' n' c')) R.2 F) := by rw [hR]; exact unhide r4
   have H1 : Hid (R.1 = 0) := by rw [hR]; exact rfl
   clear hR hl hfi r4
   go_wp2_with (go_at_call 102; refine (unhide HRM _ hob hb).mono ?_; rintro e w' ⟨rfl, hw⟩; rw [hw]; clear hw)
   go_region_law (refine step_append_run rfl _ _ 87 87 rfl _ _ (by simp [Act.eval]) (by simp [Act.eval]) r1 ?_)
   all_goals (
    go_wp2
    go_ret
    exact ⟨by rw [unhide H1]; rfl, unhide HP⟩)
 ·rw [if_pos (.inr (by simp [hl]))] at hR
  have HP : Hid (RefPost w rb (.slice (some ⟨g, 0, none⟩) L.length cv) vf w2 R.2 F) := by rw [hR]; exact unhide HSM _ hb
  have H1 : Hid (R.1 = 6) := by rw [hR]; exact rfl
  clear hR hl hfi hj hy
  go_wp2
  go_ret
  exact ⟨by rw [unhide H1]; rfl, unhide HP⟩
end Go.Proofs.YtaieidcohdhgpaaGreatDoor
