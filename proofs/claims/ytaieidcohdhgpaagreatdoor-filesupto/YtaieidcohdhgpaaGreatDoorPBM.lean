/- Files. -/
import Derived.Test.YtaieidcohdhgpaaGreatDoorPBL
import Derived.Test.YtaieidcohdhgpaaGreatDoorPAJ
namespace Go.Proofs.YtaieidcohdhgpaaGreatDoor
open Go.RowKit
set_option maxHeartbeats 2000000
set_option maxRecDepth 100000
theorem mem_insO {l : List (ByteArray × Int)} {x y : ByteArray × Int} : y ∈ insO l x ↔ y = x ∨ y ∈ l := by
 unfold insO
 have h := List.take_append_drop (placeOf x l) l
 constructor
 ·intro hy
  rcases List.mem_append.1 hy with hy | hy
  ·exact .inr (List.mem_of_mem_take hy)
  ·rcases List.mem_cons.1 hy with hy | hy
   ·exact .inl hy
   ·exact .inr (List.mem_of_mem_drop hy)
 ·rintro (rfl | hy)
  ·exact List.mem_append_right _ (List.mem_cons_self ..)
  ·rw [← h] at hy
   rcases List.mem_append.1 hy with hy | hy
   ·exact List.mem_append_left _ hy
   ·exact List.mem_append_right _ (List.mem_cons_of_mem _ hy)
theorem mem_insideT {L : List (ByteArray × Int)} {d : ByteArray} {y : ByteArray × Int} : ∀ k, k ≤ L.length → (y ∈ insideT L d k ↔ y ∈ L.take k ∧ qDir d y = true)
 | 0, _ => by simp [insideT]
 | k + 1, hk => by
  have ih := mem_insideT (L := L) (d := d) (y := y) k (by omega)
  have hlt : k < L.length := by omega
  rw [List.take_add_one, List.getElem?_eq_getElem hlt]
  simp only [insideT, List.getElem?_eq_getElem hlt, Option.toList_some]
  by_cases hq : qDir d L[k] = true
  ·rw [if_pos hq, mem_insO, ih, List.mem_append, List.mem_singleton]
   constructor
   ·rintro (rfl | ⟨h1, h2⟩)
    ·exact ⟨.inr rfl, hq⟩
    ·exact ⟨.inl h1, h2⟩
   ·rintro ⟨h1 | rfl, h2⟩
    ·exact .inr ⟨h1, h2⟩
    ·exact .inl rfl
  ·rw [if_neg hq, ih, List.mem_append, List.mem_singleton]
   constructor
   ·rintro ⟨h1, h2⟩; exact ⟨.inl h1, h2⟩
   ·rintro ⟨h1 | rfl, h2⟩
    ·exact ⟨h1, h2⟩
    ·exact absurd h2 hq
def toldE (L : List (ByteArray × Int)) (F : List ByteArray) (x : ByteArray × Int) : En :=
 if x.2 < 0 then ⟨nameOf x.1, true, (L.countP (qDir x.1) : Nat), 1⟩ else ⟨nameOf x.1, false, ((F[x.2.toNat]?.getD ⟨#[]⟩).size : Nat), (L.countP (qFile x.2) : Nat)⟩
theorem toldV_E (L : List (ByteArray × Int)) (F : List ByteArray) (x : ByteArray × Int) : toldV L F x = .agg #[.string (toldE L F x).n, .bool (toldE L F x).d, .int .i64 (toldE L F x).s, .int .i64 (toldE L F x).l] := by
 unfold toldV toldE
 split <;> rfl
def listR (L : List (ByteArray × Int)) (F : List ByteArray) (p : ByteArray) : List En × Int :=
 if askR L p ≠ 0 then ([], askR L p) else
 if (p.toList == [47]) = true then ((insideT L ⟨#[]⟩ L.length).map (toldE L F), 0) else
 match look L p with
 | none => ([], 3)
 | some f => if 0 ≤ f then ([], 4) else ((insideT L p L.length).map (toldE L F), 0)
theorem info51 : (Tryz.prog.info? 112).map (fun i => (i.zero, i.size, i.bytes)) = some (some (.agg #[.string ⟨#[]⟩, .bool false, .int .i64 0, .int .i64 0]), 4, 40) := by kernel_rfl
theorem und47 : Tryz.prog.underlying 99 = some (.slice 112) := by kernel_rfl
theorem appE (w : World) (v : Value) (es : List En) (hS : Sl w 112 4 v es.length (cellsE es)) (hl : es.length + 1 ≤ 2000000) (x : En) (nb : Nat) (hnb : RowIs w nb 112 (clE x)) :
  ∃ v' w2, (Builtin.append_ #[99, 99] 99 #[v, .slice (some ⟨nb, 0, none⟩) 1 1]).run Tryz.prog w = .ok v' w2 ∧ ∃ a n c, v' = .slice a n c ∧ Sl w2 112 4 (.slice a n c) (es ++ [x]).length (cellsE (es ++ [x])) ∧ w.grownBy w2 v.ownBlock ∧ NewOr w v (.slice a n c) := by
 obtain ⟨i0, hi0, hz0, hz1, hz2⟩ := info_parts info51
 obtain ⟨v', w2, r1, r2, r3, r4⟩ := append_new (P := Tryz.prog) w 99 99 112 i0 _ 4 40 und47 hi0 hz0 hz1 hz2 rfl (by decide) v es.length (cellsE es) hS ⟨nb, 0, none⟩ 1 1 (clE x) rfl
  (fun j u hu => by rw [Addr.add_lit, Nat.zero_add, hnb.cell]; exact hu) (fun u hu => cellsE_one [x] u (by simpa [cellsE] using hu)) (by unfold maxLen; omega) (by omega)
 obtain ⟨a, n, c, rfl⟩ := r2.shape
 refine ⟨_, w2, r1, a, n, c, rfl, ?_, r3, r4⟩
 rw [List.length_append, cellsE_append]
 simpa [cellsE] using r2
def LiMid (w wr : World) (L : List (ByteArray × Int)) (F : List ByteArray) (T : List (ByteArray × Int)) (o i : Value) : Prop :=
 ∃ k : Nat, k ≤ T.length ∧ i = .int .i64 k ∧ Sl wr 112 4 o ((T.take k).map (toldE L F)).length (cellsE ((T.take k).map (toldE L F))) ∧ Below w.heap.size w wr ∧ ∀ j, o.ownBlock = some j → w.heap.size ≤ j
theorem list_ref (w : World) (rb : Nat) (vl vf : Value) (L : List (ByteArray × Int)) (F : List ByteArray) (h : RefW w rb vl vf L F) (hfv : ∀ x ∈ L, x.2 < F.length) (hL : L.length + 1 ≤ 2000000) (p : ByteArray) (hp : p.size ≤ 2000000) :
  Calls Tryz.prog 109 #[.pointer (some ⟨rb, 0, none⟩), .string p] w (ListPost (listR L F p).1 (listR L F p).2 w) := by
 obtain ⟨R, hR⟩ : ∃ R, R = listR L F p := ⟨_, rfl⟩
 rw [← hR]
 unfold listR at hR
 have HW := hide h
 have HFV := hide hfv
 have hk := ask_ref w rb _ vf L F h p hp
 have HIN : Hid (∀ W d, Below w.heap.size w W → Calls Tryz.prog 163 #[.pointer (some ⟨rb, 0, none⟩), .string d] W fun e w' => ∃ v, e = .returned v ∧ Sl w' 103 2 v (insideT L d L.length).length (cellsL (insideT L d L.length)) ∧ Below W.heap.size W w' ∧ ∀ j, v.ownBlock = some j → W.heap.size ≤ j) := fun W d hb => inside_ref W rb vl vf L F (h.at hb) hL d
 obtain ⟨av, cv, rfl, hrd⟩ := h.sl.rdL
 have HRD := hide hrd
 have hrb := h.hd.lt
 obtain ⟨e0, he0⟩ : ∃ e0, e0 = askR L p := ⟨_, rfl⟩
 rw [← he0] at hk hR
 have HR00 := hide hR
 clear h hrd hfv he0 hR
 go_enter Tryz.func109, Tryz.ntmps109
 go_wp2_with fail
 refine hk.mono ?_
 rintro e w1 ⟨rfl, hb1⟩
 have hR := unhide HR00
 clear hk HR00
 by_cases h0 : e0 ≠ 0
 ·rw [if_pos h0] at hR
  have hbb : (e0 != 0) = true := by rw [bne_iff_ne]; exact h0
  have HR := hide hR
  clear hR h0
  go_wp2
  go_ret2
  rw [unhide HR]
  exact ⟨⟨_, _, _, rfl, rfl, .inl ⟨rfl, rfl⟩⟩, hb1⟩
 rw [if_neg h0] at hR
 obtain rfl : e0 = 0 := by omega
 cases h1 : (p.toList == [47]) with
 | true =>
  rw [if_pos h1] at hR
  have hin := unhide HIN w1 ⟨#[]⟩ hb1
  obtain ⟨d, hd⟩ : ∃ d, d = (⟨#[]⟩ : ByteArray) := ⟨_, rfl⟩
  rw [← hd] at hin hR
  have HR0 := hide hR
  have HD := hide hd
  clear h0 hR hd
  go_wp2_with fail
  have hR := unhide HR0
  rw [← unhide HD]
  clear HD HR0
  refine hin.mono ?_
  rintro e w2 ⟨vT, rfl, hST, hb2, hnT⟩
  have hbw2 : Below w.heap.size w w2 := hb1.trans (hb2.mono hb1.size)
  obtain ⟨T, hT⟩ : ∃ T, T = insideT L d L.length := ⟨_, rfl⟩
  rw [← hT] at hST hR
  have hTl : T.length ≤ L.length := by rw [hT]; exact insideT_le L d _
  have hTm : ∀ x ∈ T, x ∈ L := fun x hx => by rw [hT] at hx; exact List.mem_of_mem_take ((mem_insideT L.length (Nat.le_refl _)).1 hx).1
  obtain ⟨aT, cT, rfl, hrT⟩ := hST.rdL
  have HRT : Hid (∀ wr, Below w2.heap.size w2 wr → ∀ (k : Nat) x, T[k]? = some x → ∃ g, aT = some ⟨g, 0, none⟩ ∧ wr.cell? ⟨g, k * 2, none⟩ = some (.string x.1) ∧ wr.cell? ⟨g, k * 2 + 1, none⟩ = some (.int .i64 x.2)) := fun wr hb k x hx => by
   obtain ⟨g, e1, e2, e3⟩ := hrT k x hx
   have hg : g < w2.heap.size := World.block_lt_of_cell? _ _ e2
   exact ⟨g, e1, (hb.cell (p := ⟨g, k * 2, none⟩) hg).trans e2, (hb.cell (p := ⟨g, k * 2 + 1, none⟩) hg).trans e3⟩
  have HTD : Hid (∀ wr x, Below w.heap.size w wr → x ∈ T → Calls Tryz.prog 166 #[.pointer (some ⟨rb, 0, none⟩), .agg #[.string x.1, .int .i64 x.2]] wr fun e w' => e = .returned (.agg #[.string (toldE L F x).n, .bool (toldE L F x).d, .int .i64 (toldE L F x).s, .int .i64 (toldE L F x).l]) ∧ Below wr.heap.size wr w') := fun wr x hb hx => by
   have ho := (unhide HW).ok x (hTm x hx)
   have := told_ref wr rb _ vf L F ((unhide HW).at hb) x.1 x.2 ho.1 ho.2 (unhide HFV x (hTm x hx))
   rw [show (x.1, x.2) = x from rfl, toldV_E] at this
   exact this
  have HR := hide hR
  have HB2 := hide hbw2
  clear hR hT hTm hST hrT hin hnT hb1 hb2 hbw2 HIN
  go_wp2_with fail
  go_loopw [10, 11] (fun o i wr => LiMid w2 wr L F T o i) (fun _ i _ => T.length - (intOf i).toNat)
  case atStart => exact ⟨0, Nat.zero_le _, rfl, ⟨rfl, .inl ⟨rfl, rfl⟩⟩, Below.refl _ _, fun j hj => by simp [Value.ownBlock] at hj⟩
  case round =>
   obtain ⟨k, hk, rfl, hS, hbr, hn⟩ := hrel
   have hbw : Below w.heap.size w wr := (unhide HB2).trans (hbr.mono (unhide HB2).size)
   obtain ⟨ao, no, co, rfl⟩ := hS.shape
   by_cases hlt : k < T.length
   ·obtain ⟨x, hx⟩ : ∃ x, T[k]? = some x := ⟨_, List.getElem?_eq_getElem hlt⟩
    obtain ⟨gT, rfl, t0, t1⟩ := unhide HRT wr hbr k x hx
    have htd := unhide HTD wr x hbw (List.mem_of_getElem? hx)
    obtain ⟨y, hy⟩ : ∃ y, y = toldE L F x := ⟨_, rfl⟩
    obtain ⟨es, hes⟩ : ∃ es, es = (T.take k).map (toldE L F) := ⟨_, rfl⟩
    have hel : es.length + 1 ≤ 2000000 := by rw [hes, List.length_map, List.length_take]; omega
    have HNX : Hid ((T.take (k + 1)).map (toldE L F) = es ++ [y]) := by
     show _ = _
     rw [List.take_add_one, hx, Option.toList_some, List.map_append, List.map_cons, List.map_nil, ← hes, ← hy]
    rw [← hes] at hS
    rw [← hy] at htd
    have HAP : Hid (∀ w3, Below wr.heap.size wr w3 → ∃ a n c w4, (Builtin.append_ #[99, 99] 99 #[.slice ao no co, .slice (some ⟨w3.heap.size, 0, none⟩) 1 1]).run Tryz.prog (w3.alloc (.cells #[.string y.n, .bool y.d, .int .i64 y.s, .int .i64 y.l] 112)) = .ok (.slice a n c) w4 ∧ Hid (LiMid w2 w4 L F T (.slice a n c) (.int .i64 (k + 1 : Nat)))) := fun w3 hb3 => by
     have hb4 : Below wr.heap.size wr (w3.alloc (.cells #[.string y.n, .bool y.d, .int .i64 y.s, .int .i64 y.l] 112)) := hb3.alloc hb3.size _
     obtain ⟨v', w4, r1, a, n, c, rfl, r2, r3, r4⟩ := appE (w3.alloc (.cells #[.string y.n, .bool y.d, .int .i64 y.s, .int .i64 y.l] 112)) (.slice ao no co) es (hS.kept (fun j hj _ => hb4.block j hj)) hel y w3.heap.size (heap_alloc_new w3 _)
     have hbB : Below w2.heap.size w2 (w3.alloc (.cells #[.string y.n, .bool y.d, .int .i64 y.s, .int .i64 y.l] 112)) := hbr.trans (hb4.mono hbr.size)
     refine ⟨a, n, c, w4, r1, k + 1, by omega, rfl, ?_, hbB.trans (below_of_append r3 hn hbB.size), fun j hj => (r4 j hj).elim (hn j) (fun h => Nat.le_trans hbB.size h)⟩
     rw [unhide HNX]; exact r2
    have HTD2 := hide htd
    have hkT := hTl
    clear hy hes HNX hel htd hx hn hS hbw hbr
    go_wp2_with fail
    refine (unhide HTD2).mono ?_
    rintro e w3 ⟨rfl, hb3⟩
    obtain ⟨a4, n4, c4, w4, s1, HL4⟩ := unhide HAP w3 hb3
    clear HTD2 HAP hb3 t0 t1
    go_wp2_with (at_builtin; refine Lib.wpList_append_run _ rfl _ _ 99 99 rfl _ _ rfl rfl _ _ s1 ?_; clear s1)
    go_roundw
    case rel => exact (by have := unhide HL4; obtain ⟨k', h1, h2, h3⟩ := this; exact ⟨k', h1, (by rw [← h2]; go_num), h3⟩)
    case measure => simp [intOf]; omega
   ·obtain rfl : k = T.length := by omega
    rw [List.take_length] at hS
    have HS := hide hS
    have HBW := hide hbw
    clear hS hn hbw hbr
    go_wp2
    go_ret2
    rw [unhide HR]
    exact ⟨⟨_, _, _, rfl, unhide HS⟩, unhide HBW⟩
 | false =>
 rw [if_neg (by rw [h1]; simp)] at hR
 have hfd := ((unhide HW).at hb1).find p
 have HR0 := hide hR
 clear h0 hR
 go_wp2_with fail
 refine hfd.mono ?_
 rintro e w' ⟨r, ⟨rfl, hfi⟩, hw⟩
 rw [hw]; clear hw hfd
 have hR := unhide HR0
 clear HR0
 rcases hfi with ⟨rfl, hno⟩ | ⟨k, x, rfl, hk', hx, hfst⟩
 ·have hl : look L p = none := (look_of_find (.inl ⟨rfl, hno⟩)).elim (fun h => h.2) (fun ⟨_, _, h, _⟩ => by omega)
  rw [hl] at hR
  have HR := hide hR
  clear hR hl hno
  go_wp2
  go_ret2
  rw [unhide HR]
  exact ⟨⟨_, _, _, rfl, rfl, .inl ⟨rfl, rfl⟩⟩, hb1⟩
 ·rw [FindIs.look hk' hx hfst] at hR
  have hkl := (List.getElem?_eq_some_iff.1 hk').1
  obtain ⟨g, rfl, q0, q1⟩ := (unhide HRD) k x hk'
  have hg : g < w.heap.size := (unhide HW).sl.lt rfl
  have q1' := (hb1.cell (p := ⟨g, k * 2 + 1, none⟩) hg).trans q1
  have hnl := (unhide HW).nl
  have hcw := ((unhide HW).at hb1).c.c0
  clear hfst hk' q0 q1
  by_cases hf : 0 ≤ x.2
  ·simp only [if_pos hf] at hR
   have HR := hide hR
   clear hR
   go_wp2
   go_ret2
   rw [unhide HR]
   exact ⟨⟨_, _, _, rfl, rfl, .inl ⟨rfl, rfl⟩⟩, hb1⟩
  ·simp only [if_neg hf] at hR
   have hin := unhide HIN w1 p hb1
   have HR0 := hide hR
   clear hR
   go_wp2_with fail
   have hR := unhide HR0
   obtain ⟨d, hd⟩ : ∃ d, d = p := ⟨_, rfl⟩
   rw [← hd] at hin hR ⊢
   clear hd q1' hcw hf hx HR0
   refine hin.mono ?_
   rintro e w2 ⟨vT, rfl, hST, hb2, hnT⟩
   have hbw2 : Below w.heap.size w w2 := hb1.trans (hb2.mono hb1.size)
   obtain ⟨T, hT⟩ : ∃ T, T = insideT L d L.length := ⟨_, rfl⟩
   rw [← hT] at hST hR
   have hTl : T.length ≤ L.length := by rw [hT]; exact insideT_le L d _
   have hTm : ∀ x ∈ T, x ∈ L := fun x hx => by rw [hT] at hx; exact List.mem_of_mem_take ((mem_insideT L.length (Nat.le_refl _)).1 hx).1
   obtain ⟨aT, cT, rfl, hrT⟩ := hST.rdL
   have HRT : Hid (∀ wr, Below w2.heap.size w2 wr → ∀ (k : Nat) x, T[k]? = some x → ∃ g, aT = some ⟨g, 0, none⟩ ∧ wr.cell? ⟨g, k * 2, none⟩ = some (.string x.1) ∧ wr.cell? ⟨g, k * 2 + 1, none⟩ = some (.int .i64 x.2)) := fun wr hb k x hx => by
    obtain ⟨g, e1, e2, e3⟩ := hrT k x hx
    have hg : g < w2.heap.size := World.block_lt_of_cell? _ _ e2
    exact ⟨g, e1, (hb.cell (p := ⟨g, k * 2, none⟩) hg).trans e2, (hb.cell (p := ⟨g, k * 2 + 1, none⟩) hg).trans e3⟩
   have HTD : Hid (∀ wr x, Below w.heap.size w wr → x ∈ T → Calls Tryz.prog 166 #[.pointer (some ⟨rb, 0, none⟩), .agg #[.string x.1, .int .i64 x.2]] wr fun e w' => e = .returned (.agg #[.string (toldE L F x).n, .bool (toldE L F x).d, .int .i64 (toldE L F x).s, .int .i64 (toldE L F x).l]) ∧ Below wr.heap.size wr w') := fun wr x hb hx => by
    have ho := (unhide HW).ok x (hTm x hx)
    have := told_ref wr rb _ vf L F ((unhide HW).at hb) x.1 x.2 ho.1 ho.2 (unhide HFV x (hTm x hx))
    rw [show (x.1, x.2) = x from rfl, toldV_E] at this
    exact this
   have HR := hide hR
   have HB2 := hide hbw2
   clear hR hT hTm hST hrT hin hnT hb1 hb2 hbw2 HIN
   go_wp2_with fail
   go_loopw [10, 11] (fun o i wr => LiMid w2 wr L F T o i) (fun _ i _ => T.length - (intOf i).toNat)
   case atStart => exact ⟨0, Nat.zero_le _, rfl, ⟨rfl, .inl ⟨rfl, rfl⟩⟩, Below.refl _ _, fun j hj => by simp [Value.ownBlock] at hj⟩
   case round =>
    obtain ⟨k, hk, rfl, hS, hbr, hn⟩ := hrel
    have hbw : Below w.heap.size w wr := (unhide HB2).trans (hbr.mono (unhide HB2).size)
    obtain ⟨ao, no, co, rfl⟩ := hS.shape
    by_cases hlt : k < T.length
    ·obtain ⟨x, hx⟩ : ∃ x, T[k]? = some x := ⟨_, List.getElem?_eq_getElem hlt⟩
     obtain ⟨gT, rfl, t0, t1⟩ := unhide HRT wr hbr k x hx
     have htd := unhide HTD wr x hbw (List.mem_of_getElem? hx)
     obtain ⟨y, hy⟩ : ∃ y, y = toldE L F x := ⟨_, rfl⟩
     obtain ⟨es, hes⟩ : ∃ es, es = (T.take k).map (toldE L F) := ⟨_, rfl⟩
     have hel : es.length + 1 ≤ 2000000 := by rw [hes, List.length_map, List.length_take]; omega
     have HNX : Hid ((T.take (k + 1)).map (toldE L F) = es ++ [y]) := by
      show _ = _
      rw [List.take_add_one, hx, Option.toList_some, List.map_append, List.map_cons, List.map_nil, ← hes, ← hy]
     rw [← hes] at hS
     rw [← hy] at htd
     have HAP : Hid (∀ w3, Below wr.heap.size wr w3 → ∃ a n c w4, (Builtin.append_ #[99, 99] 99 #[.slice ao no co, .slice (some ⟨w3.heap.size, 0, none⟩) 1 1]).run Tryz.prog (w3.alloc (.cells #[.string y.n, .bool y.d, .int .i64 y.s, .int .i64 y.l] 112)) = .ok (.slice a n c) w4 ∧ Hid (LiMid w2 w4 L F T (.slice a n c) (.int .i64 (k + 1 : Nat)))) := fun w3 hb3 => by
      have hb4 : Below wr.heap.size wr (w3.alloc (.cells #[.string y.n, .bool y.d, .int .i64 y.s, .int .i64 y.l] 112)) := hb3.alloc hb3.size _
      obtain ⟨v', w4, r1, a, n, c, rfl, r2, r3, r4⟩ := appE (w3.alloc (.cells #[.string y.n, .bool y.d, .int .i64 y.s, .int .i64 y.l] 112)) (.slice ao no co) es (hS.kept (fun j hj _ => hb4.block j hj)) hel y w3.heap.size (heap_alloc_new w3 _)
      have hbB : Below w2.heap.size w2 (w3.alloc (.cells #[.string y.n, .bool y.d, .int .i64 y.s, .int .i64 y.l] 112)) := hbr.trans (hb4.mono hbr.size)
      refine ⟨a, n, c, w4, r1, k + 1, by omega, rfl, ?_, hbB.trans (below_of_append r3 hn hbB.size), fun j hj => (r4 j hj).elim (hn j) (fun h => Nat.le_trans hbB.size h)⟩
      rw [unhide HNX]; exact r2
     have HTD2 := hide htd
     have hkT := hTl
     clear hy hes HNX hel htd hx hn hS hbw hbr
     go_wp2_with fail
     refine (unhide HTD2).mono ?_
     rintro e w3 ⟨rfl, hb3⟩
     obtain ⟨a4, n4, c4, w4, s1, HL4⟩ := unhide HAP w3 hb3
     clear HTD2 HAP hb3 t0 t1
     go_wp2_with (at_builtin; refine Lib.wpList_append_run _ rfl _ _ 99 99 rfl _ _ rfl rfl _ _ s1 ?_; clear s1)
     go_roundw
     case rel => exact (by have := unhide HL4; obtain ⟨k', h1, h2, h3⟩ := this; exact ⟨k', h1, (by rw [← h2]; go_num), h3⟩)
     case measure => simp [intOf]; omega
    ·obtain rfl : k = T.length := by omega
     rw [List.take_length] at hS
     have HS := hide hS
     have HBW := hide hbw
     clear hS hn hbw hbr
     go_wp2
     go_ret2
     rw [unhide HR]
     exact ⟨⟨_, _, _, rfl, unhide HS⟩, unhide HBW⟩
end Go.Proofs.YtaieidcohdhgpaaGreatDoor
