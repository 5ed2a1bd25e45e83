/- Files: the program's Write. -/
import Derived.Test.YtfabjhgkigagpaaGreatDoorPAX
namespace Go.Proofs.YtfabjhgkigagpaaGreatDoor
open Go.RowKit

set_option maxHeartbeats 2000000
set_option maxRecDepth 100000
def wrFits (i : Int) (d : ByteArray) : Bool := decide (0 ≤ i ∧ i ≤ 1280 - (d.size : Int))
def wrE (G : Gh) (I : List (Int × VF)) (p : ByteArray) (i : Int) (d : ByteArray) : Int := if locE G p (wrFits i d) ≠ 0 then locE G p (wrFits i d) else if names p = [] then 5 else match atG G (names p) with | some u => if u.p.isSome = true then 5 else 0 | none => if mayB G I (names p).dropLast = false then 8 else 0
def ovR (s : ByteArray) (i : Int) (d : ByteArray) : ByteArray := if d.size = 0 then s else wrR s i.toNat d
/-- Where a file's bytes lie: as before, or in a new row. -/
def Na (w : World) (a0 a : Option Addr) : Prop := a = a0 ∨ ∀ g, a = some g → w.heap.size ≤ g.block
theorem Na.mono {w w' : World} {a0 a : Option Addr} (h : Na w' a0 a) (hs : w.heap.size ≤ w'.heap.size) : Na w a0 a := h.elim .inl (fun h => .inr (fun g hg => Nat.le_trans hs (h g hg)))
/-- What making a file and filling it leaves. -/
def MadePost (w : World) (tb : Nat) (G : Gh) (I : List (Int × VF)) (C : Int → ByteArray) (ns : List ByteArray) (s : ByteArray) (e : Ending) (w' : World) : Prop :=
  Fr (ProgT tb w) w w' ∧ ∃ (f : Nat) (I1 I2 : List (Int × VF)) (a : Option Addr) (c : Nat), Na w none a ∧ f ≤ I.length ∧ (∀ x ∈ I, x.1 ≠ f) ∧ I1.length = I.length + 1 ∧ (∀ x, x ∈ I1 ↔ x = ((f : Int), ⟨none, 0, 0, 1⟩) ∨ x ∈ I) ∧ IOver I1 I2 f ⟨a, s.size, c, 1⟩ ∧
    ((e = .returned (.int .i64 9) ∧ 160 < useU (I2.map (·.2.l)) ∧ ∃ I3 C3, PS w' tb G I3 C3 ∧ I3.length = I.length ∧ (∀ x, x ∈ I3 ↔ x ∈ I) ∧ ∀ x ∈ I, C3 x.1 = C x.1) ∨
     (e = .returned (.int .i64 0) ∧ useU (I2.map (·.2.l)) ≤ 160 ∧ ∃ C2, PS w' tb (G ++ [(ns, ⟨none, (f : Int)⟩)]) I2 C2 ∧ C2 f = s ∧ ∀ x ∈ I, C2 x.1 = C x.1))
def WrPost (w : World) (tb : Nat) (G : Gh) (I : List (Int × VF)) (C : Int → ByteArray) (p : ByteArray) (i : Int) (d : ByteArray) (e : Ending) (w' : World) : Prop :=
  (wrE G I p i d ≠ 0 ∧ e = .returned (.int .i64 (wrE G I p i d)) ∧ Fr (ProgT tb w) w w' ∧ PS w' tb G I C) ∨
  (wrE G I p i d = 0 ∧ ((∃ u r a c, atG G (names p) = some u ∧ u.p = none ∧ (u.f, r) ∈ I ∧ Na w r.a a ∧ FilledPost w tb G I C u.f ⟨a, (ovR (C u.f) i d).size, c, r.f⟩ (ovR (C u.f) i d) e w') ∨
    (atG G (names p) = none ∧ MadePost w tb G I C (names p) (ovR ⟨#[]⟩ i d) e w')))
theorem fill_code' (w : World) (tb rd : Nat) (V : Nat → Value) (E : Nat → List (ByteArray × VS)) (vi : Value) (G : Gh) (I : List (Int × VF)) (C : Int → ByteArray) (h : TW w tb rd V E vi G I C) (hIl : I.length ≤ 10000) (hll : ∀ x ∈ I, x.2.l ≤ 2000000) (n : Int) (r0 : VF) (hin : (n, r0) ∈ I) (da : Option Addr) (dl dc : Nat) (hdl : dl ≤ 2000000) (s : ByteArray) (hdat : Sl w 5 1 (.slice da dl dc) dl (bytesV s)) :
    Calls Tryz.prog 98 #[.pointer (some ⟨tb, 0, none⟩), .int .i64 n, .slice da dl dc] w fun e w' => ∃ x : Int, e = .returned (.int .i64 x) ∧ FillPost w tb rd V E vi G I C n ⟨da, dl, dc, r0.f⟩ s (.returned (.int .i64 x)) w' := by
  refine (fill_code w tb rd V E vi G I C h hIl hll n r0 hin da dl dc hdl s hdat).mono ?_
  intro e w' hq
  have hq' := hq
  obtain ⟨_, I', _, ⟨rfl, _⟩ | ⟨rfl, _⟩⟩ := hq'
  · exact ⟨_, rfl, hq⟩
  · exact ⟨_, rfl, hq⟩
theorem PS.setOther {w : World} {tb : Nat} {G : Gh} {I : List (Int × VF)} {C : Int → ByteArray} (h : PS w tb G I C) {b : Nat} {t : TypeId} {R : List Value} (hr : RowIs w b t R) (hb : b ≠ 0) (ht : t ≠ 118 ∧ t ≠ 131 ∧ t ≠ 164 ∧ t ≠ 160 ∧ t ≠ 5) (j : Nat) (u : Value) : PS (w.setCell ⟨b, j, none⟩ u) tb G I C := by
  obtain ⟨rd, V, E, vi, h⟩ := h
  exact ⟨rd, V, E, vi, h.setOther hr hb ht j u⟩
theorem FilledPost.setOther {w w' : World} {tb : Nat} {G : Gh} {I : List (Int × VF)} {C : Int → ByteArray} {n : Int} {r : VF} {s : ByteArray} {e : Ending} (h : FilledPost w tb G I C n r s e w') {b : Nat} {R : List Value} (hr : RowIs w' b 44 R) (hb : b ≠ 0) (hbw : w.heap.size ≤ b) (u : Value) : FilledPost w tb G I C n r s e (w'.setCell ⟨b, 0, none⟩ u) := by
  obtain ⟨h1, I', h2, h3⟩ := h
  refine ⟨h1.ext ((Below.refl _ _).setCell (p := ⟨b, 0, none⟩) hbw u), I', h2, ?_⟩
  rcases h3 with ⟨e1, e2, I'', e3, e4, e5⟩ | ⟨e1, e2, e3⟩
  · exact .inl ⟨e1, e2, I'', e3.setOther hr hb (by decide) 0 u, e4, e5⟩
  · exact .inr ⟨e1, e2, e3.setOther hr hb (by decide) 0 u⟩
theorem GOk.add {G : Gh} (h : GOk G) {ns : List ByteArray} (hn : Nms ns) (hne : ns ≠ []) (hl : ns.length ≤ 6) (hat : atG G ns = none) (hup : ∀ ds n, ns = ds ++ [n] → ds = [] ∨ ∃ v, (ds, v) ∈ G ∧ v.p.isSome = true) (u : VS) : GOk (G ++ [(ns, u)]) := by
  refine ⟨fun x hx => ?_, fun x hx => ?_, fun x hx => ?_, ?_, fun ds n v hx => ?_⟩
  · rcases List.mem_append.1 hx with hx | hx
    · exact h.nms x hx
    · rw [List.mem_singleton.1 hx]; exact hn
  · rcases List.mem_append.1 hx with hx | hx
    · exact h.ne x hx
    · rw [List.mem_singleton.1 hx]; exact hne
  · rcases List.mem_append.1 hx with hx | hx
    · exact h.le x hx
    · rw [List.mem_singleton.1 hx]; exact hl
  · rw [List.map_append, List.nodup_append]
    refine ⟨h.nd, by simp, fun a ha b hb => ?_⟩
    obtain ⟨x, hx, rfl⟩ := List.mem_map.1 ha
    obtain rfl : b = ns := by simpa using hb
    intro e
    exact atG_none hat x.2 (by rw [← e]; exact hx)
  · rcases List.mem_append.1 hx with hx | hx
    · rcases h.up ds n v hx with e | ⟨v', hv', hs⟩
      · exact .inl e
      · exact .inr ⟨v', List.mem_append_left _ hv', hs⟩
    · have e := (Prod.mk.inj (List.mem_singleton.1 hx)).1
      rcases hup ds n e.symm with e | ⟨v', hv', hs⟩
      · exact .inl e
      · exact .inr ⟨v', List.mem_append_left _ hv', hs⟩
theorem IsDir.up {G : Gh} {rd : Nat} {ds : List ByteArray} {db : Nat} (h : IsDir G rd ds db) : ds = [] ∨ ∃ v, (ds, v) ∈ G ∧ v.p.isSome = true := by
  rcases h with ⟨rfl, _⟩ | h
  · exact .inl rfl
  · exact .inr ⟨_, h, rfl⟩
theorem bodyPostD_nil {P : Program} {fn : Func} {R : Ending → World → Prop} {tmps : Array Value} {w : World} (h : Leaves P fn tmps R [] .returning w) : bodyPostD P fn R Exit.ret { tmps := tmps, defers := [] } w := h
theorem over_code (w : World) (a : Option Addr) (l c : Nat) (s : ByteArray) (h : Sl w 5 1 (.slice a l c) l (bytesV s)) (hs : s.size ≤ 1280) (i : Nat) (ad : Option Addr) (ld cd : Nat) (d : ByteArray) (hd : Sl w 5 1 (.slice ad ld cd) ld (bytesV d)) (hi : i + d.size ≤ 1280) :
    Calls Tryz.prog 99 #[.slice a l c, .int .i64 i, .slice ad ld cd] w fun e w' => ∃ oa oc, e = .returned (.slice oa (ovR s i d).size oc) ∧ Sl w' 5 1 (.slice oa (ovR s i d).size oc) (ovR s i d).size (bytesV (ovR s i d)) ∧ Below w.heap.size w w' ∧ Na w a oa := by
  refine (overlaid_code w a l c s h.rdB hs i ad ld cd d hd.rdB hi).mono ?_
  rintro e w' ⟨hpost, hb⟩
  rcases hpost with ⟨h0, rfl⟩ | ⟨h0, x, m, rfl, hx, hS⟩
  · have : ovR s i d = s := by unfold ovR; rw [if_pos h0]
    rw [this]
    have hl : l = s.size := h.rdB.1
    subst hl
    exact ⟨a, c, rfl, h.kept (fun k hk _ => hb.block k hk), hb, .inl rfl⟩
  · have : ovR s i d = wrR s i d := by unfold ovR; rw [if_neg (by omega)]; rfl
    rw [this]
    have hm : m = (wrR s i d).size := hS.rdB.1
    subst hm
    exact ⟨_, _, rfl, hS, hb, .inr (fun g hg => by cases hg; exact hx)⟩
theorem writeT_code (w : World) (tb : Nat) (G : Gh) (I : List (Int × VF)) (C : Int → ByteArray) (h : PS w tb G I C) (hG : GOk G) (hGl : G.length ≤ 9000) (hIl : I.length ≤ 9000) (hI0 : ∀ x ∈ I, 0 ≤ x.1) (hFl : FlOk G I) (hll : ∀ x ∈ I, x.2.l ≤ 2000000) (hC : ∀ x ∈ I, (C x.1).size ≤ 1280) (p : ByteArray) (hp : p.size ≤ 2000000) (i : Int) (d : ByteArray) (hds : d.size ≤ 2000000) (ad : Option Addr) (cd : Nat) (hd : Sl w 5 1 (.slice ad d.size cd) d.size (bytesV d)) :
    Calls Tryz.prog 52 #[.pointer (some ⟨tb, 0, none⟩), .string p, .int .i64 i, .slice ad d.size cd] w (WrPost w tb G I C p i d) := by
  obtain ⟨rd, V, E, vi, h⟩ := h
  have hmf : ∀ (fn : Fn) (first cap : Array Value) (w : World), (Instr.makeFunc fn first cap).run Tryz.prog w = .ok (.func fn first cap) w := fun _ _ _ _ => rfl
  have HSAME : Hid (∀ W, Below w.heap.size w W → wrE G I p i d ≠ 0 → WrPost w tb G I C p i d (.returned (.int .i64 (wrE G I p i d))) W) := fun W hb hne => .inl ⟨hne, rfl, Fr.of_below hb, rd, V, E, vi, h.below hb (Nat.le_refl _)⟩
  have HH := hide h
  have HFL := hide hFl
  have HC := hide hC
  have HLL := hide hll
  have HI0 := hide hI0
  have HD := hide hd
  have HLOC : Hid (∀ W, Below w.heap.size w W → _) := fun W hb => locate_code W tb rd V E vi G I C (h.below hb (Nat.le_refl _)) hG (by omega) p hp (wrFits i d)
  clear h hFl hC hll hd hI0
  obtain ⟨fits, hfits⟩ : ∃ b, b = wrFits i d := ⟨_, rfl⟩
  have HFITS := hide hfits
  rw [← hfits] at HLOC
  have hcase : (fits = true ∧ 0 ≤ i ∧ i ≤ 1280 - (d.size : Int)) ∨ (fits = false ∧ 0 ≤ i ∧ ¬ i ≤ 1280 - (d.size : Int)) ∨ (fits = false ∧ ¬ 0 ≤ i) := by
    unfold wrFits at hfits
    by_cases h0 : 0 ≤ i
    · by_cases h1 : i ≤ 1280 - (d.size : Int)
      · exact .inl ⟨by rw [hfits]; exact decide_eq_true ⟨h0, h1⟩, h0, h1⟩
      · exact .inr (.inl ⟨by rw [hfits]; exact decide_eq_false (fun h => h1 h.2), h0, h1⟩)
    · exact .inr (.inr ⟨by rw [hfits]; exact decide_eq_false (fun h => h0 h.1), h0⟩)
  clear hfits
  rcases hcase with ⟨rfl, h0i, h1i⟩ | ⟨rfl, h0i, h1i⟩ | ⟨rfl, h0i⟩
  · go_enter_defers Tryz.func52, Tryz.ntmps52
    go_upto_region 2 with fail
    obtain ⟨W1, hW1, hx1, hk1, hsz1, hb1⟩ := alloc_name w [.pointer (some ⟨tb, 0, none⟩)] 27
    obtain ⟨W2, hW2, hx2, hk2, hsz2, hb2⟩ := alloc_name W1 [.int .i64 0] 44
    have hbw : Below w.heap.size w W2 := hb1.trans (hb2.mono (by omega))
    have y4 := hk2 _ _ _ hx1
    rw [hsz1] at hx2
    rw [hW1, hW2]
    have a0 := y4.cell 0
    clear hW1 hW2 hk1 hk2 hb1 hb2 hx1 hsz1 hsz2
    go_wp2_with fail
    refine (unhide HLOC _ hbw).mono ?_
    rintro e w1 ⟨hpost, hb1⟩
    have z4 : RowIs w1 w.heap.size 27 _ := (hb1.block _ y4.lt).trans y4
    have z8 : RowIs w1 (w.heap.size + 1) 44 _ := (hb1.block _ hx2.lt).trans hx2
    have hb : Below w.heap.size w w1 := hbw.trans (hb1.mono hbw.size)
    have hlt8 : w.heap.size + 1 < w1.heap.size := z8.lt
    clear y4 hx2 hbw hb1 a0 HLOC
    rcases hpost with ⟨hne, rfl⟩ | ⟨he, hok, sd, n, t, u, hsp, rfl⟩
    · have HE : Hid (wrE G I p i d = locE G p true) := by show _ = _; unfold wrE; rw [← unhide HFITS, if_pos hne]
      have HNE := hide hne
      have hne' : (locE G p true != 0) = true := by simpa using hne
      clear hne
      unfold noSpot spotV
      go_upto_if 32 with fail
      obtain ⟨W, hW, hx, hk, hsz, hbW⟩ := alloc_name w1 zeroL 124
      have t8 := hk _ _ _ z8
      have hb2 : Below w.heap.size w W := hb.trans (hbW.mono hb.size)
      rw [hW]
      clear hW hk hbW hx hsz
      have c8 := t8.cell 0; have f8 := t8.frozen 0
      go_wp2
      have d8 := (t8.set 0 (.int .i64 (locE G p true))).cell 0
      refine bodyPostD_nil ?_
      have := unhide HSAME (W.setCell ⟨w.heap.size + 1, 0, none⟩ (.int .i64 (locE G p true))) (hb2.setCell (p := ⟨w.heap.size + 1, 0, none⟩) (Nat.le_succ _) _) (by rw [unhide HE]; exact unhide HNE)
      rw [unhide HE] at this
      exact ⟨.int .i64 (locE G p true), by simp [results, Tryz.results52, go_sem] at d8 ⊢; simp [d8], this⟩
    · have hcs := spot_cases (unhide HH).d hsp
      have HSP := hide hsp
      have HE0 := hide he
      have HOK := hide hok
      clear hsp he hok
      unfold spotV
      go_upto_if 32 with fail
      obtain ⟨W, hW, hx, hk, hsz, hbW⟩ := alloc_name w1 (spotL sd n t u) 124
      have t8 := hk _ _ _ z8
      have t4 := hk _ _ _ z4
      have hb2 : Below w.heap.size w W := hb.trans (hbW.mono hb.size)
      rw [hW]
      have hB10 : w.heap.size + 1 < w1.heap.size := hlt8
      clear hW hk hbW z8 z4 hb hlt8 hsz
      have c0 := hx.cell 0; have c1 := hx.cell 1; have c2 := hx.cell 2; have c3 := hx.cell 3; have c4 := hx.cell 4
      have c8 := t8.cell 0; have f8 := t8.frozen 0
      have HWR : Hid (wrE G I p i d = if names p = [] then 5 else match atG G (names p) with | some u => if u.p.isSome = true then 5 else 0 | none => if mayB G I (names p).dropLast = false then 8 else 0) := by show _ = _; unfold wrE; rw [← unhide HFITS, if_neg (by rw [unhide HE0]; simp)]
      rcases hcs with ⟨rfl, hne, hat⟩ | ⟨rfl, hne, hat, hu⟩ | ⟨rfl, b, rfl, hdir, hor⟩
      · obtain ⟨ds, db, hns, hdir, hsd, hu0⟩ : ∃ ds db, names p = ds ++ [n] ∧ IsDir G rd ds db ∧ sd = some ⟨db, 0, none⟩ ∧ u = ⟨none, 0⟩ := by
          rcases unhide HSP with ⟨h1, _⟩ | ⟨ds, db, h1, h2, h3, _, h5⟩
          · exact absurd h1 hne
          · exact ⟨ds, db, h1, h2, h3, by rw [h5, hat]; rfl⟩
        subst hsd hu0
        have HNS := hide hns
        have HDIR := hide hdir
        have HAT := hide hat
        have HWR2 : Hid (wrE G I p i d = if mayB G I ds = false then 8 else 0) := by show _ = _; rw [unhide HWR, if_neg hne, hat]; simp only; rw [hns, List.dropLast_concat]
        clear hns hdir hat hne
        go_upto_region 8 with fail
        obtain ⟨W3, hW3, v12, hk, hsz2, hbW⟩ := alloc_name W [.int .i64 0] 3
        have v4 := hk _ _ _ t4
        have v8 := hk _ _ _ t8
        have v10 := hk _ _ _ hx
        have hb3 : Below w.heap.size w W3 := hb2.trans (hbW.mono hb2.size)
        rw [hW3]
        have e0 := v10.cell 0; have e2 := v10.cell 2; have e4 := v4.cell 0
        obtain ⟨B12, hB12⟩ : ∃ b, b = W.heap.size := ⟨_, rfl⟩
        obtain ⟨B10, hB10'⟩ : ∃ b, b = w1.heap.size := ⟨_, rfl⟩
        have HB12 : Hid (w.heap.size ≤ B12) := by have := hb2.size; show _ ≤ _; omega
        rw [← hB12] at v12 ⊢
        rw [← hB10'] at v10 e0 e2 ⊢
        have hmay := mayMake_code W3 tb rd V E vi G I C ((unhide HH).below hb3 (Nat.le_refl _)) hG (by omega) (by omega) ds db (unhide HDIR)
        have HMAY := hide hmay
        clear hW3 hk hsz2 hbW hx t8 t4 c0 c1 c2 c3 c4 c8 f8 hB12 hB10' hmay
        go_wp2_with fail
        refine (unhide HMAY).mono ?_
        rintro e w4 ⟨rfl, hb4⟩
        have x4 : RowIs w4 w.heap.size 27 _ := (hb4.block _ v4.lt).trans v4
        have x8 : RowIs w4 (w.heap.size + 1) 44 _ := (hb4.block _ v8.lt).trans v8
        have x10 : RowIs w4 B10 124 _ := (hb4.block _ v10.lt).trans v10
        have x12 : RowIs w4 B12 3 _ := (hb4.block _ v12.lt).trans v12
        have hbw4 : Below w.heap.size w w4 := hb3.trans (hb4.mono hb3.size)
        rw [show decide ((G.countP (qIn ds) < 20 ∧ G.length < 100) ∧ cD G [] + I.length < 60) = mayB G I ds from rfl]
        clear HMAY e0 e2 e4 v4 v8 v10 v12 hb4 hb3
        cases hmb : mayB G I ds with
        | false =>
          have HE : Hid (wrE G I p i d = 8) := by show _ = _; rw [unhide HWR2, hmb]; rfl
          have c8 := x8.cell 0; have f8 := x8.frozen 0
          go_wp2
          have d8 := (x8.set 0 (.int .i64 8)).cell 0
          refine bodyPostD_nil ?_
          have := unhide HSAME (w4.setCell ⟨w.heap.size + 1, 0, none⟩ (.int .i64 8)) (hbw4.setCell (p := ⟨w.heap.size + 1, 0, none⟩) (Nat.le_succ _) _) (by rw [unhide HE]; decide)
          rw [unhide HE] at this
          exact ⟨.int .i64 8, by simp [results, Tryz.results52, go_sem] at d8 ⊢; simp [d8], this⟩
        | true =>
          have HE : Hid (wrE G I p i d = 0) := by show _ = _; rw [unhide HWR2, hmb]; rfl
          have e0 := x10.cell 0; have e1 := x10.cell 1; have e2 := x10.cell 2; have e3 := x10.cell 3; have e5 := x10.cell 4
          have e4 := x4.cell 0
          have hmk := makeFile_code w4 tb rd V E vi G I C ((unhide HH).below hbw4 (Nat.le_refl _)) hG (by omega) (by omega) (unhide HI0) ds db (unhide HDIR) n (name_size (unhide HOK) (unhide HNS)) (by rw [← unhide HNS]; exact unhide HAT)
          unfold spotV at hmk
          have HMK := hide hmk
          clear hmk
          go_wp2_with fail
          refine (unhide HMK).mono ?_
          rintro e w5 ⟨f, rfl, hf1, hf2, hfr5, V', E', vi', I1, hT5, hI1l, hI1⟩
          have y4 := x4.prog hfr5 (by decide)
          have y8 := x8.prog hfr5 (by decide)
          have y10 := x10.prog hfr5 (by decide)
          have y12 := x12.prog hfr5 (by decide)
          have c12 := y12.cell 0; have f12 := y12.frozen 0
          have HFR5 := hide hfr5
          have HT5 := hide hT5
          have HF2 := hide hf2
          have HI1 := hide hI1
          have HI1L := hide hI1l
          have hB12lt : B12 ≠ 0 := fun e0 => by
            have h1 := y12.lt
            have h2 := x12.lt
            obtain ⟨m, hm⟩ := (unhide HH).pk.1
            have h3 := World.block_lt_of_cell? _ _ hm
            have h4 := unhide HB12
            simp only at h3
            omega
          clear HMK e0 e1 e2 e3 e5 e4 x4 x8 x10 x12 hfr5 hT5 hf2 hI1 hI1l
          go_upto_region 13 with fail
          obtain ⟨Wc, hWc⟩ : ∃ W, w5.setCell ⟨B12, 0, none⟩ (.int .i64 (f : Int)) = W := ⟨_, rfl⟩
          have r12 : RowIs Wc B12 3 [.int .i64 (f : Int)] := by rw [← hWc]; exact y12.set 0 _
          have r4 : RowIs Wc w.heap.size 27 [.pointer (some ⟨tb, 0, none⟩)] := by rw [← hWc]; exact y4.setOther ⟨B12, 0, none⟩ _ (fun e => by simp only at e; rw [e] at y12; have := y12.type y4; revert this; decide)
          have r8 : RowIs Wc (w.heap.size + 1) 44 [.int .i64 0] := by rw [← hWc]; exact y8.setOther ⟨B12, 0, none⟩ _ (fun e => by simp only at e; rw [e] at y12; have := y12.type y8; revert this; decide)
          have r10 : RowIs Wc B10 124 (spotL (some ⟨db, 0, none⟩) n false ⟨none, 0⟩) := by rw [← hWc]; exact y10.setOther ⟨B12, 0, none⟩ _ (fun e => by simp only at e; rw [e] at y12; have := y12.type y10; revert this; decide)
          have HFRc : Hid (Fr (ProgT tb w) w Wc) := by
            rw [← hWc]
            exact (Fr.prog hbw4 (unhide HFR5)).ext ((Below.refl _ _).setCell (p := ⟨B12, 0, none⟩) (by have := unhide HB12; show w.heap.size ≤ B12; omega) _)
          have HT0 : Hid (TW Wc tb rd V' E' vi' (G ++ [(ds ++ [n], ⟨none, (f : Int)⟩)]) I1 (fun k => if k = (f : Int) then ⟨#[]⟩ else C k)) := by rw [← hWc]; exact (unhide HT5).setOther y12 hB12lt (by decide) 0 _
          have HDc : Hid (Sl Wc 5 1 (.slice ad d.size cd) d.size (bytesV d)) := by
            have h1 := (unhide HD).kept (fun k hk _ => hbw4.block k hk)
            have h2 := h1.prog (unhide HFR5)
            rw [← hWc]
            exact h2.setCell ⟨B12, 0, none⟩ _ (fun e => by obtain ⟨R, hR⟩ := h2.type e; have := hR.type y12; revert this; decide)
          rw [hWc]
          obtain ⟨nf, hnf⟩ : ∃ nf, nf = (f : Int) := ⟨_, rfl⟩
          obtain ⟨r, hr⟩ : ∃ r : VF, r = ⟨none, 0, 0, 1⟩ := ⟨_, rfl⟩
          obtain ⟨Vc, hVc⟩ : ∃ x, x = V' := ⟨_, rfl⟩
          obtain ⟨Ec, hEc⟩ : ∃ x, x = E' := ⟨_, rfl⟩
          obtain ⟨vic, hvic⟩ : ∃ x, x = vi' := ⟨_, rfl⟩
          obtain ⟨Gc, hGc⟩ : ∃ x, x = G ++ [(ds ++ [n], (⟨none, (f : Int)⟩ : VS))] := ⟨_, rfl⟩
          obtain ⟨Ic, hIc⟩ : ∃ x, x = I1 := ⟨_, rfl⟩
          obtain ⟨Cc, hCc⟩ : ∃ x : Int → ByteArray, x = (fun k => if k = (f : Int) then ⟨#[]⟩ else C k) := ⟨_, rfl⟩
          have HT : Hid (TW Wc tb rd Vc Ec vic Gc Ic Cc) := by rw [hVc, hEc, hvic, hGc, hIc, hCc]; exact unhide HT0
          have HINc : Hid ((nf, r) ∈ Ic) := by rw [hIc, hnf, hr]; exact (unhide HI1 _).2 (.inl rfl)
          have hIcl : Ic.length ≤ 10000 := by rw [hIc, unhide HI1L]; omega
          have HLLc : Hid (∀ x ∈ Ic, x.2.l ≤ 2000000) := fun x hx => by
            rw [hIc] at hx
            rcases (unhide HI1 x).1 hx with rfl | hx
            · exact Nat.zero_le _
            · exact unhide HLL x hx
          have HSZ : Hid ((Cc nf).size ≤ 1280) := by show _ ≤ _; rw [hCc, hnf]; simp; decide
          rw [← hnf] at r12
          rw [show (Value.int IntKind.i64 (f : Int)) = Value.int IntKind.i64 nf by rw [hnf]]
          have HEQ := hide (And.intro hnf (And.intro hr (And.intro hVc (And.intro hEc (And.intro hvic (And.intro hGc (And.intro hIc hCc)))))))
          clear hWc y4 y8 y10 y12 c12 f12 HT0 HT5 hVc hEc hvic hGc hIc hCc hnf hr hmb

          have HGET : Hid (∀ W, Below Wc.heap.size Wc W → _) := fun W hb => getI_code W tb rd Vc Ec vic Gc Ic Cc ((unhide HT).below hb (Nat.le_refl _)) hIcl nf r (unhide HINc)
          have a4 := r4.cell 0; have a12 := r12.cell 0
          have hne0 : ¬ Wc.heap.size = w.heap.size := by have := r4.lt; omega
          have hne1 : ¬ Wc.heap.size = B12 := by have := r12.lt; omega
          have hne2 : ¬ w.heap.size = Wc.heap.size := by have := r4.lt; omega
          have hne3 : ¬ B12 = Wc.heap.size := by have := r12.lt; omega
          have hblt4 := r4.lt
          have hblt12 := r12.lt
          have hbd0 : Below Wc.heap.size Wc Wc := Below.refl _ _
          have hbd : Below Wc.heap.size Wc Wc.drew := hbd0.drew
          go_upto_region 13 with fail
          go_region_held3 (fun W => W.cell? ⟨w.heap.size, 0, none⟩ = some (.pointer (some ⟨tb, 0, none⟩)) ∧ W.cell? ⟨B12, 0, none⟩ = some (.int .i64 nf)) (go_keep)
            (first | (go_at_call 83; refine (unhide HGET _ (by first | exact hbd | exact (hbd0.alloc (Nat.le_refl _) _).drew | exact hbd.alloc hbd.size _)).mono ?_; rintro e w' ⟨rfl, hbg⟩; have hb3 : Below Wc.heap.size Wc w' := (by first | exact hbd.trans (hbg.mono (by simp)) | exact ((hbd0.alloc (Nat.le_refl _) _).drew).trans (hbg.mono (by simp))); have m0 := (hb3.cell (p := ⟨w.heap.size, 0, none⟩) hblt4).trans a4; have m1 := (hb3.cell (p := ⟨B12, 0, none⟩) hblt12).trans a12; (try (have z : RowIs w' Wc.heap.size 111 [.slice none 0 0, .int .i64 0] := (hbg.block Wc.heap.size (by simp)).trans (row_new Wc [.slice none 0 0, .int .i64 0] 111); have z0 := z.cell 0; have z1 := z.cell 1; have zf0 := z.frozen 0; have zf1 := z.frozen 1))))
          all_goals
            first
            | obtain ⟨W4, hW4, hx7, hk4, hsz4, hb4⟩ := alloc_name w' [.slice r.a r.l r.c, .int .i64 r.f] 111
              rw [hW4]
              have hB4 : Below Wc.heap.size Wc W4 := hb3.trans (hb4.mono hb3.size)
              have h7lt : Wc.heap.size ≤ w'.heap.size := hb3.size
              obtain ⟨B7, hB7⟩ : ∃ b, b = w'.heap.size := ⟨_, rfl⟩
              rw [← hB7] at hx7 h7lt ⊢
              clear hW4 hk4 hsz4 hb4 hB7
            | have hx7 : RowIs ((w'.setCell ⟨Wc.heap.size, 0, none⟩ (.slice r.a r.l r.c)).setCell ⟨Wc.heap.size, 1, none⟩ (.int .i64 r.f)) Wc.heap.size 111 [.slice r.a r.l r.c, .int .i64 r.f] := by
                have := (z.set 0 (.slice r.a r.l r.c)).set 1 (.int .i64 r.f)
                simpa using this
              have hB4 : Below Wc.heap.size Wc ((w'.setCell ⟨Wc.heap.size, 0, none⟩ (.slice r.a r.l r.c)).setCell ⟨Wc.heap.size, 1, none⟩ (.int .i64 r.f)) := (hb3.setCell (p := ⟨Wc.heap.size, 0, none⟩) (Nat.le_refl _) _).setCell (p := ⟨Wc.heap.size, 1, none⟩) (Nat.le_refl _) _
              obtain ⟨W4, hW4⟩ : ∃ W4, (w'.setCell ⟨Wc.heap.size, 0, none⟩ (.slice r.a r.l r.c)).setCell ⟨Wc.heap.size, 1, none⟩ (.int .i64 r.f) = W4 := ⟨_, rfl⟩
              rw [hW4] at hx7 hB4 ⊢
              obtain ⟨B7, hB7⟩ : ∃ b, b = Wc.heap.size := ⟨_, rfl⟩
              have h7lt : Wc.heap.size ≤ B7 := by omega
              rw [← hB7] at hx7
              rw [show (Value.pointer (some { block := Wc.heap.size, off := 0 })) = Value.pointer (some { block := B7, off := 0 }) by rw [hB7]]
              clear hW4 hB7
          all_goals
            have s4 : RowIs W4 w.heap.size 27 _ := (hB4.block _ r4.lt).trans r4
            have s8 : RowIs W4 (w.heap.size + 1) 44 _ := (hB4.block _ r8.lt).trans r8
            have s10 : RowIs W4 B10 124 _ := (hB4.block _ r10.lt).trans r10
            have s12 : RowIs W4 B12 3 _ := (hB4.block _ r12.lt).trans r12
            have HT4 : Hid (TW W4 tb rd Vc Ec vic Gc Ic Cc) := (unhide HT).below hB4 (Nat.le_refl _)
            obtain ⟨k, hk⟩ : ∃ k : Nat, i = (k : Int) := ⟨i.toNat, by omega⟩
            obtain ⟨S, hS⟩ : ∃ S, S = ovR (Cc nf) (k : Int) d := ⟨_, rfl⟩
            have HSEQ : Hid (S = ovR (Cc nf) i d) := by show _ = _; rw [hS, hk]
            have HOV : Hid (Calls Tryz.prog 99 #[.slice r.a r.l r.c, .int .i64 (k : Int), .slice ad d.size cd] W4.drew fun e w' => ∃ oa ol oc, e = .returned (.slice oa ol oc) ∧ Hid (ol = S.size ∧ Sl w' 5 1 (.slice oa ol oc) ol (bytesV S)) ∧ Below W4.heap.size W4 w' ∧ Hid (Na W4 r.a oa)) := by
              have h1 := ((unhide HT4).below (Below.refl _ W4).drew (Nat.le_refl _)).dat _ (unhide HINc)
              have h2 := ((unhide HDc).kept (fun k hk _ => hB4.block k hk)).kept (w' := W4.drew) (fun k hk _ => rfl)
              exact (over_code W4.drew r.a r.l r.c (Cc nf) h1 (unhide HSZ) k ad d.size cd d h2 (by omega)).mono (fun e w' ⟨oa, oc, h1, h2, h3, h4⟩ => ⟨oa, _, oc, h1, by rw [hS]; exact ⟨rfl, h2⟩, (Below.refl _ W4).drew.trans (h3.mono (by simp)), h4⟩)
            have hSz : S.size ≤ 2000000 := by
              have := unhide HSZ
              rw [hS]
              unfold ovR
              split
              · omega
              · rw [wrR_size]; omega
            have HFILL : Hid (∀ w5 oa ol oc, Below W4.heap.size W4 w5 → Hid (ol = S.size ∧ Sl w5 5 1 (.slice oa ol oc) ol (bytesV S)) → Calls Tryz.prog 98 #[.pointer (some ⟨tb, 0, none⟩), .int .i64 nf, .slice oa ol oc] w5 fun e w' => ∃ x : Int, e = .returned (.int .i64 x) ∧ Hid (FillPost w5 tb rd Vc Ec vic Gc Ic Cc nf ⟨oa, S.size, oc, r.f⟩ S (.returned (.int .i64 x)) w') ∧ ∀ k t R, RowIs W4 k t R → ¬ (t = 118 ∨ t = 131 ∨ t = 164 ∨ t = 160) → RowIs w' k t R) := by
              intro w5 oa ol oc hb5 hpair
              obtain ⟨hol, hSo⟩ := unhide hpair
              subst hol
              refine (fill_code' w5 tb rd Vc Ec vic Gc Ic Cc ((unhide HT4).below hb5 (Nat.le_refl _)) hIcl (unhide HLLc) nf r (unhide HINc) oa S.size oc hSz S hSo).mono ?_
              rintro e w6 ⟨x, rfl, hq⟩
              exact ⟨x, rfl, hq, fun k t R hR ht => RowIs.prog (show RowIs w5 k t R from (hb5.block _ hR.lt).trans hR) hq.1 ht⟩
            clear hS hSz
            subst hk
            have b4 := s4.cell 0; have b12 := s12.cell 0; have b7 := hx7.cell 0
            have b8 := s8.cell 0; have f8 := s8.frozen 0
            have S4 := hide s4
            have S8 := hide s8
            have S10 := hide s10
            have S12 := hide s12
            have S7 := hide hx7
            have hn8 : ¬ w.heap.size + 1 = w.heap.size := by omega
            have hn8' : ¬ w.heap.size = w.heap.size + 1 := by omega
            have hn12 : ¬ w.heap.size + 1 = B12 := fun e => by rw [e] at s8; have := s8.type s12; revert this; decide
            have hn12' : ¬ B12 = w.heap.size + 1 := fun e => hn12 e.symm
            have hn7 : ¬ w.heap.size + 1 = B7 := fun e => by rw [e] at s8; have := s8.type hx7; revert this; decide
            have hn7' : ¬ B7 = w.heap.size + 1 := fun e => hn7 e.symm
            have HB4 := hide hB4
            clear s4 s8 s10 s12 hx7 HGET a4 a12 hne0 hne1 hne2 hne3 hbd0 hbd hbg hb3 m0 m1 hB4 hblt4 hblt12
            go_upto_region 14 with fail
            go_region_held3 (fun W => W.cell? ⟨w.heap.size, 0, none⟩ = some (.pointer (some ⟨tb, 0, none⟩)) ∧ W.cell? ⟨B12, 0, none⟩ = some (.int .i64 nf) ∧ W.cell? ⟨B7, 0, none⟩ = some (.slice r.a r.l r.c)) (go_keep)
              (first | (go_at_call 99; refine (unhide HOV).mono ?_; rintro e w5 ⟨oa, ol, oc, rfl, hSo, hb5, hNa⟩; have m0 := (hb5.cell (p := ⟨w.heap.size, 0, none⟩) (unhide S4).lt).trans b4; have m1 := (hb5.cell (p := ⟨B12, 0, none⟩) (unhide S12).lt).trans b12; have m2 := (hb5.cell (p := ⟨B7, 0, none⟩) (unhide S7).lt).trans b7) | (go_at_call 98; refine (unhide HFILL w5 oa ol oc hb5 hSo).mono ?_; rintro e w6 ⟨x, rfl, hq, hkeep⟩; have g4 := hkeep _ _ _ (unhide S4) (by decide); have g8 := hkeep _ _ _ (unhide S8) (by decide); have g10 := hkeep _ _ _ (unhide S10) (by decide); have g12 := hkeep _ _ _ (unhide S12) (by decide); have g7 := hkeep _ _ _ (unhide S7) (by decide); have n0 := g4.cell 0; have n1 := g12.cell 0; have n2 := g7.cell 0; have n8 := g8.cell 0; have nf8 := g8.frozen 0))
            all_goals
              go_wp2
              obtain ⟨k1, k2, k3, k4, k5, k6, k7, k8⟩ := unhide HEQ
              have hsq := unhide HSEQ
              have hin' := unhide HINc
              have hna := (unhide hNa).mono (w := w) (Nat.le_trans (unhide HFRc).size (unhide HB4).size)
              have hFw5 : Fr (ProgT tb w) w w5 := (unhide HFRc).ext (((unhide HB4).trans (hb5.mono (unhide HB4).size)).mono (unhide HFRc).size)
              obtain ⟨hfr6, I2, hio, hcase⟩ := unhide hq
              have hFf : Fr (ProgT tb w) w (w6.setCell ⟨w.heap.size + 1, 0, none⟩ (.int .i64 x)) := (hFw5.progTrans hfr6).ext ((Below.refl _ _).setCell (p := ⟨w.heap.size + 1, 0, none⟩) (Nat.le_succ _) _)
              have d8 := g8.set 0 (.int .i64 x)
              have d4 := g4.setOther ⟨w.heap.size + 1, 0, none⟩ (.int .i64 x) (by show w.heap.size + 1 ≠ w.heap.size; omega)
              have d10 := g10.setOther ⟨w.heap.size + 1, 0, none⟩ (.int .i64 x) (fun e => by simp only at e; rw [e] at g8; have := g8.type g10; revert this; decide)
              have d12 := g12.setOther ⟨w.heap.size + 1, 0, none⟩ (.int .i64 x) (fun e => by simp only at e; rw [e] at g8; have := g8.type g12; revert this; decide)
              subst k1 k2 k3 k4 k5 k6 k7 k8
              have hSe : S = ovR ⟨#[]⟩ (k : Int) d := by rw [hsq]; simp
              have hns := unhide HNS
              have hok := unhide HOK
              have hpn : Nms (ds ++ [n]) ∧ (ds ++ [n]).length ≤ 6 := by
                cases hr : (p.toList == [47]) with
                | true => have h0 := names_root hr; rw [hns] at h0; simp at h0
                | false => obtain ⟨_, h2, _, h4⟩ := path_names hok hr; rw [hns] at h2 h4; exact ⟨h2, h4⟩
              have hGc : GOk (G ++ [(ds ++ [n], (⟨none, (f : Int)⟩ : VS))]) := hG.add hpn.1 (by simp) hpn.2 (by rw [← hns]; exact unhide HAT) (fun ds' n' e => by obtain ⟨rfl, rfl⟩ := snoc_inj e; exact (unhide HDIR).up) _
              have hGcl : (G ++ [(ds ++ [n], (⟨none, (f : Int)⟩ : VS))]).length ≤ 10000 := by simp; omega
              have hdirc : IsDir (G ++ [(ds ++ [n], (⟨none, (f : Int)⟩ : VS))]) rd ds db := (unhide HDIR).elim .inl (fun h => .inr (List.mem_append_left _ h))
              have hnewc : (ds ++ [n], (⟨none, (f : Int)⟩ : VS)) ∈ G ++ [(ds ++ [n], (⟨none, (f : Int)⟩ : VS))] := by simp
              have hgone : ∀ y, y ∈ G ↔ y ∈ gone (G ++ [(ds ++ [n], (⟨none, (f : Int)⟩ : VS))]) (ds ++ [n]) := fun y => by
                rw [gone_del, List.mem_append, List.mem_singleton]
                constructor
                · intro hy; exact ⟨.inl hy, fun e => atG_none (G := G) (ns := ds ++ [n]) (by rw [← hns]; exact unhide HAT) y.2 (by rw [← e]; exact hy)⟩
                · rintro ⟨hy | rfl, hne⟩
                  · exact hy
                  · exact absurd rfl hne
              have hC1 : ∀ y ∈ I, (if y.1 = (f : Int) then (⟨#[]⟩ : ByteArray) else C y.1) = C y.1 := fun y hy => if_neg (unhide HF2 y hy)
              have h12 : w.heap.size + 1 ≠ 0 := by omega
              refine leaves_cons (f := 95) (args := #[.pointer (some ⟨w.heap.size + 1, 0, none⟩), .pointer (some ⟨B10, 0, none⟩), .pointer (some ⟨w.heap.size, 0, none⟩), .pointer (some ⟨B12, 0, none⟩)]) (by simp) (by simp [go_sem]) ?_
              rcases hcase with ⟨e9, hgt, I'', hT6, hl6, hmem6⟩ | ⟨e0, hle, hT6⟩
              · have hx9 : x = 9 := by simpa using e9
                subst hx9
                refine (write1_code _ _ _ _ .returning _ tb rd _ _ _ _ I'' _ (hT6.setOther g8 h12 (by decide) 0 (.int .i64 9)) hGc hGcl (by rw [hl6]; exact hIcl) ds db hdirc n false ⟨none, 0⟩ (f : Int) hnewc ⟨none, 0, 0, 1⟩ ((hmem6 _).2 hin') rfl 9 (by simpa using d8) d10 d4 d12).mono ?_
                rintro e u' w7 ⟨rfl, rfl, hrow, hfr, hcase⟩
                have hc := hrow.cell 0
                refine ⟨.int .i64 9, by simp [results, Tryz.results52, go_sem, hc], ?_⟩
                rcases hcase with ⟨h0, _⟩ | ⟨_, V7, E7, vi7, I7, hT7, hid⟩
                · exact absurd h0 (by decide)
                · refine .inr ⟨unhide HE, .inr ⟨unhide HAT, hFf.progTrans hfr, f, _, I2, oa, oc, hna, hf1, unhide HF2, unhide HI1L, unhide HI1, by rw [← hSe]; exact hio, .inl ⟨rfl, hgt, I7, _, ⟨rd, V7, E7, vi7, hT7.congrG hgone⟩, ?_, fun y => ?_, hC1⟩⟩⟩
                  · have h1 := hid.1; have h2 := unhide HI1L; omega
                  · rw [hid.2 y, hmem6 y, unhide HI1 y]
                    constructor
                    · rintro ⟨rfl | hy, hne⟩
                      · exact absurd rfl hne
                      · exact hy
                    · intro hy; exact ⟨.inr hy, unhide HF2 y hy⟩
              · have hx0 : x = 0 := by simpa using e0
                subst hx0
                refine (write1_code _ _ _ _ .returning _ tb rd _ _ _ _ I2 _ (hT6.setOther g8 h12 (by decide) 0 (.int .i64 0)) hGc hGcl (by rw [hio.1]; exact hIcl) ds db hdirc n false ⟨none, 0⟩ (f : Int) hnewc ⟨oa, S.size, oc, 1⟩ ((hio.2 _).2 (.inl rfl)) rfl 0 (by simpa using d8) d10 d4 d12).mono ?_
                rintro e u' w7 ⟨rfl, rfl, hrow, hfr, hcase⟩
                have hc := hrow.cell 0
                refine ⟨.int .i64 0, by simp [results, Tryz.results52, go_sem, hc], ?_⟩
                rcases hcase with ⟨_, hw7⟩ | ⟨h0, _⟩
                · rw [hw7]
                  refine .inr ⟨unhide HE, .inr ⟨unhide HAT, hFf, f, _, I2, oa, oc, hna, hf1, unhide HF2, unhide HI1L, unhide HI1, by rw [← hSe]; exact hio, .inr ⟨rfl, hle, _, by rw [hns]; exact ⟨rd, _, _, _, hT6.setOther g8 h12 (by decide) 0 (.int .i64 0)⟩, by simp [hSe], fun y hy => ?_⟩⟩⟩
                  simp [unhide HF2 y hy]
                · exact absurd rfl h0
      · obtain ⟨up, uf⟩ := u
        simp only at hu
        subst hu
        have HE : Hid (wrE G I p i d = 0) := by show _ = _; rw [unhide HWR, if_neg hne, hat]; rfl
        obtain ⟨r, hin, hr0, hr1⟩ := FlOk.mono (unhide HFL) hat rfl
        simp only at hin
        have HAT := hide hat
        clear hne hat hr0 hr1
        go_upto_region 8 with fail
        obtain ⟨Wc, hWc, r12, hk, hsz2, hbW⟩ := alloc_name W [.int .i64 uf] 3
        have r4 := hk _ _ _ t4
        have r8 := hk _ _ _ t8
        have r10 := hk _ _ _ hx
        have hbc : Below w.heap.size w Wc := hb2.trans (hbW.mono hb2.size)
        rw [hWc]
        have e2 := r10.cell 2
        obtain ⟨B12, hB12⟩ : ∃ b, b = W.heap.size := ⟨_, rfl⟩
        obtain ⟨B10, hB10'⟩ : ∃ b, b = w1.heap.size := ⟨_, rfl⟩
        rw [← hB12] at r12 ⊢
        rw [← hB10'] at r10 e2 ⊢
        obtain ⟨nf, hnf⟩ : ∃ nf, nf = uf := ⟨_, rfl⟩
        have HINc : Hid ((nf, r) ∈ I) := by rw [hnf]; exact hin
        have HT : Hid (TW Wc tb rd V E vi G I C) := (unhide HH).below hbc (Nat.le_refl _)
        have HDc : Hid (Sl Wc 5 1 (.slice ad d.size cd) d.size (bytesV d)) := (unhide HD).kept (fun k hk _ => hbc.block k hk)
        have HLLc := HLL
        have HSZ : Hid ((C nf).size ≤ 1280) := unhide HC _ (unhide HINc)
        have hIcl : I.length ≤ 10000 := by omega
        rw [← hnf] at r12
        rw [show (Value.int IntKind.i64 uf) = Value.int IntKind.i64 nf by rw [hnf]]
        obtain ⟨Vc, hVc⟩ : ∃ x, x = V := ⟨_, rfl⟩
        obtain ⟨Ec, hEc⟩ : ∃ x, x = E := ⟨_, rfl⟩
        obtain ⟨vic, hvic⟩ : ∃ x, x = vi := ⟨_, rfl⟩
        obtain ⟨Gc, hGc⟩ : ∃ x, x = G := ⟨_, rfl⟩
        obtain ⟨Ic, hIc⟩ : ∃ x, x = I := ⟨_, rfl⟩
        obtain ⟨Cc, hCc⟩ : ∃ x, x = C := ⟨_, rfl⟩
        rw [← hVc, ← hEc, ← hvic, ← hGc, ← hIc, ← hCc] at HT
        rw [← hIc] at HINc hIcl
        rw [← hIc] at HLLc
        rw [← hCc] at HSZ
        have HEQ := hide (And.intro hnf (And.intro hVc (And.intro hEc (And.intro hvic (And.intro hGc (And.intro hIc hCc))))))
        clear hWc hk hsz2 hbW hx t8 t4 c0 c1 c2 c3 c4 c8 f8 hin hB12 hB10' hVc hEc hvic hGc hIc hCc hnf
        have HGET : Hid (∀ W, Below Wc.heap.size Wc W → _) := fun W hb => getI_code W tb rd Vc Ec vic Gc Ic Cc ((unhide HT).below hb (Nat.le_refl _)) hIcl nf r (unhide HINc)
        have a4 := r4.cell 0; have a12 := r12.cell 0
        have hne0 : ¬ Wc.heap.size = w.heap.size := by have := r4.lt; omega
        have hne1 : ¬ Wc.heap.size = B12 := by have := r12.lt; omega
        have hne2 : ¬ w.heap.size = Wc.heap.size := by have := r4.lt; omega
        have hne3 : ¬ B12 = Wc.heap.size := by have := r12.lt; omega
        have hblt4 := r4.lt
        have hblt12 := r12.lt
        have hbd0 : Below Wc.heap.size Wc Wc := Below.refl _ _
        have hbd : Below Wc.heap.size Wc Wc.drew := hbd0.drew
        go_upto_region 13 with fail
        go_region_held3 (fun W => W.cell? ⟨w.heap.size, 0, none⟩ = some (.pointer (some ⟨tb, 0, none⟩)) ∧ W.cell? ⟨B12, 0, none⟩ = some (.int .i64 nf)) (go_keep)
          (first | (go_at_call 83; refine (unhide HGET _ (by first | exact hbd | exact (hbd0.alloc (Nat.le_refl _) _).drew | exact hbd.alloc hbd.size _)).mono ?_; rintro e w' ⟨rfl, hbg⟩; have hb3 : Below Wc.heap.size Wc w' := (by first | exact hbd.trans (hbg.mono (by simp)) | exact ((hbd0.alloc (Nat.le_refl _) _).drew).trans (hbg.mono (by simp))); have m0 := (hb3.cell (p := ⟨w.heap.size, 0, none⟩) hblt4).trans a4; have m1 := (hb3.cell (p := ⟨B12, 0, none⟩) hblt12).trans a12; (try (have z : RowIs w' Wc.heap.size 111 [.slice none 0 0, .int .i64 0] := (hbg.block Wc.heap.size (by simp)).trans (row_new Wc [.slice none 0 0, .int .i64 0] 111); have z0 := z.cell 0; have z1 := z.cell 1; have zf0 := z.frozen 0; have zf1 := z.frozen 1))))
        all_goals
          first
          | obtain ⟨W4, hW4, hx7, hk4, hsz4, hb4⟩ := alloc_name w' [.slice r.a r.l r.c, .int .i64 r.f] 111
            rw [hW4]
            have hB4 : Below Wc.heap.size Wc W4 := hb3.trans (hb4.mono hb3.size)
            have h7lt : Wc.heap.size ≤ w'.heap.size := hb3.size
            obtain ⟨B7, hB7⟩ : ∃ b, b = w'.heap.size := ⟨_, rfl⟩
            rw [← hB7] at hx7 h7lt ⊢
            clear hW4 hk4 hsz4 hb4 hB7
          | have hx7 : RowIs ((w'.setCell ⟨Wc.heap.size, 0, none⟩ (.slice r.a r.l r.c)).setCell ⟨Wc.heap.size, 1, none⟩ (.int .i64 r.f)) Wc.heap.size 111 [.slice r.a r.l r.c, .int .i64 r.f] := by
              have := (z.set 0 (.slice r.a r.l r.c)).set 1 (.int .i64 r.f)
              simpa using this
            have hB4 : Below Wc.heap.size Wc ((w'.setCell ⟨Wc.heap.size, 0, none⟩ (.slice r.a r.l r.c)).setCell ⟨Wc.heap.size, 1, none⟩ (.int .i64 r.f)) := (hb3.setCell (p := ⟨Wc.heap.size, 0, none⟩) (Nat.le_refl _) _).setCell (p := ⟨Wc.heap.size, 1, none⟩) (Nat.le_refl _) _
            obtain ⟨W4, hW4⟩ : ∃ W4, (w'.setCell ⟨Wc.heap.size, 0, none⟩ (.slice r.a r.l r.c)).setCell ⟨Wc.heap.size, 1, none⟩ (.int .i64 r.f) = W4 := ⟨_, rfl⟩
            rw [hW4] at hx7 hB4 ⊢
            obtain ⟨B7, hB7⟩ : ∃ b, b = Wc.heap.size := ⟨_, rfl⟩
            have h7lt : Wc.heap.size ≤ B7 := by omega
            rw [← hB7] at hx7
            rw [show (Value.pointer (some { block := Wc.heap.size, off := 0 })) = Value.pointer (some { block := B7, off := 0 }) by rw [hB7]]
            clear hW4 hB7
        all_goals
          have s4 : RowIs W4 w.heap.size 27 _ := (hB4.block _ r4.lt).trans r4
          have s8 : RowIs W4 (w.heap.size + 1) 44 _ := (hB4.block _ r8.lt).trans r8
          have s10 : RowIs W4 B10 124 _ := (hB4.block _ r10.lt).trans r10
          have s12 : RowIs W4 B12 3 _ := (hB4.block _ r12.lt).trans r12
          have HT4 : Hid (TW W4 tb rd Vc Ec vic Gc Ic Cc) := (unhide HT).below hB4 (Nat.le_refl _)
          obtain ⟨k, hk⟩ : ∃ k : Nat, i = (k : Int) := ⟨i.toNat, by omega⟩
          obtain ⟨S, hS⟩ : ∃ S, S = ovR (Cc nf) (k : Int) d := ⟨_, rfl⟩
          have HSEQ : Hid (S = ovR (Cc nf) i d) := by show _ = _; rw [hS, hk]
          have HOV : Hid (Calls Tryz.prog 99 #[.slice r.a r.l r.c, .int .i64 (k : Int), .slice ad d.size cd] W4.drew fun e w' => ∃ oa ol oc, e = .returned (.slice oa ol oc) ∧ Hid (ol = S.size ∧ Sl w' 5 1 (.slice oa ol oc) ol (bytesV S)) ∧ Below W4.heap.size W4 w' ∧ Hid (Na W4 r.a oa)) := by
            have h1 := ((unhide HT4).below (Below.refl _ W4).drew (Nat.le_refl _)).dat _ (unhide HINc)
            have h2 := ((unhide HDc).kept (fun k hk _ => hB4.block k hk)).kept (w' := W4.drew) (fun k hk _ => rfl)
            exact (over_code W4.drew r.a r.l r.c (Cc nf) h1 (unhide HSZ) k ad d.size cd d h2 (by omega)).mono (fun e w' ⟨oa, oc, h1, h2, h3, h4⟩ => ⟨oa, _, oc, h1, by rw [hS]; exact ⟨rfl, h2⟩, (Below.refl _ W4).drew.trans (h3.mono (by simp)), h4⟩)
          have hSz : S.size ≤ 2000000 := by
            have := unhide HSZ
            rw [hS]
            unfold ovR
            split
            · omega
            · rw [wrR_size]; omega
          have HFILL : Hid (∀ w5 oa ol oc, Below W4.heap.size W4 w5 → Hid (ol = S.size ∧ Sl w5 5 1 (.slice oa ol oc) ol (bytesV S)) → Calls Tryz.prog 98 #[.pointer (some ⟨tb, 0, none⟩), .int .i64 nf, .slice oa ol oc] w5 fun e w' => ∃ x : Int, e = .returned (.int .i64 x) ∧ Hid (FillPost w5 tb rd Vc Ec vic Gc Ic Cc nf ⟨oa, S.size, oc, r.f⟩ S (.returned (.int .i64 x)) w') ∧ ∀ k t R, RowIs W4 k t R → ¬ (t = 118 ∨ t = 131 ∨ t = 164 ∨ t = 160) → RowIs w' k t R) := by
            intro w5 oa ol oc hb5 hpair
            obtain ⟨hol, hSo⟩ := unhide hpair
            subst hol
            refine (fill_code' w5 tb rd Vc Ec vic Gc Ic Cc ((unhide HT4).below hb5 (Nat.le_refl _)) hIcl (unhide HLLc) nf r (unhide HINc) oa S.size oc hSz S hSo).mono ?_
            rintro e w6 ⟨x, rfl, hq⟩
            exact ⟨x, rfl, hq, fun k t R hR ht => RowIs.prog (show RowIs w5 k t R from (hb5.block _ hR.lt).trans hR) hq.1 ht⟩
          clear hS hSz
          subst hk
          have b4 := s4.cell 0; have b12 := s12.cell 0; have b7 := hx7.cell 0
          have b8 := s8.cell 0; have f8 := s8.frozen 0
          have S4 := hide s4
          have S8 := hide s8
          have S10 := hide s10
          have S12 := hide s12
          have S7 := hide hx7
          have hn8 : ¬ w.heap.size + 1 = w.heap.size := by omega
          have hn8' : ¬ w.heap.size = w.heap.size + 1 := by omega
          have hn12 : ¬ w.heap.size + 1 = B12 := fun e => by rw [e] at s8; have := s8.type s12; revert this; decide
          have hn12' : ¬ B12 = w.heap.size + 1 := fun e => hn12 e.symm
          have hn7 : ¬ w.heap.size + 1 = B7 := fun e => by rw [e] at s8; have := s8.type hx7; revert this; decide
          have hn7' : ¬ B7 = w.heap.size + 1 := fun e => hn7 e.symm
          have HB4 := hide hB4
          clear s4 s8 s10 s12 hx7 HGET a4 a12 hne0 hne1 hne2 hne3 hbd0 hbd hbg hb3 m0 m1 hB4 hblt4 hblt12
          go_upto_region 14 with fail
          go_region_held3 (fun W => W.cell? ⟨w.heap.size, 0, none⟩ = some (.pointer (some ⟨tb, 0, none⟩)) ∧ W.cell? ⟨B12, 0, none⟩ = some (.int .i64 nf) ∧ W.cell? ⟨B7, 0, none⟩ = some (.slice r.a r.l r.c)) (go_keep)
            (first | (go_at_call 99; refine (unhide HOV).mono ?_; rintro e w5 ⟨oa, ol, oc, rfl, hSo, hb5, hNa⟩; have m0 := (hb5.cell (p := ⟨w.heap.size, 0, none⟩) (unhide S4).lt).trans b4; have m1 := (hb5.cell (p := ⟨B12, 0, none⟩) (unhide S12).lt).trans b12; have m2 := (hb5.cell (p := ⟨B7, 0, none⟩) (unhide S7).lt).trans b7) | (go_at_call 98; refine (unhide HFILL w5 oa ol oc hb5 hSo).mono ?_; rintro e w6 ⟨x, rfl, hq, hkeep⟩; have g4 := hkeep _ _ _ (unhide S4) (by decide); have g8 := hkeep _ _ _ (unhide S8) (by decide); have g10 := hkeep _ _ _ (unhide S10) (by decide); have g12 := hkeep _ _ _ (unhide S12) (by decide); have g7 := hkeep _ _ _ (unhide S7) (by decide); have n0 := g4.cell 0; have n1 := g12.cell 0; have n2 := g7.cell 0; have n8 := g8.cell 0; have nf8 := g8.frozen 0))
          all_goals
            go_wp2
            have d8 := (g8.set 0 (.int .i64 x)).cell 0
            refine bodyPostD_nil ?_
            obtain ⟨k1, k2, k3, k4, k5, k6, k7⟩ := unhide HEQ
            have hbw5 : Below w.heap.size w w5 := hbc.trans (((unhide HB4).trans (hb5.mono (unhide HB4).size)).mono hbc.size)
            have hps := ((unhide hq).ps hbw5).setOther g8 (by omega) (Nat.le_succ _) (.int .i64 x)
            have hsq := unhide HSEQ
            have hin' := unhide HINc
            have hna := (unhide hNa).mono (w := w) (Nat.le_trans hbc.size (unhide HB4).size)
            subst k1 k2 k3 k4 k5 k6 k7
            rw [hsq] at hps
            exact ⟨.int .i64 x, by simp [results, Tryz.results52, go_sem] at d8 ⊢; simp [d8], .inr ⟨unhide HE, .inl ⟨⟨none, nf⟩, r, oa, oc, unhide HAT, rfl, hin', hna, hps⟩⟩⟩
      · have HE : Hid (wrE G I p i d = 5) := by
          show _ = _; rw [unhide HWR]
          rcases hor with h1 | h1
          · rw [if_pos h1]
          · by_cases h2 : names p = []
            · rw [if_pos h2]
            · rw [if_neg h2, h1]; rfl
        clear hor hdir
        go_wp2
        have d8 := (t8.set 0 (.int .i64 5)).cell 0
        refine bodyPostD_nil ?_
        have := unhide HSAME (W.setCell ⟨w.heap.size + 1, 0, none⟩ (.int .i64 5)) (hb2.setCell (p := ⟨w.heap.size + 1, 0, none⟩) (Nat.le_succ _) _) (by rw [unhide HE]; decide)
        rw [unhide HE] at this
        exact ⟨.int .i64 5, by simp [results, Tryz.results52, go_sem] at d8 ⊢; simp [d8], this⟩
  · have hne : locE G p false ≠ 0 := fun e => by unfold locE at e; split at e <;> simp at e
    go_enter_defers Tryz.func52, Tryz.ntmps52
    go_upto_region 2 with fail
    obtain ⟨W1, hW1, hx1, hk1, hsz1, hb1⟩ := alloc_name w [.pointer (some ⟨tb, 0, none⟩)] 27
    obtain ⟨W2, hW2, hx2, hk2, hsz2, hb2⟩ := alloc_name W1 [.int .i64 0] 44
    have hbw : Below w.heap.size w W2 := hb1.trans (hb2.mono (by omega))
    have y4 := hk2 _ _ _ hx1
    rw [hsz1] at hx2
    rw [hW1, hW2]
    have a0 := y4.cell 0
    clear hW1 hW2 hk1 hk2 hb1 hb2 hx1 hsz1 hsz2
    go_wp2_with fail
    refine (unhide HLOC _ hbw).mono ?_
    rintro e w1 ⟨hpost, hb1⟩
    have z4 : RowIs w1 w.heap.size 27 _ := (hb1.block _ y4.lt).trans y4
    have z8 : RowIs w1 (w.heap.size + 1) 44 _ := (hb1.block _ hx2.lt).trans hx2
    have hb : Below w.heap.size w w1 := hbw.trans (hb1.mono hbw.size)
    have hlt8 : w.heap.size + 1 < w1.heap.size := z8.lt
    clear y4 hx2 hbw hb1 a0 HLOC
    rcases hpost with ⟨_, rfl⟩ | ⟨he, _⟩
    · have HE : Hid (wrE G I p i d = locE G p false) := by show _ = _; unfold wrE; rw [← unhide HFITS, if_pos hne]
      have HNE := hide hne
      have hne' : (locE G p false != 0) = true := by simpa using hne
      clear hne
      unfold noSpot spotV
      go_upto_if 32 with fail
      obtain ⟨W, hW, hx, hk, hsz, hbW⟩ := alloc_name w1 zeroL 124
      have t8 := hk _ _ _ z8
      have hb2 : Below w.heap.size w W := hb.trans (hbW.mono hb.size)
      rw [hW]
      clear hW hk hbW hx hsz
      have c8 := t8.cell 0; have f8 := t8.frozen 0
      go_wp2
      have d8 := (t8.set 0 (.int .i64 (locE G p false))).cell 0
      refine bodyPostD_nil ?_
      have := unhide HSAME (W.setCell ⟨w.heap.size + 1, 0, none⟩ (.int .i64 (locE G p false))) (hb2.setCell (p := ⟨w.heap.size + 1, 0, none⟩) (Nat.le_succ _) _) (by rw [unhide HE]; exact unhide HNE)
      rw [unhide HE] at this
      exact ⟨.int .i64 (locE G p false), by simp [results, Tryz.results52, go_sem] at d8 ⊢; simp [d8], this⟩
    · exact absurd he hne
  · have hne : locE G p false ≠ 0 := fun e => by unfold locE at e; split at e <;> simp at e
    go_enter_defers Tryz.func52, Tryz.ntmps52
    go_upto_region 2 with fail
    obtain ⟨W1, hW1, hx1, hk1, hsz1, hb1⟩ := alloc_name w [.pointer (some ⟨tb, 0, none⟩)] 27
    obtain ⟨W2, hW2, hx2, hk2, hsz2, hb2⟩ := alloc_name W1 [.int .i64 0] 44
    have hbw : Below w.heap.size w W2 := hb1.trans (hb2.mono (by omega))
    have y4 := hk2 _ _ _ hx1
    rw [hsz1] at hx2
    rw [hW1, hW2]
    have a0 := y4.cell 0
    clear hW1 hW2 hk1 hk2 hb1 hb2 hx1 hsz1 hsz2
    go_wp2_with fail
    refine (unhide HLOC _ hbw).mono ?_
    rintro e w1 ⟨hpost, hb1⟩
    have z4 : RowIs w1 w.heap.size 27 _ := (hb1.block _ y4.lt).trans y4
    have z8 : RowIs w1 (w.heap.size + 1) 44 _ := (hb1.block _ hx2.lt).trans hx2
    have hb : Below w.heap.size w w1 := hbw.trans (hb1.mono hbw.size)
    have hlt8 : w.heap.size + 1 < w1.heap.size := z8.lt
    clear y4 hx2 hbw hb1 a0 HLOC
    rcases hpost with ⟨_, rfl⟩ | ⟨he, _⟩
    · have HE : Hid (wrE G I p i d = locE G p false) := by show _ = _; unfold wrE; rw [← unhide HFITS, if_pos hne]
      have HNE := hide hne
      have hne' : (locE G p false != 0) = true := by simpa using hne
      clear hne
      unfold noSpot spotV
      go_upto_if 32 with fail
      obtain ⟨W, hW, hx, hk, hsz, hbW⟩ := alloc_name w1 zeroL 124
      have t8 := hk _ _ _ z8
      have hb2 : Below w.heap.size w W := hb.trans (hbW.mono hb.size)
      rw [hW]
      clear hW hk hbW hx hsz
      have c8 := t8.cell 0; have f8 := t8.frozen 0
      go_wp2
      have d8 := (t8.set 0 (.int .i64 (locE G p false))).cell 0
      refine bodyPostD_nil ?_
      have := unhide HSAME (W.setCell ⟨w.heap.size + 1, 0, none⟩ (.int .i64 (locE G p false))) (hb2.setCell (p := ⟨w.heap.size + 1, 0, none⟩) (Nat.le_succ _) _) (by rw [unhide HE]; exact unhide HNE)
      rw [unhide HE] at this
      exact ⟨.int .i64 (locE G p false), by simp [results, Tryz.results52, go_sem] at d8 ⊢; simp [d8], this⟩
    · exact absurd he hne
end Go.Proofs.YtfabjhgkigagpaaGreatDoor
