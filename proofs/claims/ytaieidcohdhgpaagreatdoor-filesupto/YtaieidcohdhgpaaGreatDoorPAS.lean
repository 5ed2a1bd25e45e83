/- Files. -/
import Derived.Test.YtaieidcohdhgpaaGreatDoorPAR
namespace Go.Proofs.YtaieidcohdhgpaaGreatDoor
open Go.RowKit
set_option maxHeartbeats 1000000
set_option maxRecDepth 100000
theorem RowIs.prog {tb : Nat} {w w' : World} {k : Nat} {t : TypeId} {R : List Value} (h : RowIs w k t R) (hf : Fr (ProgT tb w) w w') (ht : ¬ (t = 214 ∨ t = 229 ∨ t = 310 ∨ t = 293)) : RowIs w' k t R :=
 h.fr hf (fun ⟨⟨t', R', hR, ht'⟩, _⟩ => ht (by rw [h.type hR]; exact ht'))
theorem write1_code (B8 B10 B4 B12 : Nat) (u : FrameMode) (w : World) (tb rd : Nat) (V : Nat → Value) (E : Nat → List (ByteArray × VS)) (vi : Value) (G : Gh) (I : List (Int × VF)) (C : Int → ByteArray) (h : TW w tb rd V E vi G I C) (hG : GOk G) (hGl : G.length ≤ 10000) (hIl : I.length ≤ 10000) (ds : List ByteArray) (db : Nat) (hdir : IsDir G rd ds db) (n : ByteArray) (t : Bool) (u0 : VS) (f : Int) (hin : (ds ++ [n], (⟨none, f⟩ : VS)) ∈ G) (r : VF) (hfi : (f, r) ∈ I) (hr : r.f = 1) (ans : Int)
  (h8 : RowIs w B8 26 [.int .i64 ans]) (h10 : RowIs w B10 262 (spotL (some ⟨db, 0, none⟩) n t u0)) (h4 : RowIs w B4 37 [.pointer (some ⟨tb, 0, none⟩)]) (h12 : RowIs w B12 3 [.int .i64 f]) :
  CallsD Tryz.prog 229 #[.pointer (some ⟨B8, 0, none⟩), .pointer (some ⟨B10, 0, none⟩), .pointer (some ⟨B4, 0, none⟩), .pointer (some ⟨B12, 0, none⟩)] u w fun e u' w' => u' = u ∧ (e = .returned (.tuple #[]) ∧ RowIs w' B8 26 [.int .i64 ans] ∧ Fr (ProgT tb w) w w' ∧ ((ans = 0 ∧ w' = w) ∨ (ans ≠ 0 ∧ ∃ V' E' vi' I', TW w' tb rd V' E' vi' (gone G (ds ++ [n])) I' C ∧ IDrop I I' f))) := by
 have a0 := h8.cell 0
 by_cases ha : ans = 0
 ·have ha' : (ans != 0) = false := by simpa using ha
  go_enter_d Tryz.func229, Tryz.ntmps229
  go_wp2
  go_end0
  exact ⟨rfl, h8, Fr.refl _ _, .inl ⟨ha, rfl⟩⟩
 ·have ha' : (ans != 0) = true := by simpa using ha
  have hmem : (n, (⟨none, f⟩ : VS)) ∈ E db := (h.d.en ds db hdir n _).2 hin
  have hlv := leave_low w db n t u0 ⟨none, f⟩ (V db) (E db) (h.d.row ds db hdir) (h.d.sl ds db hdir) (Nat.le_trans (h.d.le hG hdir) hGl) (h.d.srt ds db hdir) hmem
  unfold spotV at hlv
  have HLV := hide hlv
  have HH := hide h
  have HA := hide ha
  have c0 := h10.cell 0; have c1 := h10.cell 1; have c2 := h10.cell 2; have c3 := h10.cell 3; have c4 := h10.cell 4
  have H8 := hide h8
  have H4 := hide h4
  have H12 := hide h12
  clear hlv h hmem ha h8 h4 h12
  go_enter_d Tryz.func229, Tryz.ntmps229
  go_wp2_with fail
  refine (unhide HLV).mono ?_
  rintro e w2 ⟨rfl, v', es', q1, q2, q3, q4, q5, q6, q7⟩
  have hh := unhide HH
  have hrow := hh.d.row ds db hdir
  have hsl := hh.d.sl ds db hdir
  have hkeep : ∀ k t R, RowIs w k t R → t ≠ 229 → t ≠ 310 → RowIs w2 k t R := fun k t R hR h1 h2 => hR.fr q7 (fun e => by
   rcases e with rfl | e
   ·exact h1 (hR.type hrow)
   ·obtain ⟨R', hR'⟩ := hsl.type e; exact h2 (hR.type hR'))
  have hT2 := TW.dirs hh hrow hsl q7 (hh.d.del hG hdir (G' := gone G (ds ++ [n])) (n := n) (gone_del G _) q1 q2 q3 q5 q6 q7)
  have hul := unlink_code w2 tb rd _ _ vi (gone G (ds ++ [n])) I C hT2 hIl f r hfi (by omega) (by omega)
  have HUL := hide hul
  have HF2 : Hid (Fr (ProgT tb w) w w2) := Fr.progOne (hh.dlo hdir) hrow hsl q7
  have k8 := hkeep _ _ _ (unhide H8) (by decide) (by decide)
  have k4 := hkeep _ _ _ (unhide H4) (by decide) (by decide)
  have k12 := hkeep _ _ _ (unhide H12) (by decide) (by decide)
  have d4 := k4.cell 0; have d12 := k12.cell 0
  clear hh hrow hsl hkeep hT2 hul q1 q2 q3 q4 q5 q6 q7 HLV c0 c1 c2 c3 c4
  go_wp2_with fail
  refine (unhide HUL).mono ?_
  rintro e w3 ⟨rfl, ⟨vi', I', q1, q2⟩, q3⟩
  clear HUL
  go_wp2
  go_end0
  refine ⟨rfl, k8.prog q3 (by decide), (unhide HF2).progTrans q3, .inr ⟨unhide HA, _, _, vi', I', q1, ?_⟩⟩
  rcases q2 with ⟨_, q2⟩ | ⟨h1, _⟩
  ·exact q2
  ·exact absurd hr h1
set_option maxHeartbeats 2000000
def wrFits (i : Int) (d : ByteArray) : Bool := decide (0 ≤ i ∧ i ≤ 1280 - (d.size : Int))
def wrE (G : Gh) (I : List (Int × VF)) (p : ByteArray) (i : Int) (d : ByteArray) : Int := if locE G p (wrFits i d) ≠ 0 then locE G p (wrFits i d) else if names p = [] then 5 else match atG G (names p) with | some u => if u.p.isSome = true then 5 else 0 | none => if mayB G I (names p).dropLast = false then 8 else 0
def ovR (s : ByteArray) (i : Int) (d : ByteArray) : ByteArray := if d.size = 0 then s else wrR s i.toNat d
def Na (w : World) (a0 a : Option Addr) : Prop := a = a0 ∨ ∀ g, a = some g → w.heap.size ≤ g.block
theorem Na.mono {w w' : World} {a0 a : Option Addr} (h : Na w' a0 a) (hs : w.heap.size ≤ w'.heap.size) : Na w a0 a := h.elim .inl (fun h => .inr (fun g hg => Nat.le_trans hs (h g hg)))
def MadeF (w : World) (tb : Nat) (G : Gh) (I : List (Int × VF)) (C : Int → ByteArray) (ns : List ByteArray) (f : Int) (r : VF) (s : ByteArray) (e : Ending) (w' : World) : Prop :=
 Fr (ProgT tb w) w w' ∧ ∃ (I1 I2 : List (Int × VF)), I1.length = I.length + 1 ∧ (∀ x, x ∈ I1 ↔ x = (f, ⟨none, 0, 0, 1⟩) ∨ x ∈ I) ∧ IOver I1 I2 f r ∧
  ((e = .returned (.int .i64 9) ∧ 160 < useU (I2.map (·.2.l)) ∧ ∃ I3 C3, PS w' tb G I3 C3 ∧ I3.length = I.length ∧ (∀ x, x ∈ I3 ↔ x ∈ I) ∧ ∀ x ∈ I, C3 x.1 = C x.1) ∨
   (e = .returned (.int .i64 0) ∧ useU (I2.map (·.2.l)) ≤ 160 ∧ ∃ C2, PS w' tb (G ++ [(ns, ⟨none, f⟩)]) I2 C2 ∧ C2 f = s ∧ ∀ x ∈ I, C2 x.1 = C x.1))
def MadePost (w : World) (tb : Nat) (G : Gh) (I : List (Int × VF)) (C : Int → ByteArray) (ns : List ByteArray) (s : ByteArray) (e : Ending) (w' : World) : Prop :=
 Fr (ProgT tb w) w w' ∧ ∃ (f : Nat) (I1 I2 : List (Int × VF)) (a : Option Addr) (c : Nat), Na w none a ∧ f ≤ I.length ∧ (∀ x ∈ I, x.1 ≠ f) ∧ I1.length = I.length + 1 ∧ (∀ x, x ∈ I1 ↔ x = ((f : Int), ⟨none, 0, 0, 1⟩) ∨ x ∈ I) ∧ IOver I1 I2 f ⟨a, s.size, c, 1⟩ ∧
  ((e = .returned (.int .i64 9) ∧ 160 < useU (I2.map (·.2.l)) ∧ ∃ I3 C3, PS w' tb G I3 C3 ∧ I3.length = I.length ∧ (∀ x, x ∈ I3 ↔ x ∈ I) ∧ ∀ x ∈ I, C3 x.1 = C x.1) ∨
   (e = .returned (.int .i64 0) ∧ useU (I2.map (·.2.l)) ≤ 160 ∧ ∃ C2, PS w' tb (G ++ [(ns, ⟨none, (f : Int)⟩)]) I2 C2 ∧ C2 f = s ∧ ∀ x ∈ I, C2 x.1 = C x.1))
def WrPost (w : World) (tb : Nat) (G : Gh) (I : List (Int × VF)) (C : Int → ByteArray) (p : ByteArray) (i : Int) (d : ByteArray) (e : Ending) (w' : World) : Prop :=
 (wrE G I p i d ≠ 0 ∧ e = .returned (.int .i64 (wrE G I p i d)) ∧ Fr (ProgT tb w) w w' ∧ PS w' tb G I C) ∨
 (wrE G I p i d = 0 ∧ ((∃ u r a c, atG G (names p) = some u ∧ u.p = none ∧ (u.f, r) ∈ I ∧ Na w r.a a ∧ FilledPost w tb G I C u.f ⟨a, (ovR (C u.f) i d).size, c, r.f⟩ (ovR (C u.f) i d) e w') ∨
  (atG G (names p) = none ∧ MadePost w tb G I C (names p) (ovR ⟨#[]⟩ i d) e w')))
theorem fill_code' (w : World) (tb rd : Nat) (V : Nat → Value) (E : Nat → List (ByteArray × VS)) (vi : Value) (G : Gh) (I : List (Int × VF)) (C : Int → ByteArray) (h : TW w tb rd V E vi G I C) (hIl : I.length ≤ 10000) (hll : ∀ x ∈ I, x.2.l ≤ 2000000) (n : Int) (r0 : VF) (hin : (n, r0) ∈ I) (da : Option Addr) (dl dc : Nat) (hdl : dl ≤ 2000000) (s : ByteArray) (hdat : Sl w 5 1 (.slice da dl dc) dl (bytesV s)) :
  Calls Tryz.prog 189 #[.pointer (some ⟨tb, 0, none⟩), .int .i64 n, .slice da dl dc] w fun e w' => ∃ x : Int, e = .returned (.int .i64 x) ∧ FillPost w tb rd V E vi G I C n ⟨da, dl, dc, r0.f⟩ s (.returned (.int .i64 x)) w' := by
 refine (fill_code w tb rd V E vi G I C h hIl hll n r0 hin da dl dc hdl s hdat).mono ?_
 intro e w' hq
 have hq' := hq
 obtain ⟨_, I', _, ⟨rfl, _⟩ | ⟨rfl, _⟩⟩ := hq'
 ·exact ⟨_, rfl, hq⟩
 ·exact ⟨_, rfl, hq⟩
theorem GOk.add {G : Gh} (h : GOk G) {ns : List ByteArray} (hn : Nms ns) (hne : ns ≠ []) (hl : ns.length ≤ 6) (hat : atG G ns = none) (hup : ∀ ds n, ns = ds ++ [n] → ds = [] ∨ ∃ v, (ds, v) ∈ G ∧ v.p.isSome = true) (u : VS) : GOk (G ++ [(ns, u)]) := by
 refine ⟨fun x hx => ?_, fun x hx => ?_, fun x hx => ?_, ?_, fun ds n v hx => ?_⟩
 ·rcases List.mem_append.1 hx with hx | hx
  ·exact h.nms x hx
  ·rw [List.mem_singleton.1 hx]; exact hn
 ·rcases List.mem_append.1 hx with hx | hx
  ·exact h.ne x hx
  ·rw [List.mem_singleton.1 hx]; exact hne
 ·rcases List.mem_append.1 hx with hx | hx
  ·exact h.le x hx
  ·rw [List.mem_singleton.1 hx]; exact hl
 ·rw [List.map_append, List.nodup_append]
  refine ⟨h.nd, by simp, fun a ha b hb => ?_⟩
  obtain ⟨x, hx, rfl⟩ := List.mem_map.1 ha
  obtain rfl : b = ns := by simpa using hb
  intro e
  exact atG_none hat x.2 (by rw [← e]; exact hx)
 ·rcases List.mem_append.1 hx with hx | hx
  ·rcases h.up ds n v hx with e | ⟨v', hv', hs⟩
   ·exact .inl e
   ·exact .inr ⟨v', List.mem_append_left _ hv', hs⟩
  ·have e := (Prod.mk.inj (List.mem_singleton.1 hx)).1
   rcases hup ds n e.symm with e | ⟨v', hv', hs⟩
   ·exact .inl e
   ·exact .inr ⟨v', List.mem_append_left _ hv', hs⟩
theorem IsDir.up {G : Gh} {rd : Nat} {ds : List ByteArray} {db : Nat} (h : IsDir G rd ds db) : ds = [] ∨ ∃ v, (ds, v) ∈ G ∧ v.p.isSome = true := by
 rcases h with ⟨rfl, _⟩ | h
 ·exact .inl rfl
 ·exact .inr ⟨_, h, rfl⟩
theorem bodyPostD_nil {P : Program} {fn : Func} {R : Ending → World → Prop} {tmps : Array Value} {w : World} (h : Leaves P fn tmps R [] .returning w) : bodyPostD P fn R Exit.ret { tmps := tmps, defers := [] } w := h
theorem over_code (w : World) (a : Option Addr) (l c : Nat) (s : ByteArray) (h : Sl w 5 1 (.slice a l c) l (bytesV s)) (hs : s.size ≤ 1280) (i : Nat) (ad : Option Addr) (ld cd : Nat) (d : ByteArray) (hd : Sl w 5 1 (.slice ad ld cd) ld (bytesV d)) (hi : i + d.size ≤ 1280) :
  Calls Tryz.prog 187 #[.slice a l c, .int .i64 i, .slice ad ld cd] w fun e w' => ∃ oa oc, e = .returned (.slice oa (ovR s i d).size oc) ∧ Sl w' 5 1 (.slice oa (ovR s i d).size oc) (ovR s i d).size (bytesV (ovR s i d)) ∧ Below w.heap.size w w' ∧ Na w a oa := by
 refine (overlaid_code w a l c s h.rdB hs i ad ld cd d hd.rdB hi).mono ?_
 rintro e w' ⟨hpost, hb⟩
 rcases hpost with ⟨h0, rfl⟩ | ⟨h0, x, m, rfl, hx, hS⟩
 ·have : ovR s i d = s := by unfold ovR; rw [if_pos h0]
  rw [this]
  have hl : l = s.size := h.rdB.1
  subst hl
  exact ⟨a, c, rfl, h.kept (fun k hk _ => hb.block k hk), hb, .inl rfl⟩
 ·have : ovR s i d = wrR s i d := by unfold ovR; rw [if_neg (by omega)]; rfl
  rw [this]
  have hm : m = (wrR s i d).size := hS.rdB.1
  subst hm
  exact ⟨_, _, rfl, hS, hb, .inr (fun g hg => by cases hg; exact hx)⟩
theorem makeFile_code (w : World) (tb rd : Nat) (V : Nat → Value) (E : Nat → List (ByteArray × VS)) (vi : Value) (G : Gh) (I : List (Int × VF)) (C : Int → ByteArray) (h : TW w tb rd V E vi G I C) (hG : GOk G) (hGl : G.length ≤ 9000) (hIl : I.length ≤ 9000) (hll : ∀ x ∈ I, x.2.l ≤ 2000000) (ds : List ByteArray) (db : Nat) (hdir : IsDir G rd ds db) (n : ByteArray) (hn : n.size ≤ 2000000) (hpn : Nms (ds ++ [n]) ∧ (ds ++ [n]).length ≤ 6) (hat : atG G (ds ++ [n]) = none) (f : Int) (hf : ∀ x ∈ I, x.1 ≠ f) (da : Option Addr) (dl dc : Nat) (hdl : dl ≤ 2000000) (s : ByteArray) (hdat : Sl w 5 1 (.slice da dl dc) dl (bytesV s)) :
  Calls Tryz.prog 185 #[.pointer (some ⟨tb, 0, none⟩), spotV (some ⟨db, 0, none⟩) n false ⟨none, 0⟩, .int .i64 f, .slice da dl dc] w fun e w' => (mayB G I ds = false ∧ e = .returned (.int .i64 8) ∧ Below w.heap.size w w') ∨ (mayB G I ds = true ∧ (∃ x : Int, e = .returned (.int .i64 x)) ∧ MadeF w tb G I C (ds ++ [n]) f ⟨da, dl, dc, 1⟩ s e w') := by
 have hmf : ∀ (fn : Fn) (first cap : Array Value) (w : World), (Instr.makeFunc fn first cap).run Tryz.prog w = .ok (.func fn first cap) w := fun _ _ _ _ => rfl
 unfold spotV
 obtain ⟨W1, hW1, hx1, hk1, hsz1, hb1⟩ := alloc_name w [.pointer (some ⟨tb, 0, none⟩)] 37
 obtain ⟨W2, hW2, hx2, hk2, hsz2, hb2⟩ := alloc_name W1 (spotL (some ⟨db, 0, none⟩) n false ⟨none, 0⟩) 262
 obtain ⟨W3, hW3, hx3, hk3, hsz3, hb3⟩ := alloc_name W2 [.int .i64 f] 3
 obtain ⟨W4, hW4, hx4, hk4, hsz4, hb4⟩ := alloc_name W3 [.int .i64 0] 26
 have hbw4 : Below w.heap.size w W4 := ((hb1.trans (hb2.mono (by omega))).trans (hb3.mono (by omega))).trans (hb4.mono (by omega))
 have y4 := hk4 _ _ _ (hk3 _ _ _ (hk2 _ _ _ hx1))
 have y5 := hk4 _ _ _ (hk3 _ _ _ hx2)
 have y6 := hk4 _ _ _ hx3
 have y8 := hx4
 rw [hsz1] at y5
 rw [hsz2, hsz1] at y6
 rw [hsz3, hsz2, hsz1] at y8
 have hmay := mayMake_code W4 tb rd V E vi G I C (h.below hbw4 (Nat.le_refl _)) hG (by omega) (by omega) ds db hdir
 have HMAY := hide hmay
 have HH := hide h
 have HD := hide hdat
 have HLL := hide hll
 have HF := hide hf
 have HDIR := hide hdir
 have HAT := hide hat
 have HPN := hide hpn
 have HW : Hid ((((w.alloc (.cells #[.pointer (some ⟨tb, 0, none⟩)] 37)).alloc (.cells #[.pointer (some ⟨db, 0, none⟩), .string n, .bool false, .pointer none, .int .i64 0] 262)).alloc (.cells #[.int .i64 f] 3)).alloc (.cells #[.int .i64 0] 26) = W4) := by
  show _ = _
  rw [← hW4, ← hW3, ← hW2, ← hW1]
 clear h hdat hll hf hdir hat hpn hmay hW1 hW2 hW3 hW4 hx1 hx2 hx3 hx4 hk1 hk2 hk3 hk4 hb1 hb2 hb3 hb4 hsz1 hsz2 hsz3 hsz4
 go_enter_defers Tryz.func185, Tryz.ntmps185
 go_upto_region 1 with fail
 rw [unhide HW]
 clear HW
 have a4 := y4.cell 0; have a5 := y5.cell 0
 go_wp2_with fail
 refine (unhide HMAY).mono ?_
 rintro e w5 ⟨rfl, hb5⟩
 have x4 : RowIs w5 w.heap.size 37 _ := (hb5.block _ y4.lt).trans y4
 have x5 : RowIs w5 (w.heap.size + 1) 262 _ := (hb5.block _ y5.lt).trans y5
 have x6 : RowIs w5 (w.heap.size + 1 + 1) 3 _ := (hb5.block _ y6.lt).trans y6
 have x8 : RowIs w5 (w.heap.size + 1 + 1 + 1) 26 _ := (hb5.block _ y8.lt).trans y8
 have hbw5 : Below w.heap.size w w5 := hbw4.trans (hb5.mono hbw4.size)
 rw [show decide ((G.countP (qIn ds) < 20 ∧ G.length < 100) ∧ cD G [] + I.length < 60) = mayB G I ds from rfl]
 clear HMAY a4 a5 y4 y5 y6 y8 hb5 hbw4
 cases hmb : mayB G I ds with
 | false =>
  have c8 := x8.cell 0; have f8 := x8.frozen 0
  go_wp2
  have d8 := (x8.set 0 (.int .i64 8)).cell 0
  refine bodyPostD_nil ?_
  exact ⟨.int .i64 8, by simp [results, Tryz.results185, go_sem] at d8 ⊢; simp [d8], .inl ⟨hmb, rfl, hbw5.setCell (p := ⟨w.heap.size + 1 + 1 + 1, 0, none⟩) (by show w.heap.size ≤ w.heap.size + 1 + 1 + 1; omega) _⟩⟩
 | true =>
  have HPUT : Hid (∀ X, Below w5.heap.size w5 X → Calls Tryz.prog 228 #[.pointer (some ⟨tb, 1, none⟩), .int .i64 f, .agg #[.slice none 0 0, .int .i64 1]] X fun e w' => e = .returned (.tuple #[]) ∧ (∃ vi' I', TW w' tb rd V E vi' G I' (fun k => if k = f then ⟨#[]⟩ else C k) ∧ I'.length = I.length + 1 ∧ ∀ x, x ∈ I' ↔ x = (f, ⟨none, 0, 0, 1⟩) ∨ x ∈ I) ∧ Fr (ProgT tb w5) w5 w') := fun X hb => by
   have hX := (unhide HH).below (hbw5.trans (hb.mono hbw5.size)) (Nat.le_refl _)
   refine (putNew_code X tb rd V E vi G I C hX (by omega) f ⟨none, 0, 0, 1⟩ (unhide HF) ⟨#[]⟩ ⟨rfl, .inl ⟨rfl, rfl⟩⟩).mono ?_
   rintro e w' ⟨rfl, ⟨vi', I', q1, q2, q3⟩, q4⟩
   exact ⟨rfl, ⟨vi', I', q1, q2, q3⟩, Fr.prog hb (Fr.progI hX q4)⟩
  have a4 := x4.cell 0; have a6 := x6.cell 0
  have X4 := hide x4
  have X5 := hide x5
  have X6 := hide x6
  have X8 := hide x8
  have hbd0 : Below w5.heap.size w5 w5 := Below.refl _ _
  have hbd : Below w5.heap.size w5 w5.drew := hbd0.drew
  clear x4 x5 x6 x8
  go_upto_region 3 with fail
  go_region_held3 (fun W => W.cell? ⟨w.heap.size, 0, none⟩ = some (.pointer (some ⟨tb, 0, none⟩)) ∧ W.cell? ⟨w.heap.size + 1 + 1, 0, none⟩ = some (.int .i64 f)) (go_keep)
   (first | (go_at_call 228; refine (unhide HPUT _ hbd).mono ?_; rintro e w6 ⟨rfl, ⟨vi', I1, q1, q2, q3⟩, hfr6⟩; have m4 := ((unhide X4).prog hfr6 (by decide)).cell 0; have m6 := ((unhide X6).prog hfr6 (by decide)).cell 0))
  all_goals
   have z4 := (unhide X4).prog hfr6 (by decide)
   have z5 := (unhide X5).prog hfr6 (by decide)
   have z6 := (unhide X6).prog hfr6 (by decide)
   have z8 := (unhide X8).prog hfr6 (by decide)
   have hent := link_end w6 tb rd V E vi' G I1 _ q1 hG (by omega) (by omega) ds db (unhide HDIR) n hn (unhide HAT) f
   unfold spotV at hent
   have HENT := hide hent
   have HI1 := hide q3
   have HI1L := hide q2
   have HFR6 := hide hfr6
   have b0 := z5.cell 0; have b1 := z5.cell 1; have b2 := z5.cell 2; have b3 := z5.cell 3; have b4 := z5.cell 4
   clear hent q1 q2 q3 hfr6 HPUT X4 X5 X6 X8 a4 a6 m4 m6 hbd0 hbd
   have a6 := z6.cell 0
   go_wp2_with fail
   refine (unhide HENT).mono ?_
   rintro e w7 ⟨rfl, V', E', h7, hfr7⟩
   have s4 := z4.prog hfr7 (by decide)
   have s5 := z5.prog hfr7 (by decide)
   have s6 := z6.prog hfr7 (by decide)
   have s8 := z8.prog hfr7 (by decide)
   have HFR7 : Hid (Fr (ProgT tb w) w w7) := (Fr.prog hbw5 (unhide HFR6)).progTrans hfr7
   have HDc : Hid (Sl w7 5 1 (.slice da dl dc) dl (bytesV s)) := (((unhide HD).kept (fun k hk _ => hbw5.block k hk)).prog (unhide HFR6)).prog hfr7
   have HT := hide h7
   have HIN : Hid ((f, (⟨none, 0, 0, 1⟩ : VF)) ∈ I1) := (unhide HI1 _).2 (.inl rfl)
   have hI1l : I1.length ≤ 10000 := by have := unhide HI1L; omega
   have hfill := fill_code' w7 tb rd V' E' vi' _ I1 _ h7 hI1l (fun x hx => by
    rcases (unhide HI1 x).1 hx with rfl | hx
    ·exact Nat.zero_le _
    ·exact unhide HLL x hx) f ⟨none, 0, 0, 1⟩ (unhide HIN) da dl dc hdl s (unhide HDc)
   have HFILL := hide hfill
   have c4 := s4.cell 0; have c6 := s6.cell 0
   have S4 := hide s4
   have S5 := hide s5
   have S6 := hide s6
   have S8 := hide s8
   clear hfill h7 hfr7 HENT b0 b1 b2 b3 b4 a6 z4 z5 z6 z8 s4 s5 s6 s8
   go_wp2_with fail
   refine (unhide HFILL).mono ?_
   rintro e w8 ⟨x, rfl, hq⟩
   obtain ⟨hfr8, I2, hio, hcase⟩ := hq
   have g4 := (unhide S4).prog hfr8 (by decide)
   have g5 := (unhide S5).prog hfr8 (by decide)
   have g6 := (unhide S6).prog hfr8 (by decide)
   have g8 := (unhide S8).prog hfr8 (by decide)
   have k8 := g8.cell 0; have f8 := g8.frozen 0
   have HFR8 := hide hfr8
   have HCASE := hide hcase
   have HIO := hide hio
   have G4 := hide g4
   have G5 := hide g5
   have G6 := hide g6
   have G8 := hide g8
   clear hfr8 hcase hio HFILL c4 c6 S4 S5 S6 S8 g4 g5 g6 g8
   go_wp2
   have g4 := unhide G4
   have g5 := unhide G5
   have g6 := unhide G6
   have g8 := unhide G8
   have hFf : Fr (ProgT tb w) w (w8.setCell ⟨w.heap.size + 1 + 1 + 1, 0, none⟩ (.int .i64 x)) := ((unhide HFR7).progTrans (unhide HFR8)).ext ((Below.refl _ _).setCell (p := ⟨w.heap.size + 1 + 1 + 1, 0, none⟩) (by show w.heap.size ≤ w.heap.size + 1 + 1 + 1; omega) _)
   have d8 := g8.set 0 (.int .i64 x)
   have d4 := g4.setOther ⟨w.heap.size + 1 + 1 + 1, 0, none⟩ (.int .i64 x) (by show w.heap.size + 1 + 1 + 1 ≠ w.heap.size; omega)
   have d5 := g5.setOther ⟨w.heap.size + 1 + 1 + 1, 0, none⟩ (.int .i64 x) (by show w.heap.size + 1 + 1 + 1 ≠ w.heap.size + 1; omega)
   have d6 := g6.setOther ⟨w.heap.size + 1 + 1 + 1, 0, none⟩ (.int .i64 x) (by show w.heap.size + 1 + 1 + 1 ≠ w.heap.size + 1 + 1; omega)
   have hpn := unhide HPN
   have hGc : GOk (G ++ [(ds ++ [n], (⟨none, f⟩ : VS))]) := hG.add hpn.1 (by simp) hpn.2 (unhide HAT) (fun ds' n' e => by obtain ⟨rfl, rfl⟩ := snoc_inj e; exact (unhide HDIR).up) _
   have hGcl : (G ++ [(ds ++ [n], (⟨none, f⟩ : VS))]).length ≤ 10000 := by simp; omega
   have hdirc : IsDir (G ++ [(ds ++ [n], (⟨none, f⟩ : VS))]) rd ds db := (unhide HDIR).elim .inl (fun h => .inr (List.mem_append_left _ h))
   have hnewc : (ds ++ [n], (⟨none, f⟩ : VS)) ∈ G ++ [(ds ++ [n], (⟨none, f⟩ : VS))] := by simp
   have hgone : ∀ y, y ∈ G ↔ y ∈ gone (G ++ [(ds ++ [n], (⟨none, f⟩ : VS))]) (ds ++ [n]) := fun y => by
    rw [gone_del, List.mem_append, List.mem_singleton]
    constructor
    ·intro hy; exact ⟨.inl hy, fun e => atG_none (G := G) (ns := ds ++ [n]) (unhide HAT) y.2 (by rw [← e]; exact hy)⟩
    ·rintro ⟨hy | rfl, hne⟩
     ·exact hy
     ·exact absurd rfl hne
   have h12 : w.heap.size + 1 + 1 + 1 ≠ 0 := by omega
   have hF2 := unhide HF
   refine leaves_cons (f := 229) (args := #[.pointer (some ⟨w.heap.size + 1 + 1 + 1, 0, none⟩), .pointer (some ⟨w.heap.size + 1, 0, none⟩), .pointer (some ⟨w.heap.size, 0, none⟩), .pointer (some ⟨w.heap.size + 1 + 1, 0, none⟩)]) (by simp) (by simp [go_sem]) ?_
   rcases unhide HCASE with ⟨e9, hgt, I'', hT6, hl6, hmem6⟩ | ⟨e0, hle, hT6⟩
   ·have hx9 : x = 9 := by simpa using e9
    subst hx9
    refine (write1_code _ _ _ _ .returning _ tb rd _ _ _ _ I'' _ (hT6.setOther g8 h12 (by decide) 0 (.int .i64 9)) hGc hGcl (by rw [hl6]; exact hI1l) ds db hdirc n false ⟨none, 0⟩ f hnewc ⟨none, 0, 0, 1⟩ ((hmem6 _).2 (unhide HIN)) rfl 9 (by simpa using d8) d5 d4 d6).mono ?_
    rintro e u' w9 ⟨rfl, rfl, hrow, hfr, hcase⟩
    have hc := hrow.cell 0
    refine ⟨.int .i64 9, by simp [results, Tryz.results185, go_sem, hc], ?_⟩
    rcases hcase with ⟨h0, _⟩ | ⟨_, V7, E7, vi7, I7, hT7, hid⟩
    ·exact absurd h0 (by decide)
    ·refine .inr ⟨hmb, ⟨_, rfl⟩, hFf.progTrans hfr, I1, I2, unhide HI1L, unhide HI1, unhide HIO, .inl ⟨rfl, hgt, I7, _, ⟨rd, V7, E7, vi7, hT7.congrG hgone⟩, ?_, fun y => ?_, fun y hy => if_neg (hF2 y hy)⟩⟩
     ·have h1 := hid.1; have h2 := unhide HI1L; omega
     ·rw [hid.2 y, hmem6 y, unhide HI1 y]
      constructor
      ·rintro ⟨rfl | hy, hne⟩
       ·exact absurd rfl hne
       ·exact hy
      ·intro hy; exact ⟨.inr hy, hF2 y hy⟩
   ·have hx0 : x = 0 := by simpa using e0
    subst hx0
    refine (write1_code _ _ _ _ .returning _ tb rd _ _ _ _ I2 _ (hT6.setOther g8 h12 (by decide) 0 (.int .i64 0)) hGc hGcl (by rw [(unhide HIO).1]; exact hI1l) ds db hdirc n false ⟨none, 0⟩ f hnewc ⟨da, dl, dc, 1⟩ (((unhide HIO).2 _).2 (.inl rfl)) rfl 0 (by simpa using d8) d5 d4 d6).mono ?_
    rintro e u' w9 ⟨rfl, rfl, hrow, hfr, hcase⟩
    have hc := hrow.cell 0
    refine ⟨.int .i64 0, by simp [results, Tryz.results185, go_sem, hc], ?_⟩
    rcases hcase with ⟨_, hw9⟩ | ⟨h0, _⟩
    ·rw [hw9]
     refine .inr ⟨hmb, ⟨_, rfl⟩, hFf, I1, I2, unhide HI1L, unhide HI1, unhide HIO, .inr ⟨rfl, hle, _, ⟨rd, _, _, _, hT6.setOther g8 h12 (by decide) 0 (.int .i64 0)⟩, by simp, fun y hy => ?_⟩⟩
     simp [hF2 y hy]
    ·exact absurd rfl h0
theorem writeT_code (w : World) (tb : Nat) (G : Gh) (I : List (Int × VF)) (C : Int → ByteArray) (h : PS w tb G I C) (hG : GOk G) (hGl : G.length ≤ 9000) (hIl : I.length ≤ 9000) (hI0 : ∀ x ∈ I, 0 ≤ x.1) (hFl : FlOk G I) (hll : ∀ x ∈ I, x.2.l ≤ 2000000) (hC : ∀ x ∈ I, (C x.1).size ≤ 1280) (p : ByteArray) (hp : p.size ≤ 2000000) (i : Int) (d : ByteArray) (hds : d.size ≤ 2000000) (ad : Option Addr) (cd : Nat) (hd : Sl w 5 1 (.slice ad d.size cd) d.size (bytesV d)) :
  Calls Tryz.prog 123 #[.pointer (some ⟨tb, 0, none⟩), .string p, .int .i64 i, .slice ad d.size cd] w (WrPost w tb G I C p i d) := by
 obtain ⟨rd, V, E, vi, h⟩ := h
 have HSAME : Hid (∀ W, Below w.heap.size w W → wrE G I p i d ≠ 0 → WrPost w tb G I C p i d (.returned (.int .i64 (wrE G I p i d))) W) := fun W hb hne => .inl ⟨hne, rfl, Fr.of_below hb, rd, V, E, vi, h.below hb (Nat.le_refl _)⟩
 have HH := hide h
 have HFL := hide hFl
 have HC := hide hC
 have HLL := hide hll
 have HI0 := hide hI0
 have HD := hide hd
 have HLOC := hide (locate_code w tb rd V E vi G I C h hG (by omega) p hp (wrFits i d))
 clear h hFl hC hll hd hI0
 obtain ⟨fits, hfits⟩ : ∃ b, b = wrFits i d := ⟨_, rfl⟩
 have HFITS := hide hfits
 rw [← hfits] at HLOC
 have hcase : (fits = true ∧ 0 ≤ i ∧ i ≤ 1280 - (d.size : Int)) ∨ (fits = false ∧ 0 ≤ i ∧ ¬ i ≤ 1280 - (d.size : Int)) ∨ (fits = false ∧ ¬ 0 ≤ i) := by
  unfold wrFits at hfits
  by_cases h0 : 0 ≤ i
  ·by_cases h1 : i ≤ 1280 - (d.size : Int)
   ·exact .inl ⟨by rw [hfits]; exact decide_eq_true ⟨h0, h1⟩, h0, h1⟩
   ·exact .inr (.inl ⟨by rw [hfits]; exact decide_eq_false (fun h => h1 h.2), h0, h1⟩)
  ·exact .inr (.inr ⟨by rw [hfits]; exact decide_eq_false (fun h => h0 h.1), h0⟩)
 clear hfits
 rcases hcase with ⟨rfl, h0i, h1i⟩ | ⟨rfl, h0i, h1i⟩ | ⟨rfl, h0i⟩
 ·go_enter Tryz.func123, Tryz.ntmps123
  go_wp2_with fail
  refine (unhide HLOC).mono ?_
  rintro e w1 ⟨hpost, hb⟩
  clear HLOC
  rcases hpost with ⟨hne, rfl⟩ | ⟨he, hok, sd, n, t, u, hsp, rfl⟩
  ·have HE : Hid (wrE G I p i d = locE G p true) := by show _ = _; unfold wrE; rw [← unhide HFITS, if_pos hne]
   have HNE := hide hne
   have hne' : (locE G p true != 0) = true := by simpa using hne
   clear hne
   unfold noSpot spotV
   go_wp2
   go_ret
   have := unhide HSAME _ (hb.alloc hb.size (.cells (spotL none ⟨#[]⟩ false ⟨none, 0⟩).toArray 262)) (by rw [unhide HE]; exact unhide HNE)
   rw [unhide HE] at this
   exact this
  ·have hcs := spot_cases (unhide HH).d hsp
   have HSP := hide hsp
   have HE0 := hide he
   have HOK := hide hok
   clear hsp he hok
   unfold spotV
   go_upto_if 32 with fail
   obtain ⟨W, hW, hx, hk, hsz, hbW⟩ := alloc_name w1 (spotL sd n t u) 262
   have hb2 : Below w.heap.size w W := hb.trans (hbW.mono hb.size)
   rw [hW]
   have HB10 : Hid (w.heap.size ≤ w1.heap.size) := hb.size
   obtain ⟨B10, hB10⟩ : ∃ b, b = w1.heap.size := ⟨_, rfl⟩
   rw [← hB10] at hx HB10 ⊢
   clear hW hk hbW hb hsz hB10
   have c0 := hx.cell 0; have c1 := hx.cell 1; have c2 := hx.cell 2; have c3 := hx.cell 3; have c4 := hx.cell 4
   have HX := hide hx
   clear hx
   have HWR : Hid (wrE G I p i d = if names p = [] then 5 else match atG G (names p) with | some u => if u.p.isSome = true then 5 else 0 | none => if mayB G I (names p).dropLast = false then 8 else 0) := by show _ = _; unfold wrE; rw [← unhide HFITS, if_neg (by rw [unhide HE0]; simp)] <;> rfl
   obtain ⟨k, hk⟩ : ∃ k : Nat, i = (k : Int) := ⟨i.toNat, by omega⟩
   subst hk
   rcases hcs with ⟨rfl, hne, hat⟩ | ⟨rfl, hne, hat, hu⟩ | ⟨rfl, b, rfl, hdir, hor⟩
   ·obtain ⟨ds, db, hns, hdir, hsd, hu0⟩ : ∃ ds db, names p = ds ++ [n] ∧ IsDir G rd ds db ∧ sd = some ⟨db, 0, none⟩ ∧ u = ⟨none, 0⟩ := by
     rcases unhide HSP with ⟨h1, _⟩ | ⟨ds, db, h1, h2, h3, _, h5⟩
     ·exact absurd h1 hne
     ·exact ⟨ds, db, h1, h2, h3, by rw [h5, hat]; rfl⟩
    subst hsd hu0
    have HNS := hide hns
    have HDIR := hide hdir
    have HAT := hide hat
    have HWR2 : Hid (wrE G I p (k : Int) d = if mayB G I ds = false then 8 else 0) := by show _ = _; rw [unhide HWR, if_neg hne, hat]; simp only; rw [hns, List.dropLast_concat]
    obtain ⟨S, hS⟩ : ∃ S, S = ovR ⟨#[]⟩ (k : Int) d := ⟨_, rfl⟩
    have hSz : S.size ≤ 2000000 := by
     rw [hS]
     unfold ovR
     split
     ·decide
     ·rw [wrR_size]; have h0 : (⟨#[]⟩ : ByteArray).size = 0 := rfl; rw [h0]; omega
    have HOV : Hid (∀ X, Below W.heap.size W X → Calls Tryz.prog 187 #[.slice none 0 0, .int .i64 (k : Int), .slice ad d.size cd] X fun e w' => ∃ oa oc, e = .returned (.slice oa S.size oc) ∧ Hid (Sl w' 5 1 (.slice oa S.size oc) S.size (bytesV S)) ∧ Below X.heap.size X w' ∧ Hid (Na X none oa)) := fun X hX => by
     have hbX := hb2.trans (hX.mono hb2.size)
     have h1 : Sl X 5 1 (.slice none 0 0) 0 (bytesV ⟨#[]⟩) := ⟨rfl, .inl ⟨rfl, rfl⟩⟩
     have h2 := (unhide HD).kept (fun k hk _ => hbX.block k hk)
     exact (over_code X none 0 0 ⟨#[]⟩ h1 (by decide) k ad d.size cd d h2 (by omega)).mono (fun e w' ⟨oa, oc, h1, h2, h3, h4⟩ => ⟨oa, oc, by rw [hS]; exact h1, by rw [hS]; exact h2, h3, h4⟩)
    have HFREE : Hid (∀ X, Below W.heap.size W X → Calls Tryz.prog 186 #[.pointer (some ⟨tb, 0, none⟩)] X fun e w' => ∃ f : Nat, e = .returned (.int .i64 f) ∧ Hid (f ≤ I.length ∧ ∀ x ∈ I, x.1 ≠ f) ∧ Below X.heap.size X w') := fun X hX => by
     have hbX := hb2.trans (hX.mono hb2.size)
     have hT := (unhide HH).below hbX (Nat.le_refl _)
     exact (free_code X tb _ vi I hT.t hT.i (by omega) hT.si (unhide HI0)).mono (fun e w' ⟨f, h1, h2, h3, h4⟩ => ⟨f, h1, ⟨h2, h3⟩, h4⟩)
    have HMAKE : Hid (∀ X (f : Nat) oa oc, Below W.heap.size W X → Hid (f ≤ I.length ∧ ∀ x ∈ I, x.1 ≠ f) → Hid (Sl X 5 1 (.slice oa S.size oc) S.size (bytesV S)) → Hid (Na W none oa) → Calls Tryz.prog 185 #[.pointer (some ⟨tb, 0, none⟩), spotV (some ⟨db, 0, none⟩) n false ⟨none, 0⟩, .int .i64 f, .slice oa S.size oc] X fun e w' => ∃ x : Int, e = .returned (.int .i64 x) ∧ WrPost w tb G I C p (k : Int) d (.returned (.int .i64 x)) w' ∧ RowIs w' B10 262 (spotL (some ⟨db, 0, none⟩) n false ⟨none, 0⟩)) := fun X f oa oc hX hf hSl hNa => by
     have hbX := hb2.trans (hX.mono hb2.size)
     have hxX : RowIs X B10 262 (spotL (some ⟨db, 0, none⟩) n false ⟨none, 0⟩) := (hX.block _ (unhide HX).lt).trans (unhide HX)
     have hns := unhide HNS
     have hok := unhide HOK
     have hpn : Nms (ds ++ [n]) ∧ (ds ++ [n]).length ≤ 6 := by
      cases hr : (p.toList == [47]) with
      | true => have h0 := names_root hr; rw [hns] at h0; simp at h0
      | false => obtain ⟨_, h2, _, h4⟩ := path_names hok hr; rw [hns] at h2 h4; exact ⟨h2, h4⟩
     refine (makeFile_code X tb rd V E vi G I C ((unhide HH).below hbX (Nat.le_refl _)) hG (by omega) (by omega) (unhide HLL) ds db (unhide HDIR) n (name_size hok hns) hpn (by rw [← hns]; exact unhide HAT) f (unhide hf).2 oa S.size oc hSz S (unhide hSl)).mono ?_
     rintro e w' (⟨hm, rfl, hbw⟩ | ⟨hm, ⟨x, rfl⟩, hfr, I1, I2, h1, h2, h3, h4⟩)
     ·have := unhide HSAME w' (hbX.trans (hbw.mono hbX.size)) (by rw [unhide HWR2, hm]; decide)
      rw [unhide HWR2, hm] at this
      exact ⟨8, rfl, this, (hbw.block _ hxX.lt).trans hxX⟩
     ·refine ⟨x, rfl, .inr ⟨by rw [unhide HWR2, hm]; rfl, .inr ⟨unhide HAT, Fr.prog hbX hfr, f, I1, I2, oa, oc, (unhide hNa).mono hb2.size, (unhide hf).1, (unhide hf).2, h1, h2, by rw [← hS]; exact h3, ?_⟩⟩, hxX.prog hfr (by decide)⟩
      rw [← hS, hns]
      exact h4
    unfold spotV at HMAKE
    clear hns hdir hat hne hSz hS
    have hbd0 : Below W.heap.size W W := Below.refl _ _
    have hbd : Below W.heap.size W W.drew := hbd0.drew
    have hlt := (unhide HX).lt
    go_upto_region 6 with fail
    go_region_held3 (fun W => W.cell? ⟨B10, 0, none⟩ = some (.pointer (some ⟨db, 0, none⟩)) ∧ W.cell? ⟨B10, 1, none⟩ = some (.string n) ∧ W.cell? ⟨B10, 2, none⟩ = some (.bool false) ∧ W.cell? ⟨B10, 3, none⟩ = some (.pointer none) ∧ W.cell? ⟨B10, 4, none⟩ = some (.int .i64 0)) (go_keep)
     (first | (go_at_call 186; refine (unhide HFREE _ (by assumption)).mono ?_; rintro e w3 ⟨f, rfl, hf, hb3⟩; have hbf := hbd.trans (hb3.mono hbd.size); have m0 := (hbf.cell (p := ⟨B10, 0, none⟩) hlt).trans c0; have m1 := (hbf.cell (p := ⟨B10, 1, none⟩) hlt).trans c1; have m2 := (hbf.cell (p := ⟨B10, 2, none⟩) hlt).trans c2; have m3 := (hbf.cell (p := ⟨B10, 3, none⟩) hlt).trans c3; have m4 := (hbf.cell (p := ⟨B10, 4, none⟩) hlt).trans c4) | (go_at_call 187; refine (unhide HOV _ (by assumption)).mono ?_; rintro e w4 ⟨oa, oc, rfl, hSo, hb4, hNa⟩; have hbv := hbf.trans (hb4.mono hbf.size); have n0 := (hbv.cell (p := ⟨B10, 0, none⟩) hlt).trans c0; have n1 := (hbv.cell (p := ⟨B10, 1, none⟩) hlt).trans c1; have n2 := (hbv.cell (p := ⟨B10, 2, none⟩) hlt).trans c2; have n3 := (hbv.cell (p := ⟨B10, 3, none⟩) hlt).trans c3; have n4 := (hbv.cell (p := ⟨B10, 4, none⟩) hlt).trans c4) | (go_at_call 185; refine (unhide HMAKE _ f oa oc hbv hf hSo ((unhide hNa).mono hbf.size)).mono ?_; rintro e w5 ⟨x, rfl, hq, hx5⟩; have HQ := hide hq; have o0 := hx5.cell 0; have o1 := hx5.cell 1; have o2 := hx5.cell 2; have o3 := hx5.cell 3; have o4 := hx5.cell 4; clear hq))
    all_goals
     go_wp2
     go_ret
     exact unhide HQ
   ·obtain ⟨up, uf⟩ := u
    simp only at hu
    subst hu
    have HE : Hid (wrE G I p (k : Int) d = 0) := by show _ = _; rw [unhide HWR, if_neg hne, hat]; rfl
    obtain ⟨r, hin, hr0, hr1⟩ := FlOk.mono (unhide HFL) hat rfl
    simp only at hin
    have HAT := hide hat
    have HIN := hide hin
    have hfn : Calls Tryz.prog 188 #[spotV sd n true ⟨none, uf⟩] W fun e w' => e = .returned (.tuple #[.int .i64 uf, .int .i64 0]) ∧ Below W.heap.size W w' := fnum_code sd n true ⟨none, uf⟩ W
    unfold spotV at hfn
    have HFN := hide hfn
    clear hne hat hr0 hr1 hin hfn
    go_wp2_with fail
    refine (unhide HFN).mono ?_
    rintro e w2 ⟨rfl, hb3⟩
    have hbw : Below w.heap.size w w2 := hb2.trans (hb3.mono hb2.size)
    have HGET := hide (getI_code w2 tb rd V E vi G I C ((unhide HH).below hbw (Nat.le_refl _)) (by omega) uf r (unhide HIN))
    clear HFN c0 c1 c2 c3 c4 hb3
    go_wp2_with fail
    refine (unhide HGET).mono ?_
    rintro e w3 ⟨rfl, hb4⟩
    have hbw3 : Below w.heap.size w w3 := hbw.trans (hb4.mono hbw.size)
    clear HGET hb4
    go_upto_region 11 with fail
    obtain ⟨X, hX, hx, hkX, hszX, hbX⟩ := alloc_name w3 [.slice r.a r.l r.c, .int .i64 r.f] 217
    have hbb : Below w.heap.size w X := hbw3.trans (hbX.mono hbw3.size)
    rw [hX]
    have a0 := hx.cell 0; have a1 := hx.cell 1
    have HTX : Hid (TW X tb rd V E vi G I C) := (unhide HH).below hbb (Nat.le_refl _)
    have hsz := unhide HC _ (unhide HIN)
    simp only at hsz
    obtain ⟨S, hS⟩ : ∃ S, S = ovR (C uf) (k : Int) d := ⟨_, rfl⟩
    have hSz : S.size ≤ 2000000 := by
     rw [hS]
     unfold ovR
     split
     ·omega
     ·rw [wrR_size]; omega
    have HOV : Hid (Calls Tryz.prog 187 #[.slice r.a r.l r.c, .int .i64 (k : Int), .slice ad d.size cd] X fun e w' => ∃ oa ol oc, e = .returned (.slice oa ol oc) ∧ Hid (ol = S.size ∧ Sl w' 5 1 (.slice oa ol oc) ol (bytesV S)) ∧ Below X.heap.size X w' ∧ Hid (Na X r.a oa)) := by
     have h1 := (unhide HTX).dat _ (unhide HIN)
     have h2 := (unhide HD).kept (fun k hk _ => hbb.block k hk)
     exact (over_code X r.a r.l r.c (C uf) h1 hsz k ad d.size cd d h2 (by omega)).mono (fun e w' ⟨oa, oc, h1, h2, h3, h4⟩ => ⟨oa, _, oc, h1, by rw [hS]; exact ⟨rfl, h2⟩, h3, h4⟩)
    have HS := hide hS
    clear hX hkX hszX hbX hx hbw hbw3 hsz hS
    go_wp2_with fail
    refine (unhide HOV).mono ?_
    rintro e w5 ⟨oa, ol, oc, rfl, hSo, hb5, hNa⟩
    obtain ⟨hol, hSl⟩ := unhide hSo
    subst hol
    have hb6 : Below w.heap.size w w5 := hbb.trans (hb5.mono hbb.size)
    have HFILL := hide (fill_code w5 tb rd V E vi G I C ((unhide HTX).below hb5 (Nat.le_refl _)) (by omega) (unhide HLL) uf r (unhide HIN) oa S.size oc hSz S hSl)
    clear HOV hSl hSo a0 a1
    go_wp2_with fail
    refine (unhide HFILL).mono ?_
    rintro e w6 hpost
    have hps := hpost.ps hb6
    have hna := (unhide hNa).mono hbb.size
    have HFIN : Hid (WrPost w tb G I C p (k : Int) d e w6) := .inr ⟨unhide HE, .inl ⟨_, r, oa, oc, unhide HAT, rfl, unhide HIN, hna, by rw [← unhide HS]; exact hps⟩⟩
    have hee : e = .returned (.int .i64 9) ∨ e = .returned (.int .i64 0) := by
     obtain ⟨_, I', _, ⟨e1, _⟩ | ⟨e1, _⟩⟩ := hpost
     ·exact .inl e1
     ·exact .inr e1
    clear hpost hps HFILL hna hNa
    rcases hee with rfl | rfl
    ·go_wp2
     go_ret
     exact unhide HFIN
    ·go_wp2
     go_ret
     exact unhide HFIN
   ·have HE : Hid (wrE G I p (k : Int) d = 5) := by
     show _ = _
     rw [unhide HWR]
     rcases hor with h | h
     ·rw [if_pos h]
     ·by_cases hne : names p = []
      ·rw [if_pos hne]
      ·rw [if_neg hne, h]; rfl
    have hfn : Calls Tryz.prog 188 #[spotV sd n true ⟨some ⟨b, 0, none⟩, 0⟩] W fun e w' => e = .returned (.tuple #[.int .i64 0, .int .i64 5]) ∧ Below W.heap.size W w' := fnum_code sd n true ⟨some ⟨b, 0, none⟩, 0⟩ W
    unfold spotV at hfn
    have HFN := hide hfn
    clear hor hdir hfn
    go_wp2_with fail
    refine (unhide HFN).mono ?_
    rintro e w2 ⟨rfl, hb3⟩
    have HFIN := hide (unhide HSAME w2 (hb2.trans (hb3.mono hb2.size)) (by rw [unhide HE]; decide))
    rw [unhide HE] at HFIN
    clear HFN c0 c1 c2 c3 c4 hb3
    go_wp2
    go_ret
    exact unhide HFIN
 ·have hne : locE G p false ≠ 0 := fun e => by unfold locE at e; split at e <;> simp at e
  have hne' : (locE G p false != 0) = true := by simpa using hne
  have HE : Hid (wrE G I p i d = locE G p false) := by show _ = _; unfold wrE; rw [← unhide HFITS, if_pos hne]
  have HNE := hide hne
  clear hne
  go_enter Tryz.func123, Tryz.ntmps123
  go_wp2_with fail
  refine (unhide HLOC).mono ?_
  rintro e w1 ⟨hpost, hb⟩
  clear HLOC
  rcases hpost with ⟨_, rfl⟩ | ⟨he, _⟩
  ·unfold noSpot spotV
   go_wp2
   go_ret
   have := unhide HSAME _ (hb.alloc hb.size (.cells (spotL none ⟨#[]⟩ false ⟨none, 0⟩).toArray 262)) (by rw [unhide HE]; exact unhide HNE)
   rw [unhide HE] at this
   exact this
  ·exact absurd he (unhide HNE)
 ·have hne : locE G p false ≠ 0 := fun e => by unfold locE at e; split at e <;> simp at e
  have hne' : (locE G p false != 0) = true := by simpa using hne
  have HE : Hid (wrE G I p i d = locE G p false) := by show _ = _; unfold wrE; rw [← unhide HFITS, if_pos hne]
  have HNE := hide hne
  clear hne
  go_enter Tryz.func123, Tryz.ntmps123
  go_wp2_with fail
  refine (unhide HLOC).mono ?_
  rintro e w1 ⟨hpost, hb⟩
  clear HLOC
  rcases hpost with ⟨_, rfl⟩ | ⟨he, _⟩
  ·unfold noSpot spotV
   go_wp2
   go_ret
   have := unhide HSAME _ (hb.alloc hb.size (.cells (spotL none ⟨#[]⟩ false ⟨none, 0⟩).toArray 262)) (by rw [unhide HE]; exact unhide HNE)
   rw [unhide HE] at this
   exact this
  ·exact absurd he (unhide HNE)
set_option maxHeartbeats 1000000
def mvP (a t ns : List ByteArray) : List ByteArray := if a <+: ns then t ++ ns.drop a.length else ns
def mvG (G : Gh) (a t : List ByteArray) : Gh := G.map (fun x => (mvP a t x.1, x.2))
theorem mvP_in (a t r : List ByteArray) : mvP a t (a ++ r) = t ++ r := by unfold mvP; rw [if_pos ⟨r, rfl⟩]; simp
theorem mvP_out {a t ns : List ByteArray} (h : ¬ a <+: ns) : mvP a t ns = ns := by unfold mvP; rw [if_neg h]
structure MvOk (G : Gh) (a t : List ByteArray) (u : VS) : Prop where
 ok : GOk G
 here : (a, u) ∈ G
 gap : ∀ v, (t, v) ∉ G
 nt : ¬ a <+: t
 nms : Nms t
 ne : t ≠ []
 le : t.length ≤ 6
 up : ∀ ds n, t = ds ++ [n] → ds = [] ∨ ∃ v, (ds, v) ∈ G ∧ v.p.isSome = true
 deep : ∀ x ∈ G, a <+: x.1 → x.1.length - a.length + t.length ≤ 6
theorem MvOk.noT {G : Gh} {a t : List ByteArray} {u : VS} (h : MvOk G a t u) {x : List ByteArray × VS} (hx : x ∈ G) : ¬ t <+: x.1 := fun hp => by
 rcases Nat.lt_or_ge t.length x.1.length with hl | hl
 ·obtain ⟨v, hv, _⟩ := h.ok.pre' hx h.ne (by unfold qB; rw [decide_eq_true_eq]; exact ⟨hl, hp⟩)
  exact h.gap v hv
 ·have e := hp.eq_of_length_le hl
  exact h.gap x.2 (by rw [e]; exact hx)
theorem MvOk.inj {G : Gh} {a t : List ByteArray} {u : VS} (h : MvOk G a t u) {x y : List ByteArray × VS} (hx : x ∈ G) (hy : y ∈ G) (e : mvP a t x.1 = mvP a t y.1) : x.1 = y.1 := by
 by_cases hax : a <+: x.1
 ·obtain ⟨r, hr⟩ := hax
  rw [← hr, mvP_in] at e
  by_cases hay : a <+: y.1
  ·obtain ⟨s, hs⟩ := hay
   rw [← hs, mvP_in] at e
   rw [← hr, ← hs, List.append_cancel_left e]
  ·rw [mvP_out hay] at e
   exact absurd ⟨r, e⟩ (h.noT hy)
 ·rw [mvP_out hax] at e
  by_cases hay : a <+: y.1
  ·obtain ⟨s, hs⟩ := hay
   rw [← hs, mvP_in] at e
   exact absurd ⟨s, e.symm⟩ (h.noT hx)
  ·rw [mvP_out hay] at e; exact e
theorem mem_mvG {G : Gh} {a t : List ByteArray} {ns : List ByteArray} {v : VS} : (ns, v) ∈ mvG G a t ↔ ∃ y, (y, v) ∈ G ∧ mvP a t y = ns := by
 unfold mvG
 rw [List.mem_map]
 constructor
 ·rintro ⟨x, hx, e⟩
  obtain ⟨e1, e2⟩ := Prod.mk.inj e
  exact ⟨x.1, by rw [← e2]; exact hx, e1⟩
 ·rintro ⟨y, hy, e⟩
  exact ⟨(y, v), hy, by rw [← e]⟩
theorem MvOk.gok {G : Gh} {a t : List ByteArray} {u : VS} (h : MvOk G a t u) : GOk (mvG G a t) := by
 refine ⟨fun x hx => ?_, fun x hx => ?_, fun x hx => ?_, ?_, fun ds n v hx => ?_⟩
 ·obtain ⟨y, hy, rfl⟩ := List.mem_map.1 hx
  show Nms (mvP a t y.1)
  by_cases ha : a <+: y.1
  ·obtain ⟨r, hr⟩ := ha
   rw [← hr, mvP_in]
   have := h.ok.nms y hy
   rw [← hr] at this
   exact h.nms.append this.right
  ·rw [mvP_out ha]; exact h.ok.nms y hy
 ·obtain ⟨y, hy, rfl⟩ := List.mem_map.1 hx
  show mvP a t y.1 ≠ []
  by_cases ha : a <+: y.1
  ·obtain ⟨r, hr⟩ := ha
   rw [← hr, mvP_in]; simp [h.ne]
  ·rw [mvP_out ha]; exact h.ok.ne y hy
 ·obtain ⟨y, hy, rfl⟩ := List.mem_map.1 hx
  show (mvP a t y.1).length ≤ 6
  by_cases ha : a <+: y.1
  ·have hd := h.deep y hy ha
   obtain ⟨r, hr⟩ := ha
   rw [← hr, mvP_in]
   rw [← hr] at hd
   simp at hd ⊢; omega
  ·rw [mvP_out ha]; exact h.ok.le y hy
 ·unfold mvG
  rw [List.map_map]
  exact nodup_map_inj _ (nodup_of_fst h.ok.nd) (fun x hx y hy e => by
   have e1 := h.inj hx hy e
   have : x.2 = y.2 := nodup_fst h.ok.nd (a := x.1) hx (by rw [e1]; exact hy)
   exact Prod.ext e1 this)
 ·obtain ⟨y, hy, e⟩ := mem_mvG.1 hx
  by_cases ha : a <+: y
  ·obtain ⟨r, rfl⟩ := ha
   rw [mvP_in] at e
   by_cases hr : r = []
   ·subst hr
    rw [List.append_nil] at e
    rcases h.up ds n e with e1 | ⟨v', hv', hs⟩
    ·exact .inl e1
    ·refine .inr ⟨v', mem_mvG.2 ⟨ds, hv', mvP_out (fun hp => h.nt (by rw [e]; exact hp.trans (List.prefix_append ds [n])))⟩, hs⟩
   ·obtain ⟨r', m, rfl⟩ := split_last hr
    rw [← List.append_assoc] at e
    obtain ⟨e1, _⟩ := snoc_inj e
    rw [← List.append_assoc] at hy
    rcases h.ok.up _ _ _ hy with e2 | ⟨v', hv', hs⟩
    ·have := h.ok.ne _ h.here
     simp at e2
     exact absurd e2.1 this
    ·exact .inr ⟨v', mem_mvG.2 ⟨_, hv', by rw [mvP_in, e1]⟩, hs⟩
  ·rw [mvP_out ha] at e
   subst e
   rcases h.ok.up _ _ _ hy with e2 | ⟨v', hv', hs⟩
   ·exact .inl e2
   ·exact .inr ⟨v', mem_mvG.2 ⟨ds, hv', mvP_out (fun hp => ha (hp.trans (List.prefix_append ds [n])))⟩, hs⟩
theorem MvOk.isDir {G : Gh} {a t : List ByteArray} {u : VS} (h : MvOk G a t u) {rd : Nat} {ns' : List ByteArray} {b : Nat} (hd : IsDir (mvG G a t) rd ns' b) : ∃ ns, IsDir G rd ns b ∧ ns' = mvP a t ns := by
 rcases hd with ⟨rfl, rfl⟩ | hx
 ·refine ⟨[], .inl ⟨rfl, rfl⟩, (mvP_out (fun hp => ?_)).symm⟩
  exact h.ok.ne _ h.here (List.prefix_nil.1 hp)
 ·obtain ⟨y, hy, e⟩ := mem_mvG.1 hx
  exact ⟨y, .inr hy, e.symm⟩
theorem DirW.move {w w2 : World} {G : Gh} {rd : Nat} {V : Nat → Value} {E : Nat → List (ByteArray × VS)} (h : DirW w G rd V E) {da dt : List ByteArray} {na nt : ByteArray} {u : VS} (hm : MvOk G (da ++ [na]) (dt ++ [nt]) u) {ba bt : Nat} (hda : IsDir G rd da ba) (hdt : IsDir G rd dt bt)
  {V2 : Nat → Value} {E2 : Nat → List (ByteArray × VS)} (hH : DirH w2 rd (fun b => ∃ ns, IsDir G rd ns b) V2 E2)
  (hE : ∀ b, (∃ ns, IsDir G rd ns b) → ∀ m x, (m, x) ∈ E2 b ↔ (b = bt ∧ (m, x) = (nt, u)) ∨ ((m, x) ∈ E b ∧ ¬ (b = ba ∧ m = na))) : DirW w2 (mvG G (da ++ [na]) (dt ++ [nt])) rd V2 E2 := by
 refine hH.w (fun ns b hd => ?_) (fun x hx => ?_) (fun ns' b hd => ?_) (fun ns1 ns2 b h1 h2 => ?_)
 ·obtain ⟨ns, hd', _⟩ := hm.isDir hd; exact ⟨ns, hd'⟩
 ·obtain ⟨y, hy, rfl⟩ := List.mem_map.1 hx
  exact h.shp y hy
 ·obtain ⟨ns, hd', rfl⟩ := hm.isDir hd
  intro m x
  rw [hE b ⟨ns, hd'⟩ m x]
  have hndt : ¬ (da ++ [na]) <+: dt := fun hp => hm.nt (hp.trans (List.prefix_append dt [nt]))
  constructor
  ·rintro (⟨rfl, e⟩ | ⟨hx, hn⟩)
   ·obtain ⟨rfl, rfl⟩ := Prod.mk.inj e
    obtain rfl := h.inj ns dt b hd' hdt
    rw [mvP_out hndt]
    exact mem_mvG.2 ⟨_, hm.here, by have := mvP_in (da ++ [na]) (ns ++ [m]) []; simpa using this⟩
   ·have hx' := (h.en ns b hd' m x).1 hx
    refine mem_mvG.2 ⟨_, hx', ?_⟩
    by_cases hp : (da ++ [na]) <+: ns
    ·obtain ⟨r, rfl⟩ := hp
     rw [mvP_in, List.append_assoc (da ++ [na]), mvP_in]; simp
    ·rw [mvP_out hp]
     refine mvP_out (fun hq => ?_)
     rcases List.prefix_concat_iff.1 hq with e | hq'
     ·obtain ⟨e1, e2⟩ := snoc_inj e
      subst e1
      exact hn ⟨hd'.func hm.ok hda, e2.symm⟩
     ·exact hp hq'
  ·intro hx
   obtain ⟨y, hy, e⟩ := mem_mvG.1 hx
   by_cases hay : (da ++ [na]) <+: y
   ·obtain ⟨r, rfl⟩ := hay
    rw [mvP_in] at e
    by_cases hr : r = []
    ·subst hr
     rw [List.append_nil] at e hy
     obtain ⟨e1, e2⟩ := snoc_inj e
     left
     have hns : ns = dt := by
      by_cases hp : (da ++ [na]) <+: ns
      ·obtain ⟨r, rfl⟩ := hp
       rw [mvP_in] at e1
       have := congrArg List.length e1
       simp at this
      ·rw [mvP_out hp] at e1; exact e1.symm
     subst hns
     exact ⟨hd'.func hm.ok hdt, by rw [e2, nodup_fst hm.ok.nd hy hm.here]⟩
    ·obtain ⟨r', m', rfl⟩ := split_last hr
     rw [← List.append_assoc] at e
     obtain ⟨e1, e2⟩ := snoc_inj e
     subst e2
     right
     by_cases hp : (da ++ [na]) <+: ns
     ·obtain ⟨r2, rfl⟩ := hp
      rw [mvP_in] at e1
      have := List.append_cancel_left e1
      subst this
      refine ⟨(h.en _ b hd' m' x).2 (by rw [← List.append_assoc] at hy; exact hy), fun ⟨hb, _⟩ => ?_⟩
      subst hb
      have := h.inj _ _ _ hd' hda
      have := congrArg List.length this
      simp at this
     ·rw [mvP_out hp] at e1
      exfalso
      rcases hd' with ⟨h0, _⟩ | hd'
      ·rw [h0] at e1; simp at e1
      ·exact hm.noT hd' ⟨r', e1⟩
   ·rw [mvP_out hay] at e
    by_cases hp : (da ++ [na]) <+: ns
    ·obtain ⟨r, rfl⟩ := hp
     rw [mvP_in, List.append_assoc] at e
     exact absurd ⟨r ++ [m], e.symm⟩ (hm.noT hy)
    ·rw [mvP_out hp] at e
     subst e
     right
     refine ⟨(h.en ns b hd' m x).2 hy, fun ⟨hb, he⟩ => ?_⟩
     subst hb he
     have := h.inj _ _ _ hd' hda
     subst this
     exact hay (List.prefix_refl _)
 ·obtain ⟨n1, d1, rfl⟩ := hm.isDir h1
  obtain ⟨n2, d2, rfl⟩ := hm.isDir h2
  rw [h.inj n1 n2 b d1 d2]
end Go.Proofs.YtaieidcohdhgpaaGreatDoor
