/- The law Files returns true at every script of bulk at most 1048576 (values and letters, each counted each time it is reached), whatever the world; the script reads behind the call as before. Conditions: the row's own alone: what two tables of package unicode/utf8 hold is taken from the row's list; that bound. -/
import Derived.Test.YtaieidcohdhgpaaGreatDoorPBQ
import Derived.Test.YtaieidcohdhgpaaGreatDoorPBR
import Derived.Test.YtaieidcohdhgpaaGreatDoorCards
import Derived.Test.YtaieidcohdhgpaaGreatDoorTie
import Derived.ProofKit
import Derived.OpenShut
import Derived.Lay
import Derived.Carry
import Derived.SevenTiedAt
import Derived.Deep.DeepHandedRow
import Derived.Deep.Slices
import Derived.Shelf.Vars
namespace Go.Proofs.YtaieidcohdhgpaaGreatDoor
open Go.ChangeShapes Go.WideShapes Go.ChangeAt Go.RowKit
set_option maxHeartbeats 1000000
set_option maxRecDepth 100000
section
variable {H : Type}
theorem bulk_one (d : DataW H) : 1 ≤ Rows.uptoBulk d := by
 cases d with
 | lit l => cases l <;> simp [Rows.uptoBulk]
 | nil => simp [Rows.uptoBulk]
 | ptr d => simp [Rows.uptoBulk]
 | slice elems spare => simp [Rows.uptoBulk]
 | agg parts => simp [Rows.uptoBulk]
 | iface t d => simp [Rows.uptoBulk]
 | map entries => simp [Rows.uptoBulk]
 | held h => simp [Rows.uptoBulk]
theorem bulk_len : ∀ l : List (DataW H), l.length ≤ Rows.uptoBulkAll l
 | [] => by simp
 | d :: l => by
  have := bulk_len l
  have := bulk_one d
  simp only [Rows.uptoBulkAll, List.length_cons]
  omega
theorem bulk_mem : ∀ {l : List (DataW H)} {d : DataW H}, d ∈ l → Rows.uptoBulk d ≤ Rows.uptoBulkAll l
 | x :: l, d, h => by
  simp only [Rows.uptoBulkAll]
  rcases List.mem_cons.1 h with rfl | h
  ·omega
  ·have := bulk_mem h; omega
end
theorem list7 {α : Type} {l : List α} (h : l.length = 7) : ∃ a b c d e f g, l = [a, b, c, d, e, f, g] := by
 match l, h with
 | [a, b, c, d, e, f, g], _ => exact ⟨a, b, c, d, e, f, g, rfl⟩
theorem cells36 : Tryz.prog.cellsOf 51 = 7 := by kernel_rfl
theorem cells3 : Tryz.prog.cellsOf 3 = 1 := by kernel_rfl
theorem cells9' : Tryz.prog.cellsOf 9 = 1 := by kernel_rfl
theorem laidOutT : laidOutB Tryz.prog = true := by kernel_rfl
def opD {H : Type} (o : Op7) : DataW H := .agg [.lit (.int .i64 o.k), .lit (.int .i64 o.kk), .lit (.int .i64 o.a), .lit (.int .i64 o.b), .lit (.string o.s.data.toList), .lit (.string o.t.data.toList), .lit (.string o.u.data.toList)]
def opC (o : Op7) : List Value := [.int .i64 o.k, .int .i64 o.kk, .int .i64 o.a, .int .i64 o.b, .string o.s, .string o.t, .string o.u]
theorem wf_le {n : Int} (h : (Lit.int .i64 n).wf = true) : n ≤ 9223372036854775807 := by
 unfold Lit.wf at h
 rw [Bool.and_eq_true] at h
 exact of_decide_eq_true h.2
theorem open_op {H : Type} {enc : TypeId × Value → H} {W : World} {sp : Nat → Bool} {fuel : Nat} {cs : List Value} {x : DataW H × List MemPlace} (h : DataW.trod enc Tryz.prog W 0 sp true fuel 51 cs = some x) :
  ∃ o : Op7, cs = opC o ∧ x.1 = opD o ∧ o.a ≤ 9223372036854775807 ∧ o.b ≤ 9223372036854775807 := by
 obtain ⟨xs, n, rfl, rfl, hl, hxl, hf⟩ := DataW.trod_struct Tryz.underlying51 h
 rw [cells36] at hl
 obtain ⟨c0, c1, c2, c3, c4, c5, c6, rfl⟩ := list7 hl
 obtain ⟨y0, y1, y2, y3, y4, y5, y6, rfl⟩ := list7 (l := xs) hxl
 have g0 := hf 0 _ rfl
 have g1 := hf 1 _ rfl
 have g2 := hf 2 _ rfl
 have g3 := hf 3 _ rfl
 have g4 := hf 4 _ rfl
 have g5 := hf 5 _ rfl
 have g6 := hf 6 _ rfl
 simp [cells3] at g0 g1 g2 g3
 simp [cells9'] at g4 g5 g6
 obtain ⟨k, e0, rfl, _⟩ := DataW.trod_int Tryz.underlying3 g0
 obtain ⟨kk, e1, rfl, _⟩ := DataW.trod_int Tryz.underlying3 g1
 obtain ⟨a, e2, rfl, w2⟩ := DataW.trod_int Tryz.underlying3 g2
 obtain ⟨b, e3, rfl, w3⟩ := DataW.trod_int Tryz.underlying3 g3
 obtain ⟨s, e4, rfl, _⟩ := DataW.trod_string Tryz.underlying9 g4
 obtain ⟨t, e5, rfl, _⟩ := DataW.trod_string Tryz.underlying9 g5
 obtain ⟨u, e6, rfl, _⟩ := DataW.trod_string Tryz.underlying9 g6
 simp only [List.cons.injEq, and_true] at e0 e1 e2 e3 e4 e5 e6
 subst e0 e1 e2 e3 e4 e5 e6
 exact ⟨⟨k, kk, a, b, s, t, u⟩, rfl, rfl, wf_le w2, wf_le w3⟩
theorem open_script {H : Type} {enc : TypeId × Value → H} {W : World} {a0 : Option Addr} {len cap fuel : Nat} {x : DataW H × List MemPlace}
  (hf : DataW.trod enc Tryz.prog W 0 (fun _ => true) true fuel 22 [.slice a0 len cap] = some x) :
  ∃ os : List Op7, os.length = len ∧ RdO W a0 os ∧ (∀ o ∈ os, o.a ≤ 9223372036854775807 ∧ o.b ≤ 9223372036854775807) ∧ (os = [] ∨ ∃ spare, x.1 = .slice (os.map opD) spare) := by
 rcases Deep.open_slice Tryz.underlying22 hf with ⟨hcs, hx⟩ | ⟨a, len', cap', m, n, D, Pl, hcs, _, hl, _, hm, hx, hel⟩
 ·simp at hcs
  obtain ⟨rfl, rfl, rfl⟩ := hcs
  exact ⟨[], rfl, fun m o h => (by simp at h), fun o h => (by cases h), .inl rfl⟩
 ·simp at hcs
  obtain ⟨rfl, rfl, rfl⟩ := hcs
  simp only [if_true] at hm
  subst hx hm
  rw [cells36] at hel
  have hspot : 0 < len → a.spot = none := fun h => by
   obtain ⟨cs', h1, h2⟩ := hel 0 (by omega)
   obtain ⟨_, hlen, hcell⟩ := World.cells?_some h1
   have h0 := hcell 0 (by omega)
   rw [List.getElem?_eq_getElem (by omega)] at h0
   have := World.cell?_spot h0
   simpa [Addr.add] using this
  have key : ∀ i, i < len → ∃ o : Op7, (∃ g f, a = ⟨g, f, none⟩ ∧ ∀ j, j < 7 → ∃ v, (opC o)[j]? = some v ∧ W.cell? ⟨g, f + i * 7 + j, none⟩ = some v) ∧ D i = opD o ∧ o.a ≤ 9223372036854775807 ∧ o.b ≤ 9223372036854775807 := fun i hi => by
   obtain ⟨cs', h1, h2⟩ := hel i (by omega)
   obtain ⟨_, hlen, hcell⟩ := World.cells?_some h1
   obtain ⟨o, rfl, hD, w2, w3⟩ := open_op h2
   have hsp := hspot (by omega)
   obtain ⟨g, f, sp⟩ := a
   simp only at hsp
   subst hsp
   refine ⟨o, ⟨g, f, rfl, fun j hj => ?_⟩, hD, w2, w3⟩
   have hj' := hcell j hj
   refine ⟨_, List.getElem?_eq_getElem (by simpa [opC] using hj), ?_⟩
   rw [add_plain, add_plain] at hj'
   rw [hj', List.getElem?_eq_getElem (by simpa [opC] using hj)]
  haveI : Inhabited Op7 := ⟨⟨0, 0, 0, 0, ⟨#[]⟩, ⟨#[]⟩, ⟨#[]⟩⟩⟩
  obtain ⟨f, hq⟩ := Deep.choose_lt key
  refine ⟨(List.range len).map f, by simp, fun j o ho => ?_, fun o ho => ?_, .inr ⟨(List.range (m - len)).map fun j => D (len + j), ?_⟩⟩
  ·have hj : j < len := by have := (List.getElem?_eq_some_iff.1 ho).1; simpa using this
   have e : f j = o := by simpa [List.getElem?_map, List.getElem?_range hj] using ho
   subst e
   obtain ⟨⟨g, ff, rfl, hc⟩, _⟩ := hq j hj
   refine ⟨g, ff, rfl, ?_, ?_, ?_, ?_, ?_, ?_, ?_⟩
   ·obtain ⟨v, h1, h2⟩ := hc 0 (by omega); cases h1; exact h2
   ·obtain ⟨v, h1, h2⟩ := hc 1 (by omega); cases h1; exact h2
   ·obtain ⟨v, h1, h2⟩ := hc 2 (by omega); cases h1; exact h2
   ·obtain ⟨v, h1, h2⟩ := hc 3 (by omega); cases h1; exact h2
   ·obtain ⟨v, h1, h2⟩ := hc 4 (by omega); cases h1; exact h2
   ·obtain ⟨v, h1, h2⟩ := hc 5 (by omega); cases h1; exact h2
   ·obtain ⟨v, h1, h2⟩ := hc 6 (by omega); cases h1; exact h2
  ·obtain ⟨j, hj, rfl⟩ := List.mem_map.1 ho
   exact (hq j (List.mem_range.1 hj)).2.2
  ·show DataW.slice _ _ = _
   rw [List.map_map]
   congr 1
   exact List.map_congr_left (fun i hi => (hq i (List.mem_range.1 hi)).2.1)
theorem ops_ok {H : Type} {os : List Op7} {spare : List (DataW H)} (hb : Rows.uptoBulkAll [DataW.slice (os.map opD) spare] ≤ 1048576) (hab : ∀ o ∈ os, o.a ≤ 9223372036854775807 ∧ o.b ≤ 9223372036854775807) : os.length ≤ 1048576 ∧ ∀ o ∈ os, o.ok := by
 simp only [Rows.uptoBulkAll, Rows.uptoBulk] at hb
 have h1 := bulk_len (os.map (opD (H := H)))
 rw [List.length_map] at h1
 refine ⟨by omega, fun o ho => ?_⟩
 have h2 := bulk_mem (List.mem_map_of_mem (f := opD (H := H)) ho)
 have h3 : o.s.size + o.t.size + o.u.size ≤ Rows.uptoBulk (opD (H := H) o) := by
  unfold opD
  simp only [Rows.uptoBulkAll, Rows.uptoBulk, Array.length_toList]
  have hs : ∀ s : ByteArray, s.data.size = s.size := fun _ => rfl
  rw [hs, hs, hs]
  omega
 unfold Op7.ok
 obtain ⟨ha, hb'⟩ := hab o ho
 refine ⟨ha, hb', by omega, by omega, by omega⟩
theorem pkg_ok {W : World} (h : W.ShapedOpen Tryz.prog) : PkgOk W := by
 obtain ⟨cs, hh, hs, hr⟩ := h.1 0 #[.int .i64 0] 3 (of_decide_eq_true (by kernel_rfl)) (by kernel_rfl)
 refine ⟨cell_of_shapedOpen_int (zero := #[.int .i64 0]) (t := 3) h (of_decide_eq_true (by kernel_rfl)) (by kernel_rfl) rfl (by kernel_rfl) (by kernel_rfl) Tryz.underlying3, fun t R hR => ?_⟩
 unfold RowIs at hR
 rw [hh] at hR
 cases hR
 rfl
theorem filesOwn : ownKnob Tryz.prog.godebug = none := by kernel_rfl
theorem files_witness (os : Os) {H : Type} (enc : TypeId × Value → H) :
  ∃ (w : World) (tape : Tape) (i : Input), w.os = os ∧ (w.forCall tape i).Shaped Tryz.checked.prog ∧ i.vars = [] ∧ Input.okWide Tryz.checked.prog (w.forCall tape i) .any w.heap.size 3 i ∧
   (Rows.OpenSpec.upto Rows.filesSpec).preRow enc Tryz.checked.prog Tryz.f3 Rows.filesUptoRow.domain false Rows.filesUptoRow.laid (w.forCall tape i).memory i.args ∧ ({ modest := false } : Assume).holds Tryz.checked.prog (lone (Frame.enter Tryz.checked.prog 3 i.args .normal) [] (w.forCall tape i)) := by
 have hok : Input.okWideB Tryz.prog ((World.laidAll Tryz.prog os Rows.filesUptoRow.laid).forCall (fun _ _ => 0) ⟨#[], #[.slice none 0 0], []⟩) 3 ⟨#[], #[.slice none 0 0], []⟩ = true := by kernel_rfl
 have hw : (DataW.whole enc Tryz.prog ((World.laidAll Tryz.prog os Rows.filesUptoRow.laid).forCall (fun _ _ => 0) ⟨#[], #[.slice none 0 0], []⟩).memory Tryz.f3.params.toList (Rows.OpenSpec.upto Rows.filesSpec).vars false #[Value.slice none 0 0].toList 8).map (fun x => (x.1, x.2.1)) = some ([.nil], []) := by kernel_rfl
 obtain ⟨⟨x1, x2, x3⟩, hx, hx1⟩ := Option.map_eq_some_iff.1 hw
 simp only [Prod.mk.injEq] at hx1
 obtain ⟨rfl, rfl⟩ := hx1
 refine ⟨World.laidAll Tryz.prog os Rows.filesUptoRow.laid, fun _ _ => 0, ⟨#[], #[.slice none 0 0], []⟩, World.laidAll_os _ _ _, World.shaped_of_ZipB (by kernel_rfl) (by kernel_rfl), (Input.okWide_of_okWideB (base := 0) hok).1, (Input.okWide_of_okWideB hok).2,
  OpenSpec.preRow_of_cond 8 hx (by kernel_rfl) (fun k hk => by cases hk; rfl) (by kernel_rfl) ?_, ?_⟩
 ·rw [MakeChecks.laidMetH_plain _ _ _ (by kernel_rfl)]
  exact laidMet_laidAll _ (by kernel_rfl) (by kernel_rfl)
 ·simp only [Assume.holds]
  exact ⟨by simp, by simp, fun h => (by cases h), by simp, by simp⟩
theorem filesLifted (os : Os) (started : os.Started) (H : Type) (enc : TypeId × Value → H) (F : Stop.Interp) :
  ReturnsInHanded {} Tryz.checked os 3 .any ((Rows.OpenSpec.upto Rows.filesSpec).preRow enc Tryz.prog Tryz.f3 Rows.filesUptoRow.domain false Rows.filesUptoRow.laid) (((Rows.OpenSpec.upto Rows.filesSpec).at F).post enc Tryz.prog Tryz.f3 false true false false) := by
 refine returnsInHanded_of_row (C := Tryz.checked) (s := Rows.OpenSpec.upto Rows.filesSpec) filesOwn started (by kernel_rfl) Tryz.func3 (files_witness os enc) ?_
 intro W base args ds gs before hval0 hW _ hcond0 _ _ hsh _
 have hcond : Rows.uptoSmall H (ds ++ gs) = true := hcond0 _ rfl
 have hval : ∀ (j : Nat) t v, Tryz.f3.params[j]? = some t → args[j]? = some v → Value.okWide Tryz.prog W .any base t v := hval0
 have hW' := hW
 obtain ⟨p, q, hA0, hV0, rfl, _, _⟩ := hW
 have hA : DataW.TrodAll enc Tryz.prog W 0 (fun _ => true) true Tryz.f3.params.toList args.toList ds p := hA0
 rw [Tryz.params3] at hA hval
 obtain ⟨v0, vs0, d0, ds0, p0, q0, hargs, rfl, rfl, h0, r0⟩ := trodAll_cons hA
 obtain ⟨rfl, rfl, rfl⟩ := trodAll_nil r0
 obtain rfl : args = #[v0] := by cases args; simp_all
 obtain ⟨rfl, rfl⟩ := trodVars_none hV0
 obtain ⟨a0, len, cap, rfl⟩ := okWide_slice Tryz.underlying22 (hval 0 22 v0 rfl rfl)
 have h0k := h0
 obtain ⟨fuel, hf⟩ := h0
 clear hA0 hV0 hval0 hcond0 hA
 simp only [List.append_nil] at hW' hcond
 have hlt : ∀ x ∈ p0, x.block < W.heap.size := fun x hx => by simpa using hW'.lt x (by simp [hx])
 obtain ⟨ops, hlen, hrd, hab, hsh'⟩ := open_script hf
 have hbulk : Rows.uptoBulkAll [d0] ≤ 1048576 := of_decide_eq_true hcond
 have hok : ops.length ≤ 1048576 ∧ ∀ o ∈ ops, o.ok := by
  rcases hsh' with rfl | ⟨spare, hd⟩
  ·exact ⟨by simp, fun o ho => by cases ho⟩
  ·simp only at hd
   rw [hd] at hbulk
   exact ops_ok hbulk hab
 subst hlen
 refine (files_run W (pkg_ok hsh) a0 cap ops hok.1 hok.2 hrd).mono fun e W' ⟨he, bel⟩ => ?_
 subst he
 refine ⟨_, rfl, _, _, _, [], p0, [], hW', trodAll_mk1 (shut_bool Tryz.underlying4 _), ?_, rfl, bel.frame _, fun h => by cases h⟩
 exact trodAll_mk1 (Below.trod laidOutT (by kernel_rfl) (of_decide_eq_true (by kernel_rfl)) h0k bel hlt)
theorem files_said : Rows.FilesUptoSaid :=
 OpenClaim.holds_of_cond 3 Tryz.f3 rfl rfl rfl rfl rfl rfl rfl ⟨rfl, rfl, rfl, rfl, rfl⟩ rfl rfl rfl rfl rfl fi_named Tryz.func3 fi_closed fi_inst fi_wrap
  (fun os started H enc _ F => by rw [OpenClaim.pre_eq_preRow]; exact filesLifted os started H enc F)
theorem fi_looks : true = Tryz.pinned.checked.prog.looks [] := by kernel_rfl
theorem files_plain (f : FuncId) (fn : Func) (hf : Tryz.pinned.checked.prog.funcNamed "silt/siltlaw.Files" = some f) (hfn : Tryz.pinned.checked.prog.funcs[f]? = some fn) :
  true = Tryz.pinned.checked.prog.looks [] ∧ ∀ (j : Nat) t, fn.params[j]? = some t → Tryz.pinned.checked.prog.wantsStandIn t = false := by
 obtain rfl : f = 3 := Option.some.inj ((show Tryz.prog.funcNamed "silt/siltlaw.Files" = some 3 by kernel_rfl).symm.trans hf) |>.symm
 obtain rfl : fn = Tryz.f3 := (Option.some.inj (Tryz.func3.symm.trans hfn)).symm
 refine ⟨fi_looks, fun j t ht => ?_⟩
 rw [Tryz.params3] at ht
 obtain rfl : t = 22 := by simpa using Array.mem_of_getElem? ht
 exact (show Tryz.prog.wantsStandIn 22 = false by kernel_rfl)
theorem files_card : Rows.FilesUptoCardSaid :=
 Claim7.holds_tied_plain_at .later [] _ _ _ _ files_said (fun _ h => by cases h) (by kernel_rfl) (fun _ h => by cases h) filesUpto_row_tie rfl ⟨rfl, rfl⟩ (by kernel_rfl) rfl files_plain (by kernel_rfl)
#print axioms files_card
end Go.Proofs.YtaieidcohdhgpaaGreatDoor
