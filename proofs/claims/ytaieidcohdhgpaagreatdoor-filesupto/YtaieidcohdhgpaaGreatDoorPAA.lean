/- Files. -/
import Derived.Test.YtaieidcohdhgpaaGreatDoorProg
import GoSem.Claim
import GoSem.ClaimJoined
import GoSem.ClaimMapViews
import GoSem.Claims
import Derived.JoinedTies
import Derived.KernelRfl
import Derived.RowKit
import Derived.Items
import Derived.PartsItems
import Derived.CheckFast
import Derived.HeadItems
import Derived.WalkKit
import Derived.WalkLawsBesides
import Derived.WalkSpells
import Derived.Deep.QuietTactic
import Derived.BigQuiet
import Derived.Handy
import Derived.Laws.AppendOwn
import Derived.Laws.OwnMore
import Derived.Lib.AppendZeros
import Derived.Lib.Overlaps
import Derived.Deep.RegionLaw
import Derived.Deep.AppendSrc
import Derived.Lib.AppendZerosOnto
import Derived.BigRegion
namespace Go.Proofs.YtaieidcohdhgpaaGreatDoor
open Go.RowKit
set_option maxHeartbeats 400000
set_option maxRecDepth 20000
theorem hide {p : Prop} (h : p) : Hid p := h
theorem unhide {p : Prop} (h : Hid p) : p := h
def ltS (a b : ByteArray) : Bool := Op.bytesLess a.toList b.toList
def cmpS (a b : ByteArray) : Int := if ltS a b = true then -1 else if a.toList = b.toList then 0 else 1
def cmpI (a b : Int) : Int := if a < b then -1 else if a = b then 0 else 1
theorem isNaNS (s : ByteArray) (w : World) : Calls Tryz.prog 317 #[.string s] w fun e w' => e = .returned (.bool false) ∧ w' = w := by
 go_enter Tryz.func317, Tryz.ntmps317
 go_wp2
 go_ret
 exact ⟨by simp, rfl⟩
theorem isNaNI (s : Int) (w : World) : Calls Tryz.prog 290 #[.int .i64 s] w fun e w' => e = .returned (.bool false) ∧ w' = w := by
 go_enter Tryz.func290, Tryz.ntmps290
 go_wp2
 go_ret
 exact ⟨by simp, rfl⟩
theorem compareS (a b : ByteArray) (w : World) : Calls Tryz.prog 295 #[.string a, .string b] w fun e w' => e = .returned (.int .i64 (cmpS a b)) ∧ w' = w := by
 have hu : cmpS a b = if ltS a b = true then -1 else if a.toList = b.toList then 0 else 1 := rfl
 unfold ltS at hu
 by_cases h1 : Op.bytesLess a.toList b.toList = true
 ·rw [if_pos h1] at hu
  have H := hide hu; clear hu
  go_enter Tryz.func295, Tryz.ntmps295
  go_wp2_with (go_at_call 317; refine (isNaNS _ _).mono ?_; rintro e w' ⟨rfl, rfl⟩)
  go_ret
  exact ⟨by rw [unhide H]; rfl, rfl⟩
 ·rw [if_neg h1] at hu
  have h1' : Op.bytesLess a.toList b.toList = false := by simpa using h1
  by_cases h2 : a.toList = b.toList
  ·rw [if_pos h2] at hu
   have H := hide hu; clear hu
   have h3 : (a.toList == b.toList) = true := by simpa using h2
   have h4 : (!Op.bytesLess a.toList b.toList && !(a.toList == b.toList)) = false := by rw [h1', h3]; rfl
   clear h1 h2
   go_enter Tryz.func295, Tryz.ntmps295
   go_wp2_with (go_at_call 317; refine (isNaNS _ _).mono ?_; rintro e w' ⟨rfl, rfl⟩)
   go_ret
   exact ⟨by rw [unhide H]; rfl, rfl⟩
  ·rw [if_neg h2] at hu
   have H := hide hu; clear hu
   have h3 : (a.toList == b.toList) = false := by simpa using h2
   have h4 : (!Op.bytesLess a.toList b.toList && !(a.toList == b.toList)) = true := by rw [h1', h3]; rfl
   clear h1 h2
   go_enter Tryz.func295, Tryz.ntmps295
   go_wp2_with (go_at_call 317; refine (isNaNS _ _).mono ?_; rintro e w' ⟨rfl, rfl⟩)
   go_ret
   exact ⟨by rw [unhide H]; rfl, rfl⟩
theorem compareI (a b : Int) (w : World) : Calls Tryz.prog 260 #[.int .i64 a, .int .i64 b] w fun e w' => e = .returned (.int .i64 (cmpI a b)) ∧ w' = w := by
 have hu : cmpI a b = if a < b then -1 else if a = b then 0 else 1 := rfl
 have H := hide hu; clear hu
 by_cases h1 : a < b
 ·go_enter Tryz.func260, Tryz.ntmps260
  go_wp2_with (go_at_call 290; refine (isNaNI _ _).mono ?_; rintro e w' ⟨rfl, rfl⟩)
  go_ret
  exact ⟨by rw [unhide H, if_pos h1]; rfl, rfl⟩
 ·by_cases h2 : b < a
  ·go_enter Tryz.func260, Tryz.ntmps260
   go_wp2_with (go_at_call 290; refine (isNaNI _ _).mono ?_; rintro e w' ⟨rfl, rfl⟩)
   go_ret
   exact ⟨by rw [unhide H, if_neg (by omega), if_neg (by omega)]; rfl, rfl⟩
  ·go_enter Tryz.func260, Tryz.ntmps260
   go_wp2_with (go_at_call 290; refine (isNaNI _ _).mono ?_; rintro e w' ⟨rfl, rfl⟩)
   go_ret
   exact ⟨by rw [unhide H, if_neg (by omega), if_pos (by omega)]; rfl, rfl⟩
theorem pE : (∀ (a : Act) (d : Tmp) (v : Value), a.put (some d) v = { a with tmps := a.tmps.setIfInBounds d v }) ∧ (∀ (a : Act) (v : Value), a.put none v = a) ∧ (∀ {α : Type} (xs : List α) (i : Nat) (h : i < xs.toArray.size), xs.toArray[i] = xs[i]'(by simpa using h)) ∧ (∀ {α : Type} (x : α) (xs : List α) (h : 0 < (x :: xs).length), (x :: xs)[0] = x) ∧ (∀ {α : Type} (x : α) (xs : List α) (i : Nat) (h : i + 1 < (x :: xs).length), (x :: xs)[i + 1] = xs[i]'(by simpa using h)) ∧ (∀ {α : Type} (xs : List α) (i : Nat) (x : α), xs.toArray.setIfInBounds i x = (xs.set i x).toArray) ∧ (∀ {α : Type} (x : α) (xs : List α) (y : α), (x :: xs).set 0 y = y :: xs) ∧ (∀ {α : Type} (x : α) (xs : List α) (i : Nat) (y : α), (x :: xs).set (i + 1) y = x :: xs.set i y) :=
 ⟨fun _ _ _ => rfl, fun _ _ => rfl, fun _ _ _ => List.getElem_toArray _, fun _ _ _ => rfl, fun _ _ _ _ => rfl, fun _ _ _ => List.setIfInBounds_toArray .., fun _ _ _ => rfl, fun _ _ _ _ => rfl⟩
def spl (L : List Value) (o : Nat) (cs : List Value) : List Value := L.take o ++ cs ++ L.drop (o + cs.length)
theorem spl_length {L : List Value} {o : Nat} {cs : List Value} (h : o + cs.length ≤ L.length) : (spl L o cs).length = L.length := by simp [spl]; omega
def RowIs (w : World) (g : Nat) (e : TypeId) (L : List Value) : Prop := w.heap[g]? = some (.cells L.toArray e (0, 0))
theorem RowIs.lt {w : World} {g : Nat} {e : TypeId} {L : List Value} (h : RowIs w g e L) : g < w.heap.size := (Array.getElem?_eq_some_iff.1 h).1
theorem RowIs.cell {w : World} {g : Nat} {e : TypeId} {L : List Value} (h : RowIs w g e L) (j : Nat) : w.cell? ⟨g, j, none⟩ = L[j]? := by
 rw [cell_of_row w g j _ e (0, 0) h]; simp
theorem RowIs.frozen {w : World} {g : Nat} {e : TypeId} {L : List Value} (h : RowIs w g e L) (j : Nat) : w.frozen? ⟨g, j, none⟩ = false := frozen_of_row w g j _ e h
theorem RowIs.kept {w w' : World} {g : Nat} {e : TypeId} {L : List Value} {row : Option Nat} (h : RowIs w g e L) (hg : w.grownBy w' row) (hne : some g ≠ row) : RowIs w' g e L := by
 unfold RowIs; rw [hg.block g h.lt hne]; exact h
theorem grownBy_refl (w : World) (row : Option Nat) : w.grownBy w row := ⟨rfl, rfl, rfl, Nat.le_refl _, fun _ _ _ => rfl⟩
theorem grownBy_trans {a b c : World} {row : Option Nat} (h : a.grownBy b row) (k : b.grownBy c row) : a.grownBy c row :=
 ⟨k.os.trans h.os, k.tape.trans h.tape, k.output.trans h.output, Nat.le_trans h.size k.size, fun i hi hn => (k.block i (Nat.lt_of_lt_of_le hi h.size) hn).trans (h.block i hi hn)⟩
theorem grownBy_drew {a b : World} {row : Option Nat} (h : a.grownBy b row) : a.grownBy b.drew row := ⟨h.os, h.tape, h.output, h.size, h.block⟩
section
variable {P : Program}
theorem run_copy_spl (w : World) (dT sT ty elem : TypeId) (sz g o dLen dCap : Nat) (a : Addr) (sLen sCap : Nat) (L : List Value) (t : TypeId) (cs : List Value)
  (hu : P.underlying dT = some (.slice elem)) (hs : (P.info? elem).map (·.size) = some sz)
  (hg : RowIs w g t L) (hn : cs.length = Nat.min sLen dLen * sz)
  (hsrc : ∀ j v, cs[j]? = some v → w.cell? (a.add j) = some v) (hfit : o + cs.length ≤ L.length) (h1 : ∀ v ∈ cs, v.oneCell' = true) :
  ∃ w', (Builtin.copy_ #[dT, sT] ty #[.slice (some ⟨g, o, none⟩) dLen dCap, .slice (some a) sLen sCap]).run P w = .ok (goInt (Nat.min sLen dLen)) w' ∧ RowIs w' g t (spl L o cs) ∧ w.grownBy w' (some g) := by
 have hst := run_storeCells_at P g o t cs 0 L.toArray w hg (by simpa using hfit) h1
 have hf := run_firstCells_some (P := P) w sz (Nat.min sLen dLen) a sLen sCap cs hn hsrc
 refine ⟨w.setRow g (spl L o cs).toArray, ?_, setRow_heap w g L.toArray _ t _ hg, ⟨rfl, rfl, rfl, by simp, fun k _ hk => setRow_other w g k _ (fun e => hk (by rw [e]))⟩⟩
 cases hq : P.info? elem with
 | none => simp [hq] at hs
 | some i =>
  have hi : i.size = sz := by simpa [hq] using hs
  simp only [Nat.add_zero] at hst
  simp [Builtin.copy_, run_underlying hu, Builtin.lenOf, sizeOf, typeInfo, hq, hi, hf, hst, spl]
theorem wp_copy_run (w : World) {o : Oper} {a : Act} {K : Act → World → Prop} {Q : Exit → Act → World → Prop} (d s : Operand) (t t' : TypeId)
  (ho : o.op = .call { callee := .builtin .copy, args := #[d, s], argTypes := #[t, t'] }) (v u : Value) (hd : a.eval d = v) (hs : a.eval s = u) {v' : Value} {w' : World}
  (hr : (Builtin.copy_ #[t, t'] o.type #[v, u]).run P w = .ok v' w') (h : K (a.put o.dst v') w') : o.wp P a w K Q := by
 unfold Oper.wp execOp
 simp only [ho, resolve, invoke, builtin, Sem.run_bind, Sem.run_pure, Result.andThen_ok, List.map_toArray, List.map_cons, List.map_nil, hd, hs, hr]
 exact h
theorem wpList_copy_run (w : World) {ops : Array Oper} {rest : List Oper} {o : Oper} {a : Act} {Q : Exit → Act → World → Prop} (hgd : o.guard = none) (d s : Operand) (t t' : TypeId)
  (ho : o.op = .call { callee := .builtin .copy, args := #[d, s], argTypes := #[t, t'] }) (v u : Value) (hd : a.eval d = v) (hs : a.eval s = u) {v' : Value} {w' : World}
  (hr : (Builtin.copy_ #[t, t'] o.type #[v, u]).run P w = .ok v' w') (h : wpList P ops Q rest (a.put o.dst v') w') : wpList P ops Q (o :: rest) a w :=
 wpList_plain hgd fun _ hK => wp_copy_run w d s t t' ho v u hd hs hr (hK _ _ h)
theorem step_copy_run {ops : Array Oper} {o : Oper} {a : Act} {w : World} {K : Act → World → Prop} {Q : Exit → Act → World → Prop} {E : Prop}
  (hg : o.guard = none) (d x : Operand) (dT sT : TypeId) (hop : o.op = Op.call { callee := Callee.builtin Builtin.copy, args := #[d, x], argTypes := #[dT, sT] })
  (v u : Value) (hd : a.eval d = v) (hx : a.eval x = u) {v' : Value} {w' : World} (hr : (Builtin.copy_ #[dT, sT] o.type #[v, u]).run P w = .ok v' w') (hK : K (a.put o.dst v') w') :
  if Region.wanted o (yielded ops a.tmps) = true then Oper.wp P o a w K Q else E := by
 have hw : Region.wanted o (yielded ops a.tmps) = true := by simp [Region.wanted, hg]
 rw [if_pos hw]
 unfold Oper.wp
 simp [execOp, hop, resolve, invoke, builtin, hd, hx, hr, Result.andThen]
 exact hK
theorem step_append_run {ops : Array Oper} {o : Oper} {a : Act} {w : World} {K : Act → World → Prop} {Q : Exit → Act → World → Prop} {E : Prop}
  (hg : o.guard = none) (d x : Operand) (dT sT : TypeId) (hop : o.op = Op.call { callee := Callee.builtin Builtin.append, args := #[d, x], argTypes := #[dT, sT] })
  (v u : Value) (hd : a.eval d = v) (hx : a.eval x = u) {v' : Value} {w' : World} (hr : (Builtin.append_ #[dT, sT] o.type #[v, u]).run P w = .ok v' w') (hK : K (a.put o.dst v') w') :
  if Region.wanted o (yielded ops a.tmps) = true then Oper.wp P o a w K Q else E := by
 have hw : Region.wanted o (yielded ops a.tmps) = true := by simp [Region.wanted, hg]
 rw [if_pos hw]
 unfold Oper.wp
 simp [execOp, hop, resolve, invoke, builtin, hd, hx, hr, Result.andThen]
 exact hK
end
def Sl (w : World) (e : TypeId) (sz : Nat) (v : Value) (n : Nat) (xs : List Value) : Prop :=
 xs.length = n * sz ∧
 ((v = .slice none 0 0 ∧ n = 0) ∨
  ∃ g cap L, v = .slice (some ⟨g, 0, none⟩) n cap ∧ RowIs w g e L ∧ n ≤ cap ∧ cap ≤ maxLen ∧ L.length = cap * sz ∧ L.take (n * sz) = xs)
theorem Sl.owns {w : World} {e : TypeId} {sz : Nat} {v : Value} {n : Nat} {xs : List Value} (h : Sl w e sz v n xs) : w.ownsRow 0 e sz v n xs := by
 refine ⟨h.1, ?_⟩
 rcases h.2 with h2 | ⟨g, cap, L, rfl, hr, h3, h4, h5, h6⟩
 ·exact .inl h2
 ·exact .inr ⟨g, cap, L.toArray, rfl, Nat.zero_le _, hr, h3, h4, by simpa using h5, by simpa using h6⟩
theorem Sl.of_owns {w : World} {e : TypeId} {sz : Nat} {v : Value} {n : Nat} {xs : List Value} {base : Nat} (h : w.ownsRow base e sz v n xs) : Sl w e sz v n xs := by
 refine ⟨h.1, ?_⟩
 rcases h.2 with h2 | ⟨g, cap, cur, rfl, hr, h2, h3, h4, h5, h6⟩
 ·exact .inl h2
 ·exact .inr ⟨g, cap, cur.toList, rfl, by simpa [RowIs] using h2, h3, h4, by simpa using h5, by simpa using h6⟩
def NewOr (w : World) (v v' : Value) : Prop := ∀ g, v'.ownBlock = some g → v.ownBlock = some g ∨ w.heap.size ≤ g
theorem append_new {P : Program} (w : World) (t ty e : TypeId) (i : TypeInfo) (z : Value) (size bytes : Nat) (ht : P.underlying t = some (.slice e)) (hi : P.info? e = some i) (hz : i.zero = some z)
  (hsize : i.size = size) (hby : i.bytes = bytes) (hzs : z.cells.size = size) (hsz : 0 < size)
  (v : Value) (n : Nat) (xs : List Value) (hown : Sl w e size v n xs)
  (a : Addr) (m c : Nat) (news : List Value) (hl : news.length = m * size) (hnews : ∀ j u, news[j]? = some u → w.cell? (a.add j) = some u) (h1 : ∀ u ∈ news, u.oneCell' = true)
  (h63 : n + m ≤ maxLen) (hbytes : (n + m) * bytes ≤ 140737488355328) :
  ∃ v' w', (Builtin.append_ #[t, t] ty #[v, .slice (some a) m c]).run P w = .ok v' w' ∧ Sl w' e size v' (n + m) (xs ++ news) ∧ w.grownBy w' v.ownBlock ∧ NewOr w v v' := by
 rcases hown.2 with ⟨rfl, rfl⟩ | ⟨g, cap, L, rfl, hr, h3, h4, h5, h6⟩
 ·obtain ⟨v', w', h1, h2, h3, _⟩ := run_append_own (P := P) w w.heap.size t ty e i z size bytes ht hi hz hsize hby hzs hsz _ 0 xs ⟨hown.1, .inl ⟨rfl, rfl⟩⟩ a m c news hl hnews h1 h63 hbytes (Nat.le_refl _)
  exact ⟨v', w', h1, Sl.of_owns h2, h3, fun g hg => .inr (h2.lt g hg).1⟩
 ·by_cases hroom : n + m ≤ cap
  ·have hfit : n * i.size + news.length ≤ L.toArray.size := by rw [hsize, hl]; simp [h5, ← Nat.add_mul]; exact Nat.mul_le_mul_right _ hroom
   have hr' := run_append_room (P := P) w t ty e i ht hi g n cap L.toArray hr a m c news (by rw [hsize]; exact hl) hnews h1 hroom hfit
   refine ⟨_, _, hr', ⟨by rw [List.length_append, hown.1, hl, Nat.add_mul], .inr ⟨g, cap, L.take (n * size) ++ news ++ L.drop (n * size + news.length), rfl, ?_, hroom, h4, ?_, ?_⟩⟩, ?_, fun k hk => .inl hk⟩
   ·rw [hsize]; exact setRow_heap w g L.toArray _ e _ hr
   ·simp only [List.length_append, List.length_take, List.length_drop]
    rw [hsize] at hfit; simp at hfit; omega
   ·rw [h6]
    have : (n + m) * size = (xs ++ news).length := by rw [List.length_append, hown.1, hl, Nat.add_mul]
    rw [this]; exact List.take_left
   ·exact ⟨rfl, rfl, rfl, by simp, fun k _ hk => setRow_other w g k _ (fun e => hk (by simp [Value.ownBlock, e]))⟩
  ·have holds : ∀ j u, xs[j]? = some u → w.cell? ((⟨g, 0, none⟩ : Addr).add j) = some u := hown.owns.cells (g := g) rfl
   subst hsize; subst hby
   have hr' := run_append_grow (P := P) w t ty e i z ht hi hz ⟨g, 0, none⟩ n cap xs hown.1 holds a m c news hl hnews (by omega) (by simp only [maxLen] at h63; omega) (growslice_fits (by omega) hbytes)
   have hge := grownCap_ge w (n + m) cap e
   have hcm : grownCap w (n + m) cap e ≤ maxLen := grownCap_le_maxLen w (n + m) cap e h63
   have hlen : (xs ++ news).length = (n + m) * i.size := by rw [List.length_append, hown.1, hl, Nat.add_mul]
   refine ⟨_, _, hr', ⟨hlen, .inr ⟨w.heap.size, _, (xs.toArray ++ news.toArray ++ Builtin.zeroCells z.cells (grownCap w (n + m) cap e - (n + m))).toList, rfl, by unfold RowIs; rw [Array.toArray_toList]; exact heap_alloc_new w.drew _, hge, hcm, ?_, ?_⟩⟩, ⟨rfl, rfl, rfl, by simp, fun k hk _ => Below.heap_alloc w.drew _ k hk⟩, fun k hk => ?_⟩
   ·simp only [Array.length_toList, Array.size_append, List.size_toArray, size_zeroCells, hzs, hown.1, hl, ← Nat.add_mul]
    congr 1
    omega
   ·simp only [Array.toList_append, List.append_assoc]
    rw [← List.append_assoc, ← hlen]
    exact List.take_left
   ·simp [Value.ownBlock] at hk; omega
set_option maxHeartbeats 1000000
set_option maxRecDepth 100000
theorem run_clear_spl {P : Program} (w : World) (t e ty : TypeId) (z : Value) (ht : P.underlying t = some (.slice e)) (hv : ∀ w, (zeroValue e).run P w = .ok z w) (zs : List Value) (hz : (Builtin.zeroCells z.cells 1).toList = zs) (h1 : ∀ u ∈ zs, u.oneCell' = true) (g o c : Nat) (L : List Value) (tt : TypeId)
  (hL : RowIs w g tt L) (hfit : o + zs.length ≤ L.length) :
  ∃ w', (Builtin.clear_ #[t] ty #[.slice (some ⟨g, o, none⟩) 1 c]).run P w = .ok (.tuple #[]) w' ∧ RowIs w' g tt (spl L o zs) ∧ w.grownBy w' (some g) := by
 have hst := run_storeCells_at P g o tt zs 0 L.toArray w hL (by simpa using hfit) h1
 simp only [Nat.add_zero] at hst
 refine ⟨w.setRow g (spl L o zs).toArray, ?_, setRow_heap w g L.toArray _ tt _ hL, ⟨rfl, rfl, rfl, by simp, fun k _ hk => setRow_other w g k _ (fun e => hk (by rw [e]))⟩⟩
 simp [Builtin.clear_, run_underlying ht, hv, hz, hst, spl]
theorem wp_clear_run {P : Program} (w : World) {o : Oper} {a : Act} {K : Act → World → Prop} {Q : Exit → Act → World → Prop} (d : Operand) (t : TypeId)
  (ho : o.op = .call { callee := .builtin .clear, args := #[d], argTypes := #[t] }) (v : Value) (hd : a.eval d = v) {v' : Value} {w' : World}
  (hr : (Builtin.clear_ #[t] o.type #[v]).run P w = .ok v' w') (h : K (a.put o.dst v') w') : o.wp P a w K Q := by
 unfold Oper.wp execOp
 simp only [ho, resolve, invoke, builtin, Sem.run_bind, Sem.run_pure, Result.andThen_ok, List.map_toArray, List.map_cons, List.map_nil, hd, hr]
 exact h
theorem wpList_clear_run {P : Program} (w : World) {ops : Array Oper} {rest : List Oper} {o : Oper} {a : Act} {Q : Exit → Act → World → Prop} (hgd : o.guard = none) (d : Operand) (t : TypeId)
  (ho : o.op = .call { callee := .builtin .clear, args := #[d], argTypes := #[t] }) (v : Value) (hd : a.eval d = v) {v' : Value} {w' : World}
  (hr : (Builtin.clear_ #[t] o.type #[v]).run P w = .ok v' w') (h : wpList P ops Q rest (a.put o.dst v') w') : wpList P ops Q (o :: rest) a w :=
 wpList_plain hgd fun _ hK => wp_clear_run w d t ho v hd hr (hK _ _ h)
theorem info164 : (Tryz.prog.info? 310).map (fun i => (i.zero, i.size, i.bytes)) = some (some (.agg #[.string ⟨#[]⟩, .pointer none, .int .i64 0]), 3, 32) := by kernel_rfl
theorem size164 : (Tryz.prog.info? 310).map (fun i => i.size) = some 3 := by kernel_rfl
theorem insEnd164 (w : World) (v : Value) (n : Nat) (xs : List Value) (vb : Nat) (news : List Value) (hown : Sl w 310 3 v n xs) (hn : n ≤ 10000)
  (hnews : RowIs w vb 310 news) (hnl : news.length = 3) (h1 : ∀ u ∈ news, u.oneCell' = true) :
  Calls Tryz.prog 265 #[v, .int .i64 n, .slice (some ⟨vb, 0, none⟩) 1 1] w fun e w' => ∃ v', e = .returned v' ∧ Sl w' 310 3 v' (n + 1) (xs ++ news) ∧ w.grownBy w' v.ownBlock ∧ NewOr w v v' := by
 obtain ⟨i0, hi, hz0, hz1, hz2⟩ := info_parts info164
 have hrun := fun ty => append_new (P := Tryz.prog) w 225 ty 310 i0 _ 3 32 Tryz.underlying225 hi hz0 hz1 hz2 rfl (by decide) v n xs hown ⟨vb, 0, none⟩ 1 1 news (by omega)
  (fun j u hu => by rw [Addr.add_lit, Nat.zero_add, hnews.cell]; exact hu) h1 (by unfold maxLen; omega) (by omega)
 obtain ⟨v', w', hr, hS, hg, hnew⟩ := hrun 225
 have hv : (v = .slice none 0 0 ∧ n = 0) ∨ ∃ g cap, v = .slice (some ⟨g, 0, none⟩) n cap ∧ n ≤ cap := by
  rcases hown.2 with h | ⟨g, cap, L, h, _, hc, _⟩
  ·exact .inl h
  ·exact .inr ⟨g, cap, h, hc⟩
 clear hrun
 rcases hv with ⟨rfl, rfl⟩ | ⟨g, cap, rfl, hc⟩
 ·go_enter Tryz.func265, Tryz.ntmps265
  go_wp2_with (at_builtin; refine Lib.wpList_append_run _ rfl _ _ 225 225 rfl _ _ rfl rfl _ _ hr ?_)
  go_ret
  exact ⟨_, rfl, hS, hg, hnew⟩
 ·go_enter Tryz.func265, Tryz.ntmps265
  go_wp2_with (at_builtin; refine Lib.wpList_append_run _ rfl _ _ 225 225 rfl _ _ rfl rfl _ _ hr ?_)
  all_goals (go_ret; exact ⟨_, rfl, hS, hg, hnew⟩)
theorem insMid164 (w : World) (g n cap : Nat) (xs L : List Value) (i vb : Nat) (news : List Value) (hL : RowIs w g 310 L) (hLl : L.length = cap * 3) (hxs : L.take (n * 3) = xs) (hi : i < n) (hcap : n + 1 ≤ cap) (hcm : cap ≤ maxLen) (hn : n ≤ 10000)
  (hnews : RowIs w vb 310 news) (hnl : news.length = 3) (h1x : ∀ u ∈ xs, u.oneCell' = true) (h1 : ∀ u ∈ news, u.oneCell' = true) (hne : vb ≠ g) :
  Calls Tryz.prog 265 #[.slice (some ⟨g, 0, none⟩) n cap, .int .i64 i, .slice (some ⟨vb, 0, none⟩) 1 1] w fun e w' => e = .returned (.slice (some ⟨g, 0, none⟩) (n + 1) cap) ∧ RowIs w' g 310 (spl (spl L ((i + 1) * 3) (xs.drop (i * 3))) (i * 3) news) ∧ w.grownBy w' (some g) := by
 have hxl : xs.length = n * 3 := by rw [← hxs, List.length_take]; omega
 have hdl : (xs.drop (i * 3)).length = (n - i) * 3 := by rw [List.length_drop, hxl]; omega
 obtain ⟨W1, hr1, hR1, hg1⟩ := run_copy_spl (P := Tryz.prog) w.drew 225 225 3 310 3 g ((i + 1) * 3) (n - i) (cap - (i + 1)) ⟨g, i * 3, none⟩ (n + 1 - i) (cap - i) L 310 (xs.drop (i * 3)) Tryz.underlying225 size164 hL
  (by rw [hdl]; simp only [Nat.min_def]; split <;> omega)
  (fun j u hu => by
   rw [Addr.add_lit, show (w.drew.cell? ⟨g, i * 3 + j, none⟩) = L[i * 3 + j]? from hL.cell _]
   rw [List.getElem?_drop, ← hxs, List.getElem?_take] at hu
   split at hu
   ·exact hu
   ·cases hu) (by rw [hdl]; omega) (fun u hu => h1x u (List.mem_of_mem_drop hu))
 have hnews1 : RowIs W1 vb 310 news := (show RowIs w.drew vb 310 news from hnews).kept hg1 (by simpa using hne)
 obtain ⟨W2, hr2, hR2, hg2⟩ := run_copy_spl (P := Tryz.prog) W1 225 225 3 310 3 g (i * 3) (n + 1 - i) (cap - i) ⟨vb, 0, none⟩ 1 1 _ 310 news Tryz.underlying225 size164 hR1
  (by rw [hnl]; simp only [Nat.min_def]; split <;> omega)
  (fun j u hu => by rw [Addr.add_lit, Nat.zero_add, hnews1.cell]; exact hu) (by rw [spl_length (by rw [hdl]; omega), hnl]; omega) h1
 have hov : ∀ lb cb, (callFunc 296 #[.slice (some ⟨vb, 0, none⟩) 1 1, .slice (some ⟨g, (i + 1) * 3, none⟩) lb cb]).run Tryz.prog w = .ok (.value (.bool false)) w := fun lb cb => by
  rw [run_callFunc_extern Tryz.func296 (by kernel_rfl) (by kernel_rfl) (by kernel_rfl) (e := Extern.SlicesOverlaps.overlaps #[225, 225] #[4]) (by kernel_rfl),
   Lib.run_overlaps_apart w 225 4 310 Tryz.underlying225 3 (fun _ => by kernel_rfl) ⟨vb, 0, none⟩ ⟨g, (i + 1) * 3, none⟩ 1 1 lb cb hne 310 310 3 (cap * 3) (by unfold World.shape?; rw [hnews]; simp [hnl]) (by unfold World.shape?; rw [hL]; simp [hLl]) (by omega) (hnews.frozen 0) (hnews.frozen 3)]
  rfl
 have hcm' : cap ≤ 9223372036854775807 := by unfold maxLen at hcm; omega
 have fin : RowIs W2 g 310 (spl (spl L ((i + 1) * 3) (xs.drop (i * 3))) (i * 3) news) ∧ w.grownBy W2 (some g) := ⟨hR2, grownBy_trans (show w.grownBy w.drew (some g) from grownBy_drew (grownBy_refl _ _)) (grownBy_trans hg1 hg2)⟩
 have FIN := hide fin
 clear fin hR1 hR2 hg1 hg2 hnews1 h1x h1 hcm hxs hdl hxl hLl hnl hnews hL
 have hw1 : IntKind.i64.wrap ((i : Int) + 1) = (i : Int) + 1 := by rw [IntKind.wrap_i64]; omega
 have hb1 : (0 : Int) ≤ (i : Int) + 1 := by omega
 have hin : i ≤ n := by omega
 have htn : ((i : Int) + 1).toNat = i + 1 := by omega
 have hb2 : ¬ (cap = i + 1) := by omega
 have hb3 : (i : Int) ≤ (n : Int) + 1 := by omega
 have hb4 : ¬ (cap = i) := by omega
 go_enter Tryz.func265, Tryz.ntmps265
 go_wp2_with (simp only [hov])
 go_region_law (refine step_copy_run rfl _ _ 225 225 rfl _ _ (by simp [Act.eval, Act.put]) (by simp [Act.eval, Act.put]) hr1 ?_)
 go_wp2_with (at_builtin; refine wpList_copy_run _ rfl _ _ 225 225 rfl _ _ rfl rfl hr2 ?_)
 go_ret
 exact ⟨rfl, unhide FIN⟩
theorem insGrow164 (w : World) (g n cap : Nat) (xs L : List Value) (i vb : Nat) (news : List Value) (hL : RowIs w g 310 L) (hLl : L.length = cap * 3) (hxs : L.take (n * 3) = xs) (hi : i < n) (hnc : n ≤ cap) (hcap : cap < n + 1) (hn : n ≤ 10000)
  (hnews : RowIs w vb 310 news) (hnl : news.length = 3) (h1x : ∀ u ∈ xs, u.oneCell' = true) (h1 : ∀ u ∈ news, u.oneCell' = true) :
  Calls Tryz.prog 265 #[.slice (some ⟨g, 0, none⟩) n cap, .int .i64 i, .slice (some ⟨vb, 0, none⟩) 1 1] w fun e w' => ∃ G Z, e = .returned (.slice (some ⟨w.heap.size, 0, none⟩) (n + 1) G) ∧ n + 1 ≤ G ∧ G ≤ maxLen ∧ (xs.take (i * 3) ++ Z).length = G * 3 ∧
   RowIs w' w.heap.size 310 (spl (spl (xs.take (i * 3) ++ Z) (i * 3) news) ((i + 1) * 3) (xs.drop (i * 3))) ∧ w.grownBy w' (some w.heap.size) := by
 have hxl : xs.length = n * 3 := by rw [← hxs, List.length_take]; omega
 have hdl : (xs.drop (i * 3)).length = (n - i) * 3 := by rw [List.length_drop, hxl]; omega
 obtain ⟨i0, hi0, hz0, hzs, hzb⟩ := info_parts info164
 have hxc : ∀ j u, xs[j]? = some u → w.cell? ⟨g, j, none⟩ = some u := fun j u hu => by
  rw [hL.cell]
  rw [← hxs, List.getElem?_take] at hu
  split at hu
  ·exact hu
  ·cases hu
 have hold : (Builtin.firstCells i0.size i (.slice (some ⟨g, 0, none⟩) i cap)).run Tryz.prog w.drew = .ok (xs.take (i * 3)).toArray w.drew := by
  rw [hzs]
  exact run_firstCells_some w.drew 3 i ⟨g, 0, none⟩ i cap (xs.take (i * 3)) (by rw [List.length_take]; omega) (fun j v hj => by
   rw [Addr.add_lit, Nat.zero_add]
   rw [List.getElem?_take] at hj
   split at hj
   ·exact hxc j v hj
   ·cases hj)
 have hik : i + (n + 1 - i) = n + 1 := by omega
 have hkk : (n : Int) + 1 - (i : Int) = ((n + 1 - i : Nat) : Int) := by omega
 obtain ⟨G, hG⟩ : ∃ G, G = grownCap w (n + 1) cap 310 := ⟨_, rfl⟩
 obtain ⟨Z, hZ⟩ : ∃ Z : Array Value, Z = Builtin.zeroCells (Value.agg #[.string ⟨#[]⟩, .pointer none, .int .i64 0]).cells (n + 1 - i) ++ Builtin.zeroCells (Value.agg #[.string ⟨#[]⟩, .pointer none, .int .i64 0]).cells (G - (n + 1)) := ⟨_, rfl⟩
 have hrz : ∀ ty, (Builtin.append_ #[225, 3] ty #[.slice (some ⟨g, 0, none⟩) i cap, .int .i64 ((n : Int) + 1 - (i : Int))]).run Tryz.prog w =
   .ok (.slice (some ⟨w.heap.size, 0, none⟩) (n + 1) G) (w.drew.alloc (.cells (xs.take (i * 3) ++ Z.toList).toArray 310)) := fun ty => by
  have h := Lib.run_append_grow_zeros w 225 3 ty 310 i0 _ .i64 .i64 Tryz.underlying225 Tryz.underlying3 hi0 hz0 (some ⟨g, 0, none⟩) i cap (xs.take (i * 3)) hold (n + 1 - i) (by omega) (by omega) (by omega) (by omega) (by rw [hzb]; omega) (by rw [hzb, hik]; exact growslice_fits (by omega) (by omega))
  rw [hik, ← hG] at h
  rw [hkk, h, hZ]
  congr 2
  simp [Array.append_assoc]
 have hGn : n + 1 ≤ G := by rw [hG]; exact grownCap_ge w _ _ _
 have hGm : G ≤ maxLen := by rw [hG]; exact grownCap_le_maxLen w _ _ _ (by unfold maxLen; omega)
 have hZl : (xs.take (i * 3) ++ Z.toList).length = G * 3 := by
  have e1 : Z.size = (n + 1 - i) * 3 + (G - (n + 1)) * 3 := by rw [hZ, Array.size_append, size_zeroCells, size_zeroCells]; rfl
  have e2 : Z.toList.length = Z.size := Array.length_toList
  rw [List.length_append, List.length_take, e2, e1]
  omega
 have hR0 : RowIs (w.drew.alloc (.cells (xs.take (i * 3) ++ Z.toList).toArray 310)) w.heap.size 310 (xs.take (i * 3) ++ Z.toList) := heap_alloc_new w.drew _
 have hg0 : w.grownBy (w.drew.alloc (.cells (xs.take (i * 3) ++ Z.toList).toArray 310)) (some w.heap.size) := ⟨rfl, rfl, rfl, by simp, fun k hk _ => Below.heap_alloc w.drew _ k hk⟩
 obtain ⟨W0, hW0⟩ : ∃ W0, W0 = w.drew.alloc (.cells (xs.take (i * 3) ++ Z.toList).toArray 310) := ⟨_, rfl⟩
 rw [← hW0] at hrz hR0 hg0
 have hnews0 : RowIs W0 vb 310 news := hnews.kept hg0 (by have := hnews.lt; simp; omega)
 obtain ⟨W1, hr1, hR1, hg1⟩ := run_copy_spl (P := Tryz.prog) W0 225 225 3 310 3 w.heap.size (i * 3) (n + 1 - i) (G - i) ⟨vb, 0, none⟩ 1 1 _ 310 news Tryz.underlying225 size164 hR0
  (by rw [hnl]; simp only [Nat.min_def]; split <;> omega)
  (fun j u hu => by rw [Addr.add_lit, Nat.zero_add, hnews0.cell]; exact hu) (by rw [hZl, hnl]; omega) h1
 have hL1 : RowIs W1 g 310 L := (hL.kept hg0 (by have := hL.lt; simp; omega)).kept hg1 (by have := hL.lt; simp; omega)
 obtain ⟨W2, hr2, hR2, hg2⟩ := run_copy_spl (P := Tryz.prog) W1.drew 225 225 3 310 3 w.heap.size ((i + 1) * 3) (n - i) (G - (i + 1)) ⟨g, i * 3, none⟩ (n - i) (cap - i) _ 310 (xs.drop (i * 3)) Tryz.underlying225 size164 hR1
  (by rw [hdl]; simp only [Nat.min_def]; split <;> omega)
  (fun j u hu => by
   rw [Addr.add_lit, show (W1.drew.cell? ⟨g, i * 3 + j, none⟩) = L[i * 3 + j]? from hL1.cell _]
   rw [List.getElem?_drop, ← hxs, List.getElem?_take] at hu
   split at hu
   ·exact hu
   ·cases hu) (by rw [spl_length (by rw [hZl, hnl]; omega), hZl, hdl]; omega) (fun u hu => h1x u (List.mem_of_mem_drop hu))
 have fin : (xs.take (i * 3) ++ Z.toList).length = G * 3 ∧ RowIs W2 w.heap.size 310 (spl (spl (xs.take (i * 3) ++ Z.toList) (i * 3) news) ((i + 1) * 3) (xs.drop (i * 3))) ∧ w.grownBy W2 (some w.heap.size) :=
  ⟨hZl, hR2, grownBy_trans hg0 (grownBy_trans hg1 (grownBy_trans (grownBy_drew (grownBy_refl W1 _)) hg2))⟩
 have FIN := hide fin
 have hGm' : G ≤ 9223372036854775807 := by unfold maxLen at hGm; omega
 have hGi : ¬ (G = i) := by omega
 have hGi1 : ¬ (G = i + 1) := by omega
 have hci : ¬ (cap = i) := by omega
 have hw1 : IntKind.i64.wrap ((i : Int) + 1) = (i : Int) + 1 := by rw [IntKind.wrap_i64]; omega
 have hb1 : (0 : Int) ≤ (i : Int) + 1 := by omega
 have hin : i ≤ n := by omega
 have htn : ((i : Int) + 1).toNat = i + 1 := by omega
 have hb3 : (i : Int) ≤ (n : Int) := by omega
 clear fin hZl hR0 hR1 hR2 hg0 hg1 hg2 hnews0 hL1 h1x h1 hxs hdl hxl hLl hnl hnews hL hxc hold hW0 hG hZ hik hkk hi0 hz0 hzs hzb
 have hGM := hide hGm
 clear hGm
 go_enter Tryz.func265, Tryz.ntmps265
 go_wp2_with (first
  | (at_builtin; refine Lib.wpList_append_run _ rfl _ _ _ _ rfl _ _ rfl rfl _ _ (hrz _) ?_)
  | (at_builtin; refine wpList_copy_run _ rfl _ _ 225 225 rfl _ _ rfl rfl hr1 ?_))
 go_region_law (refine step_copy_run rfl _ _ 225 225 rfl _ _ (by simp [Act.eval, Act.put]) (by simp [Act.eval, Act.put]) hr2 ?_)
 go_wp2
 go_ret
 exact ⟨G, Z.toList, rfl, hGn, unhide hGM, unhide FIN⟩
theorem del164 (w : World) (g n cap : Nat) (xs L : List Value) (i : Nat) (hL : RowIs w g 310 L) (hLl : L.length = cap * 3) (hxs : L.take (n * 3) = xs) (hi : i < n) (hnc : n ≤ cap) (hcm : cap ≤ maxLen) (hn : n ≤ 10000)
  (h1x : ∀ u ∈ xs, u.oneCell' = true) :
  Calls Tryz.prog 268 #[.slice (some ⟨g, 0, none⟩) n cap, .int .i64 i, .int .i64 ((i : Int) + 1)] w fun e w' => e = .returned (.slice (some ⟨g, 0, none⟩) (n - 1) cap) ∧
   RowIs w' g 310 (spl (spl L (i * 3) (xs.drop ((i + 1) * 3))) ((n - 1) * 3) [.string ⟨#[]⟩, .pointer none, .int .i64 0]) ∧ w.grownBy w' (some g) := by
 have hxl : xs.length = n * 3 := by rw [← hxs, List.length_take]; omega
 have hdl : (xs.drop ((i + 1) * 3)).length = (n - (i + 1)) * 3 := by rw [List.length_drop, hxl]; omega
 obtain ⟨i0, hi0, hz0, hzs, hzb⟩ := info_parts info164
 have hsl : spl L (i * 3) (xs.drop ((i + 1) * 3)) = L.toArray.toList.take (i * 3) ++ xs.drop ((i + 1) * 3) ++ L.toArray.toList.drop (i * 3 + (xs.drop ((i + 1) * 3)).length) := rfl
 obtain ⟨W1, hW1⟩ : ∃ W1, W1 = w.drew.setRow g (spl L (i * 3) (xs.drop ((i + 1) * 3))).toArray := ⟨_, rfl⟩
 have hr1 : ∀ (a : Addr) (c : Nat), (n - (i + 1) ≠ 0 → a = ⟨g, (i + 1) * 3, none⟩) → (Builtin.append_ #[225, 225] 225 #[.slice (some ⟨g, 0, none⟩) i cap, .slice (some a) (n - (i + 1)) c]).run Tryz.prog w.drew = .ok (.slice (some ⟨g, 0, none⟩) (n - 1) cap) W1 := fun a c ha => by
  have h := run_append_room (P := Tryz.prog) w.drew 225 225 310 i0 Tryz.underlying225 hi0 g i cap L.toArray hL a (n - (i + 1)) c (xs.drop ((i + 1) * 3)) (by rw [hzs]; exact hdl)
   (fun j u hu => by
    by_cases h0 : n - (i + 1) = 0
    ·have : xs.drop ((i + 1) * 3) = [] := List.eq_nil_of_length_eq_zero (by rw [hdl, h0])
     rw [this] at hu; cases hu
    ·rw [ha h0, Addr.add_lit, show (w.drew.cell? ⟨g, (i + 1) * 3 + j, none⟩) = L[(i + 1) * 3 + j]? from hL.cell _]
     rw [List.getElem?_drop, ← hxs, List.getElem?_take] at hu
     split at hu
     ·exact hu
     ·cases hu) (fun u hu => h1x u (List.mem_of_mem_drop hu)) (by omega) (by rw [hzs, hdl]; simp [hLl]; omega)
  rw [h, hW1, hsl, hzs, show i + (n - (i + 1)) = n - 1 by omega]
 have hR1 : RowIs W1 g 310 (spl L (i * 3) (xs.drop ((i + 1) * 3))) := by rw [hW1]; exact setRow_heap w.drew g L.toArray _ 310 _ hL
 have hg1 : w.grownBy W1 (some g) := by rw [hW1]; exact ⟨rfl, rfl, rfl, by simp, fun k _ hk => setRow_other w.drew g k _ (fun e => hk (by rw [e]))⟩
 obtain ⟨W2, hr2, hR2, hg2⟩ := run_clear_spl (P := Tryz.prog) W1 225 310 0 (.agg #[.string ⟨#[]⟩, .pointer none, .int .i64 0]) Tryz.underlying225 (fun _ => by kernel_rfl) [.string ⟨#[]⟩, .pointer none, .int .i64 0] (by kernel_rfl) (by simp [Value.oneCell']) g ((n - 1) * 3) (cap - (n - 1)) _ 310 hR1 (by rw [spl_length (by rw [hdl]; omega), hLl]; simp; omega)
 have fin : RowIs W2 g 310 (spl (spl L (i * 3) (xs.drop ((i + 1) * 3))) ((n - 1) * 3) [.string ⟨#[]⟩, .pointer none, .int .i64 0]) ∧ w.grownBy W2 (some g) := ⟨hR2, grownBy_trans hg1 hg2⟩
 have FIN := hide fin
 have hcm' : cap ≤ 9223372036854775807 := by unfold maxLen at hcm; omega
 have hb1 : (0 : Int) ≤ (i : Int) + 1 := by omega
 have htn : ((i : Int) + 1).toNat = i + 1 := by omega
 have hb3 : (i : Int) ≤ (n : Int) := by omega
 have hb4 : (i : Int) + 1 ≤ (n : Int) := by omega
 have hb5 : (i : Int) ≤ (i : Int) + 1 := by omega
 have hb6 : (i : Int) ≤ (cap : Int) := by omega
 have hc0 : ¬ (cap = n - 1) := by omega
 have hn1 : n - (n - 1) = 1 := by omega
 have hne : ((i : Int) == (i : Int) + 1) = false := by rw [beq_eq_false_iff_ne]; omega
 clear fin hR1 hR2 hg1 hg2 hW1 hsl hL hxs hdl hxl hLl h1x hi0 hz0 hzs hzb hcm
 go_enter Tryz.func268, Tryz.ntmps268
 by_cases hc1 : cap = i + 1
 ·subst hc1
  obtain rfl : n = i + 1 := by omega
  rw [Nat.sub_self] at hr1
  rw [Nat.add_sub_cancel] at hr1 FIN hr2
  rw [Nat.add_sub_cancel_left] at hr2
  go_wp2
  go_region_law (refine step_append_run rfl _ _ 225 225 rfl _ _ (by simp [Act.eval, Act.put]) (by simp [Act.eval, Act.put]) (hr1 ⟨g, 0, none⟩ 0 (fun h => absurd h (by omega))) ?_)
  go_wp2_with (at_builtin; refine wpList_clear_run _ rfl _ 225 rfl _ rfl hr2 ?_)
  go_ret
  exact ⟨rfl, unhide FIN⟩
 ·go_wp2
  go_region_law (refine step_append_run rfl _ _ 225 225 rfl _ _ (by simp [Act.eval, Act.put]) (by simp [Act.eval, Act.put]) (hr1 ⟨g, (i + 1) * 3, none⟩ (cap - (i + 1)) (fun _ => rfl)) ?_)
  go_wp2_with (at_builtin; refine wpList_clear_run _ rfl _ 225 rfl _ rfl hr2 ?_)
  go_ret
  exact ⟨rfl, unhide FIN⟩
theorem info160 : (Tryz.prog.info? 293).map (fun i => (i.zero, i.size, i.bytes)) = some (some (.agg #[.int .i64 0, .slice none 0 0, .int .i64 0]), 3, 40) := by kernel_rfl
theorem size160 : (Tryz.prog.info? 293).map (fun i => i.size) = some 3 := by kernel_rfl
theorem insEnd160 (w : World) (v : Value) (n : Nat) (xs : List Value) (vb : Nat) (news : List Value) (hown : Sl w 293 3 v n xs) (hn : n ≤ 10000)
  (hnews : RowIs w vb 293 news) (hnl : news.length = 3) (h1 : ∀ u ∈ news, u.oneCell' = true) :
  Calls Tryz.prog 267 #[v, .int .i64 n, .slice (some ⟨vb, 0, none⟩) 1 1] w fun e w' => ∃ v', e = .returned v' ∧ Sl w' 293 3 v' (n + 1) (xs ++ news) ∧ w.grownBy w' v.ownBlock ∧ NewOr w v v' := by
 obtain ⟨i0, hi, hz0, hz1, hz2⟩ := info_parts info160
 have hrun := fun ty => append_new (P := Tryz.prog) w 210 ty 293 i0 _ 3 40 Tryz.underlying210 hi hz0 hz1 hz2 rfl (by decide) v n xs hown ⟨vb, 0, none⟩ 1 1 news (by omega)
  (fun j u hu => by rw [Addr.add_lit, Nat.zero_add, hnews.cell]; exact hu) h1 (by unfold maxLen; omega) (by omega)
 obtain ⟨v', w', hr, hS, hg, hnew⟩ := hrun 210
 have hv : (v = .slice none 0 0 ∧ n = 0) ∨ ∃ g cap, v = .slice (some ⟨g, 0, none⟩) n cap ∧ n ≤ cap := by
  rcases hown.2 with h | ⟨g, cap, L, h, _, hc, _⟩
  ·exact .inl h
  ·exact .inr ⟨g, cap, h, hc⟩
 clear hrun
 rcases hv with ⟨rfl, rfl⟩ | ⟨g, cap, rfl, hc⟩
 ·go_enter Tryz.func267, Tryz.ntmps267
  go_wp2_with (at_builtin; refine Lib.wpList_append_run _ rfl _ _ 210 210 rfl _ _ rfl rfl _ _ hr ?_)
  go_ret
  exact ⟨_, rfl, hS, hg, hnew⟩
 ·go_enter Tryz.func267, Tryz.ntmps267
  go_wp2_with (at_builtin; refine Lib.wpList_append_run _ rfl _ _ 210 210 rfl _ _ rfl rfl _ _ hr ?_)
  all_goals (go_ret; exact ⟨_, rfl, hS, hg, hnew⟩)
theorem insMid160 (w : World) (g n cap : Nat) (xs L : List Value) (i vb : Nat) (news : List Value) (hL : RowIs w g 293 L) (hLl : L.length = cap * 3) (hxs : L.take (n * 3) = xs) (hi : i < n) (hcap : n + 1 ≤ cap) (hcm : cap ≤ maxLen) (hn : n ≤ 10000)
  (hnews : RowIs w vb 293 news) (hnl : news.length = 3) (h1x : ∀ u ∈ xs, u.oneCell' = true) (h1 : ∀ u ∈ news, u.oneCell' = true) (hne : vb ≠ g) :
  Calls Tryz.prog 267 #[.slice (some ⟨g, 0, none⟩) n cap, .int .i64 i, .slice (some ⟨vb, 0, none⟩) 1 1] w fun e w' => e = .returned (.slice (some ⟨g, 0, none⟩) (n + 1) cap) ∧ RowIs w' g 293 (spl (spl L ((i + 1) * 3) (xs.drop (i * 3))) (i * 3) news) ∧ w.grownBy w' (some g) := by
 have hxl : xs.length = n * 3 := by rw [← hxs, List.length_take]; omega
 have hdl : (xs.drop (i * 3)).length = (n - i) * 3 := by rw [List.length_drop, hxl]; omega
 obtain ⟨W1, hr1, hR1, hg1⟩ := run_copy_spl (P := Tryz.prog) w.drew 210 210 3 293 3 g ((i + 1) * 3) (n - i) (cap - (i + 1)) ⟨g, i * 3, none⟩ (n + 1 - i) (cap - i) L 293 (xs.drop (i * 3)) Tryz.underlying210 size160 hL
  (by rw [hdl]; simp only [Nat.min_def]; split <;> omega)
  (fun j u hu => by
   rw [Addr.add_lit, show (w.drew.cell? ⟨g, i * 3 + j, none⟩) = L[i * 3 + j]? from hL.cell _]
   rw [List.getElem?_drop, ← hxs, List.getElem?_take] at hu
   split at hu
   ·exact hu
   ·cases hu) (by rw [hdl]; omega) (fun u hu => h1x u (List.mem_of_mem_drop hu))
 have hnews1 : RowIs W1 vb 293 news := (show RowIs w.drew vb 293 news from hnews).kept hg1 (by simpa using hne)
 obtain ⟨W2, hr2, hR2, hg2⟩ := run_copy_spl (P := Tryz.prog) W1 210 210 3 293 3 g (i * 3) (n + 1 - i) (cap - i) ⟨vb, 0, none⟩ 1 1 _ 293 news Tryz.underlying210 size160 hR1
  (by rw [hnl]; simp only [Nat.min_def]; split <;> omega)
  (fun j u hu => by rw [Addr.add_lit, Nat.zero_add, hnews1.cell]; exact hu) (by rw [spl_length (by rw [hdl]; omega), hnl]; omega) h1
 have hov : ∀ lb cb, (callFunc 298 #[.slice (some ⟨vb, 0, none⟩) 1 1, .slice (some ⟨g, (i + 1) * 3, none⟩) lb cb]).run Tryz.prog w = .ok (.value (.bool false)) w := fun lb cb => by
  rw [run_callFunc_extern Tryz.func298 (by kernel_rfl) (by kernel_rfl) (by kernel_rfl) (e := Extern.SlicesOverlaps.overlaps #[210, 210] #[4]) (by kernel_rfl),
   Lib.run_overlaps_apart w 210 4 293 Tryz.underlying210 3 (fun _ => by kernel_rfl) ⟨vb, 0, none⟩ ⟨g, (i + 1) * 3, none⟩ 1 1 lb cb hne 293 293 3 (cap * 3) (by unfold World.shape?; rw [hnews]; simp [hnl]) (by unfold World.shape?; rw [hL]; simp [hLl]) (by omega) (hnews.frozen 0) (hnews.frozen 3)]
  rfl
 have hcm' : cap ≤ 9223372036854775807 := by unfold maxLen at hcm; omega
 have fin : RowIs W2 g 293 (spl (spl L ((i + 1) * 3) (xs.drop (i * 3))) (i * 3) news) ∧ w.grownBy W2 (some g) := ⟨hR2, grownBy_trans (show w.grownBy w.drew (some g) from grownBy_drew (grownBy_refl _ _)) (grownBy_trans hg1 hg2)⟩
 have FIN := hide fin
 clear fin hR1 hR2 hg1 hg2 hnews1 h1x h1 hcm hxs hdl hxl hLl hnl hnews hL
 have hw1 : IntKind.i64.wrap ((i : Int) + 1) = (i : Int) + 1 := by rw [IntKind.wrap_i64]; omega
 have hb1 : (0 : Int) ≤ (i : Int) + 1 := by omega
 have hin : i ≤ n := by omega
 have htn : ((i : Int) + 1).toNat = i + 1 := by omega
 have hb2 : ¬ (cap = i + 1) := by omega
 have hb3 : (i : Int) ≤ (n : Int) + 1 := by omega
 have hb4 : ¬ (cap = i) := by omega
 go_enter Tryz.func267, Tryz.ntmps267
 go_wp2_with (simp only [hov])
 go_region_law (refine step_copy_run rfl _ _ 210 210 rfl _ _ (by simp [Act.eval, Act.put]) (by simp [Act.eval, Act.put]) hr1 ?_)
 go_wp2_with (at_builtin; refine wpList_copy_run _ rfl _ _ 210 210 rfl _ _ rfl rfl hr2 ?_)
 go_ret
 exact ⟨rfl, unhide FIN⟩
theorem insGrow160 (w : World) (g n cap : Nat) (xs L : List Value) (i vb : Nat) (news : List Value) (hL : RowIs w g 293 L) (hLl : L.length = cap * 3) (hxs : L.take (n * 3) = xs) (hi : i < n) (hnc : n ≤ cap) (hcap : cap < n + 1) (hn : n ≤ 10000)
  (hnews : RowIs w vb 293 news) (hnl : news.length = 3) (h1x : ∀ u ∈ xs, u.oneCell' = true) (h1 : ∀ u ∈ news, u.oneCell' = true) :
  Calls Tryz.prog 267 #[.slice (some ⟨g, 0, none⟩) n cap, .int .i64 i, .slice (some ⟨vb, 0, none⟩) 1 1] w fun e w' => ∃ G Z, e = .returned (.slice (some ⟨w.heap.size, 0, none⟩) (n + 1) G) ∧ n + 1 ≤ G ∧ G ≤ maxLen ∧ (xs.take (i * 3) ++ Z).length = G * 3 ∧
   RowIs w' w.heap.size 293 (spl (spl (xs.take (i * 3) ++ Z) (i * 3) news) ((i + 1) * 3) (xs.drop (i * 3))) ∧ w.grownBy w' (some w.heap.size) := by
 have hxl : xs.length = n * 3 := by rw [← hxs, List.length_take]; omega
 have hdl : (xs.drop (i * 3)).length = (n - i) * 3 := by rw [List.length_drop, hxl]; omega
 obtain ⟨i0, hi0, hz0, hzs, hzb⟩ := info_parts info160
 have hxc : ∀ j u, xs[j]? = some u → w.cell? ⟨g, j, none⟩ = some u := fun j u hu => by
  rw [hL.cell]
  rw [← hxs, List.getElem?_take] at hu
  split at hu
  ·exact hu
  ·cases hu
 have hold : (Builtin.firstCells i0.size i (.slice (some ⟨g, 0, none⟩) i cap)).run Tryz.prog w.drew = .ok (xs.take (i * 3)).toArray w.drew := by
  rw [hzs]
  exact run_firstCells_some w.drew 3 i ⟨g, 0, none⟩ i cap (xs.take (i * 3)) (by rw [List.length_take]; omega) (fun j v hj => by
   rw [Addr.add_lit, Nat.zero_add]
   rw [List.getElem?_take] at hj
   split at hj
   ·exact hxc j v hj
   ·cases hj)
 have hik : i + (n + 1 - i) = n + 1 := by omega
 have hkk : (n : Int) + 1 - (i : Int) = ((n + 1 - i : Nat) : Int) := by omega
 obtain ⟨G, hG⟩ : ∃ G, G = grownCap w (n + 1) cap 293 := ⟨_, rfl⟩
 obtain ⟨Z, hZ⟩ : ∃ Z : Array Value, Z = Builtin.zeroCells (Value.agg #[.int .i64 0, .slice none 0 0, .int .i64 0]).cells (n + 1 - i) ++ Builtin.zeroCells (Value.agg #[.int .i64 0, .slice none 0 0, .int .i64 0]).cells (G - (n + 1)) := ⟨_, rfl⟩
 have hrz : ∀ ty, (Builtin.append_ #[210, 3] ty #[.slice (some ⟨g, 0, none⟩) i cap, .int .i64 ((n : Int) + 1 - (i : Int))]).run Tryz.prog w =
   .ok (.slice (some ⟨w.heap.size, 0, none⟩) (n + 1) G) (w.drew.alloc (.cells (xs.take (i * 3) ++ Z.toList).toArray 293)) := fun ty => by
  have h := Lib.run_append_grow_zeros w 210 3 ty 293 i0 _ .i64 .i64 Tryz.underlying210 Tryz.underlying3 hi0 hz0 (some ⟨g, 0, none⟩) i cap (xs.take (i * 3)) hold (n + 1 - i) (by omega) (by omega) (by omega) (by omega) (by rw [hzb]; omega) (by rw [hzb, hik]; exact growslice_fits (by omega) (by omega))
  rw [hik, ← hG] at h
  rw [hkk, h, hZ]
  congr 2
  simp [Array.append_assoc]
 have hGn : n + 1 ≤ G := by rw [hG]; exact grownCap_ge w _ _ _
 have hGm : G ≤ maxLen := by rw [hG]; exact grownCap_le_maxLen w _ _ _ (by unfold maxLen; omega)
 have hZl : (xs.take (i * 3) ++ Z.toList).length = G * 3 := by
  have e1 : Z.size = (n + 1 - i) * 3 + (G - (n + 1)) * 3 := by rw [hZ, Array.size_append, size_zeroCells, size_zeroCells]; rfl
  have e2 : Z.toList.length = Z.size := Array.length_toList
  rw [List.length_append, List.length_take, e2, e1]
  omega
 have hR0 : RowIs (w.drew.alloc (.cells (xs.take (i * 3) ++ Z.toList).toArray 293)) w.heap.size 293 (xs.take (i * 3) ++ Z.toList) := heap_alloc_new w.drew _
 have hg0 : w.grownBy (w.drew.alloc (.cells (xs.take (i * 3) ++ Z.toList).toArray 293)) (some w.heap.size) := ⟨rfl, rfl, rfl, by simp, fun k hk _ => Below.heap_alloc w.drew _ k hk⟩
 obtain ⟨W0, hW0⟩ : ∃ W0, W0 = w.drew.alloc (.cells (xs.take (i * 3) ++ Z.toList).toArray 293) := ⟨_, rfl⟩
 rw [← hW0] at hrz hR0 hg0
 have hnews0 : RowIs W0 vb 293 news := hnews.kept hg0 (by have := hnews.lt; simp; omega)
 obtain ⟨W1, hr1, hR1, hg1⟩ := run_copy_spl (P := Tryz.prog) W0 210 210 3 293 3 w.heap.size (i * 3) (n + 1 - i) (G - i) ⟨vb, 0, none⟩ 1 1 _ 293 news Tryz.underlying210 size160 hR0
  (by rw [hnl]; simp only [Nat.min_def]; split <;> omega)
  (fun j u hu => by rw [Addr.add_lit, Nat.zero_add, hnews0.cell]; exact hu) (by rw [hZl, hnl]; omega) h1
 have hL1 : RowIs W1 g 293 L := (hL.kept hg0 (by have := hL.lt; simp; omega)).kept hg1 (by have := hL.lt; simp; omega)
 obtain ⟨W2, hr2, hR2, hg2⟩ := run_copy_spl (P := Tryz.prog) W1.drew 210 210 3 293 3 w.heap.size ((i + 1) * 3) (n - i) (G - (i + 1)) ⟨g, i * 3, none⟩ (n - i) (cap - i) _ 293 (xs.drop (i * 3)) Tryz.underlying210 size160 hR1
  (by rw [hdl]; simp only [Nat.min_def]; split <;> omega)
  (fun j u hu => by
   rw [Addr.add_lit, show (W1.drew.cell? ⟨g, i * 3 + j, none⟩) = L[i * 3 + j]? from hL1.cell _]
   rw [List.getElem?_drop, ← hxs, List.getElem?_take] at hu
   split at hu
   ·exact hu
   ·cases hu) (by rw [spl_length (by rw [hZl, hnl]; omega), hZl, hdl]; omega) (fun u hu => h1x u (List.mem_of_mem_drop hu))
 have fin : (xs.take (i * 3) ++ Z.toList).length = G * 3 ∧ RowIs W2 w.heap.size 293 (spl (spl (xs.take (i * 3) ++ Z.toList) (i * 3) news) ((i + 1) * 3) (xs.drop (i * 3))) ∧ w.grownBy W2 (some w.heap.size) :=
  ⟨hZl, hR2, grownBy_trans hg0 (grownBy_trans hg1 (grownBy_trans (grownBy_drew (grownBy_refl W1 _)) hg2))⟩
 have FIN := hide fin
 have hGm' : G ≤ 9223372036854775807 := by unfold maxLen at hGm; omega
 have hGi : ¬ (G = i) := by omega
 have hGi1 : ¬ (G = i + 1) := by omega
 have hci : ¬ (cap = i) := by omega
 have hw1 : IntKind.i64.wrap ((i : Int) + 1) = (i : Int) + 1 := by rw [IntKind.wrap_i64]; omega
 have hb1 : (0 : Int) ≤ (i : Int) + 1 := by omega
 have hin : i ≤ n := by omega
 have htn : ((i : Int) + 1).toNat = i + 1 := by omega
 have hb3 : (i : Int) ≤ (n : Int) := by omega
 clear fin hZl hR0 hR1 hR2 hg0 hg1 hg2 hnews0 hL1 h1x h1 hxs hdl hxl hLl hnl hnews hL hxc hold hW0 hG hZ hik hkk hi0 hz0 hzs hzb
 have hGM := hide hGm
 clear hGm
 go_enter Tryz.func267, Tryz.ntmps267
 go_wp2_with (first
  | (at_builtin; refine Lib.wpList_append_run _ rfl _ _ _ _ rfl _ _ rfl rfl _ _ (hrz _) ?_)
  | (at_builtin; refine wpList_copy_run _ rfl _ _ 210 210 rfl _ _ rfl rfl hr1 ?_))
 go_region_law (refine step_copy_run rfl _ _ 210 210 rfl _ _ (by simp [Act.eval, Act.put]) (by simp [Act.eval, Act.put]) hr2 ?_)
 go_wp2
 go_ret
 exact ⟨G, Z.toList, rfl, hGn, unhide hGM, unhide FIN⟩
theorem del160 (w : World) (g n cap : Nat) (xs L : List Value) (i : Nat) (hL : RowIs w g 293 L) (hLl : L.length = cap * 3) (hxs : L.take (n * 3) = xs) (hi : i < n) (hnc : n ≤ cap) (hcm : cap ≤ maxLen) (hn : n ≤ 10000)
  (h1x : ∀ u ∈ xs, u.oneCell' = true) :
  Calls Tryz.prog 269 #[.slice (some ⟨g, 0, none⟩) n cap, .int .i64 i, .int .i64 ((i : Int) + 1)] w fun e w' => e = .returned (.slice (some ⟨g, 0, none⟩) (n - 1) cap) ∧
   RowIs w' g 293 (spl (spl L (i * 3) (xs.drop ((i + 1) * 3))) ((n - 1) * 3) [.int .i64 0, .slice none 0 0, .int .i64 0]) ∧ w.grownBy w' (some g) := by
 have hxl : xs.length = n * 3 := by rw [← hxs, List.length_take]; omega
 have hdl : (xs.drop ((i + 1) * 3)).length = (n - (i + 1)) * 3 := by rw [List.length_drop, hxl]; omega
 obtain ⟨i0, hi0, hz0, hzs, hzb⟩ := info_parts info160
 have hsl : spl L (i * 3) (xs.drop ((i + 1) * 3)) = L.toArray.toList.take (i * 3) ++ xs.drop ((i + 1) * 3) ++ L.toArray.toList.drop (i * 3 + (xs.drop ((i + 1) * 3)).length) := rfl
 obtain ⟨W1, hW1⟩ : ∃ W1, W1 = w.drew.setRow g (spl L (i * 3) (xs.drop ((i + 1) * 3))).toArray := ⟨_, rfl⟩
 have hr1 : ∀ (a : Addr) (c : Nat), (n - (i + 1) ≠ 0 → a = ⟨g, (i + 1) * 3, none⟩) → (Builtin.append_ #[210, 210] 210 #[.slice (some ⟨g, 0, none⟩) i cap, .slice (some a) (n - (i + 1)) c]).run Tryz.prog w.drew = .ok (.slice (some ⟨g, 0, none⟩) (n - 1) cap) W1 := fun a c ha => by
  have h := run_append_room (P := Tryz.prog) w.drew 210 210 293 i0 Tryz.underlying210 hi0 g i cap L.toArray hL a (n - (i + 1)) c (xs.drop ((i + 1) * 3)) (by rw [hzs]; exact hdl)
   (fun j u hu => by
    by_cases h0 : n - (i + 1) = 0
    ·have : xs.drop ((i + 1) * 3) = [] := List.eq_nil_of_length_eq_zero (by rw [hdl, h0])
     rw [this] at hu; cases hu
    ·rw [ha h0, Addr.add_lit, show (w.drew.cell? ⟨g, (i + 1) * 3 + j, none⟩) = L[(i + 1) * 3 + j]? from hL.cell _]
     rw [List.getElem?_drop, ← hxs, List.getElem?_take] at hu
     split at hu
     ·exact hu
     ·cases hu) (fun u hu => h1x u (List.mem_of_mem_drop hu)) (by omega) (by rw [hzs, hdl]; simp [hLl]; omega)
  rw [h, hW1, hsl, hzs, show i + (n - (i + 1)) = n - 1 by omega]
 have hR1 : RowIs W1 g 293 (spl L (i * 3) (xs.drop ((i + 1) * 3))) := by rw [hW1]; exact setRow_heap w.drew g L.toArray _ 293 _ hL
 have hg1 : w.grownBy W1 (some g) := by rw [hW1]; exact ⟨rfl, rfl, rfl, by simp, fun k _ hk => setRow_other w.drew g k _ (fun e => hk (by rw [e]))⟩
 obtain ⟨W2, hr2, hR2, hg2⟩ := run_clear_spl (P := Tryz.prog) W1 210 293 0 (.agg #[.int .i64 0, .slice none 0 0, .int .i64 0]) Tryz.underlying210 (fun _ => by kernel_rfl) [.int .i64 0, .slice none 0 0, .int .i64 0] (by kernel_rfl) (by simp [Value.oneCell']) g ((n - 1) * 3) (cap - (n - 1)) _ 293 hR1 (by rw [spl_length (by rw [hdl]; omega), hLl]; simp; omega)
 have fin : RowIs W2 g 293 (spl (spl L (i * 3) (xs.drop ((i + 1) * 3))) ((n - 1) * 3) [.int .i64 0, .slice none 0 0, .int .i64 0]) ∧ w.grownBy W2 (some g) := ⟨hR2, grownBy_trans hg1 hg2⟩
 have FIN := hide fin
 have hcm' : cap ≤ 9223372036854775807 := by unfold maxLen at hcm; omega
 have hb1 : (0 : Int) ≤ (i : Int) + 1 := by omega
 have htn : ((i : Int) + 1).toNat = i + 1 := by omega
 have hb3 : (i : Int) ≤ (n : Int) := by omega
 have hb4 : (i : Int) + 1 ≤ (n : Int) := by omega
 have hb5 : (i : Int) ≤ (i : Int) + 1 := by omega
 have hb6 : (i : Int) ≤ (cap : Int) := by omega
 have hc0 : ¬ (cap = n - 1) := by omega
 have hn1 : n - (n - 1) = 1 := by omega
 have hne : ((i : Int) == (i : Int) + 1) = false := by rw [beq_eq_false_iff_ne]; omega
 clear fin hR1 hR2 hg1 hg2 hW1 hsl hL hxs hdl hxl hLl h1x hi0 hz0 hzs hzb hcm
 go_enter Tryz.func269, Tryz.ntmps269
 by_cases hc1 : cap = i + 1
 ·subst hc1
  obtain rfl : n = i + 1 := by omega
  rw [Nat.sub_self] at hr1
  rw [Nat.add_sub_cancel] at hr1 FIN hr2
  rw [Nat.add_sub_cancel_left] at hr2
  go_wp2
  go_region_law (refine step_append_run rfl _ _ 210 210 rfl _ _ (by simp [Act.eval, Act.put]) (by simp [Act.eval, Act.put]) (hr1 ⟨g, 0, none⟩ 0 (fun h => absurd h (by omega))) ?_)
  go_wp2_with (at_builtin; refine wpList_clear_run _ rfl _ 210 rfl _ rfl hr2 ?_)
  go_ret
  exact ⟨rfl, unhide FIN⟩
 ·go_wp2
  go_region_law (refine step_append_run rfl _ _ 210 210 rfl _ _ (by simp [Act.eval, Act.put]) (by simp [Act.eval, Act.put]) (hr1 ⟨g, (i + 1) * 3, none⟩ (cap - (i + 1)) (fun _ => rfl)) ?_)
  go_wp2_with (at_builtin; refine wpList_clear_run _ rfl _ 210 rfl _ rfl hr2 ?_)
  go_ret
  exact ⟨rfl, unhide FIN⟩
end Go.Proofs.YtaieidcohdhgpaaGreatDoor
