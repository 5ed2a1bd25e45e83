/- Files: the reference's list of entries in memory: find, Dir, ahead, within, Links. Files: the reference: Nodes, Usage, room, ask. -/
import Derived.Test.YtfabjhgkigagpaaGreatDoorPAF
namespace Go.Proofs.YtfabjhgkigagpaaGreatDoor
open Go.RowKit

set_option maxHeartbeats 1000000
set_option maxRecDepth 100000
def clL (x : ByteArray × Int) : List Value := [.string x.1, .int .i64 x.2]
def cellsL (es : List (ByteArray × Int)) : List Value := es.flatMap clL
theorem cellsL_length (es : List (ByteArray × Int)) : (cellsL es).length = es.length * 2 := by
  induction es with
  | nil => rfl
  | cons a l ih => simp [cellsL, clL] at ih ⊢; omega
theorem cellsL_append (a b : List (ByteArray × Int)) : cellsL (a ++ b) = cellsL a ++ cellsL b := by simp [cellsL]
theorem cellsL_one (es : List (ByteArray × Int)) : ∀ u ∈ cellsL es, u.oneCell' = true := by
  intro u hu
  simp only [cellsL, List.mem_flatMap, clL, List.mem_cons, List.mem_nil_iff, or_false] at hu
  obtain ⟨x, _, rfl | rfl⟩ := hu <;> simp [Value.oneCell']
theorem cellsL_at (es : List (ByteArray × Int)) (k : Nat) (x : ByteArray × Int) (h : es[k]? = some x) : (cellsL es)[k * 2]? = some (.string x.1) ∧ (cellsL es)[k * 2 + 1]? = some (.int .i64 x.2) := by
  induction es generalizing k with
  | nil => simp at h
  | cons a l ih =>
    cases k with
    | zero => simp at h; subst h; simp [cellsL, clL]
    | succ k =>
      simp at h
      have := ih k h
      simp only [cellsL, List.flatMap_cons] at this ⊢
      have e : ∀ r, (clL a ++ List.flatMap clL l)[(k + 1) * 2 + r]? = (List.flatMap clL l)[k * 2 + r]? := fun r => by
        rw [List.getElem?_append_right (by simp [clL]; omega)]; congr 1; simp [clL]; omega
      have e0 := e 0
      simp only [Nat.add_zero] at e0
      rw [e0, e 1]; exact this
/-- The slice of entries, as the walks read it. -/
def RdL (w : World) (a : Option Addr) (L : List (ByteArray × Int)) : Prop := ∀ (k : Nat) (x : ByteArray × Int), L[k]? = some x → ∃ g, a = some ⟨g, 0, none⟩ ∧ w.cell? ⟨g, k * 2, none⟩ = some (.string x.1) ∧ w.cell? ⟨g, k * 2 + 1, none⟩ = some (.int .i64 x.2)
theorem Sl.rdL {w : World} {v : Value} {L : List (ByteArray × Int)} (h : Sl w 81 2 v L.length (cellsL L)) : ∃ a c, v = .slice a L.length c ∧ RdL w a L := by
  rcases h.2 with ⟨rfl, h0⟩ | ⟨g, cap, R, rfl, hR, hc, hcm, hL, hT⟩
  · have : L = [] := List.eq_nil_of_length_eq_zero h0
    subst this
    exact ⟨none, 0, rfl, fun k x h => by simp at h⟩
  · refine ⟨_, cap, rfl, fun k x hx => ⟨g, rfl, ?_, ?_⟩⟩
    · have := (cellsL_at L k x hx).1
      rw [hR.cell]; rw [← hT, List.getElem?_take] at this
      split at this
      · exact this
      · cases this
    · have := (cellsL_at L k x hx).2
      rw [hR.cell]; rw [← hT, List.getElem?_take] at this
      split at this
      · exact this
      · cases this
/-- Where a path's entry stands. -/
def FindIs (L : List (ByteArray × Int)) (p : ByteArray) (r : Int) : Prop :=
  (r = -1 ∧ ∀ (k : Nat) x, L[k]? = some x → x.1 ≠ p) ∨ (∃ (k : Nat) (x : ByteArray × Int), r = k ∧ L[k]? = some x ∧ x.1 = p ∧ ∀ (j : Nat) y, j < k → L[j]? = some y → y.1 ≠ p)
theorem find_ref (w : World) (rb : Nat) (v : Value) (L : List (ByteArray × Int)) (p : ByteArray) (hc : w.cell? ⟨rb, 0, none⟩ = some v) (hS : Sl w 81 2 v L.length (cellsL L)) (hn : L.length ≤ 2000000) :
    Calls Tryz.prog 61 #[.pointer (some ⟨rb, 0, none⟩), .string p] w fun e w' => ∃ r, (e = .returned (.int .i64 r) ∧ FindIs L p r) ∧ w' = w := by
  obtain ⟨a, c, rfl, hrd⟩ := hS.rdL
  have HR := hide hrd
  clear hS hrd
  go_enter Tryz.func61, Tryz.ntmps61
  go_wp2
  go_loop [5] (fun i => ∃ k : Nat, k ≤ L.length ∧ i = .int .i64 k ∧ Hid (∀ (j : Nat) y, j < k → L[j]? = some y → y.1 ≠ p)) (fun i => L.length - (intOf i).toNat)
  case atStart => exact ⟨0, Nat.zero_le _, rfl, fun j y h => absurd h (Nat.not_lt_zero _)⟩
  case round =>
    obtain ⟨k, hk, rfl, hno⟩ := hrel
    by_cases hlt : k < L.length
    · obtain ⟨g, rfl, q0, q1⟩ := unhide HR k _ (List.getElem?_eq_getElem hlt)
      cases hq : (L[k].1.toList == p.toList) with
      | true =>
        have he : L[k].1 = p := toList_inj (by simpa using hq)
        have HF := hide (show FindIs L p (k : Int) from .inr ⟨k, _, rfl, List.getElem?_eq_getElem hlt, he, unhide hno⟩)
        clear he
        go_wp2
        go_ret
        exact ⟨⟨_, rfl, unhide HF⟩, rfl⟩
      | false =>
        have he : L[k].1 ≠ p := fun e => by rw [e] at hq; simp at hq
        have HS : Hid (∀ (j : Nat) y, j < k + 1 → L[j]? = some y → y.1 ≠ p) := fun j y h hy => by
          rcases Nat.lt_or_ge j k with h' | h'
          · exact unhide hno j y h' hy
          · obtain rfl : j = k := by omega
            rw [List.getElem?_eq_getElem hlt] at hy; cases hy; exact he
        clear he
        go_wp2
        go_round
        case rel => exact ⟨k + 1, by omega, by go_num, HS⟩
        case measure => simp [intOf]; omega
    · obtain rfl : k = L.length := by omega
      have HF := hide (show FindIs L p (-1) from .inl ⟨rfl, fun j y hy => unhide hno j y (List.getElem?_eq_some_iff.1 hy).1 hy⟩)
      go_wp2
      go_ret
      exact ⟨⟨_, rfl, unhide HF⟩, rfl⟩
/-- The last slash. -/
def lastSl : List UInt8 → Option Nat
  | [] => none
  | c :: l => match lastSl l with
    | some k => some (k + 1)
    | none => if c = 47 then some 0 else none
theorem lastSl_none : ∀ {l : List UInt8}, lastSl l = none → ∀ j : Nat, l[j]? ≠ some 47
  | [], _, j => by simp
  | c :: l, h, j => by
    unfold lastSl at h
    cases hl : lastSl l with
    | some k => rw [hl] at h; cases h
    | none =>
      rw [hl] at h
      cases j with
      | zero => simp; intro e; simp [e] at h
      | succ j => simpa using lastSl_none hl j
theorem lastSl_some : ∀ {l : List UInt8} {k : Nat}, lastSl l = some k → l[k]? = some 47 ∧ ∀ j, k < j → l[j]? ≠ some 47
  | [], k, h => by cases h
  | c :: l, k, h => by
    unfold lastSl at h
    cases hl : lastSl l with
    | some k' =>
      rw [hl] at h
      obtain rfl : k = k' + 1 := by simpa using h.symm
      have := lastSl_some hl
      refine ⟨by simpa using this.1, fun j hj => ?_⟩
      cases j with
      | zero => omega
      | succ j => simpa using this.2 j (by omega)
    | none =>
      rw [hl] at h
      by_cases e : c = 47
      · rw [if_pos e] at h
        obtain rfl : k = 0 := by simpa using h.symm
        refine ⟨by simp [e], fun j hj => ?_⟩
        cases j with
        | zero => omega
        | succ j => simpa using lastSl_none hl j
      · rw [if_neg e] at h; cases h
def dirOf (p : ByteArray) : ByteArray := p.extract 0 ((lastSl p.data.toList).getD 0)
/-- A text that has a slash. -/
def HasSl (p : ByteArray) : Prop := ∃ k, lastSl p.data.toList = some k
theorem dir_ref (p : ByteArray) (w : World) (hp : p.size ≤ 2000000) (h : HasSl p) : Calls Tryz.prog 67 #[.string p] w fun e w' => e = .returned (.string (dirOf p)) ∧ w' = w := by
  obtain ⟨k, hk⟩ := h
  obtain ⟨h1, h2⟩ := lastSl_some hk
  have hd : dirOf p = p.extract 0 k := by simp [dirOf, hk]
  have hkl : k < p.size := by
    have h2 := (List.getElem?_eq_some_iff.1 h1).1
    have h3 : p.data.toList.length = p.size := Array.length_toList
    omega
  rw [hd]
  have H1 := hide h1
  have H2 := hide h2
  clear h1 h2 hk hd
  go_enter Tryz.func67, Tryz.ntmps67
  go_wp2
  go_loop [3] (fun i => ∃ n : Nat, k ≤ n ∧ n < p.size ∧ i = .int .i64 n) (fun i => (intOf i).toNat)
  case atStart => exact ⟨p.size - 1, by omega, by omega, by congr 1; omega⟩
  case round =>
    obtain ⟨n, hkn, hn, rfl⟩ := hrel
    by_cases he : n = k
    · subst he
      have hq : ((p[n].toNat : Int) != 47) = false := by
        cases h : ((p[n].toNat : Int) != 47) with
        | false => rfl
        | true => exact absurd (unhide H1) ((slash_iff p n hn).1 h)
      go_wp2
      go_ret
      exact ⟨rfl, rfl⟩
    · have hq : ((p[n].toNat : Int) != 47) = true := (slash_iff p n hn).2 (unhide H2 n (by omega))
      go_wp2
      go_round
      case rel => exact ⟨n - 1, by omega, by omega, by congr 1; omega⟩
      case measure => simp [intOf]; omega
/-- How many of the first k entries meet a test. -/
def cntT (q : ByteArray × Int → Bool) (L : List (ByteArray × Int)) (k : Nat) : Nat := (L.take k).countP q
theorem cntT_succ (q : ByteArray × Int → Bool) (L : List (ByteArray × Int)) (k : Nat) (h : k < L.length) : cntT q L (k + 1) = cntT q L k + if q L[k] = true then 1 else 0 := by
  unfold cntT
  rw [List.take_succ_eq_append_getElem h, List.countP_append, List.countP_singleton]
theorem cntT_le (q : ByteArray × Int → Bool) (L : List (ByteArray × Int)) (k : Nat) : cntT q L k ≤ k := by
  unfold cntT
  exact Nat.le_trans List.countP_le_length (List.length_take_le _ _)
theorem cntT_all (q : ByteArray × Int → Bool) (L : List (ByteArray × Int)) : cntT q L L.length = L.countP q := by simp [cntT]
def qDir (d : ByteArray) (x : ByteArray × Int) : Bool := (dirOf x.1).toList == d.toList
def qFile (f : Int) (x : ByteArray × Int) : Bool := x.2 == f
theorem within_ref (w : World) (rb : Nat) (v : Value) (L : List (ByteArray × Int)) (d : ByteArray) (hc : w.cell? ⟨rb, 0, none⟩ = some v) (hS : Sl w 81 2 v L.length (cellsL L)) (hn : L.length ≤ 2000000)
    (hok : ∀ x ∈ L, x.1.size ≤ 2000000 ∧ HasSl x.1) :
    Calls Tryz.prog 68 #[.pointer (some ⟨rb, 0, none⟩), .string d] w fun e w' => e = .returned (.int .i64 (L.countP (qDir d) : Nat)) ∧ w' = w := by
  obtain ⟨a, c, rfl, hrd⟩ := hS.rdL
  have HR := hide hrd
  have HO := hide hok
  have HA := hide (cntT_all (qDir d) L)
  clear hS hrd hok
  go_enter Tryz.func68, Tryz.ntmps68
  go_wp2
  go_loop [5, 6] (fun n i => ∃ k : Nat, k ≤ L.length ∧ i = .int .i64 k ∧ n = .int .i64 (cntT (qDir d) L k : Nat)) (fun _ i => L.length - (intOf i).toNat)
  case atStart => exact ⟨0, Nat.zero_le _, rfl, rfl⟩
  case round =>
    obtain ⟨k, hk, rfl, rfl⟩ := hrel
    have hle := cntT_le (qDir d) L k
    by_cases hlt : k < L.length
    · obtain ⟨g, rfl, q0, q1⟩ := unhide HR k _ (List.getElem?_eq_getElem hlt)
      obtain ⟨hsz, hsl⟩ := unhide HO L[k] (List.getElem_mem _)
      have HSC := hide (cntT_succ (qDir d) L k hlt)
      cases hq : ((dirOf L[k].1).toList == d.toList) with
      | true =>
        have HS : Hid (cntT (qDir d) L (k + 1) = cntT (qDir d) L k + 1) := by show _ = _; rw [unhide HSC, if_pos (show qDir d L[k] = true from hq)]
        go_wp2_with (go_at_call 67; refine (dir_ref _ _ hsz hsl).mono ?_; rintro e w' ⟨rfl, rfl⟩)
        go_round
        case rel => exact ⟨k + 1, by omega, by go_num, by rw [unhide HS]; go_num⟩
        case measure => simp [intOf]; omega
      | false =>
        have HS : Hid (cntT (qDir d) L (k + 1) = cntT (qDir d) L k) := by show _ = _; rw [unhide HSC, if_neg (show ¬ qDir d L[k] = true by unfold qDir; rw [hq]; simp)]; rfl
        go_wp2_with (go_at_call 67; refine (dir_ref _ _ hsz hsl).mono ?_; rintro e w' ⟨rfl, rfl⟩)
        go_round
        case rel => exact ⟨k + 1, by omega, by go_num, by rw [unhide HS]⟩
        case measure => simp [intOf]; omega
    · obtain rfl : k = L.length := by omega
      go_wp2
      go_ret
      exact ⟨by rw [← unhide HA]; rfl, rfl⟩
theorem links_ref (w : World) (rb : Nat) (v : Value) (L : List (ByteArray × Int)) (f : Int) (hc : w.cell? ⟨rb, 0, none⟩ = some v) (hS : Sl w 81 2 v L.length (cellsL L)) (hn : L.length ≤ 2000000) :
    Calls Tryz.prog 73 #[.pointer (some ⟨rb, 0, none⟩), .int .i64 f] w fun e w' => e = .returned (.int .i64 (L.countP (qFile f) : Nat)) ∧ w' = w := by
  obtain ⟨a, c, rfl, hrd⟩ := hS.rdL
  have HR := hide hrd
  have HA := hide (cntT_all (qFile f) L)
  clear hS hrd
  go_enter Tryz.func73, Tryz.ntmps73
  go_wp2
  go_loop [5, 6] (fun n i => ∃ k : Nat, k ≤ L.length ∧ i = .int .i64 k ∧ n = .int .i64 (cntT (qFile f) L k : Nat)) (fun _ i => L.length - (intOf i).toNat)
  case atStart => exact ⟨0, Nat.zero_le _, rfl, rfl⟩
  case round =>
    obtain ⟨k, hk, rfl, rfl⟩ := hrel
    have hle := cntT_le (qFile f) L k
    by_cases hlt : k < L.length
    · obtain ⟨g, rfl, q0, q1⟩ := unhide HR k _ (List.getElem?_eq_getElem hlt)
      have HSC := hide (cntT_succ (qFile f) L k hlt)
      cases hq : (L[k].2 == f) with
      | true =>
        have HS : Hid (cntT (qFile f) L (k + 1) = cntT (qFile f) L k + 1) := by show _ = _; rw [unhide HSC, if_pos (show qFile f L[k] = true from hq)]
        go_wp2
        go_round
        case rel => exact ⟨k + 1, by omega, by go_num, by rw [unhide HS]; go_num⟩
        case measure => simp [intOf]; omega
      | false =>
        have HS : Hid (cntT (qFile f) L (k + 1) = cntT (qFile f) L k) := by show _ = _; rw [unhide HSC, if_neg (show ¬ qFile f L[k] = true by unfold qFile; rw [hq]; simp)]; rfl
        go_wp2
        go_round
        case rel => exact ⟨k + 1, by omega, by go_num, by rw [unhide HS]⟩
        case measure => simp [intOf]; omega
    · obtain rfl : k = L.length := by omega
      go_wp2
      go_ret
      exact ⟨by rw [← unhide HA]; rfl, rfl⟩
/-- What stands at a path. -/
def look (L : List (ByteArray × Int)) (p : ByteArray) : Option Int := (L.find? (fun x => decide (x.1 = p))).map (·.2)
theorem look_of_find {L : List (ByteArray × Int)} {p : ByteArray} {r : Int} (h : FindIs L p r) : (r = -1 ∧ look L p = none) ∨ (∃ (k : Nat) (x : ByteArray × Int), r = k ∧ L[k]? = some x ∧ x.1 = p ∧ look L p = some x.2) := by
  rcases h with ⟨rfl, h⟩ | ⟨k, x, rfl, h1, h2, h3⟩
  · refine .inl ⟨rfl, ?_⟩
    unfold look
    rw [List.find?_eq_none.2 (fun x hx => by
      obtain ⟨k, hk⟩ := List.getElem?_of_mem hx
      simpa using h k x hk)]
    rfl
  · refine .inr ⟨k, x, rfl, h1, h2, ?_⟩
    unfold look
    rw [List.find?_eq_some_iff_getElem.2 ⟨by simpa using h2, k, (List.getElem?_eq_some_iff.1 h1).1, (List.getElem?_eq_some_iff.1 h1).2, fun j hj => by
      have := h3 j _ hj (List.getElem?_eq_getElem (by have := (List.getElem?_eq_some_iff.1 h1).1; omega))
      simpa using this⟩]
    rfl
def prefs (p : ByteArray) : Nat → Nat → List ByteArray
  | 0, _ => []
  | n + 1, i => if p.data.toList[i]? = some 47 then p.extract 0 i :: prefs p n (i + 1) else prefs p n (i + 1)
def aheadP (L : List (ByteArray × Int)) : List ByteArray → Int
  | [] => 0
  | q :: r => match look L q with
    | none => 3
    | some f => if 0 ≤ f then 4 else aheadP L r
theorem ahead_ref (w : World) (rb : Nat) (v : Value) (L : List (ByteArray × Int)) (p : ByteArray) (hc : w.cell? ⟨rb, 0, none⟩ = some v) (hS : Sl w 81 2 v L.length (cellsL L)) (hn : L.length ≤ 2000000) (hp : p.size ≤ 2000000) :
    Calls Tryz.prog 64 #[.pointer (some ⟨rb, 0, none⟩), .string p] w fun e w' => e = .returned (.int .i64 (aheadP L (prefs p (p.size - 1) 1))) ∧ w' = w := by
  have hfind := fun q => find_ref w rb v L q hc hS hn
  obtain ⟨a, c, rfl, hrd⟩ := hS.rdL
  have HR := hide hrd
  have HF := hide hfind
  clear hS hrd hfind
  obtain ⟨r, hr⟩ : ∃ r, r = aheadP L (prefs p (p.size - 1) 1) := ⟨_, rfl⟩
  rw [← hr]
  have HRR := hide hr
  clear hr
  go_enter Tryz.func64, Tryz.ntmps64
  go_wp2
  go_loopw [5] (fun i wr => ∃ k : Nat, 1 ≤ k ∧ (k ≤ p.size ∨ k = 1) ∧ i = .int .i64 k ∧ Hid (r = aheadP L (prefs p (p.size - k) k)) ∧ wr = w) (fun i _ => p.size - (intOf i).toNat)
  case atStart => exact ⟨1, Nat.le_refl _, .inr rfl, rfl, unhide HRR, rfl⟩
  case round =>
    obtain ⟨k, hk1, hk, rfl, hrk, rfl⟩ := hrel
    by_cases hlt : k < p.size
    · have hsplit : prefs p (p.size - k) k = if p.data.toList[k]? = some 47 then p.extract 0 k :: prefs p (p.size - (k + 1)) (k + 1) else prefs p (p.size - (k + 1)) (k + 1) := by
        rw [show p.size - k = (p.size - (k + 1)) + 1 by omega]; rfl
      by_cases hsl : p.data.toList[k]? = some 47
      · have hq : ((p[k].toNat : Int) != 47) = false := by
          cases h : ((p[k].toNat : Int) != 47) with
          | false => rfl
          | true => exact absurd hsl ((slash_iff p k hlt).1 h)
        rw [if_pos hsl] at hsplit
        have HSP := hide hsplit
        clear hsplit hsl
        go_wp2_with fail
        refine (unhide HF _).mono ?_
        rintro e w' ⟨f, ⟨rfl, hfi⟩, hw⟩
        rw [hw]; clear hw
        rcases look_of_find hfi with ⟨rfl, hl⟩ | ⟨j, x, rfl, hj, hx, hl⟩
        · obtain rfl : r = 3 := by rw [unhide hrk, unhide HSP]; simp [aheadP, hl]
          clear hrk HSP HRR
          go_wp2
          go_ret
          exact ⟨rfl, rfl⟩
        · obtain ⟨g, rfl, q0, q1⟩ := unhide HR j x hj
          have hjl := (List.getElem?_eq_some_iff.1 hj).1
          by_cases hf : 0 ≤ x.2
          · obtain rfl : r = 4 := by rw [unhide hrk, unhide HSP]; simp [aheadP, hl, hf]
            clear hrk HSP HRR hl hx hj hfi
            go_wp2
            go_ret
            exact ⟨rfl, rfl⟩
          · have hnx : r = aheadP L (prefs p (p.size - (k + 1)) (k + 1)) := by rw [unhide hrk, unhide HSP]; simp [aheadP, hl, hf]
            have HNX := hide hnx
            clear hrk HSP HRR hl hx hj hfi hnx
            go_wp2
            go_roundw
            case rel => exact ⟨k + 1, by omega, .inl (by omega), by go_num, HNX, trivial⟩
            case measure => simp [intOf]; omega
      · have hq : ((p[k].toNat : Int) != 47) = true := (slash_iff p k hlt).2 hsl
        rw [if_neg hsl] at hsplit
        have HNX : Hid (r = aheadP L (prefs p (p.size - (k + 1)) (k + 1))) := by show _ = _; rw [unhide hrk, hsplit]
        clear hsplit hsl
        go_wp2
        go_roundw
        case rel => exact ⟨k + 1, by omega, .inl (by omega), by go_num, HNX, trivial⟩
        case measure => simp [intOf]; omega
    · have h0 : p.size - k = 0 := by omega
      obtain rfl : r = 0 := by rw [unhide hrk, h0]; rfl
      clear hrk HRR
      go_wp2
      go_ret
      exact ⟨rfl, rfl⟩
end Go.Proofs.YtfabjhgkigagpaaGreatDoor
namespace Go.Proofs.YtfabjhgkigagpaaGreatDoor
open Go.RowKit

set_option maxHeartbeats 1000000
set_option maxRecDepth 100000
/-- The slice of files, as the walks read it. -/
def RdF (w : World) (a : Option Addr) (F : List ByteArray) : Prop := ∀ (k : Nat) (x : ByteArray), F[k]? = some x → ∃ g, a = some ⟨g, 0, none⟩ ∧ w.cell? ⟨g, k, none⟩ = some (.string x)
theorem Sl.rdF {w : World} {v : Value} {F : List ByteArray} (h : Sl w 9 1 v F.length (F.map .string)) : ∃ a c, v = .slice a F.length c ∧ RdF w a F := by
  rcases h.2 with ⟨rfl, h0⟩ | ⟨g, cap, R, rfl, hR, hc, hcm, hL, hT⟩
  · have : F = [] := List.eq_nil_of_length_eq_zero h0
    subst this
    exact ⟨none, 0, rfl, fun k x h => by simp at h⟩
  · refine ⟨_, cap, rfl, fun k x hx => ⟨g, rfl, ?_⟩⟩
    have : (F.map Value.string)[k]? = some (.string x) := by simp [hx]
    rw [hR.cell]; rw [← hT, List.getElem?_take] at this
    split at this
    · exact this
    · cases this
/-- The reference's tree in memory. -/
structure RefC (w : World) (rb : Nat) (vl vf : Value) (L : List (ByteArray × Int)) (F : List ByteArray) : Prop where
  c0 : w.cell? ⟨rb, 0, none⟩ = some vl
  c1 : w.cell? ⟨rb, 1, none⟩ = some vf
  sl : Sl w 81 2 vl L.length (cellsL L)
  sf : Sl w 9 1 vf F.length (F.map .string)
  nl : L.length ≤ 2000000
  nf : F.length ≤ 2000000
  ok : ∀ x ∈ L, x.1.size ≤ 2000000 ∧ HasSl x.1
  okf : ∀ s ∈ F, s.size ≤ 2000000
def qD (x : ByteArray × Int) : Bool := decide (x.2 < 0)
/-- Of the first k files those that have an entry. -/
def liveT (L : List (ByteArray × Int)) (k : Nat) : Nat := (List.range k).countP (fun f : Nat => decide (0 < L.countP (qFile (f : Int))))
theorem liveT_succ (L : List (ByteArray × Int)) (k : Nat) : liveT L (k + 1) = liveT L k + if 0 < L.countP (qFile k) then 1 else 0 := by
  unfold liveT
  rw [List.range_succ, List.countP_append, List.countP_singleton]
  by_cases h : 0 < L.countP (qFile (k : Int)) <;> simp [h]
theorem liveT_le (L : List (ByteArray × Int)) (k : Nat) : liveT L k ≤ k := by
  unfold liveT
  exact Nat.le_trans List.countP_le_length (by simp)
def nodesR (L : List (ByteArray × Int)) (F : List ByteArray) : Nat := 1 + L.countP qD + liveT L F.length
theorem nodes_ref (w : World) (rb : Nat) (vl vf : Value) (L : List (ByteArray × Int)) (F : List ByteArray) (h : RefC w rb vl vf L F) :
    Calls Tryz.prog 79 #[.pointer (some ⟨rb, 0, none⟩)] w fun e w' => e = .returned (.int .i64 (nodesR L F : Nat)) ∧ w' = w := by
  have hl := fun f => links_ref w rb vl L f h.c0 h.sl h.nl
  obtain ⟨a, c, rfl, hrd⟩ := h.sl.rdL
  obtain ⟨a2, c2, rfl, _⟩ := h.sf.rdF
  have hc0 := h.c0
  have hc1 := h.c1
  have hnl := h.nl
  have hnf := h.nf
  have HR := hide hrd
  have HA := hide (cntT_all qD L)
  have HL := hide hl
  obtain ⟨r, hr⟩ : ∃ r, r = nodesR L F := ⟨_, rfl⟩
  rw [← hr]
  have HRR := hide hr
  clear h hrd hl hr
  go_enter Tryz.func79, Tryz.ntmps79
  go_wp2
  go_loop [3, 4] (fun n i => ∃ k : Nat, k ≤ L.length ∧ i = .int .i64 k ∧ n = .int .i64 ((cntT qD L k + 1 : Nat) : Int)) (fun _ i => L.length - (intOf i).toNat)
  case atStart => exact ⟨0, Nat.zero_le _, rfl, rfl⟩
  case round =>
    obtain ⟨k, hk, rfl, rfl⟩ := hrel
    have hle := cntT_le qD L k
    by_cases hlt : k < L.length
    · obtain ⟨g, rfl, q0, q1⟩ := unhide HR k _ (List.getElem?_eq_getElem hlt)
      have HSC := hide (cntT_succ qD L k hlt)
      by_cases hq : L[k].2 < 0
      · have HS : Hid (cntT qD L (k + 1) = cntT qD L k + 1) := by show _ = _; rw [unhide HSC, if_pos (show qD L[k] = true by simp [qD, hq])]
        go_wp2
        go_round
        case rel => exact ⟨k + 1, by omega, by go_num, by rw [unhide HS]; go_num⟩
        case measure => simp [intOf]; omega
      · have HS : Hid (cntT qD L (k + 1) = cntT qD L k) := by show _ = _; rw [unhide HSC, if_neg (show ¬ qD L[k] = true by simp [qD]; omega)]; rfl
        go_wp2
        go_round
        case rel => exact ⟨k + 1, by omega, by go_num, by rw [unhide HS]⟩
        case measure => simp [intOf]; omega
    · obtain rfl : k = L.length := by omega
      go_wp2_with fail
      go_loopw [3, 5] (fun n i wr => ∃ k : Nat, k ≤ F.length ∧ i = .int .i64 k ∧ n = .int .i64 ((1 + L.countP qD + liveT L k : Nat) : Int) ∧ wr = w) (fun _ i _ => F.length - (intOf i).toNat)
      case atStart => exact ⟨0, Nat.zero_le _, rfl, by rw [unhide HA]; congr 1; simp [liveT]; omega, rfl⟩
      case round =>
        obtain ⟨j, hj, rfl, rfl, rfl⟩ := hrel
        have hle2 := liveT_le L j
        have hcl : L.countP qD ≤ L.length := List.countP_le_length
        by_cases hjlt : j < F.length
        · have HSC := hide (liveT_succ L j)
          have hcf : L.countP (qFile j) ≤ L.length := List.countP_le_length
          by_cases hq : 0 < L.countP (qFile j)
          · have HS : Hid (liveT L (j + 1) = liveT L j + 1) := by show _ = _; rw [unhide HSC, if_pos hq]
            go_wp2_with (go_at_call 73; refine (unhide HL _).mono ?_; rintro e w' ⟨rfl, hw⟩; rw [hw]; clear hw)
            go_roundw
            case rel => exact ⟨j + 1, by omega, by go_num, by rw [unhide HS]; go_num, trivial⟩
            case measure => simp [intOf]; omega
          · have HS : Hid (liveT L (j + 1) = liveT L j) := by show _ = _; rw [unhide HSC, if_neg hq]; rfl
            go_wp2_with (go_at_call 73; refine (unhide HL _).mono ?_; rintro e w' ⟨rfl, hw⟩; rw [hw]; clear hw)
            go_roundw
            case rel => exact ⟨j + 1, by omega, by go_num, by rw [unhide HS]; go_num, trivial⟩
            case measure => simp [intOf]; omega
        · obtain rfl : j = F.length := by omega
          go_wp2
          go_ret
          exact ⟨by rw [unhide HRR]; rfl, rfl⟩
/-- The blocks of the first k files that have an entry. -/
def useT (L : List (ByteArray × Int)) (F : List ByteArray) : Nat → Nat
  | 0 => 0
  | k + 1 => useT L F k + if 0 < L.countP (qFile (k : Int)) then ((F[k]?.getD ⟨#[]⟩).size + 63) / 64 else 0
theorem useT_yes {L : List (ByteArray × Int)} {F : List ByteArray} {j : Nat} {x : ByteArray} (h : 0 < L.countP (qFile (j : Int))) (hx : F[j]? = some x) : useT L F (j + 1) = useT L F j + (x.size + 63) / 64 := by
  rw [useT, if_pos h, hx]; rfl
theorem useT_no {L : List (ByteArray × Int)} {F : List ByteArray} {j : Nat} (h : ¬ 0 < L.countP (qFile (j : Int))) : useT L F (j + 1) = useT L F j := by
  rw [useT, if_neg h]; rfl
theorem useT_le (L : List (ByteArray × Int)) (F : List ByteArray) (h : ∀ s ∈ F, s.size ≤ 2000000) (k : Nat) : useT L F k ≤ k * 40000 := by
  induction k with
  | zero => simp [useT]
  | succ k ih =>
    unfold useT
    have : ((F[k]?.getD ⟨#[]⟩).size + 63) / 64 ≤ 40000 := by
      cases hk : F[k]? with
      | none => exact (by decide : ((⟨#[]⟩ : ByteArray).size + 63) / 64 ≤ 40000)
      | some x =>
        have := h x (List.mem_of_getElem? hk)
        simp only [Option.getD_some]; omega
    split <;> omega
def usageR (L : List (ByteArray × Int)) (F : List ByteArray) : Nat := useT L F F.length
theorem usage_ref (w : World) (rb : Nat) (vl vf : Value) (L : List (ByteArray × Int)) (F : List ByteArray) (h : RefC w rb vl vf L F) :
    Calls Tryz.prog 40 #[.pointer (some ⟨rb, 0, none⟩)] w fun e w' => e = .returned (.int .i64 (usageR L F : Nat)) ∧ w' = w := by
  have hl := fun f => links_ref w rb vl L f h.c0 h.sl h.nl
  obtain ⟨a2, c2, rfl, hrf⟩ := h.sf.rdF
  have hc1 := h.c1
  have hnl := h.nl
  have hnf := h.nf
  have HL := hide hl
  have HRF := hide hrf
  have HOK := hide h.okf
  obtain ⟨r, hr⟩ : ∃ r, r = usageR L F := ⟨_, rfl⟩
  rw [← hr]
  have HRR := hide hr
  clear h hl hr hrf
  go_enter Tryz.func40, Tryz.ntmps40
  go_wp2_with fail
  go_loopw [3, 4] (fun n i wr => ∃ k : Nat, k ≤ F.length ∧ i = .int .i64 k ∧ n = .int .i64 ((useT L F k : Nat) : Int) ∧ wr = w) (fun _ i _ => F.length - (intOf i).toNat)
  case atStart => exact ⟨0, Nat.zero_le _, rfl, rfl, rfl⟩
  case round =>
    obtain ⟨j, hj, rfl, rfl, rfl⟩ := hrel
    have hle2 := useT_le L F (unhide HOK) j
    by_cases hjlt : j < F.length
    · have hcf : L.countP (qFile j) ≤ L.length := List.countP_le_length
      have hx : F[j]? = some F[j] := List.getElem?_eq_getElem hjlt
      by_cases hq : 0 < L.countP (qFile j)
      · have HS : Hid (useT L F (j + 1) = useT L F j + (F[j].size + 63) / 64) := useT_yes hq hx
        obtain ⟨g, rfl, q0⟩ := unhide HRF j _ hx
        have hsz := unhide HOK F[j] (List.getElem_mem _)
        clear hx
        go_wp2_with (go_at_call 73; refine (unhide HL _).mono ?_; rintro e w' ⟨rfl, hw⟩; rw [hw]; clear hw)
        go_roundw
        case rel => exact ⟨j + 1, by omega, by go_num, by rw [unhide HS]; go_num, trivial⟩
        case measure => simp [intOf]; omega
      · have HS : Hid (useT L F (j + 1) = useT L F j) := useT_no hq
        clear hx
        go_wp2_with (go_at_call 73; refine (unhide HL _).mono ?_; rintro e w' ⟨rfl, hw⟩; rw [hw]; clear hw)
        go_roundw
        case rel => exact ⟨j + 1, by omega, by go_num, by rw [unhide HS], trivial⟩
        case measure => simp [intOf]; omega
    · obtain rfl : j = F.length := by omega
      go_wp2
      go_ret
      exact ⟨by rw [unhide HRR]; rfl, rfl⟩
def roomR (L : List (ByteArray × Int)) (F : List ByteArray) (p : ByteArray) (n : Nat) : Bool := decide (L.countP (qDir (dirOf p)) < 20 ∧ L.length < 100 ∧ nodesR L F + n ≤ 60)
theorem room_ref (w : World) (rb : Nat) (vl vf : Value) (L : List (ByteArray × Int)) (F : List ByteArray) (h : RefC w rb vl vf L F) (p : ByteArray) (hp : p.size ≤ 2000000) (hsl : HasSl p) (n : Nat) (hn : n ≤ 1) :
    Calls Tryz.prog 62 #[.pointer (some ⟨rb, 0, none⟩), .string p, .int .i64 n] w fun e w' => e = .returned (.bool (roomR L F p n)) ∧ w' = w := by
  have hdir := dir_ref p w hp hsl
  have hwi := within_ref w rb vl L (dirOf p) h.c0 h.sl h.nl h.ok
  have hno := nodes_ref w rb vl vf L F h
  obtain ⟨a, c, rfl, hrd⟩ := h.sl.rdL
  have hc0 := h.c0
  have hnl := h.nl
  have hnf := h.nf
  have hcl : L.countP (qDir (dirOf p)) ≤ L.length := List.countP_le_length
  have hnd : nodesR L F ≤ 4000001 := by
    have h1 : L.countP qD ≤ L.length := List.countP_le_length
    have h2 := liveT_le L F.length
    unfold nodesR; omega
  obtain ⟨r, hr⟩ : ∃ r, r = roomR L F p n := ⟨_, rfl⟩
  rw [← hr]
  unfold roomR at hr
  have HD := hide hdir
  have HW := hide hwi
  have HN := hide hno
  clear h hrd hdir hwi hno
  by_cases h1 : L.countP (qDir (dirOf p)) < 20
  · by_cases h2 : L.length < 100
    · by_cases h3 : nodesR L F + n ≤ 60
      · obtain rfl : r = true := by rw [hr]; simp [h1, h2, h3]
        clear hr
        go_enter Tryz.func62, Tryz.ntmps62
        go_wp2_with (first | (go_at_call 67; refine (unhide HD).mono ?_; rintro e w' ⟨rfl, hw⟩; rw [hw]; clear hw) | (go_at_call 68; refine (unhide HW).mono ?_; rintro e w' ⟨rfl, hw⟩; rw [hw]; clear hw) | (go_at_call 79; refine (unhide HN).mono ?_; rintro e w' ⟨rfl, hw⟩; rw [hw]; clear hw))
        go_ret
        exact ⟨by simp; omega, rfl⟩
      · obtain rfl : r = false := by rw [hr]; simp [h3]
        clear hr
        go_enter Tryz.func62, Tryz.ntmps62
        go_wp2_with (first | (go_at_call 67; refine (unhide HD).mono ?_; rintro e w' ⟨rfl, hw⟩; rw [hw]; clear hw) | (go_at_call 68; refine (unhide HW).mono ?_; rintro e w' ⟨rfl, hw⟩; rw [hw]; clear hw) | (go_at_call 79; refine (unhide HN).mono ?_; rintro e w' ⟨rfl, hw⟩; rw [hw]; clear hw))
        go_ret
        exact ⟨by simp; omega, rfl⟩
    · obtain rfl : r = false := by rw [hr]; simp [h2]
      clear hr
      go_enter Tryz.func62, Tryz.ntmps62
      go_wp2_with (first | (go_at_call 67; refine (unhide HD).mono ?_; rintro e w' ⟨rfl, hw⟩; rw [hw]; clear hw) | (go_at_call 68; refine (unhide HW).mono ?_; rintro e w' ⟨rfl, hw⟩; rw [hw]; clear hw) | (go_at_call 79; refine (unhide HN).mono ?_; rintro e w' ⟨rfl, hw⟩; rw [hw]; clear hw))
      go_ret
      exact ⟨by simp, rfl⟩
  · obtain rfl : r = false := by rw [hr]; simp [h1]
    clear hr
    go_enter Tryz.func62, Tryz.ntmps62
    go_wp2_with (first | (go_at_call 67; refine (unhide HD).mono ?_; rintro e w' ⟨rfl, hw⟩; rw [hw]; clear hw) | (go_at_call 68; refine (unhide HW).mono ?_; rintro e w' ⟨rfl, hw⟩; rw [hw]; clear hw) | (go_at_call 79; refine (unhide HN).mono ?_; rintro e w' ⟨rfl, hw⟩; rw [hw]; clear hw))
    go_ret
    exact ⟨by simp, rfl⟩
end Go.Proofs.YtfabjhgkigagpaaGreatDoor
