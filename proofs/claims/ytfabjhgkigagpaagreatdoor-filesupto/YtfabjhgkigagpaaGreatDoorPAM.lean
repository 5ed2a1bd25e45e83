/- Paths as lists of names: joining, cutting, the order; all pure. The entries of a tree as one list, held against the reference's list of paths; pure. -/
import Derived.Test.YtfabjhgkigagpaaGreatDoorPAF
import Derived.Test.YtfabjhgkigagpaaGreatDoorPAL
import Derived.Test.YtfabjhgkigagpaaGreatDoorPAI
namespace Go.Proofs.YtfabjhgkigagpaaGreatDoor
open Go.RowKit

set_option maxHeartbeats 1000000
set_option maxRecDepth 100000
/-- The bytes of a path. -/
def jl (ns : List ByteArray) : List UInt8 := ns.flatMap (fun n => 47 :: n.data.toList)
def jn (ns : List ByteArray) : ByteArray := ⟨(jl ns).toArray⟩
/-- A text without a slash. -/
def NoSl (n : ByteArray) : Prop := (47 : UInt8) ∉ n.data.toList
theorem NoSl.at {n : ByteArray} (h : NoSl n) (j : Nat) : n.data.toList[j]? ≠ some 47 := fun e => h (List.mem_of_getElem? e)
theorem okName_nosl {n : ByteArray} (h : okName n = true) : NoSl n := fun hm => by
  simp only [okName, Bool.and_eq_true] at h
  have := List.all_eq_true.1 h.2 _ hm
  revert this; decide
theorem okName_ne {n : ByteArray} (h : okName n = true) : n.data.toList ≠ [] := fun e => by
  simp [okName, ByteArray.toList_eq, e] at h
theorem jn_data (ns : List ByteArray) : (jn ns).data.toList = jl ns := by simp [jn]
theorem jn_toList (ns : List ByteArray) : (jn ns).toList = jl ns := by rw [ByteArray.toList_eq, jn_data]
theorem jl_nil : jl [] = [] := rfl
theorem jl_cons (n : ByteArray) (ns : List ByteArray) : jl (n :: ns) = 47 :: n.data.toList ++ jl ns := by simp [jl]
theorem jl_append (a b : List ByteArray) : jl (a ++ b) = jl a ++ jl b := by simp [jl]
theorem jl_one (n : ByteArray) : jl [n] = 47 :: n.data.toList := by simp [jl]
theorem bytes_eq {a b : ByteArray} (h : a.data.toList = b.data.toList) : a = b := WideShapes.bytes_inj h
theorem jn_append (a b : List ByteArray) : jn (a ++ b) = jn a ++ jn b := bytes_eq (by rw [jn_data, jl_append, ByteArray.data_append, Array.toList_append, jn_data, jn_data])
theorem jn_size (ns : List ByteArray) : (jn ns).size = (jl ns).length := by show (jn ns).data.size = _; simp [jn]
theorem jn_inj_aux : ∀ (a b : List ByteArray), (∀ n ∈ a, NoSl n) → (∀ n ∈ b, NoSl n) → jl a = jl b → a = b
  | [], [], _, _, _ => rfl
  | [], n :: b, _, _, h => by simp [jl_cons, jl_nil] at h
  | n :: a, [], _, _, h => by simp [jl_cons, jl_nil] at h
  | n :: a, m :: b, ha, hb, h => by
    rw [jl_cons, jl_cons] at h
    have h1 : n.data.toList ++ jl a = m.data.toList ++ jl b := by simpa using h
    have key : ∀ (x y : List UInt8) (u v : List UInt8), (47 : UInt8) ∉ x → (47 : UInt8) ∉ y → (u = [] ∨ ∃ t, u = 47 :: t) → (v = [] ∨ ∃ t, v = 47 :: t) → x ++ u = y ++ v → x = y ∧ u = v := by
      intro x
      induction x with
      | nil =>
        intro y u v _ hy hu hv e
        cases y with
        | nil => exact ⟨rfl, by simpa using e⟩
        | cons c y =>
          rcases hu with rfl | ⟨t, rfl⟩
          · simp at e
          · simp at e; exact absurd (by simp [e.1]) hy
      | cons c x ih =>
        intro y u v hx hy hu hv e
        cases y with
        | nil =>
          rcases hv with rfl | ⟨t, rfl⟩
          · simp at e
          · simp at e; exact absurd (by simp [e.1]) hx
        | cons d y =>
          simp only [List.cons_append, List.cons.injEq] at e
          obtain ⟨r1, r2⟩ := ih y u v (fun h => hx (List.mem_cons_of_mem _ h)) (fun h => hy (List.mem_cons_of_mem _ h)) hu hv e.2
          exact ⟨by rw [e.1, r1], r2⟩
    have hs : ∀ l : List ByteArray, jl l = [] ∨ ∃ t, jl l = 47 :: t := fun l => by
      cases l with
      | nil => exact .inl rfl
      | cons x l => exact .inr ⟨_, by rw [jl_cons]; rfl⟩
    obtain ⟨e1, e2⟩ := key _ _ _ _ (ha n (by simp)) (hb m (by simp)) (hs a) (hs b) h1
    rw [bytes_eq e1, jn_inj_aux a b (fun x hx => ha x (by simp [hx])) (fun x hx => hb x (by simp [hx])) e2]
/-- A list of names that are names. -/
def Nms (ns : List ByteArray) : Prop := ∀ n ∈ ns, okName n = true
theorem Nms.nosl {ns : List ByteArray} (h : Nms ns) : ∀ n ∈ ns, NoSl n := fun n hn => okName_nosl (h n hn)
theorem Nms.append {a b : List ByteArray} (ha : Nms a) (hb : Nms b) : Nms (a ++ b) := fun n hn => (List.mem_append.1 hn).elim (ha n) (hb n)
theorem Nms.left {a b : List ByteArray} (h : Nms (a ++ b)) : Nms a := fun n hn => h n (List.mem_append_left _ hn)
theorem Nms.right {a b : List ByteArray} (h : Nms (a ++ b)) : Nms b := fun n hn => h n (List.mem_append_right _ hn)
theorem Nms.take {a : List ByteArray} (h : Nms a) (k : Nat) : Nms (a.take k) := fun n hn => h n (List.mem_of_mem_take hn)
theorem jn_inj {a b : List ByteArray} (ha : Nms a) (hb : Nms b) (h : jn a = jn b) : a = b := jn_inj_aux a b ha.nosl hb.nosl (by rw [← jn_data, ← jn_data, h])
theorem pc_jl (n : ByteArray) (ns : List ByteArray) (hn : ∀ m ∈ n :: ns, NoSl m) (s : ByteArray) (hs : s.data.toList = n.data.toList ++ jl ns) : pc s = n :: ns := by
  induction ns generalizing n s with
  | nil =>
    have : s = n := bytes_eq (by simpa [jl_nil] using hs)
    subst this
    exact pc_miss s (hn s (by simp)).at
  | cons m ms ih =>
    have h0 := hn n (by simp)
    rw [pc_hit s n.size (fun j hj => by rw [hs, List.getElem?_append_left (by simpa using hj)]; exact h0.at j) (by rw [hs, jl_cons, List.getElem?_append_right (by simp)]; simp)]
    have e1 : s.extract 0 n.size = n := bytes_eq (by rw [Lib.extract_data, hs]; simp)
    have e2 : (s.extract (n.size + 1) s.size).data.toList = m.data.toList ++ jl ms := by
      rw [tail_data, hs, jl_cons, List.drop_append]
      simp
    rw [e1, ih m (fun x hx => hn x (List.mem_cons_of_mem _ hx)) _ e2]
theorem names_jn {ns : List ByteArray} (h : Nms ns) (hne : ns ≠ []) : names (jn ns) = ns := by
  cases ns with
  | nil => exact absurd rfl hne
  | cons n ns =>
    unfold names
    rw [if_neg (by
      rw [jn_toList, jl_cons]
      have := okName_ne (h n (by simp))
      simp [this])]
    exact pc_jl n ns (fun m hm => okName_nosl (h m hm)) _ (by rw [tail_data, jn_data, jl_cons]; simp)
theorem jl_pc : ∀ (k : Nat) (s : ByteArray), s.size ≤ k → jl (pc s) = 47 :: s.data.toList := by
  intro k
  induction k with
  | zero =>
    intro s hs
    have h0 : s.data.toList = [] := List.eq_nil_of_length_eq_zero (by have : s.data.toList.length = s.size := Array.length_toList; omega)
    rw [pc_miss s (fun j => by rw [h0]; simp), jl_one]
  | succ k ih =>
    intro s hs
    rcases slash_or s.data.toList with h | ⟨i, h1, h2⟩
    · rw [pc_miss s h, jl_one]
    · have hi : i < s.size := (List.getElem?_eq_some_iff.1 h2).1
      rw [pc_hit s i h1 h2, jl_cons, ih _ (by simp [ByteArray.size_extract]; omega), tail_data, Lib.extract_data]
      have h3 : s.data.toList.drop i = 47 :: s.data.toList.drop (i + 1) := by
        obtain ⟨hl, e⟩ := List.getElem?_eq_some_iff.1 h2
        rw [List.drop_eq_getElem_cons hl, e]
      have h4 : s.data.toList = s.data.toList.take i ++ s.data.toList.drop i := (List.take_append_drop _ _).symm
      rw [h3] at h4
      simp only [List.drop_zero, Nat.sub_zero]
      rw [List.cons_append, List.cons.injEq]
      exact ⟨rfl, h4.symm⟩
/-- What is a path and not the root is its names joined. -/
theorem path_names {p : ByteArray} (h : nmOk p = true) (hr : (p.toList == [47]) = false) : p = jn (names p) ∧ Nms (names p) ∧ names p ≠ [] ∧ (names p).length ≤ 6 := by
  unfold nmOk at h
  rw [hr, Bool.false_or] at h
  simp only [Bool.and_eq_true, decide_eq_true_eq] at h
  have hn : names p = pc (p.extract 1 p.size) := by unfold names; rw [hr]; simp
  have hj := jl_pc _ (p.extract 1 p.size) (Nat.le_refl _)
  rw [← hn] at h hj
  refine ⟨?_, fun n hm => List.all_eq_true.1 h.2 n hm, fun e => by rw [e] at hj; simp [jl_nil] at hj, h.1.2⟩
  refine bytes_eq ?_
  rw [jn_data, hj, tail_data]
  have h0 : p.data.toList[0]? = some 47 := by simpa using h.1.1
  obtain ⟨hl, e⟩ := List.getElem?_eq_some_iff.1 h0
  cases hp : p.data.toList with
  | nil => rw [hp] at h0; simp at h0
  | cons c l => rw [hp] at h0; simp at h0; simp [h0]
theorem jn_ne_root {ns : List ByteArray} (h : Nms ns) (hne : ns ≠ []) : ((jn ns).toList == [47]) = false := by
  cases ns with
  | nil => exact absurd rfl hne
  | cons n ns =>
    rw [jn_toList, jl_cons]
    have := okName_ne (h n (by simp))
    simp [this]
theorem nmOk_jn {ns : List ByteArray} (h : Nms ns) (hne : ns ≠ []) (hl : ns.length ≤ 6) : nmOk (jn ns) = true := by
  have hn := names_jn h hne
  unfold names at hn
  rw [jn_ne_root h hne] at hn
  simp only [Bool.false_eq_true, if_false] at hn
  unfold nmOk
  rw [jn_ne_root h hne, hn, jn_data]
  cases ns with
  | nil => exact absurd rfl hne
  | cons n ns =>
    simp only [Bool.false_or, jl_cons, Bool.and_eq_true, decide_eq_true_eq]
    exact ⟨⟨by simp, hl⟩, List.all_eq_true.2 h⟩
theorem names_root {p : ByteArray} (hr : (p.toList == [47]) = true) : names p = [] := by unfold names; rw [hr]; rfl
theorem lastSl_app (x y : List UInt8) (hy : (47 : UInt8) ∉ y) : lastSl (x ++ 47 :: y) = some x.length := by
  induction x with
  | nil =>
    have : ∀ l : List UInt8, (47 : UInt8) ∉ l → lastSl l = none := by
      intro l
      induction l with
      | nil => intro _; rfl
      | cons c l ih =>
        intro h
        unfold lastSl
        rw [ih (fun hm => h (List.mem_cons_of_mem _ hm))]
        exact if_neg (fun e => h (by simp [e]))
    show lastSl (47 :: y) = _
    unfold lastSl
    rw [this y hy]; rfl
  | cons c x ih =>
    show lastSl (c :: (x ++ 47 :: y)) = _
    unfold lastSl
    rw [ih]; rfl
theorem dirOf_jn (ns : List ByteArray) (n : ByteArray) (h : NoSl n) : dirOf (jn (ns ++ [n])) = jn ns := by
  unfold dirOf
  rw [jn_data, jl_append, jl_one, lastSl_app _ _ h]
  refine bytes_eq ?_
  rw [Lib.extract_data, jn_data, jl_append, jn_data]
  simp
theorem nameOf_jn (ns : List ByteArray) (n : ByteArray) (h : NoSl n) : nameOf (jn (ns ++ [n])) = n := by
  unfold nameOf
  rw [dirOf_jn ns n h]
  refine bytes_eq ?_
  rw [tail_data, jn_data, jl_append, jl_one, jn_size, List.drop_append]
  simp
theorem hasSl_jn {ns : List ByteArray} (hne : ns ≠ []) : HasSl (jn ns) := by
  cases ns with
  | nil => exact absurd rfl hne
  | cons n ns => exact hasSl_mk (k := 0) (by rw [jn_data, jl_cons]; rfl)
/-- The slashes within a path: where its proper beginnings end. -/
theorem prefs_run (p : ByteArray) : ∀ (n i m : Nat), (∀ j, i ≤ j → j < i + m → p.data.toList[j]? ≠ some 47) → m ≤ n → prefs p n i = prefs p (n - m) (i + m)
  | n, i, 0, _, _ => rfl
  | 0, i, m + 1, _, h => by omega
  | n + 1, i, m + 1, h, hm => by
    rw [prefs, if_neg (h i (Nat.le_refl _) (by omega)), prefs_run p n (i + 1) m (fun j h1 h2 => h j (by omega) (by omega)) (by omega)]
    congr 1 <;> omega
/-- The beginnings of a path: each but the last one. -/
def heads : List ByteArray → List ByteArray → List (List ByteArray)
  | _, [] => []
  | _, [_] => []
  | d, n :: m :: ns => (d ++ [n]) :: heads (d ++ [n]) (m :: ns)
theorem prefs_jl (d : List ByteArray) (n : ByteArray) (ns : List ByteArray) (h : ∀ m ∈ n :: ns, NoSl m) (p : ByteArray) (hp : p.data.toList = jl (d ++ n :: ns)) :
    prefs p (n.size + (jl ns).length) ((jl d).length + 1) = (heads d (n :: ns)).map jn := by
  induction ns generalizing d n with
  | nil =>
    rw [prefs_run p _ _ n.size (fun j h1 h2 => by
      rw [hp, jl_append, jl_one, List.getElem?_append_right (by omega)]
      obtain ⟨k, rfl⟩ : ∃ k, j = (jl d).length + (k + 1) := ⟨j - (jl d).length - 1, by omega⟩
      rw [Nat.add_sub_cancel_left, List.getElem?_cons_succ]
      exact (h n (by simp)).at k) (by omega)]
    simp [jl_nil, prefs, heads]
  | cons m ms ih =>
    rw [prefs_run p _ _ n.size (fun j h1 h2 => by
      rw [hp, jl_append, jl_cons, List.getElem?_append_right (by omega)]
      obtain ⟨k, rfl⟩ : ∃ k, j = (jl d).length + (k + 1) := ⟨j - (jl d).length - 1, by omega⟩
      rw [Nat.add_sub_cancel_left, List.cons_append, List.getElem?_cons_succ, List.getElem?_append_left (by have : n.data.toList.length = n.size := Array.length_toList; omega)]
      exact (h n (by simp)).at k) (by omega)]
    have e1 : n.size + (jl (m :: ms)).length - n.size = (m.size + (jl ms).length) + 1 := by
      rw [jl_cons]; have : m.data.toList.length = m.size := Array.length_toList
      simp only [List.length_append, List.length_cons]; omega
    have e2 : (jl d).length + 1 + n.size = (jl (d ++ [n])).length := by
      rw [jl_append, jl_one]; have : n.data.toList.length = n.size := Array.length_toList
      simp only [List.length_append, List.length_cons]; omega
    have e3 : p.data.toList = jl (d ++ [n]) ++ jl (m :: ms) := by rw [hp, ← jl_append]; simp
    rw [e1, e2, prefs, if_pos (by rw [e3, List.getElem?_append_right (Nat.le_refl _), jl_cons]; simp)]
    have e4 : p.extract 0 (jl (d ++ [n])).length = jn (d ++ [n]) := bytes_eq (by rw [Lib.extract_data, e3, jn_data]; simp)
    rw [e4, ih (d ++ [n]) m (fun x hx => h x (List.mem_cons_of_mem _ hx)) (by rw [hp]; simp)]
    simp [heads]
theorem prefs_jn {ns : List ByteArray} (h : Nms ns) (hne : ns ≠ []) : prefs (jn ns) ((jn ns).size - 1) 1 = (heads [] ns).map jn := by
  cases ns with
  | nil => exact absurd rfl hne
  | cons n ns =>
    rw [← prefs_jl [] n ns (fun m hm => okName_nosl (h m hm)) (jn (n :: ns)) (by rw [jn_data]; rfl)]
    have : n.data.toList.length = n.size := Array.length_toList
    rw [jn_size, jl_cons]
    simp only [jl_nil, List.length_append, List.length_cons, List.length_nil, this]; congr 1; omega
theorem extract_eq_take (p : ByteArray) (k : Nat) : (p.extract 0 k).data.toList = p.data.toList.take k := by rw [Lib.extract_data]; simp
/-- One path begins with another one and a slash. -/
theorem begins_jn {x a : List ByteArray} (hx : Nms x) (ha : Nms a) : beginsB (jn x) (jn a) = true ↔ ∃ r, r ≠ [] ∧ x = a ++ r := by
  unfold beginsB
  simp only [Bool.and_eq_true, decide_eq_true_eq, beq_iff_eq]
  rw [ByteArray.toList_eq, extract_eq_take, jn_toList, jn_data, jn_size, jn_size]
  constructor
  · rintro ⟨⟨h1, h2⟩, h3⟩
    have hx2 : ∀ (x a : List ByteArray), (∀ n ∈ x, NoSl n) → (∀ n ∈ a, NoSl n) → (jl a).length < (jl x).length → (jl x).take (jl a).length = jl a → (jl x)[(jl a).length]? = some 47 → ∃ r, r ≠ [] ∧ x = a ++ r := by
      intro x a
      induction a generalizing x with
      | nil => intro _ _ hl _ _; exact ⟨x, fun e => by rw [e] at hl; simp [jl_nil] at hl, rfl⟩
      | cons n a ih =>
        intro hx ha hl ht hg
        cases x with
        | nil => simp [jl_nil] at hl
        | cons m x =>
          rw [jl_cons, jl_cons] at ht hl hg
          have hmn : m.data.toList = n.data.toList := by
            -- both without a slash, each with a slash or the end behind
            have e1 : jl (m :: x) = jl (n :: a) ++ (jl (m :: x)).drop (jl (n :: a)).length := by
              have := (List.take_append_drop (jl (n :: a)).length (jl (m :: x))).symm
              rw [jl_cons, jl_cons] at this ⊢
              rw [ht] at this
              exact this
            obtain ⟨t, ht2⟩ : ∃ t, (jl (m :: x)).drop (jl (n :: a)).length = 47 :: t := by
              have h5 : (jl (m :: x))[(jl (n :: a)).length]? = some 47 := by rw [jl_cons, jl_cons]; exact hg
              obtain ⟨hl5, e5⟩ := List.getElem?_eq_some_iff.1 h5
              exact ⟨_, by rw [List.drop_eq_getElem_cons hl5, e5]⟩
            rw [ht2, jl_cons, jl_cons] at e1
            have e2 : m.data.toList ++ jl x = n.data.toList ++ (jl a ++ 47 :: t) := by simpa using e1
            have hs : ∀ l : List ByteArray, jl l = [] ∨ ∃ t, jl l = 47 :: t := fun l => by
              cases l with
              | nil => exact .inl rfl
              | cons x l => exact .inr ⟨_, by rw [jl_cons]; rfl⟩
            have hs2 : ∃ t', jl a ++ 47 :: t = 47 :: t' := by
              rcases hs a with e | ⟨t', e⟩
              · exact ⟨t, by rw [e]; rfl⟩
              · exact ⟨t' ++ 47 :: t, by rw [e]; rfl⟩
            have key : ∀ (p q : List UInt8) (u v : List UInt8), (47 : UInt8) ∉ p → (47 : UInt8) ∉ q → (u = [] ∨ ∃ t, u = 47 :: t) → (∃ t, v = 47 :: t) → p ++ u = q ++ v → p = q := by
              intro p
              induction p with
              | nil =>
                intro q u v _ hq hu hv e
                cases q with
                | nil => rfl
                | cons c q =>
                  rcases hu with rfl | ⟨t, rfl⟩
                  · simp at e
                  · simp at e; exact absurd (by simp [e.1]) hq
              | cons c p ihp =>
                intro q u v hp hq hu hv e
                cases q with
                | nil =>
                  obtain ⟨t, rfl⟩ := hv
                  simp at e; exact absurd (by simp [e.1]) hp
                | cons d q =>
                  simp only [List.cons_append, List.cons.injEq] at e
                  rw [e.1, ihp q u v (fun h => hp (List.mem_cons_of_mem _ h)) (fun h => hq (List.mem_cons_of_mem _ h)) hu hv e.2]
            exact key _ _ _ _ (hx m (by simp)) (ha n (by simp)) (hs x) hs2 e2
          have hsz : m.data.toList.length = n.data.toList.length := by rw [hmn]
          obtain ⟨r, hr, e⟩ := ih x (fun y hy => hx y (by simp [hy])) (fun y hy => ha y (by simp [hy])) (by simp only [List.cons_append, List.length_cons, List.length_append] at hl; omega)
            (by
              simp only [List.cons_append, List.length_cons, List.length_append, List.take_succ_cons, List.cons.injEq, true_and] at ht
              rw [hmn, List.take_append, List.take_of_length_le (by omega), Nat.add_sub_cancel_left] at ht
              exact List.append_cancel_left ht)
            (by
              simp only [List.cons_append, List.length_cons, List.length_append, List.getElem?_cons_succ] at hg
              rw [List.getElem?_append_right (by omega), hsz, Nat.add_sub_cancel_left] at hg
              exact hg)
          exact ⟨r, hr, by rw [bytes_eq hmn, e]; rfl⟩
    exact hx2 x a hx.nosl ha.nosl h1 h2 h3
  · rintro ⟨r, hr, rfl⟩
    rw [jl_append]
    cases r with
    | nil => exact absurd rfl hr
    | cons n r =>
      rw [jl_cons]
      refine ⟨⟨?_, ?_⟩, ?_⟩
      · simp only [List.length_append, List.length_cons]; omega
      · simp
      · simp
end Go.Proofs.YtfabjhgkigagpaaGreatDoor
namespace Go.Proofs.YtfabjhgkigagpaaGreatDoor
open Go.RowKit

set_option maxHeartbeats 1000000
set_option maxRecDepth 100000
/-- All entries: the names that lead to each, and what it is. -/
abbrev Gh := List (List ByteArray × VS)
def nodeV (ρ : Int → Nat) (u : VS) : Int := if u.p.isSome = true then -1 else (ρ u.f : Int)
def vw (ρ : Int → Nat) (x : List ByteArray × VS) : ByteArray × Int := (jn x.1, nodeV ρ x.2)
def atG (G : Gh) (ns : List ByteArray) : Option VS := (G.find? (fun x => decide (x.1 = ns))).map (·.2)
/-- All names are names, none is empty, none is too deep, none stands twice. -/
structure GOk (G : Gh) : Prop where
  nms : ∀ x ∈ G, Nms x.1
  ne : ∀ x ∈ G, x.1 ≠ []
  le : ∀ x ∈ G, x.1.length ≤ 6
  nd : (G.map (·.1)).Nodup
  up : ∀ ns n u, (ns ++ [n], u) ∈ G → ns = [] ∨ ∃ v, (ns, v) ∈ G ∧ v.p.isSome = true
theorem nodeV_neg (ρ : Int → Nat) (u : VS) : nodeV ρ u < 0 ↔ u.p.isSome = true := by
  unfold nodeV
  by_cases h : u.p.isSome = true
  · simp [h]
  · simp only [h, Bool.false_eq_true, if_false, iff_false]; omega
theorem find_map {α β : Type} (f : α → β) (p : β → Bool) (q : α → Bool) : ∀ (l : List α), (∀ x ∈ l, p (f x) = q x) → (l.map f).find? p = (l.find? q).map f
  | [], _ => rfl
  | a :: l, h => by
    rw [List.map_cons, List.find?_cons, List.find?_cons, h a (by simp), find_map f p q l (fun x hx => h x (by simp [hx]))]
    cases q a <;> rfl
theorem look_vw {G : Gh} (h : GOk G) (ρ : Int → Nat) {ns : List ByteArray} (hn : Nms ns) : look (G.map (vw ρ)) (jn ns) = (atG G ns).map (nodeV ρ) := by
  unfold look atG
  rw [find_map (vw ρ) _ (fun x => decide (x.1 = ns)) G (fun x hx => by
    rw [decide_eq_decide]
    exact ⟨fun e => jn_inj (h.nms x hx) hn e, fun e => by show jn x.1 = _; rw [e]⟩)]
  cases G.find? (fun x => decide (x.1 = ns)) <;> rfl
/-- The errors ahead of the last name. -/
def ahG (G : Gh) : List (List ByteArray) → Int
  | [] => 0
  | q :: r => match atG G q with
    | none => 3
    | some u => if u.p.isSome = true then ahG G r else 4
theorem ahead_vw {G : Gh} (h : GOk G) (ρ : Int → Nat) : ∀ (qs : List (List ByteArray)), (∀ q ∈ qs, Nms q) → aheadP (G.map (vw ρ)) (qs.map jn) = ahG G qs
  | [], _ => rfl
  | q :: r, hq => by
    rw [List.map_cons, aheadP, ahG, look_vw h ρ (hq q (by simp)), ahead_vw h ρ r (fun x hx => hq x (by simp [hx]))]
    cases atG G q with
    | none => rfl
    | some u =>
      simp only [Option.map_some]
      by_cases hu : u.p.isSome = true
      · rw [if_pos hu, if_neg (by have := (nodeV_neg ρ u).2 hu; omega)]
      · rw [if_neg hu, if_pos (by rcases Int.lt_or_le (nodeV ρ u) 0 with h | h; exact absurd ((nodeV_neg ρ u).1 h) hu; exact h)]
theorem heads_nms : ∀ (d ns : List ByteArray), Nms (d ++ ns) → ∀ q ∈ heads d ns, Nms q
  | d, [], _, q, hq => by simp [heads] at hq
  | d, [n], _, q, hq => by simp [heads] at hq
  | d, n :: m :: ns, h, q, hq => by
    rw [heads] at hq
    rcases List.mem_cons.1 hq with rfl | hq
    · exact Nms.left (b := m :: ns) (by rw [List.append_assoc]; exact h)
    · exact heads_nms (d ++ [n]) (m :: ns) (by rw [List.append_assoc]; exact h) q hq
theorem aheadR_vw {G : Gh} (h : GOk G) (ρ : Int → Nat) {ns : List ByteArray} (hn : Nms ns) (hne : ns ≠ []) : aheadR (G.map (vw ρ)) (jn ns) = ahG G (heads [] ns) := by
  unfold aheadR
  rw [prefs_jn hn hne, ahead_vw h ρ _ (heads_nms [] ns hn)]
theorem aheadR_root (L : List (ByteArray × Int)) (p : ByteArray) (hr : (p.toList == [47]) = true) : aheadR L p = 0 := by
  have h1 : p.toList = [47] := by simpa using hr
  have : p.size = 1 := by
    have h2 : p.toList.length = p.size := by rw [ByteArray.toList_eq]; exact Array.length_toList
    rw [h1] at h2; simpa using h2.symm
  unfold aheadR
  rw [this]; rfl
theorem atG_mem {G : Gh} {ns : List ByteArray} {u : VS} (h : atG G ns = some u) : (ns, u) ∈ G := by
  unfold atG at h
  cases hf : G.find? (fun x => decide (x.1 = ns)) with
  | none => rw [hf] at h; cases h
  | some x =>
    rw [hf] at h
    have h1 := List.mem_of_find?_eq_some hf
    have h2 := List.find?_some hf
    simp at h h2
    rw [← h, ← h2]; exact h1
theorem nodup_fst {α β : Type} {G : List (α × β)} (h : (G.map (·.1)).Nodup) {a : α} {u v : β} (hu : (a, u) ∈ G) (hv : (a, v) ∈ G) : u = v := by
  induction G with
  | nil => cases hu
  | cons x G ih =>
    rw [List.map_cons, List.nodup_cons] at h
    rcases List.mem_cons.1 hu with e1 | h1
    · rcases List.mem_cons.1 hv with e2 | h2
      · rw [← e1] at e2; exact (Prod.mk.inj e2).2.symm
      · exact absurd (List.mem_map_of_mem (f := (·.1)) h2) (by rw [← e1] at h; exact h.1)
    · rcases List.mem_cons.1 hv with e2 | h2
      · exact absurd (List.mem_map_of_mem (f := (·.1)) h1) (by rw [← e2] at h; exact h.1)
      · exact ih h.2 h1 h2
theorem atG_of_mem {G : Gh} (h : (G.map (·.1)).Nodup) {ns : List ByteArray} {u : VS} (hm : (ns, u) ∈ G) : atG G ns = some u := by
  cases ha : atG G ns with
  | none =>
    unfold atG at ha
    rw [Option.map_eq_none_iff, List.find?_eq_none] at ha
    exact absurd (by simp : decide ((ns, u).1 = ns) = true) (ha _ hm)
  | some v => rw [nodup_fst h hm (atG_mem ha)]
theorem atG_none {G : Gh} {ns : List ByteArray} (h : atG G ns = none) (u : VS) : (ns, u) ∉ G := fun hm => by
  unfold atG at h
  rw [Option.map_eq_none_iff, List.find?_eq_none] at h
  exact absurd (by simp : decide ((ns, u).1 = ns) = true) (h _ hm)
/-- What stands in a directory. -/
def qIn (ns : List ByteArray) (x : List ByteArray × VS) : Bool := decide (x.1.dropLast = ns)
theorem split_last {ns : List ByteArray} (h : ns ≠ []) : ∃ d n, ns = d ++ [n] := ⟨ns.dropLast, ns.getLast h, (List.dropLast_concat_getLast h).symm⟩
theorem countP_map' {α β : Type} (f : α → β) (p : β → Bool) (q : α → Bool) : ∀ (l : List α), (∀ x ∈ l, p (f x) = q x) → (l.map f).countP p = l.countP q
  | [], _ => rfl
  | a :: l, h => by
    rw [List.map_cons, List.countP_cons, List.countP_cons, h a (by simp), countP_map' f p q l (fun x hx => h x (by simp [hx]))]
theorem dir_vw {G : Gh} (h : GOk G) (ρ : Int → Nat) {ns : List ByteArray} (hn : Nms ns) : (G.map (vw ρ)).countP (qDir (jn ns)) = G.countP (qIn ns) :=
  countP_map' _ _ _ G (fun x hx => by
    obtain ⟨d, n, e⟩ := split_last (h.ne x hx)
    have hx1 := h.nms x hx
    unfold qDir qIn vw
    rw [e] at hx1 ⊢
    rw [dirOf_jn d n (okName_nosl (hx1 n (by simp))), List.dropLast_concat]
    rw [Bool.eq_iff_iff, beq_iff_eq, decide_eq_true_eq, jn_toList, jn_toList]
    exact ⟨fun e => jn_inj_aux _ _ hx1.left.nosl hn.nosl e, fun e => by rw [e]⟩)
theorem dirs_vw (G : Gh) (ρ : Int → Nat) : (G.map (vw ρ)).countP qD = G.countP (fun x => x.2.p.isSome) :=
  countP_map' _ _ _ G (fun x _ => by
    unfold qD vw
    rw [Bool.eq_iff_iff, decide_eq_true_eq]
    exact nodeV_neg ρ x.2)
/-- A directory's entries by name, as they lie in memory, against the list. -/
def EnOk (G : Gh) (ns : List ByteArray) (es : List (ByteArray × VS)) : Prop := ∀ n u, (n, u) ∈ es ↔ (ns ++ [n], u) ∈ G
theorem ltS_irr (a : ByteArray) : ltS a a = false := by
  unfold ltS
  cases h : Op.bytesLess a.toList a.toList with
  | false => rfl
  | true =>
    have : ∀ l : List UInt8, Op.bytesLess l l = false := by
      intro l
      induction l with
      | nil => rfl
      | cons c l ih => simp [Op.bytesLess, ih]
    rw [this] at h; cases h
theorem SrtS.nodup {es : List (ByteArray × VS)} (h : SrtS es) : (es.map (·.1)).Nodup := by
  unfold List.Nodup
  rw [List.pairwise_iff_getElem]
  intro i j hi hj hij e
  have hj' : j < es.length := by simpa using hj
  have hi' : i < es.length := by simpa using hi
  rw [List.getElem_map, List.getElem_map] at e
  have := h i j es[i] es[j] hij (List.getElem?_eq_getElem _) (List.getElem?_eq_getElem _)
  rw [e, ltS_irr] at this; cases this
theorem length_of_nodup {α : Type} {a b : List α} (ha : a.Nodup) (hb : b.Nodup) (h : ∀ x, x ∈ a ↔ x ∈ b) : a.length = b.length := ((List.perm_ext_iff_of_nodup ha hb).2 h).length_eq
theorem nodup_of_fst {α β : Type} {G : List (α × β)} (h : (G.map (·.1)).Nodup) : G.Nodup := by
  induction G with
  | nil => exact List.nodup_nil
  | cons x G ih =>
    rw [List.map_cons, List.nodup_cons] at h
    exact List.nodup_cons.2 ⟨fun hm => h.1 (List.mem_map_of_mem (f := (·.1)) hm), ih h.2⟩
theorem nodup_map_inj {α β : Type} (f : α → β) {l : List α} (h : l.Nodup) (hf : ∀ x ∈ l, ∀ y ∈ l, f x = f y → x = y) : (l.map f).Nodup := by
  induction l with
  | nil => exact List.nodup_nil
  | cons a l ih =>
    rw [List.nodup_cons] at h
    rw [List.map_cons, List.nodup_cons]
    refine ⟨fun hm => ?_, ih h.2 (fun x hx y hy => hf x (by simp [hx]) y (by simp [hy]))⟩
    obtain ⟨b, hb, e⟩ := List.mem_map.1 hm
    have := hf b (by simp [hb]) a (by simp) e
    rw [this] at hb; exact h.1 hb
theorem EnOk.length {G : Gh} {ns : List ByteArray} {es : List (ByteArray × VS)} (hG : GOk G) (hs : SrtS es) (h : EnOk G ns es) : es.length = G.countP (qIn ns) := by
  have h1 : (es.map (fun x => (ns ++ [x.1], x.2))).Nodup := nodup_map_inj _ (nodup_of_fst hs.nodup) (fun x _ y _ e => by
    obtain ⟨e1, e2⟩ := Prod.mk.inj e
    have e1' : x.1 = y.1 := by simpa using e1
    exact Prod.ext e1' e2)
  have h2 : (G.filter (qIn ns)).Nodup := (nodup_of_fst hG.nd).filter _
  rw [List.countP_eq_length_filter, ← length_of_nodup h1 h2, List.length_map]
  intro x
  rw [List.mem_map, List.mem_filter]
  constructor
  · rintro ⟨y, hy, rfl⟩
    exact ⟨(h y.1 y.2).1 hy, by simp [qIn]⟩
  · rintro ⟨hx, hq⟩
    obtain ⟨d, n, e⟩ := split_last (hG.ne x hx)
    unfold qIn at hq
    rw [e, List.dropLast_concat, decide_eq_true_eq] at hq
    obtain rfl := hq
    refine ⟨(n, x.2), (h n x.2).2 (by rw [← e]; exact hx), by rw [← e]⟩
end Go.Proofs.YtfabjhgkigagpaaGreatDoor
