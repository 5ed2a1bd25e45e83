/- Files: a Write beside the row that is handed in: no file's bytes lie in it. Files: the law's write; step 2. Files: a step of the law, whatever its kind, but for List, whose law is a premise here (to be discharged). Files: the law's held, List's law as a premise. -/
import Derived.Test.YtfabjhgkigagpaaGreatDoorPBE
import Derived.Lib.BufferWrite
import Derived.Laws.CopyOwn
namespace Go.Proofs.YtfabjhgkigagpaaGreatDoor
open Go.RowKit

set_option maxHeartbeats 1000000
set_option maxRecDepth 100000
/-- As Md, and no file's bytes lie in block B. -/
def MdN (w : World) (vb tb rb : Nat) (L : List (ByteArray × Int)) (F : List ByteArray) (L' : List (ByteArray × Int)) (F' : List ByteArray) (B : Nat) : Prop :=
  ∃ G I C ρ vl vf, VolW w vb tb ∧ PS w tb G I C ∧ RefL w tb rb vl vf L F ∧ Rl G I C ρ L' F' ∧ cD G [] + I.length ≤ 60 ∧ ∀ x ∈ I, ∀ g, x.2.a = some g → g.block ≠ B
section
variable {w w' : World} {vb tb rb B : Nat} {L L' L1 : List (ByteArray × Int)} {F F' F1 : List ByteArray} {G G' : Gh} {I I' : List (Int × VF)} {C C' : Int → ByteArray} {ρ ρ' : Int → Nat} {vl vf : Value}
theorem MdN.md (h : MdN w vb tb rb L F L' F' B) : Md w vb tb rb L F L' F' := by
  obtain ⟨G, I, C, ρ, vl, vf, hv, hps, hrf, hrl, hn, _⟩ := h
  exact ⟨G, I, C, ρ, vl, vf, hv, hps, hrf, hrl, hn⟩
theorem MdN.prog (hv : VolW w vb tb) (hrf : RefL w tb rb vl vf L F) (hf : Fr (ProgT tb w) w w') (hps : PS w' tb G' I' C') (hrl : Rl G' I' C' ρ' L' F') (hn : cD G' [] + I'.length ≤ 60) (hN : ∀ x ∈ I', ∀ g, x.2.a = some g → g.block ≠ B) : Fr (JT tb w) w w' ∧ MdN w' vb tb rb L F L' F' B := by
  obtain ⟨h1, _⟩ := Md.prog hv hrf hf hps hrl hn
  refine ⟨h1, G', I', C', ρ', vl, vf, RowIs.jt hv h1 (by decide), hps, ?_, hrl, hn, hN⟩
  refine ⟨hrf.fr hf (fun k hk ⟨⟨t, R, hR, ht⟩, _⟩ => ?_), hrf.lo⟩
  obtain ⟨t', R', hR', ht'⟩ := refOwn_type hrf.toRefW hk
  have := hR.type hR'
  subst this
  rcases ht' with rfl | rfl | rfl <;> revert ht <;> decide
theorem MdN.ref (h : MdN w vb tb rb L F L' F' B) {f : FuncId} {args : Array Value} {v : Value} (hc : ∀ vl vf, RefW w rb vl vf L F → Calls Tryz.prog f args w fun e w' => e = .returned v ∧ RefPost w rb vl vf w' L1 F1) :
    Calls Tryz.prog f args w fun e w' => e = .returned v ∧ Fr (JT tb w) w w' ∧ MdN w' vb tb rb L1 F1 L' F' B := by
  obtain ⟨G, I, C, ρ, vl, vf, hv, hps, hrf, hrl, hn, hN⟩ := h
  refine (hc vl vf hrf.toRefW).mono (fun e w' hq => ⟨hq.1, ?_⟩)
  obtain ⟨vl', vf', h1, hf, h3⟩ := hq.2
  have hty : ∀ k t R, RefOwn rb vl vf k → RowIs w k t R → t = 69 ∨ t = 81 ∨ t = 9 := fun k t R hk hR => by
    obtain ⟨t', R', hR', ht'⟩ := refOwn_type hrf.toRefW hk
    have := hR.type hR'
    subst this
    exact ht'
  have hj := (Md.ref hv hps hrf hrl hn hq.2).1
  refine ⟨hj, G, I, C, ρ, vl', vf', RowIs.jt hv hj (by decide), ?_, ⟨h1, fun k hk => (h3 k hk).elim (hrf.lo k) (fun h => by have := hrf.hd.lt; have := hrf.lo rb (.inl rfl); omega)⟩, hrl, hn, hN⟩
  refine hps.fr hf (fun hk => ?_) (fun k t R hk hR => ?_)
  · obtain ⟨t, R, hR, ht⟩ := refOwn_type hrf.toRefW hk
    obtain ⟨rd, V, E, vi, h⟩ := hps
    have := h.pk.2 t R hR
    subst this
    revert ht; decide
  · rcases hty k t R hk hR with rfl | rfl | rfl <;> decide
theorem Md.fresh (h : Md w vb tb rb L F L' F') (hB : w.heap.size ≤ B) : MdN w vb tb rb L F L' F' B := by
  obtain ⟨G, I, C, ρ, vl, vf, hv, hps, hrf, hrl, hn⟩ := h
  refine ⟨G, I, C, ρ, vl, vf, hv, hps, hrf, hrl, hn, fun x hx g hg => ?_⟩
  obtain ⟨rd, V, E, vi, h⟩ := hps
  rcases (h.dat x hx).2 with ⟨e, _⟩ | ⟨g', cap, R, e, hr, _⟩
  · simp only [Value.slice.injEq] at e; rw [hg] at e; exact absurd e.1 (by simp)
  · simp only [Value.slice.injEq] at e
    rw [hg] at e
    have e1 : g = ⟨g', 0, none⟩ := Option.some.inj e.1
    have := hr.lt
    rw [e1]
    show g' ≠ B
    omega
theorem MdN.below (h : MdN w vb tb rb L F L' F' B) (hb : Below w.heap.size w w') : MdN w' vb tb rb L F L' F' B := by
  obtain ⟨G, I, C, ρ, vl, vf, hv, ⟨rd, V, E, vi, h⟩, hrf, hrl, hn, hN⟩ := h
  exact ⟨G, I, C, ρ, vl, vf, RowIs.jt (tb := tb) hv (Fr.of_below hb) (by decide), ⟨rd, V, E, vi, h.below hb (Nat.le_refl _)⟩, ⟨hrf.fr (X := fun _ => False) (Fr.of_below hb) (fun _ _ => id), hrf.lo⟩, hrl, hn, hN⟩
theorem MdN.setB (h : MdN w vb tb rb L F L' F' B) {R : List Value} (hr : RowIs w B 5 R) (j : Nat) (v : Value) : MdN (w.setCell ⟨B, j, none⟩ v) vb tb rb L F L' F' B := by
  obtain ⟨G, I, C, ρ, vl, vf, hv, ⟨rd, V, E, vi, h⟩, hrf, hrl, hn, hN⟩ := h
  have hf : Fr (fun k => k = B) w (w.setCell ⟨B, j, none⟩ v) := (Fr.refl _ _).set _ _ rfl
  refine ⟨G, I, C, ρ, vl, vf, RowIs.fr hv hf (fun e => ?_), ⟨rd, V, E, vi, h.pk.fr hf (fun e => ?_), h.t.fr hf (fun e => ?_), h.d.fr hf (fun k t R' e hR => ?_), h.i.fr hf (fun g hg e => ?_), h.si, fun x hx => (h.dat x hx).fr hf (fun g hg e => ?_), h.lo⟩, ⟨hrf.fr hf (fun k hk e => ?_), hrf.lo⟩, hrl, hn, hN⟩
  · subst e; have := hr.type hv; revert this; decide
  · subst e; have := h.pk.2 _ _ hr; revert this; decide
  · subst e; have := hr.type h.t; revert this; decide
  · subst e; have := hr.type hR; subst this; decide
  · subst e; obtain ⟨R', hR'⟩ := h.i.type hg; have := hr.type hR'; revert this; decide
  · subst e
    cases ha : x.2.a with
    | none => rw [ha] at hg; simp [Value.ownBlock] at hg
    | some y =>
      rw [ha] at hg
      refine hN x hx y ha ?_
      simpa [Value.ownBlock] using hg
  · subst e
    obtain ⟨t, R', hR', ht⟩ := refOwn_type hrf.toRefW hk
    have := hr.type hR'
    subst this
    revert ht; decide
end
section
variable {w : World} {vb tb rb : Nat} {L : List (ByteArray × Int)} {F : List ByteArray}
theorem writeJN {B : Nat} (h : MdN w vb tb rb L F L F B) (hB : B < w.heap.size) (p : ByteArray) (hp : p.size ≤ 2000000) (i : Int) (d : ByteArray) (hds : d.size ≤ 2000000) (ad : Option Addr) (cd : Nat) (hd : Sl w 5 1 (.slice ad d.size cd) d.size (bytesV d)) :
    Calls Tryz.prog 16 #[.pointer (some ⟨vb, 0, none⟩), .string p, .int .i64 i, .slice ad d.size cd] w fun e w' => e = .returned (.int .i64 (writeR L F p i d).1) ∧ Fr (JT tb w) w w' ∧ MdN w' vb tb rb L F (writeR L F p i d).2.1 (writeR L F p i d).2.2 B := by
  obtain ⟨G, I, C, ρ, vl, vf, hv, hps, hrf, hrl, hn, hN⟩ := h
  have hlG := hrl.lG
  have hlI := hrl.lI
  have hC := hrl.C_le
  have hll : ∀ x ∈ I, x.2.l ≤ 2000000 := fun x hx => by rw [hrl.l_eq x hx]; have := hC x hx; omega
  refine (writeV w vb tb hv p i _ (WrPost w tb G I C p i d) (fun e w' hq => ?_) (writeT_code w tb G I C hps hrl.ok (by omega) (by omega) hrl.pos hrl.flOk hll hC p hp i d hds ad cd hd)).mono ?_
  · rcases hq with ⟨_, he, _⟩ | ⟨_, ⟨u, r, a, c, _, _, _, _, _, I', _, ⟨he, _⟩ | ⟨he, _⟩⟩ | ⟨_, _, f, I1, I2, a, c, _, _, _, _, _, _, ⟨he, _⟩ | ⟨he, _⟩⟩⟩
    · exact ⟨_, he⟩
    · exact ⟨_, he⟩
    · exact ⟨_, he⟩
    · exact ⟨_, he⟩
    · exact ⟨_, he⟩
  intro e w' hq
  obtain ⟨e1, e2⟩ := hrl.writeE p i d
  rcases hq with ⟨hne, rfl, hf, hps'⟩ | ⟨hz, ⟨u, r, a, c, hat, hu, hin, hna, hf, I', hio, hc⟩ | ⟨hat, hf, f, I1, I2, a, c, hna, hfl, hfn, hl1, hm1, hio, hc⟩⟩
  · obtain ⟨e3, e4⟩ := e1 hne
    rw [e4]
    exact ⟨by rw [e3], MdN.prog hv hrf hf hps' hrl hn hN⟩
  · have hfit := wrE_fits hz
    have hr2 := hrl.filled hin (s := ovR (C u.f) i d) (ovR_le hfit (hC _ hin)) hio
    have hus := hr2.num.usage
    rw [← use_eq] at hus
    rw [(e2 hz).1 u hat hu]
    unfold writeEnd
    rw [← hus]
    rcases hc with ⟨rfl, hgt, I'', hps', hl, hm⟩ | ⟨rfl, hle, hps'⟩
    · rw [if_pos hgt]
      refine ⟨rfl, MdN.prog hv hrf hf hps' (hrl.congrI hl hm hps'.ndI (fun _ _ => rfl)) (by omega) (fun x hx => hN x ((hm x).1 hx))⟩
    · rw [if_neg (by omega)]
      refine ⟨rfl, MdN.prog hv hrf hf hps' hr2 (by rw [hio.1]; exact hn) (fun x hx => ?_)⟩
      rcases (hio.2 x).1 hx with rfl | ⟨hx, _⟩
      · intro g hg
        rcases hna with e | e
        · exact hN _ hin g (e ▸ hg)
        · have := e g hg; omega
      · exact hN x hx
  · have hfit := wrE_fits hz
    obtain ⟨e4, a1, a2, a3, a4⟩ := (e2 hz).2 hat
    have hs0 := ovR_le (s := ⟨#[]⟩) hfit (by simp [ByteArray.size])
    have hus : ∀ C2 : Int → ByteArray, C2 f = ovR ⟨#[]⟩ i d → (∀ x ∈ I, C2 x.1 = C x.1) → useU (I2.map (·.2.l)) = usageR (L ++ [(p, (F.length : Int))]) (F ++ [ovR ⟨#[]⟩ i d]) := fun C2 h1 h2 => by
      rw [use_eq]; exact (hrl.made a1 a2 hat a3 a4 hfn hl1 hm1 hs0 hio h1 h2).num.usage
    have hus2 := hus (fun k => if k = (f : Int) then ovR ⟨#[]⟩ i d else C k) (by simp) (fun x hx => by simp [hfn x hx])
    rw [e4]
    unfold writeEnd
    rw [← hus2]
    rcases hc with ⟨rfl, hgt, I3, C3, hps', hl, hm, hC3⟩ | ⟨rfl, hle, C2, hps', hc2, hcx⟩
    · rw [if_pos hgt]
      refine ⟨rfl, MdN.prog hv hrf hf hps' (hrl.congrI hl hm hps'.ndI hC3) (by omega) (fun x hx => hN x ((hm x).1 hx))⟩
    · rw [if_neg (by omega)]
      have hr2 := hrl.made a1 a2 hat a3 a4 hfn hl1 hm1 hs0 hio hc2 hcx
      refine ⟨rfl, MdN.prog hv hrf hf hps' hr2 ?_ (fun x hx => ?_)⟩
      · unfold mayB at a4
        have hm' := of_decide_eq_true a4
        rw [cD_root hr2.ok, List.countP_append, hio.1, hl1]
        rw [cD_root hrl.ok] at hm'
        simp
        omega
      · rcases (hio.2 x).1 hx with rfl | ⟨hx, hxf⟩
        · intro g hg
          rcases hna with e | e
          · simp only at hg; rw [e] at hg; cases hg
          · have := e g hg; omega
        · rcases (hm1 x).1 hx with rfl | hx
          · exact absurd rfl hxf
          · exact hN x hx
end
end Go.Proofs.YtfabjhgkigagpaaGreatDoor
namespace Go.Proofs.YtfabjhgkigagpaaGreatDoor
open Go.RowKit

set_option maxHeartbeats 1000000
set_option maxRecDepth 100000
abbrev v77 : Value := .int .u8 77
/-- The bytes, and what lies behind them, j of it written. -/
def rowJ (u : ByteArray) (j : Nat) : List Value := bytesV u ++ (List.replicate j v77 ++ List.replicate (8 - j) (.int .u8 0))
theorem rowJ_length (u : ByteArray) {j : Nat} (h : j ≤ 8) : (rowJ u j).length = u.size + 8 := by
  unfold rowJ
  simp [bytesV_length]
  omega
theorem rowJ_set (u : ByteArray) {j : Nat} (h : j < 8) : (rowJ u j).set (u.size + j) v77 = rowJ u (j + 1) := by
  unfold rowJ
  rw [List.set_append_right _ _ (by rw [bytesV_length]; omega), bytesV_length, Nat.add_sub_cancel_left, List.set_append_right _ _ (by simp), List.length_replicate, Nat.sub_self,
    show 8 - j = (8 - (j + 1)) + 1 by omega, List.replicate_succ, List.set_cons_zero, List.replicate_succ', List.append_assoc]
  rfl
/-- All up to j is written over. -/
def rowK (u : ByteArray) (j : Nat) : List Value := List.replicate j v77 ++ (rowJ u 8).drop j
theorem rowK_length (u : ByteArray) {j : Nat} (h : j ≤ u.size + 8) : (rowK u j).length = u.size + 8 := by
  unfold rowK
  rw [List.length_append, List.length_replicate, List.length_drop, rowJ_length u (Nat.le_refl _)]
  omega
theorem rowK_set (u : ByteArray) {j : Nat} (h : j < u.size + 8) : (rowK u j).set j v77 = rowK u (j + 1) := by
  unfold rowK
  have hl := rowJ_length u (Nat.le_refl 8)
  rw [List.set_append_right _ _ (by simp), List.length_replicate, Nat.sub_self, List.drop_eq_getElem_cons (by omega), List.set_cons_zero, List.replicate_succ', List.append_assoc]
  rfl
theorem rowK_get (u : ByteArray) {j : Nat} (h1 : u.size ≤ j) (h : j < u.size + 8) : (rowK u j)[j]? = some v77 := by
  unfold rowK
  rw [List.getElem?_append_right (by simp), List.length_replicate, Nat.sub_self, List.getElem?_drop, Nat.add_zero]
  unfold rowJ
  rw [List.getElem?_append_right (by rw [bytesV_length]; exact h1), bytesV_length, List.getElem?_append_left (by simp; omega), List.getElem?_replicate, if_pos (by omega)]
theorem rowJ_sl {W : World} {B N : Nat} {u : ByteArray} (h : RowIs W B 5 (rowJ u 8)) (hu : u.size ≤ 1048576) (hN : N = u.size + 8) : Sl W 5 1 (.slice (some ⟨B, 0, none⟩) u.size N) u.size (bytesV u) := by
  subst hN
  refine ⟨by rw [bytesV_length]; omega, .inr ⟨B, u.size + 8, _, rfl, h, by omega, by unfold maxLen; omega, by rw [rowJ_length u (Nat.le_refl _)]; omega, ?_⟩⟩
  unfold rowJ
  rw [Nat.mul_one, List.take_append_of_le_length (by rw [bytesV_length]; omega), List.take_of_length_le (by rw [bytesV_length]; omega)]
theorem K1.setB {w W : World} {vb tb rb xb ob B : Nat} {kp ep fs : Value} {O : List Value} {L L' : List (ByteArray × Int)} {F F' : List ByteArray} (h : K1 w W vb tb rb xb kp ep fs ob O L F L' F') (hn : MdN W vb tb rb L F L' F' B) {R : List Value} (hr : RowIs W B 5 R) (hB : w.heap.size ≤ B) (j : Nat) (v : Value) : K1 w (W.setCell ⟨B, j, none⟩ v) vb tb rb xb kp ep fs ob O L F L' F' := by
  refine ⟨h.fr.ext ((Below.refl _ _).setCell (p := ⟨B, j, none⟩) hB v), (hn.setB hr j v).md, RowIs.setOther h.x _ _ (fun e => ?_), h.o.setOther _ _ (fun e => ?_)⟩
  · simp only at e; subst e; have := hr.type h.x; revert this; decide
  · simp only at e; subst e; have := hr.type h.o; revert this; decide
theorem write_law (w : World) (vb tb rb xb : Nat) (kp ep fs : Value) (L : List (ByteArray × Int)) (F : List ByteArray) (hx : BothW w xb vb rb kp ep fs) (hm : Md w vb tb rb L F L F) (hF : F.length + 1 ≤ 2000000) (k kk a b : Int) (s t u : ByteArray) (hs : s.size ≤ 1048576) (hu : u.size ≤ 1048576) :
    Calls Tryz.prog 9 #[.pointer (some ⟨xb, 0, none⟩), .agg (opL k kk a b s t u).toArray] w (StepPost w vb tb rb xb kp ep fs (writeR L F s a u).2.1 (writeR L F s a u).2.2) := by
  obtain ⟨i0, hi0, hz0, hz1, hz2⟩ := info_parts info5
  have hjf := hm.jf
  have hk0 := K1.begin hx hm (opL k kk a b s t u)
  obtain ⟨W, hW, -, -, hsz, -⟩ := alloc_name w (opL k kk a b s t u) 36
  rw [hW] at hk0
  obtain ⟨B, hBB⟩ : ∃ B, B = W.heap.size := ⟨_, rfl⟩
  have HA : Hid (∀ W' ad cd, K1 w W' vb tb rb xb kp ep fs w.heap.size (opL k kk a b s t u) L F L F → MdN W' vb tb rb L F L F B → B < W'.heap.size → Sl W' 5 1 (.slice ad u.size cd) u.size (bytesV u) → Calls Tryz.prog 16 #[.pointer (some ⟨vb, 0, none⟩), .string s, .int .i64 a, .slice ad u.size cd] W' fun e w' => e = .returned (.int .i64 (writeR L F s a u).1) ∧ K1 w w' vb tb rb xb kp ep fs w.heap.size (opL k kk a b s t u) L F (writeR L F s a u).2.1 (writeR L F s a u).2.2 ∧ Fr (JT tb W') W' w' ∧ MdN w' vb tb rb L F (writeR L F s a u).2.1 (writeR L F s a u).2.2 B) := fun W' ad cd hk hn hlt hd =>
    (writeJN hn hlt s (by omega) a u (by omega) ad cd hd).mono (fun e w' ⟨h1, h2, h3⟩ => ⟨h1, hk.next' h2 h3.md, h2, h3⟩)
  have HB : Hid (∀ W', K1 w W' vb tb rb xb kp ep fs w.heap.size (opL k kk a b s t u) L F (writeR L F s a u).2.1 (writeR L F s a u).2.2 → MdN W' vb tb rb L F (writeR L F s a u).2.1 (writeR L F s a u).2.2 B → Calls Tryz.prog 41 #[.pointer (some ⟨rb, 0, none⟩), .string s, .int .i64 a, .string u] W' fun e w' => e = .returned (.int .i64 (writeR L F s a u).1) ∧ K1 w w' vb tb rb xb kp ep fs w.heap.size (opL k kk a b s t u) (writeR L F s a u).2.1 (writeR L F s a u).2.2 (writeR L F s a u).2.1 (writeR L F s a u).2.2 ∧ Fr (JT tb W') W' w' ∧ MdN w' vb tb rb (writeR L F s a u).2.1 (writeR L F s a u).2.2 (writeR L F s a u).2.1 (writeR L F s a u).2.2 B) := fun W' hk hn =>
    (hn.ref (fun vl vf hr => write_ref W' rb vl vf L F hr hjf.fv (by have := hjf.len; omega) hF s (by omega) a u (by omega))).mono (fun e w' ⟨h1, h2, h3⟩ => ⟨h1, hk.next h2 h3.md, h2, h3⟩)
  obtain ⟨R, hR⟩ : ∃ R, R = writeR L F s a u := ⟨_, rfl⟩
  rw [← hR] at HA HB ⊢
  clear hR hx hm hjf
  obtain ⟨N, hN⟩ : ∃ N, N = u.size + 8 := ⟨_, rfl⟩
  have hcopy : Hid (∀ W1 : World, W1.ownsRow 0 5 1 (.slice (some ⟨W.heap.size, 0, none⟩) N N) N (madeCells (Value.int .u8 0).cells (N * 1)).toList → W.grownBy W1 none → ∃ W', (Builtin.copy_ #[43, 9] 3 #[.slice (some ⟨W.heap.size, 0, none⟩) N N, .string u]).run Tryz.prog W1 = .ok (goInt u.size) W' ∧ Hid (RowIs W' W.heap.size 5 (rowJ u 0)) ∧ Hid (Below W.heap.size W W')) := by
    subst hN
    intro W1 hown hgr
    have hS := Sl.of_owns hown
    have hb := below_of_grown hgr
    have e1 : (madeCells (Value.int .u8 0).cells ((u.size + 8) * 1)).toList = List.replicate (u.size + 8) (.int .u8 0) := by rw [Nat.mul_one]; exact toList_madeCells_one (.int .u8 0) _
    rw [e1] at hS
    rcases hS.2 with ⟨e, _⟩ | ⟨g, cap, Q, e, hr, h1, h2, h3, h4⟩
    · cases e
    · simp only [Value.slice.injEq, Option.some.injEq, Addr.mk.injEq] at e
      obtain ⟨⟨rfl, -, -⟩, -, rfl⟩ := e
      rw [List.take_of_length_le (by omega)] at h4
      subst h4
      refine ⟨_, Lib.run_copy_row_string W1 43 9 3 5 W.heap.size 0 _ _ u _ 5 Tryz.underlying43 size5 hr (by omega) (by simp), ?_, below_setRow hb (Nat.le_refl _) _⟩
      have := setRow_heap W1 W.heap.size _ (List.take 0 (List.replicate (u.size + 8) (Value.int .u8 0)).toArray.toList ++ Lib.byteCells u.data.toList ++ List.drop (0 + u.size) (List.replicate (u.size + 8) (Value.int .u8 0)).toArray.toList).toArray 5 _ hr
      show RowIs _ _ _ _
      unfold RowIs
      rw [this]
      congr 3
      unfold rowJ bytesV Lib.byteCells
      simp
  have o2 := hk0.o.cell 2
  have o4 := hk0.o.cell 4
  have o6 := hk0.o.cell 6
  have x0 := hk0.c0
  have x1 := hk0.c1
  have HK := hide hk0
  have HSZ := hide hsz
  have HBB := hide hBB
  clear hk0 hsz hBB
  go_enter Tryz.func9, Tryz.ntmps9
  go_upto_region 1 with fail
  clear hW
  have hw8 : IntKind.i64.wrap ((u.size : Int) + 8) = (N : Int) := by rw [IntKind.wrap_i64]; omega
  have HN := hide hN
  have hNb : N ≤ 1048584 := by omega
  clear hN
  go_upto_region 2 with fail
  go_wp2_with (first | (at_make; refine wpList_make_full _ rfl _ _ 43 rfl 0 5 i0 (.int .u8 0) 1 Tryz.underlying43 hi0 hz0 hz1 _ _ _ _ N rfl rfl rfl rfl (by rw [hz2]; omega) (by unfold maxLen; omega) (Nat.zero_le _) ?_; intro w1 hown hgr; obtain ⟨W1, hr1, HP1, HP2⟩ := unhide hcopy w1 hown hgr; have o6' : w1.cell? ⟨w.heap.size, 6, none⟩ = some (.string u) := ((below_of_grown hgr).cell (p := ⟨w.heap.size, 6, none⟩) (by rw [unhide HSZ]; simp)).trans o6; clear hown hgr) | (at_builtin; refine wpList_copy_run _ rfl _ _ 43 9 rfl _ _ rfl rfl hr1 ?_))
  clear hr1 o6' hw8
  go_loopw [7] (fun i wr => ∃ q : Nat, u.size ≤ q ∧ q ≤ N ∧ i = .int .i64 q ∧ Hid (RowIs wr W.heap.size 5 (rowJ u (q - u.size))) ∧ Hid (Below W.heap.size W wr)) (fun i _ => N - (intOf i).toNat)
  case atStart => exact ⟨u.size, Nat.le_refl _, by have := unhide HN; omega, rfl, by rw [Nat.sub_self]; exact HP1, HP2⟩
  case round =>
    obtain ⟨q, hq1, hq2, rfl, HR, HBw⟩ := hrel
    by_cases hlt : q < N
    · obtain ⟨xq, hcq⟩ : ∃ xq, wr.cell? ⟨W.heap.size, q, none⟩ = some xq := ⟨_, ((unhide HR).cell q).trans (List.getElem?_eq_getElem (by rw [rowJ_length u (by have := unhide HN; omega)]; have := unhide HN; omega))⟩
      have hfq := (unhide HR).frozen q
      have HR2 : Hid (RowIs (wr.setCell ⟨W.heap.size, q, none⟩ v77) W.heap.size 5 (rowJ u (q + 1 - u.size))) := by
        have h1 := (unhide HR).set q v77
        have h2 := rowJ_set u (j := q - u.size) (by have := unhide HN; omega)
        rw [show u.size + (q - u.size) = q by omega, show q - u.size + 1 = q + 1 - u.size by omega] at h2
        rw [h2] at h1
        exact h1
      have HB2 : Hid (Below W.heap.size W (wr.setCell ⟨W.heap.size, q, none⟩ v77)) := (unhide HBw).setCell (p := ⟨W.heap.size, q, none⟩) (Nat.le_refl _) _
      go_wp2
      go_roundw
      case rel => first | exact ⟨q + 1, by omega, by omega, by go_num, HR2, HB2⟩ | ((repeat apply Exists.intro); exact ⟨⟨q + 1, by omega, by omega, by go_num, HR2, HB2⟩, rfl⟩)
      case measure => simp [intOf]; omega
    · obtain rfl : q = N := by omega
      have hk3 := (unhide HK).below (unhide HBw)
      have hr3 : RowIs wr W.heap.size 5 (rowJ u 8) := by have h1 := unhide HR; rw [show q - u.size = 8 by have := unhide HN; omega] at h1; exact h1
      have hn3 : MdN wr vb tb rb L F L F B := ((unhide HK).md.fresh (Nat.le_of_eq (unhide HBB).symm)).below (unhide HBw)
      have o2 := hk3.o.cell 2
      have o4 := hk3.o.cell 4
      have o6 := hk3.o.cell 6
      have x0 := hk3.c0
      have x1 := hk3.c1
      have HK3 := hide hk3
      have HR3 := hide hr3
      have HN3 := hide hn3
      clear hk3 hr3 hn3 hlt HR
      go_upto_region 8 with fail
      go_region_held3 (fun W => W.cell? ⟨xb, 0, none⟩ = some (.pointer (some ⟨vb, 0, none⟩)) ∧ W.cell? ⟨w.heap.size, 4, none⟩ = some (.string s) ∧ W.cell? ⟨w.heap.size, 2, none⟩ = some (.int .i64 a)) (go_keep)
        (first | (go_at_call 16; refine (unhide HA _ _ _ ((unhide HK3).below (Below.refl _ _).drew) ((unhide HN3).below (Below.refl _ _).drew) (by rw [unhide HBB]; exact (unhide HR3).lt) (rowJ_sl (W := wr.drew) (unhide HR3) hu (unhide HN))).mono ?_; rintro e w2 ⟨rfl, hk, hf, hn⟩; have m0 := hk.c0; have m1 := hk.c1; have m2 := hk.o.cell 2; have m4 := hk.o.cell 4; have m6 := hk.o.cell 6; have HR4 : Hid (RowIs w2 W.heap.size 5 (rowJ u 8)) := RowIs.jt (W := wr.drew) (unhide HR3) hf (by decide); have HK4 := hide hk; have HN4 := hide hn; clear hk hf hn))
      clear o2 o4 o6 x0 x1
      go_upto_region 9 with fail
      go_region_held3 (fun W => W.cell? ⟨xb, 1, none⟩ = some (.pointer (some ⟨rb, 0, none⟩)) ∧ W.cell? ⟨w.heap.size, 4, none⟩ = some (.string s) ∧ W.cell? ⟨w.heap.size, 2, none⟩ = some (.int .i64 a) ∧ W.cell? ⟨w.heap.size, 6, none⟩ = some (.string u)) (go_keep)
        (first | (go_at_call 41; refine (unhide HB _ ((unhide HK4).below (Below.refl _ _).drew) ((unhide HN4).below (Below.refl _ _).drew)).mono ?_; rintro e w3 ⟨rfl, hk, hf, hn⟩; have n1 := hk.c1; have n2 := hk.o.cell 2; have n4 := hk.o.cell 4; have n6 := hk.o.cell 6; have HR5 : Hid (RowIs w3 W.heap.size 5 (rowJ u 8)) := RowIs.jt (W := w2.drew) (unhide HR4) hf (by decide); have HK5 := hide hk; have HN5 := hide hn; clear hk hf hn))
      clear m0 m1 m2 m4 m6 n1 n2 n4
      have hcv := conv_sl (rowJ_sl (W := w3) (unhide HR5) hu (unhide HN)) rfl
      have hcvd := conv_sl (rowJ_sl (W := w3.drew) (unhide HR5) hu (unhide HN)) rfl
      go_upto_region 10 with fail
      go_region_held3 (fun Y => Y.cell? ⟨w.heap.size, 6, none⟩ = some (.string u) ∧ (convert 43 9 (.slice (some ⟨W.heap.size, 0, none⟩) u.size q)).run Tryz.prog Y = .ok (.string u) Y) (go_keep) (first | fail)
      clear n6 hcv hcvd
      have HR6 : Hid (RowIs w3.drew W.heap.size 5 (rowK u 0)) := unhide HR5
      have HK6 : Hid (K1 w w3.drew vb tb rb xb kp ep fs w.heap.size (opL k kk a b s t u) R.2.1 R.2.2 R.2.1 R.2.2) := (unhide HK5).below (Below.refl _ _).drew
      have HN6 : Hid (MdN w3.drew vb tb rb R.2.1 R.2.2 R.2.1 R.2.2 B) := (unhide HN5).below (Below.refl _ _).drew
      go_wp2_with fail
      go_loopw [11, 10] (fun i bb wq => ∃ q1 : Nat, q1 ≤ q ∧ i = .int .i64 q1 ∧ bb = .bool true ∧ Hid (RowIs wq W.heap.size 5 (rowK u q1)) ∧ Hid (K1 w wq vb tb rb xb kp ep fs w.heap.size (opL k kk a b s t u) R.2.1 R.2.2 R.2.1 R.2.2) ∧ Hid (MdN wq vb tb rb R.2.1 R.2.2 R.2.1 R.2.2 B)) (fun i _ _ => q - (intOf i).toNat)
      case atStart => exact ⟨0, Nat.zero_le _, rfl, rfl, HR6, HK6, HN6⟩
      case round =>
        obtain ⟨q1, hq3, rfl, rfl, HRq, HKq, HNq⟩ := hrel
        by_cases hlt : q1 < q
        · have HR7 : Hid (RowIs (wr.setCell ⟨W.heap.size, q1, none⟩ v77) W.heap.size 5 (rowK u (q1 + 1))) := by
            have h1 := (unhide HRq).set q1 v77
            rw [rowK_set u (by have := unhide HN; omega)] at h1
            exact h1
          have hnq : MdN wr vb tb rb R.2.1 R.2.2 R.2.1 R.2.2 W.heap.size := by have h1 := unhide HNq; rw [unhide HBB] at h1; exact h1
          have HK7 : Hid (K1 w (wr.setCell ⟨W.heap.size, q1, none⟩ v77) vb tb rb xb kp ep fs w.heap.size (opL k kk a b s t u) R.2.1 R.2.2 R.2.1 R.2.2) := (unhide HKq).setB hnq (unhide HRq) (by rw [unhide HSZ]; omega) q1 v77
          have HN7 : Hid (MdN (wr.setCell ⟨W.heap.size, q1, none⟩ v77) vb tb rb R.2.1 R.2.2 R.2.1 R.2.2 B) := by
            show MdN _ _ _ _ _ _ _ _ _
            rw [unhide HBB]; exact hnq.setB (unhide HRq) q1 v77
          have hfq := (unhide HRq).frozen q1
          clear hnq
          by_cases hlu : q1 < u.size
          · obtain ⟨xq, hcq⟩ : ∃ xq, wr.cell? ⟨W.heap.size, q1, none⟩ = some xq := ⟨_, ((unhide HRq).cell q1).trans (List.getElem?_eq_getElem (by rw [rowK_length u (by have := unhide HN; omega)]; have := unhide HN; omega))⟩
            go_wp2
            go_roundw
            case rel => first | exact ⟨q1 + 1, by omega, by go_num, rfl, HR7, HK7, HN7⟩ | ((repeat apply Exists.intro); exact ⟨⟨q1 + 1, by omega, by go_num, rfl, HR7, HK7, HN7⟩, rfl⟩)
            case measure => simp [intOf]; omega
          · have hcq : wr.cell? ⟨W.heap.size, q1, none⟩ = some (.int .u8 77) := ((unhide HRq).cell q1).trans (rowK_get u (by omega) (by have := unhide HN; omega))
            go_wp2
            go_roundw
            case rel => first | exact ⟨q1 + 1, by omega, by go_num, rfl, HR7, HK7, HN7⟩ | ((repeat apply Exists.intro); exact ⟨⟨q1 + 1, by omega, by go_num, rfl, HR7, HK7, HN7⟩, rfl⟩)
            case measure => simp [intOf]; omega
        · obtain rfl : q1 = q := by omega
          go_wp2_with (go_at_call 29; refine (num_code _ _).mono ?_; rintro e w4 ⟨rfl, rfl⟩)
          go_ret
          exact (unhide HKq).post
theorem step2 (w : World) (vb tb rb xb : Nat) (kp ep fs : Value) (L : List (ByteArray × Int)) (F : List ByteArray) (hx : BothW w xb vb rb kp ep fs) (hm : Md w vb tb rb L F L F) (kk a b : Int) (s t u : ByteArray) (hF : F.length + 1 ≤ 2000000) (hs : s.size ≤ 1048576) (hu : u.size ≤ 1048576) :
    Calls Tryz.prog 8 #[.pointer (some ⟨xb, 0, none⟩), .agg (opL 2 kk a b s t u).toArray] w (StepPost w vb tb rb xb kp ep fs (writeR L F s a u).2.1 (writeR L F s a u).2.2) := by
  have hk0 := K1.begin hx hm (opL 2 kk a b s t u)
  have HA : Hid (∀ W, K1 w W vb tb rb xb kp ep fs w.heap.size (opL 2 kk a b s t u) L F L F → Calls Tryz.prog 9 #[.pointer (some ⟨xb, 0, none⟩), .agg (opL 2 kk a b s t u).toArray] W fun e w' => e = .returned (.bool true) ∧ StepPost w vb tb rb xb kp ep fs (writeR L F s a u).2.1 (writeR L F s a u).2.2 (.returned (.bool true)) w') := fun W hk =>
    (write_law W vb tb rb xb kp ep fs L F hk.x hk.md hF 2 kk a b s t u hs hu).mono (fun e w' ⟨h1, h2, h3, h4⟩ => ⟨h1, rfl, hk.fr.jTrans h2, h3, h4⟩)
  clear hx hm
  go_enter Tryz.func8, Tryz.ntmps8
  obtain ⟨W, hW, -, -, -, -⟩ := alloc_name w (opL 2 kk a b s t u) 36
  rw [hW] at hk0
  have o0 := hk0.o.cell 0; have o1 := hk0.o.cell 1; have o2 := hk0.o.cell 2; have o3 := hk0.o.cell 3; have o4 := hk0.o.cell 4; have o5 := hk0.o.cell 5; have o6 := hk0.o.cell 6
  have HK := hide hk0
  clear hk0
  go_upto_region 1 with fail
  clear hW
  go_upto_region 6 with fail
  go_wp2_with (go_at_call 9; refine (unhide HA _ (unhide HK)).mono ?_; rintro e w1 ⟨rfl, hq⟩)
  go_ret
  exact hq
end Go.Proofs.YtfabjhgkigagpaaGreatDoor
namespace Go.Proofs.YtfabjhgkigagpaaGreatDoor
open Go.RowKit

set_option maxHeartbeats 1000000
set_option maxRecDepth 100000
/-- What is still to be shown of the law's list. -/
def ListLaw : Prop := ∀ (w : World) (vb tb rb xb : Nat) (kp ep fs : Value) (L : List (ByteArray × Int)) (F : List ByteArray), BothW w xb vb rb kp ep fs → Md w vb tb rb L F L F → ∀ s : ByteArray, s.size ≤ 2000000 →
  Calls Tryz.prog 38 #[.pointer (some ⟨xb, 0, none⟩), .string s] w (ReadLaw w)
theorem trimR_len (L : List (ByteArray × Int)) (F : List ByteArray) (p : ByteArray) (n : Int) : (trimR L F p n).2.length ≤ F.length + 1 := by
  unfold trimR
  (repeat' split) <;> simp
theorem writeR_len (L : List (ByteArray × Int)) (F : List ByteArray) (p : ByteArray) (i : Int) (d : ByteArray) : (writeR L F p i d).2.2.length ≤ F.length + 1 := by
  have hput : ∀ (F : List ByteArray) (f : Nat), (putR F f i.toNat d).length = F.length := fun F f => by
    unfold putR
    (repeat' split) <;> simp
  unfold writeR writeEnd
  (repeat' split) <;> simp [hput]
theorem step8 (w : World) (vb tb rb xb : Nat) (kp ep fs : Value) (L : List (ByteArray × Int)) (F : List ByteArray) (hx : BothW w xb vb rb kp ep fs) (hm : Md w vb tb rb L F L F) (kk a b : Int) (s t u : ByteArray) (hl : ListLaw) (hs : s.size ≤ 1048576) :
    Calls Tryz.prog 8 #[.pointer (some ⟨xb, 0, none⟩), .agg (opL 8 kk a b s t u).toArray] w (StepPost w vb tb rb xb kp ep fs L F) := by
  have hk0 := K1.begin hx hm (opL 8 kk a b s t u)
  have HA : Hid (∀ W, K1 w W vb tb rb xb kp ep fs w.heap.size (opL 8 kk a b s t u) L F L F → Calls Tryz.prog 38 #[.pointer (some ⟨xb, 0, none⟩), .string s] W (ReadLaw W)) := fun W hk =>
    hl W vb tb rb xb kp ep fs L F hk.x hk.md s (by omega)
  clear hx hm hl
  go_enter Tryz.func8, Tryz.ntmps8
  obtain ⟨W, hW, -, -, -, -⟩ := alloc_name w (opL 8 kk a b s t u) 36
  rw [hW] at hk0
  have o0 := hk0.o.cell 0; have o4 := hk0.o.cell 4
  have HK := hide hk0
  clear hk0
  go_upto_region 1 with fail
  clear hW
  go_upto_region 18 with fail
  go_wp2_with (go_at_call 38; refine (unhide HA _ (unhide HK)).mono ?_; rintro e w1 ⟨⟨xa, xn, xc, rfl⟩, hb1⟩)
  go_ret
  exact ((unhide HK).below hb1).post
def AnyPost (w : World) (vb tb rb xb : Nat) (kp ep fs : Value) (F : List ByteArray) (e : Ending) (w' : World) : Prop := ∃ L' F', StepPost w vb tb rb xb kp ep fs L' F' e w' ∧ F'.length ≤ F.length + 1
theorem step_any (w : World) (vb tb rb xb : Nat) (kp ep fs : Value) (L : List (ByteArray × Int)) (F : List ByteArray) (hx : BothW w xb vb rb kp ep fs) (hm : Md w vb tb rb L F L F) (kk a b : Int) (s t u : ByteArray) (hl : ListLaw) (hF : F.length + 1 ≤ 2000000) (k : Int) (ha : a ≤ 9223372036854775807) (hb : b ≤ 9223372036854775807) (hs : s.size ≤ 1048576) (ht : t.size ≤ 1048576) (hu : u.size ≤ 1048576) :
    Calls Tryz.prog 8 #[.pointer (some ⟨xb, 0, none⟩), .agg (opL k kk a b s t u).toArray] w (AnyPost w vb tb rb xb kp ep fs F) := by
  have hs0 := Nat.le_succ F.length
  by_cases h0 : k ≤ 0 ∨ 10 < k
  · exact (step0 w vb tb rb xb kp ep fs L F hx hm kk a b s t u k h0).mono (fun e w' h => ⟨_, _, h, hs0⟩)
  have hc : k = 1 ∨ k = 2 ∨ k = 3 ∨ k = 4 ∨ k = 5 ∨ k = 6 ∨ k = 7 ∨ k = 8 ∨ k = 9 ∨ k = 10 := by omega
  rcases hc with rfl | rfl | rfl | rfl | rfl | rfl | rfl | rfl | rfl | rfl
  · exact (step1 w vb tb rb xb kp ep fs L F hx hm kk a b s t u hs).mono (fun e w' h => ⟨_, _, h, hs0⟩)
  · exact (step2 w vb tb rb xb kp ep fs L F hx hm kk a b s t u hF hs hu).mono (fun e w' h => ⟨_, _, h, writeR_len _ _ _ _ _⟩)
  · exact (step3 w vb tb rb xb kp ep fs L F hx hm kk a b s t u hs).mono (fun e w' h => ⟨_, _, h, trimR_len _ _ _ _⟩)
  · exact (step4 w vb tb rb xb kp ep fs L F hx hm kk a b s t u hs ht).mono (fun e w' h => ⟨_, _, h, hs0⟩)
  · exact (step5 w vb tb rb xb kp ep fs L F hx hm kk a b s t u hs ht).mono (fun e w' h => ⟨_, _, h, hs0⟩)
  · exact (step6 w vb tb rb xb kp ep fs L F hx hm kk a b s t u hs).mono (fun e w' h => ⟨_, _, h, hs0⟩)
  · exact (step7 w vb tb rb xb kp ep fs L F hx hm kk a b s t u ha hb hs).mono (fun e w' h => ⟨_, _, h, hs0⟩)
  · exact (step8 w vb tb rb xb kp ep fs L F hx hm kk a b s t u hl hs).mono (fun e w' h => ⟨_, _, h, hs0⟩)
  · exact (step9 w vb tb rb xb kp ep fs L F hx hm kk a b s t u hs).mono (fun e w' h => ⟨_, _, h, hs0⟩)
  · exact (step10 w vb tb rb xb kp ep fs L F hx hm kk a b s t u).mono (fun e w' h => ⟨_, _, h, hs0⟩)
/-- keeps does nothing at the kinds up to 10. -/
theorem keeps_code (w : World) (x : Option Addr) (k kk a b : Int) (s t u : ByteArray) (hk : k ≤ 10) :
    Calls Tryz.prog 10 #[.pointer x, .agg (opL k kk a b s t u).toArray] w fun e w' => e = .returned (.bool true) ∧ Below w.heap.size w w' := by
  have e1 : (k == 11) = false := by simp; omega
  have e2 : (k == 12) = false := by simp; omega
  have e3 : (k == 13) = false := by simp; omega
  have e4 : (k == 14) = false := by simp; omega
  have e5 : (k == 15) = false := by simp; omega
  have e6 : (k == 16) = false := by simp; omega
  have e7 : (k == 17) = false := by simp; omega
  clear hk
  go_enter Tryz.func10, Tryz.ntmps10
  obtain ⟨W, hW, hr, -, -, hb⟩ := alloc_name w (opL k kk a b s t u) 36
  have o0 := hr.cell 0
  go_upto_region 1 with fail
  clear hW
  go_wp2
  go_ret
  exact ⟨rfl, hb⟩
end Go.Proofs.YtfabjhgkigagpaaGreatDoor
namespace Go.Proofs.YtfabjhgkigagpaaGreatDoor
open Go.RowKit

set_option maxHeartbeats 1000000
set_option maxRecDepth 100000
theorem held_code (hl : ListLaw) (w : World) (vb tb rb : Nat) (L : List (ByteArray × Int)) (F : List ByteArray) (hm : Md w vb tb rb L F L F) :
    Calls Tryz.prog 11 #[.pointer (some ⟨vb, 0, none⟩), .pointer (some ⟨rb, 0, none⟩)] w fun e w' => e = .returned (.bool true) ∧ Below w.heap.size w w' := by
  obtain ⟨vl, vf, hrf⟩ : ∃ vl vf, RefW w rb vl vf L F := by obtain ⟨G, I, C, ρ, vl, vf, hv, hps, hrf, hrl, hn⟩ := hm; exact ⟨vl, vf, hrf.toRefW⟩
  have hlen := hm.jf.len
  obtain ⟨av, cv, rfl, hrd⟩ := hrf.sl.rdL
  have HB : Hid (∀ W', Below w.heap.size w W' → W'.cell? ⟨rb, 0, none⟩ = some (.slice av L.length cv) ∧ ∀ m x, L[m]? = some x → ∃ g, av = some ⟨g, 0, none⟩ ∧ W'.cell? ⟨g, m * 2, none⟩ = some (.string x.1) ∧ W'.cell? ⟨g, m * 2 + 1, none⟩ = some (.int .i64 x.2) ∧ x.1.size ≤ 2000000) := fun W' hb => by
    have h1 := hrf.fr (X := fun _ => False) (Fr.of_below hb) (fun _ _ => id)
    refine ⟨h1.c.c0, fun m x hx => ?_⟩
    obtain ⟨a', c', e', hrd'⟩ := h1.sl.rdL
    simp only [Value.slice.injEq, true_and] at e'
    obtain ⟨rfl, rfl⟩ := e'
    obtain ⟨g, h2, h3, h4⟩ := hrd' m x hx
    exact ⟨g, h2, h3, h4, (hrf.ok x (List.mem_of_getElem? hx)).1⟩
  obtain ⟨W, hW, hr, -, -, hbW⟩ := alloc_name w [.pointer (some ⟨vb, 0, none⟩), .pointer (some ⟨rb, 0, none⟩), .slice none 0 0, .slice none 0 0, .string ⟨#[]⟩] 42
  have hq : ∀ W', Below w.heap.size w W' → RowIs W' w.heap.size 42 [.pointer (some ⟨vb, 0, none⟩), .pointer (some ⟨rb, 0, none⟩), .slice none 0 0, .slice none 0 0, .string ⟨#[]⟩] → BothW W' w.heap.size vb rb (.slice none 0 0) (.slice none 0 0) (.string ⟨#[]⟩) ∧ Md W' vb tb rb L F L F := fun W' hb hr => ⟨hr, hm.below hb⟩
  have HL : Hid (∀ W' s, s.size ≤ 2000000 → Below w.heap.size w W' → BothW W' w.heap.size vb rb (.slice none 0 0) (.slice none 0 0) (.string ⟨#[]⟩) → Calls Tryz.prog 38 #[.pointer (some ⟨w.heap.size, 0, none⟩), .string s] W' (ReadLaw W')) := fun W' s hs hb hr => hl W' vb tb rb _ _ _ _ L F hr (hm.below hb) s hs
  have HS : Hid (∀ W' s, s.size ≤ 2000000 → Below w.heap.size w W' → BothW W' w.heap.size vb rb (.slice none 0 0) (.slice none 0 0) (.string ⟨#[]⟩) → Calls Tryz.prog 39 #[.pointer (some ⟨w.heap.size, 0, none⟩), .string s] W' fun e w' => e = .returned (.bool true) ∧ Below W'.heap.size W' w') := fun W' s hs hb hr => stat_law W' vb tb rb _ _ _ _ L F hr (hm.below hb) s hs
  have HR : Hid (∀ W' s, s.size ≤ 2000000 → Below w.heap.size w W' → BothW W' w.heap.size vb rb (.slice none 0 0) (.slice none 0 0) (.string ⟨#[]⟩) → Calls Tryz.prog 37 #[.pointer (some ⟨w.heap.size, 0, none⟩), .agg (opL 0 0 0 1281 s ⟨#[]⟩ ⟨#[]⟩).toArray] W' (ReadLaw W')) := fun W' s hs hb hr => read_law W' vb tb rb _ _ _ _ L F hr (hm.below hb) 0 0 0 1281 (by omega) (by omega) s _ _ hs
  have HU : Hid (∀ W', Below w.heap.size w W' → Calls Tryz.prog 22 #[.pointer (some ⟨vb, 0, none⟩)] W' fun e w' => e = .returned (.int .i64 (usageR L F : Nat)) ∧ Below w.heap.size w w') := fun W' hb => (usageJ (hm.below hb)).mono (fun e w' h => ⟨h.1, hb.trans (h.2.mono hb.size)⟩)
  have HV : Hid (∀ W', Below w.heap.size w W' → Calls Tryz.prog 40 #[.pointer (some ⟨rb, 0, none⟩)] W' fun e w' => e = .returned (.int .i64 (usageR L F : Nat)) ∧ w' = W') := fun W' hb => usage_ref W' rb _ vf L F (hrf.fr (X := fun _ => False) (Fr.of_below hb) (fun _ _ => id)).c
  have HN : Hid (∀ W' W'', Below W'.heap.size W' W'' → Below w.heap.size w W' → BothW W' w.heap.size vb rb (.slice none 0 0) (.slice none 0 0) (.string ⟨#[]⟩) → Below w.heap.size w W'' ∧ BothW W'' w.heap.size vb rb (.slice none 0 0) (.slice none 0 0) (.string ⟨#[]⟩)) := fun W' W'' hb h1 h2 => ⟨h1.trans (hb.mono h1.size), RowIs.fr h2 (X := fun _ => False) (Fr.of_below hb) id⟩
  have HX : Hid (Below w.heap.size w W ∧ BothW W w.heap.size vb rb (.slice none 0 0) (.slice none 0 0) (.string ⟨#[]⟩)) := ⟨hbW, hr⟩
  obtain ⟨U, hU⟩ : ∃ U, U = usageR L F := ⟨_, rfl⟩
  rw [← hU] at HU HV
  clear hU hm hrf hrd hq hr hbW
  go_enter Tryz.func11, Tryz.ntmps11
  go_upto_region 2 with fail
  clear hW
  go_wp2_with (go_at_call 38; refine (unhide HL _ _ (by simp [ByteArray.size]) (unhide HX).1 (unhide HX).2).mono ?_; rintro e w1 ⟨⟨xa, xn, xc, rfl⟩, hb1⟩; have HX1 := hide (unhide HN _ _ hb1 (unhide HX).1 (unhide HX).2); clear hb1)
  go_loopw [7, 8] (fun ok i wr => ∃ m : Nat, m ≤ L.length ∧ ok = .bool true ∧ i = .int .i64 m ∧ Hid (Below w.heap.size w wr ∧ BothW wr w.heap.size vb rb (.slice none 0 0) (.slice none 0 0) (.string ⟨#[]⟩))) (fun _ i _ => L.length - (intOf i).toNat)
  case atStart => exact ⟨0, Nat.zero_le _, rfl, rfl, HX1⟩
  case round =>
    obtain ⟨m, hm, rfl, rfl, HXr⟩ := hrel
    have hc0 := (unhide HB wr (unhide HXr).1).1
    by_cases hlt : m < L.length
    · obtain ⟨g, rfl, p0, p1, hsz⟩ := (unhide HB wr (unhide HXr).1).2 m L[m] (List.getElem?_eq_getElem hlt)
      obtain ⟨⟨ps, pf⟩, hpp⟩ : ∃ x, x = L[m] := ⟨_, rfl⟩
      rw [← hpp] at p0 p1 hsz
      simp only at p0 p1 hsz
      clear hpp
      by_cases hneg : pf < 0
      · go_wp2_with (go_at_call 38; refine (unhide HL _ _ hsz (unhide HXr).1 (unhide HXr).2).mono ?_; rintro e w2 ⟨⟨ya, yn, yc, rfl⟩, hb2⟩; have HX2 := hide (unhide HN _ _ hb2 (unhide HXr).1 (unhide HXr).2); clear hb2)
        go_roundw
        case rel => first | exact ⟨m + 1, by omega, rfl, by go_num, HX2⟩ | ((repeat apply Exists.intro); exact ⟨⟨m + 1, by omega, rfl, by go_num, HX2⟩, rfl⟩)
        case measure => simp [intOf]; omega
      · go_wp2_with (first | (go_at_call 39; refine (unhide HS _ _ hsz (unhide HXr).1 (unhide HXr).2).mono ?_; rintro e w2 ⟨rfl, hb2⟩; have HX2 := hide (unhide HN _ _ hb2 (unhide HXr).1 (unhide HXr).2); clear hb2) | (go_at_call 37; refine (unhide HR _ _ hsz (unhide HX2).1 (unhide HX2).2).mono ?_; rintro e w3 ⟨⟨ya, yn, yc, rfl⟩, hb3⟩; have HX3 := hide (unhide HN _ _ hb3 (unhide HX2).1 (unhide HX2).2); clear hb3))
        go_roundw
        case rel => first | exact ⟨m + 1, by omega, rfl, by go_num, HX3⟩ | ((repeat apply Exists.intro); exact ⟨⟨m + 1, by omega, rfl, by go_num, HX3⟩, rfl⟩)
        case measure => simp [intOf]; omega
    · obtain rfl : m = L.length := by omega
      go_wp2_with (first | (go_at_call 22; refine (unhide HU _ (unhide HXr).1).mono ?_; rintro e w2 ⟨rfl, hb2⟩; have HB2 := hide hb2; clear hb2) | (go_at_call 40; refine (unhide HV _ (unhide HB2)).mono ?_; rintro e w3 ⟨rfl, rfl⟩))
      go_ret
      exact ⟨rfl, unhide HB2⟩
end Go.Proofs.YtfabjhgkigagpaaGreatDoor
