/- Files. -/
import Derived.Test.YtaieidcohdhgpaaGreatDoorPAP
namespace Go.Proofs.YtaieidcohdhgpaaGreatDoor
open Go.RowKit
set_option maxHeartbeats 1000000
set_option maxRecDepth 100000
def upd {α : Type} (f : Nat → α) (b : Nat) (v : α) : Nat → α := fun k => if k = b then v else f k
theorem upd_same {α : Type} (f : Nat → α) (b : Nat) (v : α) : upd f b v b = v := by simp [upd]
theorem upd_other {α : Type} (f : Nat → α) {b k : Nat} (v : α) (h : k ≠ b) : upd f b v k = f k := by simp [upd, h]
structure DirH (w : World) (rd : Nat) (B : Nat → Prop) (V : Nat → Value) (E : Nat → List (ByteArray × VS)) : Prop where
 row : ∀ b, B b → RowIs w b 229 [V b]
 sl : ∀ b, B b → Sl w 310 3 (V b) (E b).length (cellsS (E b))
 srt : ∀ b, B b → SrtS (E b)
 own : ∀ b b' g, B b → B b' → (V b).ownBlock = some g → (V b').ownBlock = some g → b = b'
 lo : ∀ b, B b → rd ≤ b ∧ ∀ g, (V b).ownBlock = some g → rd ≤ g
theorem DirW.h {w : World} {G : Gh} {rd : Nat} {V : Nat → Value} {E : Nat → List (ByteArray × VS)} (h : DirW w G rd V E) : DirH w rd (fun b => ∃ ns, IsDir G rd ns b) V E :=
 ⟨fun b ⟨ns, hd⟩ => h.row ns b hd, fun b ⟨ns, hd⟩ => h.sl ns b hd, fun b ⟨ns, hd⟩ => h.srt ns b hd, fun b b' g ⟨ns, hd⟩ ⟨ns', hd'⟩ => h.own ns ns' b b' g hd hd', fun b ⟨ns, hd⟩ => h.lo ns b hd⟩
theorem DirH.w {w : World} {rd : Nat} {B : Nat → Prop} {V : Nat → Value} {E : Nat → List (ByteArray × VS)} (h : DirH w rd B V E) {G : Gh} (hB : ∀ ns b, IsDir G rd ns b → B b) (hs : ∀ x ∈ G, x.2.p = none ∨ ∃ b, x.2 = ⟨some ⟨b, 0, none⟩, 0⟩)
  (he : ∀ ns b, IsDir G rd ns b → EnOk G ns (E b)) (hi : ∀ ns ns' b, IsDir G rd ns b → IsDir G rd ns' b → ns = ns') : DirW w G rd V E :=
 ⟨hs, fun ns b hd => h.row b (hB ns b hd), fun ns b hd => h.sl b (hB ns b hd), fun ns b hd => h.srt b (hB ns b hd), he, hi, fun ns ns' b b' g hd hd' => h.own b b' g (hB ns b hd) (hB ns' b' hd'), fun ns b hd => h.lo b (hB ns b hd)⟩
theorem DirH.upd {w w' : World} {rd : Nat} {B : Nat → Prop} {V : Nat → Value} {E : Nat → List (ByteArray × VS)} (h : DirH w rd B V E) {db : Nat} (hdb : B db) {v' : Value} {es' : List (ByteArray × VS)} (hr : RowIs w' db 229 [v']) (hS : Sl w' 310 3 v' es'.length (cellsS es')) (hs : SrtS es') (hn : NewOr w (V db) v')
  (hf : Fr (fun k => k = db ∨ (V db).ownBlock = some k) w w') : DirH w' rd B (upd V db v') (upd E db es') := by
 have hlo := h.lo db hdb
 have hdl := (h.row db hdb).lt
 refine ⟨fun b hb => ?_, fun b hb => ?_, fun b hb => ?_, fun b b' g hb hb' h1 h2 => ?_, fun b hb => ⟨(h.lo b hb).1, fun g hg => ?_⟩⟩
 ·by_cases e : b = db
  ·subst e; rw [upd_same]; exact hr
  ·rw [upd_other _ _ e]
   exact (h.row b hb).fr hf (fun hx => hx.elim e (fun h1 => by obtain ⟨R, hR⟩ := (h.sl db hdb).type h1; have := hR.type (h.row b hb); revert this; decide))
 ·by_cases e : b = db
  ·subst e; rw [upd_same, upd_same]; exact hS
  ·rw [upd_other _ _ e, upd_other _ _ e]
   refine (h.sl b hb).fr hf (fun g hg hx => ?_)
   rcases hx with rfl | h1
   ·obtain ⟨R, hR⟩ := (h.sl b hb).type hg; have := hR.type (h.row g hdb); revert this; decide
   ·exact e (h.own b db g hb hdb hg h1)
 ·by_cases e : b = db
  ·subst e; rw [upd_same]; exact hs
  ·rw [upd_other _ _ e]; exact h.srt b hb
 ·by_cases e : b = db
  ·by_cases e' : b' = db
   ·rw [e, e']
   ·rw [e, upd_same] at h1
    rw [upd_other _ _ e'] at h2
    rcases hn g h1 with h3 | h3
    ·rw [e]; exact h.own db b' g hdb hb' h3 h2
    ·have := (h.sl b' hb').lt h2; omega
  ·by_cases e' : b' = db
   ·rw [e', upd_same] at h2
    rw [upd_other _ _ e] at h1
    rcases hn g h2 with h3 | h3
    ·rw [e']; exact h.own b db g hb hdb h1 h3
    ·have := (h.sl b hb).lt h1; omega
   ·rw [upd_other _ _ e] at h1
    rw [upd_other _ _ e'] at h2
    exact h.own b b' g hb hb' h1 h2
 ·by_cases e : b = db
  ·subst e
   rw [upd_same] at hg
   rcases hn g hg with h3 | h3
   ·exact hlo.2 g h3
   ·have := hlo.1; omega
  ·rw [upd_other _ _ e] at hg; exact (h.lo b hb).2 g hg
theorem DirH.new {w : World} {rd : Nat} {B : Nat → Prop} {V : Nat → Value} {E : Nat → List (ByteArray × VS)} (h : DirH w rd B V E) {nb : Nat} (hnl : rd ≤ nb) (hnb : ∀ b, B b → b ≠ nb) (hr : RowIs w nb 229 [.slice none 0 0]) : DirH w rd (fun b => B b ∨ b = nb) (Go.Proofs.YtaieidcohdhgpaaGreatDoor.upd V nb (.slice none 0 0)) (Go.Proofs.YtaieidcohdhgpaaGreatDoor.upd E nb []) := by
 refine ⟨fun b hb => ?_, fun b hb => ?_, fun b hb => ?_, fun b b' g hb hb' h1 h2 => ?_, fun b hb => ?_⟩
 ·rcases hb with hb | rfl
  ·rw [upd_other _ _ (hnb b hb)]; exact h.row b hb
  ·rw [upd_same]; exact hr
 ·rcases hb with hb | rfl
  ·rw [upd_other _ _ (hnb b hb), upd_other _ _ (hnb b hb)]; exact h.sl b hb
  ·rw [upd_same, upd_same]; exact ⟨rfl, .inl ⟨rfl, rfl⟩⟩
 ·rcases hb with hb | rfl
  ·rw [upd_other _ _ (hnb b hb)]; exact h.srt b hb
  ·rw [upd_same]; intro j k x y _ hx; simp at hx
 ·rcases hb with hb | rfl
  ·rcases hb' with hb' | rfl
   ·rw [upd_other _ _ (hnb b hb)] at h1
    rw [upd_other _ _ (hnb b' hb')] at h2
    exact h.own b b' g hb hb' h1 h2
   ·rw [upd_same] at h2; simp [Value.ownBlock] at h2
  ·rw [upd_same] at h1; simp [Value.ownBlock] at h1
 ·rcases hb with hb | rfl
  ·rw [upd_other _ _ (hnb b hb)]; exact h.lo b hb
  ·rw [upd_same]; exact ⟨hnl, fun g hg => by simp [Value.ownBlock] at hg⟩
theorem IsDir.func {G : Gh} (hG : GOk G) {rd : Nat} {ns : List ByteArray} {b b' : Nat} (h : IsDir G rd ns b) (h' : IsDir G rd ns b') : b = b' := by
 rcases h with ⟨rfl, rfl⟩ | h
 ·rcases h' with ⟨_, rfl⟩ | h'
  ·rfl
  ·exact absurd rfl (hG.ne _ h')
 ·rcases h' with ⟨rfl, rfl⟩ | h'
  ·exact absurd rfl (hG.ne _ h)
  ·have := nodup_fst hG.nd h h'
   simpa using this
theorem snoc_inj {α : Type} {a b : List α} {x y : α} (h : a ++ [x] = b ++ [y]) : a = b ∧ x = y := by
 have := List.append_inj' h rfl
 exact ⟨this.1, by simpa using this.2⟩
theorem DirW.addFile {w w' : World} {G : Gh} {rd : Nat} {V : Nat → Value} {E : Nat → List (ByteArray × VS)} (h : DirW w G rd V E) (hG : GOk G) {ds : List ByteArray} {db : Nat} (hd : IsDir G rd ds db) {n : ByteArray} {f : Int}
  {v' : Value} {es' : List (ByteArray × VS)} (hr : RowIs w' db 229 [v']) (hS : Sl w' 310 3 v' es'.length (cellsS es')) (hs : SrtS es') (hm : ∀ x, x ∈ es' ↔ x = (n, ⟨none, f⟩) ∨ x ∈ E db) (hn : NewOr w (V db) v')
  (hf : Fr (fun k => k = db ∨ (V db).ownBlock = some k) w w') : DirW w' (G ++ [(ds ++ [n], ⟨none, f⟩)]) rd (upd V db v') (upd E db es') := by
 have hiff : ∀ ns b, IsDir (G ++ [(ds ++ [n], (⟨none, f⟩ : VS))]) rd ns b ↔ IsDir G rd ns b := by
  intro ns b
  constructor
  ·rintro (e | hx)
   ·exact .inl e
   ·rcases List.mem_append.1 hx with hx | hx
    ·exact .inr hx
    ·simp at hx
  ·rintro (e | hx)
   ·exact .inl e
   ·exact .inr (List.mem_append_left _ hx)
 refine (h.h.upd ⟨ds, hd⟩ hr hS hs hn hf).w (fun ns b hb => ⟨ns, (hiff ns b).1 hb⟩) (fun x hx => ?_) (fun ns b hb => ?_) (fun ns ns' b h1 h2 => h.inj ns ns' b ((hiff _ _).1 h1) ((hiff _ _).1 h2))
 ·rcases List.mem_append.1 hx with hx | hx
  ·exact h.shp x hx
  ·obtain rfl : x = _ := by simpa using hx
   exact .inl rfl
 ·have hb' := (hiff ns b).1 hb
  intro m u
  by_cases e : b = db
  ·subst e
   obtain rfl := h.inj ns ds b hb' hd
   rw [upd_same, hm, List.mem_append, h.en ns b hb' m u, List.mem_singleton]
   constructor
   ·rintro (e | e)
    ·right; obtain ⟨rfl, rfl⟩ := Prod.mk.inj e; rfl
    ·exact .inl e
   ·rintro (e | e)
    ·exact .inr e
    ·left; obtain ⟨e1, e2⟩ := Prod.mk.inj e; rw [(snoc_inj e1).2, e2]
  ·rw [upd_other _ _ e, h.en ns b hb' m u, List.mem_append, List.mem_singleton]
   constructor
   ·exact .inl
   ·rintro (e1 | e1)
    ·exact e1
    ·obtain ⟨e2, _⟩ := Prod.mk.inj e1
     rw [(snoc_inj e2).1] at hb'
     exact absurd (hb'.func hG hd) e
theorem DirW.addDir {w w' : World} {G : Gh} {rd : Nat} {V : Nat → Value} {E : Nat → List (ByteArray × VS)} (h : DirW w G rd V E) (hG : GOk G) {ds : List ByteArray} {db : Nat} (hd : IsDir G rd ds db) {n : ByteArray} (hat : atG G (ds ++ [n]) = none) {nb : Nat} (hnl : rd ≤ nb) (hnb : ∀ ns b, IsDir G rd ns b → b ≠ nb) (hnr : RowIs w' nb 229 [.slice none 0 0])
  {v' : Value} {es' : List (ByteArray × VS)} (hr : RowIs w' db 229 [v']) (hS : Sl w' 310 3 v' es'.length (cellsS es')) (hs : SrtS es') (hm : ∀ x, x ∈ es' ↔ x = (n, ⟨some ⟨nb, 0, none⟩, 0⟩) ∨ x ∈ E db) (hn : NewOr w (V db) v')
  (hf : Fr (fun k => k = db ∨ (V db).ownBlock = some k) w w') : DirW w' (G ++ [(ds ++ [n], ⟨some ⟨nb, 0, none⟩, 0⟩)]) rd (upd (upd V db v') nb (.slice none 0 0)) (upd (upd E db es') nb []) := by
 have hiff : ∀ ns b, IsDir (G ++ [(ds ++ [n], (⟨some ⟨nb, 0, none⟩, 0⟩ : VS))]) rd ns b → IsDir G rd ns b ∨ (ns = ds ++ [n] ∧ b = nb) := by
  intro ns b
  rintro (e | hx)
  ·exact .inl (.inl e)
  ·rcases List.mem_append.1 hx with hx | hx
   ·exact .inl (.inr hx)
   ·simp at hx; exact .inr hx
 refine ((h.h.upd ⟨ds, hd⟩ hr hS hs hn hf).new hnl (fun b ⟨ns, hb⟩ => hnb ns b hb) hnr).w (fun ns b hb => ?_) (fun x hx => ?_) (fun ns b hb => ?_) (fun ns ns' b h1 h2 => ?_)
 ·rcases hiff ns b hb with h1 | ⟨_, h1⟩
  ·exact .inl ⟨ns, h1⟩
  ·exact .inr h1
 ·rcases List.mem_append.1 hx with hx | hx
  ·exact h.shp x hx
  ·obtain rfl : x = _ := by simpa using hx
   exact .inr ⟨nb, rfl⟩
 ·intro m u
  rcases hiff ns b hb with hb' | ⟨rfl, rfl⟩
  ·rw [upd_other _ _ (hnb ns b hb')]
   by_cases e : b = db
   ·subst e
    obtain rfl := h.inj ns ds b hb' hd
    rw [upd_same, hm, List.mem_append, h.en ns b hb' m u, List.mem_singleton]
    constructor
    ·rintro (e | e)
     ·right; obtain ⟨rfl, rfl⟩ := Prod.mk.inj e; rfl
     ·exact .inl e
    ·rintro (e | e)
     ·exact .inr e
     ·left; obtain ⟨e1, e2⟩ := Prod.mk.inj e; rw [(snoc_inj e1).2, e2]
   ·rw [upd_other _ _ e, h.en ns b hb' m u, List.mem_append, List.mem_singleton]
    constructor
    ·exact .inl
    ·rintro (e1 | e1)
     ·exact e1
     ·obtain ⟨e2, _⟩ := Prod.mk.inj e1
      rw [(snoc_inj e2).1] at hb'
      exact absurd (hb'.func hG hd) e
  ·rw [upd_same]
   constructor
   ·intro hx; cases hx
   ·intro hx
    exfalso
    rcases List.mem_append.1 hx with hx | hx
    ·rcases hG.up _ _ _ hx with e | ⟨v, hv, _⟩
     ·simp at e
     ·exact atG_none hat v hv
    ·have e := (Prod.mk.inj (List.mem_singleton.1 hx)).1
     have := congrArg List.length e
     simp at this
 ·rcases hiff ns b h1 with k1 | ⟨e1, e2⟩
  ·rcases hiff ns' b h2 with k2 | ⟨_, e3⟩
   ·exact h.inj ns ns' b k1 k2
   ·exact absurd e3 (hnb _ _ k1)
  ·rcases hiff ns' b h2 with k2 | ⟨e3, _⟩
   ·exact absurd e2 (hnb _ _ k2)
   ·rw [e1, e3]
theorem DirW.del {w w' : World} {G G' : Gh} {rd : Nat} {V : Nat → Value} {E : Nat → List (ByteArray × VS)} (h : DirW w G rd V E) (hG : GOk G) {ds : List ByteArray} {db : Nat} (hd : IsDir G rd ds db) {n : ByteArray} (hG' : ∀ x, x ∈ G' ↔ x ∈ G ∧ x.1 ≠ ds ++ [n])
  {v' : Value} {es' : List (ByteArray × VS)} (hr : RowIs w' db 229 [v']) (hS : Sl w' 310 3 v' es'.length (cellsS es')) (hs : SrtS es') (hm : ∀ x, x ∈ es' ↔ x ∈ E db ∧ x.1 ≠ n) (hn : NewOr w (V db) v')
  (hf : Fr (fun k => k = db ∨ (V db).ownBlock = some k) w w') : DirW w' G' rd (upd V db v') (upd E db es') := by
 have hiff : ∀ ns b, IsDir G' rd ns b → IsDir G rd ns b := by
  intro ns b
  rintro (e | hx)
  ·exact .inl e
  ·exact .inr ((hG' _).1 hx).1
 refine (h.h.upd ⟨ds, hd⟩ hr hS hs hn hf).w (fun ns b hb => ⟨ns, hiff ns b hb⟩) (fun x hx => h.shp x ((hG' x).1 hx).1) (fun ns b hb => ?_) (fun ns ns' b h1 h2 => h.inj ns ns' b (hiff _ _ h1) (hiff _ _ h2))
 have hb' := hiff ns b hb
 intro m u
 by_cases e : b = db
 ·subst e
  obtain rfl := h.inj ns ds b hb' hd
  rw [upd_same, hm, hG', h.en ns b hb' m u]
  constructor
  ·rintro ⟨h1, h2⟩; exact ⟨h1, fun e => h2 (snoc_inj e).2⟩
  ·rintro ⟨h1, h2⟩; exact ⟨h1, fun e => h2 (by rw [show m = n from e])⟩
 ·rw [upd_other _ _ e, h.en ns b hb' m u, hG']
  constructor
  ·intro h1
   refine ⟨h1, fun e1 => ?_⟩
   rw [(snoc_inj e1).1] at hb'
   exact e (hb'.func hG hd)
  ·exact fun h1 => h1.1
def ProgT (tb : Nat) (w : World) (k : Nat) : Prop := (∃ t R, RowIs w k t R ∧ (t = 214 ∨ t = 229 ∨ t = 310 ∨ t = 293)) ∧ tb ≤ k + 1
def PS (w : World) (tb : Nat) (G : Gh) (I : List (Int × VF)) (C : Int → ByteArray) : Prop := ∃ rd V E vi, TW w tb rd V E vi G I C
theorem RowIs.back {B : Nat} {w w' : World} (hb : Below B w w') {k : Nat} (_hk : k < w.heap.size) (hB : k < B) {t : TypeId} {R : List Value} (h : RowIs w' k t R) : RowIs w k t R := (hb.block k hB).symm.trans h
theorem Fr.prog {tb : Nat} {w w1 w2 : World} (hb : Below w.heap.size w w1) (hf : Fr (ProgT tb w1) w1 w2) : Fr (ProgT tb w) w w2 :=
 ⟨hf.os.trans hb.os, hf.tape.trans hb.tape, hf.output.trans hb.output, Nat.le_trans hb.size hf.size, fun k hk hX => (hf.block k (Nat.lt_of_lt_of_le hk hb.size) (fun ⟨⟨t, R, hR, ht⟩, hl⟩ => hX ⟨⟨t, R, hR.back hb hk hk, ht⟩, hl⟩)).trans (hb.block k hk)⟩
theorem Fr.progTrans {tb : Nat} {w w1 w2 : World} (h1 : Fr (ProgT tb w) w w1) (h2 : Fr (ProgT tb w1) w1 w2) : Fr (ProgT tb w) w w2 :=
 ⟨h2.os.trans h1.os, h2.tape.trans h1.tape, h2.output.trans h1.output, Nat.le_trans h1.size h2.size, fun k hk hX => by
  have e1 := h1.block k hk hX
  refine (h2.block k (Nat.lt_of_lt_of_le hk h1.size) (fun ⟨⟨t, R, hR, ht⟩, hl⟩ => hX ⟨⟨t, R, ?_, ht⟩, hl⟩)).trans e1
  unfold RowIs at hR ⊢; rw [← e1]; exact hR⟩
theorem Fr.progOne {tb : Nat} {w w' : World} {db : Nat} {v : Value} (hl : tb ≤ db + 1 ∧ ∀ g, v.ownBlock = some g → tb ≤ g + 1) (hr : RowIs w db 229 [v]) {n : Nat} {xs : List Value} (hS : Sl w 310 3 v n xs) (hf : Fr (fun k => k = db ∨ v.ownBlock = some k) w w') : Fr (ProgT tb w) w w' :=
 hf.mono (fun k _ hk => by
  rcases hk with rfl | hk
  ·exact ⟨⟨229, _, hr, .inr (.inl rfl)⟩, hl.1⟩
  ·obtain ⟨R, hR⟩ := hS.type hk
   exact ⟨⟨310, R, hR, .inr (.inr (.inl rfl))⟩, hl.2 k hk⟩)
theorem TW.dirs {w w' : World} {tb rd : Nat} {V : Nat → Value} {E : Nat → List (ByteArray × VS)} {vi : Value} {G : Gh} {I : List (Int × VF)} {C : Int → ByteArray} (h : TW w tb rd V E vi G I C) {db : Nat} {v : Value} (hr : RowIs w db 229 [v]) {n : Nat} {xs : List Value} (hS : Sl w 310 3 v n xs) (hf : Fr (fun k => k = db ∨ v.ownBlock = some k) w w')
  {G' : Gh} {V' : Nat → Value} {E' : Nat → List (ByteArray × VS)} (hd : DirW w' G' rd V' E') : TW w' tb rd V' E' vi G' I C := by
 have hX : ∀ k t R, (k = db ∨ v.ownBlock = some k) → RowIs w k t R → t = 229 ∨ t = 310 := fun k t R hk hR => by
  rcases hk with rfl | hk
  ·exact .inl (hR.type hr)
  ·obtain ⟨R', hR'⟩ := hS.type hk
   exact .inr (hR.type hR')
 refine ⟨h.pk.fr hf (fun e => ?_), h.t.fr hf (fun e => ?_), hd, h.i.fr hf (fun g hg e => ?_), h.si, fun x hx => (h.dat x hx).fr hf (fun g hg e => ?_), h.lo⟩
 ·obtain ⟨_, ht⟩ := h.pk
  rcases e with rfl | hk
  ·have := ht _ _ hr; revert this; decide
  ·obtain ⟨R', hR'⟩ := hS.type hk
   have := ht _ _ hR'; revert this; decide
 ·rcases hX _ _ _ e h.t with h1 | h1 <;> (revert h1; decide)
 ·obtain ⟨R, hR⟩ := h.i.type hg
  rcases hX _ _ _ e hR with h1 | h1 <;> (revert h1; decide)
 ·obtain ⟨R, hR⟩ := (h.dat x hx).type hg
  rcases hX _ _ _ e hR with h1 | h1 <;> (revert h1; decide)
def mayB (G : Gh) (I : List (Int × VF)) (ds : List ByteArray) : Bool := decide ((G.countP (qIn ds) < 20 ∧ G.length < 100) ∧ cD G [] + I.length < 60)
def mkE (G : Gh) (I : List (Int × VF)) (p : ByteArray) : Int := if nmOk p = false then 1 else if gapE G (names p) ≠ 0 then gapE G (names p) else if mayB G I (names p).dropLast = false then 8 else 0
def MkPost (w : World) (tb : Nat) (G : Gh) (I : List (Int × VF)) (C : Int → ByteArray) (p : ByteArray) (e : Ending) (w' : World) : Prop :=
 e = .returned (.int .i64 (mkE G I p)) ∧ Fr (ProgT tb w) w w' ∧ ((mkE G I p ≠ 0 ∧ PS w' tb G I C) ∨ (mkE G I p = 0 ∧ ∃ nb, PS w' tb (G ++ [(names p, ⟨some ⟨nb, 0, none⟩, 0⟩)]) I C))
def lgE (G : Gh) (p : ByteArray) : Int := if nmOk p = false then 1 else gapE G (names p)
def LgPost (G : Gh) (rd : Nat) (p : ByteArray) (w : World) (e : Ending) (w' : World) : Prop :=
 ((lgE G p ≠ 0 ∧ e = .returned (.tuple #[noSpot, .int .i64 (lgE G p)])) ∨
  (lgE G p = 0 ∧ nmOk p = true ∧ ∃ ds n db, names p = ds ++ [n] ∧ IsDir G rd ds db ∧ atG G (names p) = none ∧ e = .returned (.tuple #[spotV (some ⟨db, 0, none⟩) n false ⟨none, 0⟩, .int .i64 0]))) ∧ Below w.heap.size w w'
theorem locGap_code (w : World) (tb rd : Nat) (V : Nat → Value) (E : Nat → List (ByteArray × VS)) (vi : Value) (G : Gh) (I : List (Int × VF)) (C : Int → ByteArray) (h : TW w tb rd V E vi G I C) (hG : GOk G) (hGl : G.length ≤ 10000) (p : ByteArray) (hp : p.size ≤ 2000000) :
  Calls Tryz.prog 181 #[.pointer (some ⟨tb, 0, none⟩), .string p] w (LgPost G rd p w) := by
 obtain ⟨m, hm⟩ := h.pk.1
 have h0 : 0 < w.heap.size := World.block_lt_of_cell? _ _ hm
 have hal : ∀ o, Below w.heap.size w (w.alloc o) := fun o => (Below.refl _ _).alloc (Nat.le_refl _) o
 have hnm := fun o => names_code p m (w.alloc o) hp (((hal o).cell (p := ⟨0, 0, none⟩) h0).trans hm)
 have hr0 := row_new w [.pointer none, .string ⟨#[]⟩, .bool false, .pointer none, .int .i64 0] 262
 have HR0 := hide hr0
 clear hr0
 go_enter Tryz.func181, Tryz.ntmps181
 go_wp2_with fail
 refine (hnm _).mono ?_
 rintro e w1 ⟨hpost, hb1⟩
 have hb : Below w.heap.size w w1 := (hal _).trans (hb1.mono (by simp))
 have hr1 : RowIs w1 w.heap.size 262 _ := (hb1.block _ (by simp)).trans (unhide HR0)
 have HH := hide h
 clear hnm hal h
 rcases hpost with ⟨hn, rfl⟩ | ⟨hn, a, c, rfl, hSl⟩
 ·have HE : Hid (lgE G p = 1) := by show _ = _; unfold lgE; rw [if_pos hn]
  have g0 := hr1.frozen 0; have g1 := hr1.frozen 1; have g2 := hr1.frozen 2; have g3 := hr1.frozen 3; have g4 := hr1.frozen 4
  have a0 := hr1.cell 0; have a1 := hr1.cell 1; have a2 := hr1.cell 2; have a3 := hr1.cell 3; have a4 := hr1.cell 4
  clear hn
  go_wp2
  have hR := set5 hr1 (.pointer none) (.string ⟨#[]⟩) (.bool false) (.pointer none) (.int .i64 0)
  have r0 := hR.cell 0; have r1 := hR.cell 1; have r2 := hR.cell 2; have r3 := hR.cell 3; have r4 := hR.cell 4
  exact bodyPost_ret (v := .tuple #[noSpot, .int .i64 1]) (by simp [results, Tryz.results181, go_sem, r0, r1, r2, r3, r4, noSpot, spotV]) rfl
   ⟨.inl ⟨by rw [unhide HE]; decide, by rw [unhide HE]⟩, below_set5 hb (Nat.le_refl _) _ _ _ _ _⟩
 ·have HE : Hid (lgE G p = gapE G (names p)) := by show _ = _; unfold lgE; rw [if_neg (by rw [hn]; simp)]
  have h1 := (unhide HH).below hb (Nat.le_refl _)
  have hgap := gap_code w1 tb rd V E vi G I C h1 hG hGl (names p) (names_len hn) a c hSl
  have HN := hide hn
  clear hn h1
  go_wp2_with fail
  refine hgap.mono ?_
  rintro e w2 ⟨hpost, hb2⟩
  have hr2 : RowIs w2 w.heap.size 262 _ := (hb2.block _ hr1.lt).trans hr1
  have hbb : Below w.heap.size w w2 := hb.trans (hb2.mono hb.size)
  clear hgap hr1 hb hb2 hb1 hSl
  have g0 := hr2.frozen 0; have g1 := hr2.frozen 1; have g2 := hr2.frozen 2; have g3 := hr2.frozen 3; have g4 := hr2.frozen 4
  have a0 := hr2.cell 0; have a1 := hr2.cell 1; have a2 := hr2.cell 2; have a3 := hr2.cell 3; have a4 := hr2.cell 4
  rcases hpost with ⟨hne, rfl⟩ | ⟨he, ds, n, db, hns, hdir, hat, rfl⟩
  ·unfold noSpot spotV
   go_wp2
   have hR := set5 hr2 (.pointer none) (.string ⟨#[]⟩) (.bool false) (.pointer none) (.int .i64 0)
   have r0 := hR.cell 0; have r1 := hR.cell 1; have r2 := hR.cell 2; have r3 := hR.cell 3; have r4 := hR.cell 4
   exact bodyPost_ret (v := .tuple #[noSpot, .int .i64 (gapE G (names p))]) (by simp [results, Tryz.results181, go_sem, r0, r1, r2, r3, r4, noSpot, spotV]) rfl
    ⟨.inl ⟨by rw [unhide HE]; exact hne, by rw [unhide HE]⟩, below_set5 hbb (Nat.le_refl _) _ _ _ _ _⟩
  ·have HP : Hid (LgPost G rd p w (.returned (.tuple #[spotV (some ⟨db, 0, none⟩) n false ⟨none, 0⟩, .int .i64 0])) (((((w2.setCell ⟨w.heap.size, 0, none⟩ (.pointer (some ⟨db, 0, none⟩))).setCell ⟨w.heap.size, 1, none⟩ (.string n)).setCell ⟨w.heap.size, 2, none⟩ (.bool false)).setCell ⟨w.heap.size, 3, none⟩ (.pointer none)).setCell ⟨w.heap.size, 4, none⟩ (.int .i64 0))) :=
    ⟨.inr ⟨(unhide HE).trans he, unhide HN, ds, n, db, hns, hdir, hat, rfl⟩, below_set5 hbb (Nat.le_refl _) _ _ _ _ _⟩
   clear he hns hdir hat
   unfold spotV
   go_wp2
   have hR := set5 hr2 (.pointer (some ⟨db, 0, none⟩)) (.string n) (.bool false) (.pointer none) (.int .i64 0)
   have r0 := hR.cell 0; have r1 := hR.cell 1; have r2 := hR.cell 2; have r3 := hR.cell 3; have r4 := hR.cell 4
   exact bodyPost_ret (v := .tuple #[spotV (some ⟨db, 0, none⟩) n false ⟨none, 0⟩, .int .i64 0]) (by simp [results, Tryz.results181, go_sem, r0, r1, r2, r3, r4, spotV]) rfl (unhide HP)
theorem mkdir_code (w : World) (tb : Nat) (G : Gh) (I : List (Int × VF)) (C : Int → ByteArray) (h : PS w tb G I C) (hG : GOk G) (hGl : G.length ≤ 10000) (hIl : I.length ≤ 10000) (p : ByteArray) (hp : p.size ≤ 2000000) :
  Calls Tryz.prog 122 #[.pointer (some ⟨tb, 0, none⟩), .string p] w (MkPost w tb G I C p) := by
 obtain ⟨rd, V, E, vi, h⟩ := h
 have HSAME : Hid (∀ W, Below w.heap.size w W → mkE G I p ≠ 0 → MkPost w tb G I C p (.returned (.int .i64 (mkE G I p))) W) := fun W hb hne => ⟨rfl, Fr.of_below hb, .inl ⟨hne, rd, V, E, vi, h.below hb (Nat.le_refl _)⟩⟩
 have hlg := locGap_code w tb rd V E vi G I C h hG hGl p hp
 have HH := hide h
 clear h
 go_enter Tryz.func122, Tryz.ntmps122
 go_wp2_with fail
 refine hlg.mono ?_
 rintro e w2 ⟨hpost, hb⟩
 clear hlg
 rcases hpost with ⟨hne, rfl⟩ | ⟨he, hn, ds, n, db, hns, hdir, hat, rfl⟩
 ·have HE : Hid (mkE G I p = lgE G p) := by
   show _ = _
   unfold mkE lgE at *
   by_cases hn : nmOk p = false
   ·rw [if_pos hn, if_pos hn]
   ·rw [if_neg hn] at hne
    rw [if_neg hn, if_neg hn, if_pos hne]
  have HNE := hide hne
  have hne' : (lgE G p != 0) = true := by simpa using hne
  clear hne
  unfold noSpot spotV
  go_wp2
  go_ret
  have := unhide HSAME _ (hb.alloc hb.size (.cells (spotL none ⟨#[]⟩ false ⟨none, 0⟩).toArray 262)) (by rw [unhide HE]; exact unhide HNE)
  rw [unhide HE] at this
  exact this
 ·have he : gapE G (names p) = 0 := by unfold lgE at he; rw [if_neg (by rw [hn]; simp)] at he; exact he
  have HN := hide hn
  obtain ⟨W, hW, hx, hk, hsz, hbW⟩ := alloc_name w2 (spotL (some ⟨db, 0, none⟩) n false ⟨none, 0⟩) 262
  have hbb : Below w.heap.size w W := hb.trans (hbW.mono hb.size)
  have hmay := mayMake_code W tb rd V E vi G I C ((unhide HH).below hbb (Nat.le_refl _)) hG hGl hIl ds db hdir
  have HMAY : Hid (mkE G I p = if mayB G I ds = false then 8 else 0) := by
   show _ = _
   unfold mkE
   rw [if_neg (by rw [unhide HN]; simp), if_neg (by rw [he]; simp), hns, List.dropLast_concat]
  have HNS := hide hns
  have HAT := hide hat
  have HDIR := hide hdir
  have HW := hide hW
  clear he hns hat hdir hk hW
  unfold spotV
  go_upto_if 20 with fail
  rw [unhide HW]
  clear HW
  have a0 := hx.cell 0; have a1 := hx.cell 1; have a2 := hx.cell 2; have a3 := hx.cell 3; have a4 := hx.cell 4
  go_wp2_with fail
  refine hmay.mono ?_
  rintro e w3 ⟨rfl, hb3⟩
  have hx3 : RowIs w3 w2.heap.size 262 _ := (hb3.block _ hx.lt).trans hx
  have hbw3 : Below w.heap.size w w3 := hbb.trans (hb3.mono hbb.size)
  clear hmay a0 a1 a2 a3 a4
  change Hid (mkE G I p = if mayB G I ds = false then 8 else 0) at HMAY
  rw [show decide ((G.countP (qIn ds) < 20 ∧ G.length < 100) ∧ cD G [] + I.length < 60) = mayB G I ds from rfl]
  cases hmb : mayB G I ds with
  | false =>
   have HE : Hid (mkE G I p = 8) := by show _ = _; rw [unhide HMAY, hmb]; rfl
   go_wp2
   go_ret
   have := unhide HSAME w3 hbw3 (by rw [unhide HE]; decide)
   rw [unhide HE] at this
   exact this
  | true =>
   have HE : Hid (mkE G I p = 0) := by show _ = _; rw [unhide HMAY, hmb]; rfl
   have a0 := hx3.cell 0; have a1 := hx3.cell 1; have a2 := hx3.cell 2; have a3 := hx3.cell 3; have a4 := hx3.cell 4
   obtain ⟨W4, hW4, hx4, hk4, hsz4, hb4⟩ := alloc_name w3 [.slice none 0 0] 229
   have hbw4 : Below w.heap.size w W4 := hbw3.trans (hb4.mono hbw3.size)
   have h4 := (unhide HH).below hbw4 (Nat.le_refl _)
   have hdir := unhide HDIR
   have hent := enter_low W4 db n (by
    have := names_len (unhide HN)
    cases hr : (p.toList == [47]) with
    | true => have h0 := names_root hr; rw [unhide HNS] at h0; simp at h0
    | false =>
     have h1 := (path_names (unhide HN) hr).2.1 n (by rw [unhide HNS]; simp)
     simp only [okName, Bool.and_eq_true, decide_eq_true_eq] at h1
     have := h1.1.2; omega) false ⟨none, 0⟩ ⟨some ⟨w3.heap.size, 0, none⟩, 0⟩ (V db) (E db) (h4.d.row ds db hdir) (h4.d.sl ds db hdir) (Nat.le_trans (h4.d.le hG hdir) hGl) (h4.d.srt ds db hdir) (fun x hx e => by
     have := (h4.d.en ds db hdir x.1 x.2).1 hx
     rw [e] at this
     exact atG_none (by rw [← unhide HNS]; exact unhide HAT) _ this)
   unfold spotV at hent
   have HENT := hide hent
   have H4 := hide h4
   have HW4 := hide hW4
   clear hent h4 hW4
   go_wp2_with fail
   rw [unhide HW4]
   refine (unhide HENT).mono ?_
   rintro e w5 ⟨rfl, v', es', q1, q2, q3, q4, q5, q6, q7⟩
   have HFIN : Hid (MkPost w tb G I C p (.returned (.int .i64 0)) w5) := by
    have h4 := unhide H4
    have hrow := h4.d.row ds db hdir
    have hsl := h4.d.sl ds db hdir
    have hfresh : ∀ ns b, IsDir G rd ns b → b ≠ w3.heap.size := fun ns b hb e => by
     have := ((unhide HH).d.row ns b hb).lt
     have := hbw3.size
     omega
    have hx5 : RowIs w5 w3.heap.size 229 [.slice none 0 0] := by
     refine hx4.fr q7 (fun e => ?_)
     rcases e with e | e
     ·exact hfresh ds db hdir e.symm
     ·obtain ⟨R, hR⟩ := hsl.type e
      have := hR.type hx4; revert this; decide
    have hD := h4.d.addDir hG hdir (by rw [← unhide HNS]; exact unhide HAT) (Nat.le_trans (Nat.le_of_lt ((unhide HH).d.row _ _ (.inl ⟨rfl, rfl⟩)).lt) hbw3.size) hfresh hx5 q1 q2 q3 q5 q6 q7
    have hT := TW.dirs h4 hrow hsl q7 hD
    rw [← unhide HNS] at hT
    exact ⟨by rw [unhide HE], Fr.prog hbw4 (Fr.progOne (h4.dlo hdir) hrow hsl q7), .inr ⟨unhide HE, w3.heap.size, rd, _, _, vi, hT⟩⟩
   clear HENT q1 q2 q3 q4 q5 q6 q7
   go_wp2
   go_ret
   exact unhide HFIN
theorem TW.setI {w w' : World} {tb rd : Nat} {V : Nat → Value} {E : Nat → List (ByteArray × VS)} {vi vi' : Value} {G : Gh} {I I' : List (Int × VF)} {C C' : Int → ByteArray} (h : TW w tb rd V E vi G I C)
  (hr : RowIs w' tb 214 [.pointer (some ⟨rd, 0, none⟩), vi']) (hS : Sl w' 293 3 vi' I'.length (cellsI I')) (hs : SrtI I') (hf : Fr (fun k => k = tb ∨ vi.ownBlock = some k) w w')
  (hd : ∀ x ∈ I', Sl w' 5 1 (.slice x.2.a x.2.l x.2.c) x.2.l (bytesV (C' x.1))) (hn : NewOr w vi vi') : TW w' tb rd V E vi' G I' C' := by
 have hX : ∀ k t R, (k = tb ∨ vi.ownBlock = some k) → RowIs w k t R → t = 214 ∨ t = 293 := fun k t R hk hR => by
  rcases hk with rfl | hk
  ·exact .inl (hR.type h.t)
  ·obtain ⟨R', hR'⟩ := h.i.type hk
   exact .inr (hR.type hR')
 refine ⟨h.pk.fr hf (fun e => ?_), hr, h.d.fr hf (fun k t R e hR => ?_), hS, hs, hd, h.lo.1, fun g hg => (hn g hg).elim (h.lo.2 g) (fun h1 => Nat.le_trans (Nat.le_of_lt (h.d.row _ _ (.inl ⟨rfl, rfl⟩)).lt) h1)⟩
 ·obtain ⟨_, ht⟩ := h.pk
  rcases e with rfl | hk
  ·have := ht _ _ h.t; revert this; decide
  ·obtain ⟨R', hR'⟩ := h.i.type hk
   have := ht _ _ hR'; revert this; decide
 ·rcases hX k t R e hR with rfl | rfl <;> decide
theorem Fr.progI {w w' : World} {tb rd : Nat} {V : Nat → Value} {E : Nat → List (ByteArray × VS)} {vi : Value} {G : Gh} {I : List (Int × VF)} {C : Int → ByteArray} (h : TW w tb rd V E vi G I C) (hf : Fr (fun k => k = tb ∨ vi.ownBlock = some k) w w') : Fr (ProgT tb w) w w' :=
 hf.mono (fun k _ hk => by
  rcases hk with rfl | hk
  ·exact ⟨⟨214, _, h.t, .inl rfl⟩, Nat.le_succ _⟩
  ·obtain ⟨R, hR⟩ := h.i.type hk
   exact ⟨⟨293, R, hR, .inr (.inr (.inr rfl))⟩, by have := h.lo.1; have := h.lo.2 k hk; omega⟩)
theorem TW.ne {w : World} {tb rd : Nat} {V : Nat → Value} {E : Nat → List (ByteArray × VS)} {vi : Value} {G : Gh} {I : List (Int × VF)} {C : Int → ByteArray} (h : TW w tb rd V E vi G I C) : vi.ownBlock ≠ some tb := fun e => by
 obtain ⟨R, hR⟩ := h.i.type e; have := hR.type h.t; revert this; decide
theorem rowHead {w w' : World} {tb : Nat} {a b v v' : Value} (h : RowIs w tb 214 [a, b]) (hm : MapFr w w' tb 1 v v') : RowIs w' tb 214 [a, v'] := by
 have h1 := hm.head
 have h2 := h.set 1 v'
 unfold RowIs at h2 ⊢
 rw [h1]; simpa using h2
theorem putOver_code (w : World) (tb rd : Nat) (V : Nat → Value) (E : Nat → List (ByteArray × VS)) (vi : Value) (G : Gh) (I : List (Int × VF)) (C : Int → ByteArray) (h : TW w tb rd V E vi G I C) (hIl : I.length ≤ 10000) (n : Int) (r0 r : VF) (hin : (n, r0) ∈ I) (s : ByteArray) (hdat : Sl w 5 1 (.slice r.a r.l r.c) r.l (bytesV s)) :
  Calls Tryz.prog 228 #[.pointer (some ⟨tb, 1, none⟩), .int .i64 n, .agg #[.slice r.a r.l r.c, .int .i64 r.f]] w fun e w' => e = .returned (.tuple #[]) ∧ (∃ I', TW w' tb rd V E vi G I' (fun k => if k = n then s else C k) ∧ I'.length = I.length ∧ ∀ x, x ∈ I' ↔ x = (n, r) ∨ x ∈ I ∧ x.1 ≠ n) ∧ Fr (fun k => k = tb ∨ vi.ownBlock = some k) w w' := by
 refine (putOverI w tb 1 vi I n r0 r (h.t.cell 1) h.ne h.i hIl h.si hin).mono ?_
 rintro e w' ⟨rfl, I', q1, q2, q3, q4, q5, q6⟩
 have hf : Fr (fun k => k = tb ∨ vi.ownBlock = some k) w w' := Fr.of_grown q6 (fun k e => .inr e)
 have hr : RowIs w' tb 214 [.pointer (some ⟨rd, 0, none⟩), vi] := (q6.block tb h.t.lt (fun e => h.ne e.symm)).trans h.t
 have hkeep : ∀ (v : Value) (m : Nat) (xs : List Value), Sl w 5 1 v m xs → Sl w' 5 1 v m xs := fun v m xs hS => hS.fr hf (fun g hg e => by
  obtain ⟨R, hR⟩ := hS.type hg
  rcases e with rfl | e
  ·have := hR.type h.t; revert this; decide
  ·obtain ⟨R', hR'⟩ := h.i.type e; have := hR.type hR'; revert this; decide)
 refine ⟨rfl, ⟨I', h.setI hr q2 q3 hf (fun x hx => ?_) (fun g hg => .inl hg), q4, q5⟩, hf⟩
 rcases (q5 x).1 hx with rfl | ⟨hx', hne⟩
 ·simp only [if_true]; exact hkeep _ _ _ hdat
 ·rw [if_neg hne]; exact hkeep _ _ _ (h.dat x hx')
theorem drop_code (w : World) (tb rd : Nat) (V : Nat → Value) (E : Nat → List (ByteArray × VS)) (vi : Value) (G : Gh) (I : List (Int × VF)) (C : Int → ByteArray) (h : TW w tb rd V E vi G I C) (hIl : I.length ≤ 10000) (n : Int) (r0 : VF) (hin : (n, r0) ∈ I) :
  Calls Tryz.prog 234 #[.pointer (some ⟨tb, 1, none⟩), .int .i64 n] w fun e w' => e = .returned (.tuple #[]) ∧ (∃ vi' I', TW w' tb rd V E vi' G I' C ∧ I'.length + 1 = I.length ∧ ∀ x, x ∈ I' ↔ x ∈ I ∧ x.1 ≠ n) ∧ Fr (fun k => k = tb ∨ vi.ownBlock = some k) w w' := by
 refine (dropI w tb 1 vi I n r0 (h.t.cell 1) (h.t.frozen 1) h.ne h.i hIl h.si hin).mono ?_
 rintro e w' ⟨rfl, vi', I', q1, q2, q3, q4, q5, q6, q7⟩
 have hf : Fr (fun k => k = tb ∨ vi.ownBlock = some k) w w' := ⟨q7.os, q7.tape, q7.output, q7.size, fun k hk hX => q7.block k hk (fun e => hX (.inl e)) (fun e => hX (.inr e))⟩
 have hkeep : ∀ (v : Value) (m : Nat) (xs : List Value), Sl w 5 1 v m xs → Sl w' 5 1 v m xs := fun v m xs hS => hS.fr hf (fun g hg e => by
  obtain ⟨R, hR⟩ := hS.type hg
  rcases e with rfl | e
  ·have := hR.type h.t; revert this; decide
  ·obtain ⟨R', hR'⟩ := h.i.type e; have := hR.type hR'; revert this; decide)
 exact ⟨rfl, ⟨vi', I', h.setI (rowHead h.t q7) q2 q3 hf (fun x hx => hkeep _ _ _ (h.dat x ((q5 x).1 hx).1)) q6, q4, q5⟩, hf⟩
theorem putNew_code (w : World) (tb rd : Nat) (V : Nat → Value) (E : Nat → List (ByteArray × VS)) (vi : Value) (G : Gh) (I : List (Int × VF)) (C : Int → ByteArray) (h : TW w tb rd V E vi G I C) (hIl : I.length ≤ 10000) (n : Int) (r : VF) (hno : ∀ x ∈ I, x.1 ≠ n) (s : ByteArray) (hdat : Sl w 5 1 (.slice r.a r.l r.c) r.l (bytesV s)) :
  Calls Tryz.prog 228 #[.pointer (some ⟨tb, 1, none⟩), .int .i64 n, .agg #[.slice r.a r.l r.c, .int .i64 r.f]] w fun e w' => e = .returned (.tuple #[]) ∧ (∃ vi' I', TW w' tb rd V E vi' G I' (fun k => if k = n then s else C k) ∧ I'.length = I.length + 1 ∧ ∀ x, x ∈ I' ↔ x = (n, r) ∨ x ∈ I) ∧ Fr (fun k => k = tb ∨ vi.ownBlock = some k) w w' := by
 refine (putNewI w tb 1 vi I n r (h.t.cell 1) (h.t.frozen 1) h.ne h.i hIl h.si hno).mono ?_
 rintro e w' ⟨rfl, vi', I', q1, q2, q3, q4, q5, q6, q7⟩
 have hf : Fr (fun k => k = tb ∨ vi.ownBlock = some k) w w' := ⟨q7.os, q7.tape, q7.output, q7.size, fun k hk hX => q7.block k hk (fun e => hX (.inl e)) (fun e => hX (.inr e))⟩
 have hkeep : ∀ (v : Value) (m : Nat) (xs : List Value), Sl w 5 1 v m xs → Sl w' 5 1 v m xs := fun v m xs hS => hS.fr hf (fun g hg e => by
  obtain ⟨R, hR⟩ := hS.type hg
  rcases e with rfl | e
  ·have := hR.type h.t; revert this; decide
  ·obtain ⟨R', hR'⟩ := h.i.type e; have := hR.type hR'; revert this; decide)
 refine ⟨rfl, ⟨vi', I', h.setI (rowHead h.t q7) q2 q3 hf (fun x hx => ?_) q6, q4, q5⟩, hf⟩
 rcases (q5 x).1 hx with rfl | hx'
 ·simp only [if_true]; exact hkeep _ _ _ hdat
 ·rw [if_neg (hno x hx')]; exact hkeep _ _ _ (h.dat x hx')
theorem getI_code (w : World) (tb rd : Nat) (V : Nat → Value) (E : Nat → List (ByteArray × VS)) (vi : Value) (G : Gh) (I : List (Int × VF)) (C : Int → ByteArray) (h : TW w tb rd V E vi G I C) (hIl : I.length ≤ 10000) (n : Int) (r : VF) (hin : (n, r) ∈ I) :
  Calls Tryz.prog 175 #[.pointer (some ⟨tb, 1, none⟩), .int .i64 n] w fun e w' => e = .returned (.tuple #[.agg #[.slice r.a r.l r.c, .int .i64 r.f], .bool true]) ∧ Below w.heap.size w w' := by
 refine (getI w tb 1 vi I n (h.t.cell 1) h.i hIl h.si).mono ?_
 rintro e w' ⟨r', b, rfl, hfd, hb⟩
 rcases hfd with ⟨rfl, hm⟩ | ⟨rfl, _, hno⟩
 ·have hnd : (I.map (·.1)).Nodup := by
   unfold List.Nodup
   rw [List.pairwise_iff_getElem]
   intro i j hi hj hij e
   have hj' : j < I.length := by simpa using hj
   rw [List.getElem_map, List.getElem_map] at e
   have := h.si i j I[i] I[j] hij (List.getElem?_eq_getElem _) (List.getElem?_eq_getElem _)
   have := of_decide_eq_true this
   omega
  rw [nodup_fst hnd hm hin]
  exact ⟨rfl, hb⟩
 ·exact absurd rfl (hno _ hin)
def IOver (I I' : List (Int × VF)) (n : Int) (r : VF) : Prop := I'.length = I.length ∧ ∀ x, x ∈ I' ↔ x = (n, r) ∨ x ∈ I ∧ x.1 ≠ n
def IDrop (I I' : List (Int × VF)) (n : Int) : Prop := I'.length + 1 = I.length ∧ ∀ x, x ∈ I' ↔ x ∈ I ∧ x.1 ≠ n
theorem if_self_C (C : Int → ByteArray) (n : Int) : (fun k => if k = n then C n else C k) = C := by
 funext k; split
 ·rename_i h; rw [h]
 ·rfl
theorem putOver_at (w : World) (tb rd : Nat) (V : Nat → Value) (E : Nat → List (ByteArray × VS)) (vi : Value) (G : Gh) (I : List (Int × VF)) (C : Int → ByteArray) (h : TW w tb rd V E vi G I C) (hIl : I.length ≤ 10000) (n : Int) (r : VF) (hin : (n, r) ∈ I) (f : Int) (W : World) (hb : Below w.heap.size w W) :
  Calls Tryz.prog 228 #[.pointer (some ⟨tb, 1, none⟩), .int .i64 n, .agg #[.slice r.a r.l r.c, .int .i64 f]] W fun e w' => e = .returned (.tuple #[]) ∧ ((∃ I', TW w' tb rd V E vi G I' C ∧ IOver I I' n ⟨r.a, r.l, r.c, f⟩) ∧ Fr (ProgT tb w) w w') ∧ ∀ k, k < W.heap.size → w.heap.size ≤ k → w'.heap[k]? = W.heap[k]? := by
 have hW := h.below hb (Nat.le_refl _)
 refine (putOver_code W tb rd V E vi G I C hW hIl n r ⟨r.a, r.l, r.c, f⟩ hin (C n) (hW.dat _ hin)).mono ?_
 rintro e w' ⟨rfl, ⟨I', q1, q2, q3⟩, q4⟩
 rw [if_self_C] at q1
 exact ⟨rfl, ⟨⟨I', q1, q2, q3⟩, Fr.prog hb (Fr.progI hW q4)⟩, fun k hk hkw => q4.block k hk (fun e => by
  rcases e with rfl | e
  ·have := h.t.lt; omega
  ·have := h.i.lt e; omega)⟩
theorem unlink_code (w : World) (tb rd : Nat) (V : Nat → Value) (E : Nat → List (ByteArray × VS)) (vi : Value) (G : Gh) (I : List (Int × VF)) (C : Int → ByteArray) (h : TW w tb rd V E vi G I C) (hIl : I.length ≤ 10000) (n : Int) (r : VF) (hin : (n, r) ∈ I) (hf0 : 0 < r.f) (hf1 : r.f ≤ 10000) :
  Calls Tryz.prog 197 #[.pointer (some ⟨tb, 0, none⟩), .int .i64 n] w fun e w' => e = .returned (.tuple #[]) ∧ (∃ vi' I', TW w' tb rd V E vi' G I' C ∧ ((r.f = 1 ∧ IDrop I I' n) ∨ (r.f ≠ 1 ∧ IOver I I' n ⟨r.a, r.l, r.c, r.f - 1⟩))) ∧ Fr (ProgT tb w) w w' := by
 have hget := getI_code w tb rd V E vi G I C h hIl n r hin
 have HPUT : Hid (∀ W, Below w.heap.size w W → _) := fun W hb => putOver_at w tb rd V E vi G I C h hIl n r hin (r.f - 1) W hb
 have HH := hide h
 go_enter Tryz.func197, Tryz.ntmps197
 go_wp2_with fail
 refine hget.mono ?_
 rintro e w1 ⟨rfl, hb⟩
 clear hget h
 obtain ⟨W, hW, hx, hk, hsz, hbW⟩ := alloc_name w1 [.slice r.a r.l r.c, .int .i64 (r.f - 1)] 217
 have hbb : Below w.heap.size w W := hb.trans (hbW.mono hb.size)
 have hbs := hb.size
 have HW := hide hW
 clear hW hk hb hbW
 go_upto_region 2 with fail
 rw [unhide HW]
 have a0 := hx.cell 0; have a1 := hx.cell 1
 clear hx HW
 by_cases h1 : r.f = 1
 ·have hz : (r.f - 1 == 0) = true := by rw [h1]; rfl
  have hdrop := drop_code W tb rd V E vi G I C ((unhide HH).below hbb (Nat.le_refl _)) hIl n r hin
  have HDROP := hide hdrop
  have H1 := hide h1
  clear hdrop h1
  go_wp2_with (first | (go_at_call 234; refine (unhide HDROP).mono ?_; rintro e w'' ⟨rfl, ⟨vi', I', q1, q2, q3⟩, q4⟩))
  refine bodyPost_ret (results_none rfl _ _ _) rfl ?_
  exact ⟨rfl, ⟨vi', I', q1, .inl ⟨unhide H1, q2, q3⟩⟩, Fr.prog hbb (Fr.progI ((unhide HH).below hbb (Nat.le_refl _)) q4)⟩
 ·have hz : (r.f - 1 == 0) = false := by simp; omega
  have H1 := hide h1
  clear h1
  go_upto_region 4 with fail
  go_region_held3 (fun W => W.cell? ⟨w1.heap.size, 0, none⟩ = some (.slice r.a r.l r.c) ∧ W.cell? ⟨w1.heap.size, 1, none⟩ = some (.int .i64 (r.f - 1))) (go_keep)
   (first | (go_at_call 228; refine (unhide HPUT _ hbb.drew).mono ?_; rintro e w'' ⟨rfl, hpost, q8⟩; have m0 := (World.cell?_of_block (a := ⟨w1.heap.size, 0, none⟩) (q8 _ (World.block_lt_of_cell? _ _ a0) hbs)).trans a0; have m1 := (World.cell?_of_block (a := ⟨w1.heap.size, 1, none⟩) (q8 _ (World.block_lt_of_cell? _ _ a1) hbs)).trans a1))
  all_goals
   go_wp2
   go_end0
   obtain ⟨⟨I', q1, q2⟩, q3⟩ := hpost
   exact ⟨rfl, ⟨vi, I', q1, .inr ⟨unhide H1, q2⟩⟩, q3⟩
def delG (G G' : Gh) (ns : List ByteArray) : Prop := ∀ x, x ∈ G' ↔ x ∈ G ∧ x.1 ≠ ns
def rmE (G : Gh) (p : ByteArray) : Int := if thE G p ≠ 0 then thE G p else if names p = [] then 7 else match atG G (names p) with | some u => if u.p.isSome = true ∧ 0 < G.countP (qIn (names p)) then 7 else 0 | none => 0
def FlOk (G : Gh) (I : List (Int × VF)) : Prop := ∀ x ∈ G, x.2.p = none → ∃ r, (x.2.f, r) ∈ I ∧ 0 < r.f ∧ r.f ≤ 10000
def RmPost (w : World) (tb : Nat) (G : Gh) (I : List (Int × VF)) (C : Int → ByteArray) (p : ByteArray) (e : Ending) (w' : World) : Prop :=
 e = .returned (.int .i64 (rmE G p)) ∧ Fr (ProgT tb w) w w' ∧ ((rmE G p ≠ 0 ∧ PS w' tb G I C) ∨ (rmE G p = 0 ∧ ∃ u, atG G (names p) = some u ∧
  ((u.p.isSome = true ∧ ∀ G', delG G G' (names p) → PS w' tb G' I C) ∨
   (u.p = none ∧ ∃ r I', (u.f, r) ∈ I ∧ ((r.f = 1 ∧ IDrop I I' u.f) ∨ (r.f ≠ 1 ∧ IOver I I' u.f ⟨r.a, r.l, r.c, r.f - 1⟩)) ∧ ∀ G', delG G G' (names p) → PS w' tb G' I' C))))
theorem TW.congrG {w : World} {tb rd : Nat} {V : Nat → Value} {E : Nat → List (ByteArray × VS)} {vi : Value} {G G' : Gh} {I : List (Int × VF)} {C : Int → ByteArray} (h : TW w tb rd V E vi G I C) (hg : ∀ x, x ∈ G' ↔ x ∈ G) : TW w tb rd V E vi G' I C := by
 have hd : ∀ ns b, IsDir G' rd ns b → IsDir G rd ns b := fun ns b hx => hx.elim .inl (fun hx => .inr ((hg _).1 hx))
 exact ⟨h.pk, h.t, ⟨fun x hx => h.d.shp x ((hg x).1 hx), fun ns b hb => h.d.row ns b (hd ns b hb), fun ns b hb => h.d.sl ns b (hd ns b hb), fun ns b hb => h.d.srt ns b (hd ns b hb), fun ns b hb n u => (h.d.en ns b (hd ns b hb) n u).trans (hg _).symm, fun ns ns' b h1 h2 => h.d.inj ns ns' b (hd _ _ h1) (hd _ _ h2), fun ns ns' b b' g h1 h2 => h.d.own ns ns' b b' g (hd _ _ h1) (hd _ _ h2), fun ns b hb => h.d.lo ns b (hd ns b hb)⟩, h.i, h.si, h.dat, h.lo⟩
def gone (G : Gh) (ns : List ByteArray) : Gh := G.filter (fun x => decide (x.1 ≠ ns))
theorem gone_del (G : Gh) (ns : List ByteArray) : delG G (gone G ns) ns := fun x => by unfold gone; rw [List.mem_filter, decide_eq_true_eq]
theorem SpotIs.in {G : Gh} {rd : Nat} {ns : List ByteArray} {d : Option Addr} {n : ByteArray} {u : VS} (h : SpotIs G rd ns d n true u) (hne : ns ≠ []) : ∃ ds db, ns = ds ++ [n] ∧ IsDir G rd ds db ∧ d = some ⟨db, 0, none⟩ ∧ atG G ns = some u := by
 rcases h with ⟨rfl, _⟩ | ⟨ds, db, h1, h2, h3, h4, h5⟩
 ·exact absurd rfl hne
 ·refine ⟨ds, db, h1, h2, h3, ?_⟩
  cases ha : atG G ns with
  | none => rw [ha] at h4; cases h4
  | some v => rw [ha] at h5; rw [h5]; rfl
theorem remove_code (w : World) (tb : Nat) (G : Gh) (I : List (Int × VF)) (C : Int → ByteArray) (h : PS w tb G I C) (hG : GOk G) (hGl : G.length ≤ 10000) (hIl : I.length ≤ 10000) (hFl : FlOk G I) (p : ByteArray) (hp : p.size ≤ 2000000) :
  Calls Tryz.prog 127 #[.pointer (some ⟨tb, 0, none⟩), .string p] w (RmPost w tb G I C p) := by
 obtain ⟨rd, V, E, vi, h⟩ := h
 have HSAME : Hid (∀ W, Below w.heap.size w W → rmE G p ≠ 0 → RmPost w tb G I C p (.returned (.int .i64 (rmE G p))) W) := fun W hb hne => ⟨rfl, Fr.of_below hb, .inl ⟨hne, rd, V, E, vi, h.below hb (Nat.le_refl _)⟩⟩
 have hth := there_code w tb rd V E vi G I C h hG hGl p hp
 have HH := hide h
 have HFL := hide hFl
 clear hFl h
 go_enter Tryz.func127, Tryz.ntmps127
 go_wp2_with fail
 refine hth.mono ?_
 rintro e w1 ⟨hpost, hb⟩
 clear hth
 rcases hpost with ⟨hne, rfl⟩ | ⟨he, hok, d, n, u, hsp, rfl⟩
 ·have HE : Hid (rmE G p = thE G p) := by show _ = _; unfold rmE; rw [if_pos hne]
  have HNE := hide hne
  have hne' : (thE G p != 0) = true := by simpa using hne
  clear hne
  unfold noSpot spotV
  go_wp2
  go_ret
  have := unhide HSAME _ (hb.alloc hb.size (.cells (spotL none ⟨#[]⟩ false ⟨none, 0⟩).toArray 262)) (by rw [unhide HE]; exact unhide HNE)
  rw [unhide HE] at this
  exact this
 ·have HSP := hide hsp
  have HE0 := hide he
  have HOK := hide hok
  clear hsp he hok
  unfold spotV
  go_upto_if 15 with fail
  obtain ⟨W, hW, hx, hk, hsz, hbW⟩ := alloc_name w1 (spotL d n true u) 262
  have hbb : Below w.heap.size w W := hb.trans (hbW.mono hb.size)
  rw [hW]
  clear hW hk
  have a0 := hx.cell 0; have a1 := hx.cell 1; have a2 := hx.cell 2; have a3 := hx.cell 3; have a4 := hx.cell 4
  have hroot := fun W => isRoot_code d n true u W
  unfold spotV at hroot
  have HROOT := hide hroot
  clear hroot
  go_wp2_with fail
  refine (unhide HROOT _).mono ?_
  rintro e w2 ⟨rfl, hb2⟩
  clear HROOT a0 a1 a2 a3 a4
  have hx2 : RowIs w2 w1.heap.size 262 _ := (hb2.block _ hx.lt).trans hx
  have hbw : Below w.heap.size w w2 := hbb.trans (hb2.mono hbb.size)
  have a0 := hx2.cell 0; have a1 := hx2.cell 1; have a2 := hx2.cell 2; have a3 := hx2.cell 3; have a4 := hx2.cell 4
  have h2 := (unhide HH).below hbw (Nat.le_refl _)
  have H2 := hide h2
  clear hb hbW hbb hb2 hx h2
  by_cases hne : names p = []
  ·have HE : Hid (rmE G p = 7) := by show _ = _; unfold rmE; rw [if_neg (by rw [unhide HE0]; simp), if_pos hne]
   obtain rfl : d = none := by
    rcases unhide HSP with ⟨_, h1, _⟩ | ⟨ds, db, h1, _⟩
    ·exact h1
    ·rw [hne] at h1; simp at h1
   clear hne
   go_wp2
   go_ret
   have := unhide HSAME w2 hbw (by rw [unhide HE]; decide)
   rw [unhide HE] at this
   exact this
  ·obtain ⟨ds, db, hns, hdir, rfl, hat⟩ := (unhide HSP).in hne
   have hmem := atG_mem hat
   have hnsz : (n, u) ∈ E db := ((unhide H2).d.en ds db hdir n u).2 (by rw [← hns]; exact hmem)
   have HE : Hid (rmE G p = if u.p.isSome = true ∧ 0 < G.countP (qIn (names p)) then 7 else 0) := by show _ = _; unfold rmE; rw [if_neg (by rw [unhide HE0]; simp), if_neg hne, hat]
   have hshp := (unhide H2).d.shp _ hmem
   have hlv := leave_low w2 db n true u u (V db) (E db) ((unhide H2).d.row ds db hdir) ((unhide H2).d.sl ds db hdir) (Nat.le_trans ((unhide H2).d.le hG hdir) hGl) ((unhide H2).d.srt ds db hdir) hnsz
   unfold spotV at hlv
   have HLV := hide hlv
   have HNS := hide hns
   have HDIR := hide hdir
   have HAT := hide hat
   have HMEM := hide hmem
   have HSHP := hide hshp
   clear hlv hns hdir hat hmem hshp hnsz hne
   obtain ⟨up, uf⟩ := u
   cases up with
   | none =>
    have HE2 : Hid (rmE G p = 0) := by show _ = _; rw [unhide HE]; simp
    obtain ⟨r, hin, hr0, hr1⟩ := unhide HFL _ (unhide HMEM) rfl
    simp only at hin
    have HIN := hide hin
    clear hin
    go_wp2_with fail
    refine (unhide HLV).mono ?_
    rintro e w3 ⟨rfl, v', es', q1, q2, q3, q4, q5, q6, q7⟩
    have h3 : TW w3 tb rd (upd V db v') (upd E db es') vi (gone G (names p)) I C := by
     have h2 := unhide H2
     exact TW.dirs h2 (h2.d.row ds db (unhide HDIR)) (h2.d.sl ds db (unhide HDIR)) q7 (h2.d.del hG (unhide HDIR) (n := n) (fun x => by rw [← unhide HNS]; exact gone_del G _ x) q1 q2 q3 q5 q6 q7)
    have HFR : Hid (Fr (ProgT tb w) w w3) := Fr.prog hbw (Fr.progOne ((unhide H2).dlo (unhide HDIR)) ((unhide H2).d.row ds db (unhide HDIR)) ((unhide H2).d.sl ds db (unhide HDIR)) q7)
    have hx3 : RowIs w3 w1.heap.size 262 _ := hx2.fr q7 (fun hX => by
     rcases hX with e | e
     ·have := (unhide H2).d.row ds db (unhide HDIR); rw [← e] at this; have := this.type hx2; revert this; decide
     ·obtain ⟨R, hR⟩ := ((unhide H2).d.sl ds db (unhide HDIR)).type e; have := hR.type hx2; revert this; decide)
    clear a0 a1 a2 a3 a4 HLV q1 q2 q3 q4 q5 q6 q7
    have b3 := hx3.cell 3; have b4 := hx3.cell 4
    have hul := unlink_code w3 tb rd (upd V db v') (upd E db es') vi (gone G (names p)) I C h3 hIl uf r (unhide HIN) hr0 hr1
    have HUL := hide hul
    clear hul h3
    go_wp2_with fail
    refine (unhide HUL).mono ?_
    rintro e w4 ⟨rfl, ⟨vi', I', q1, q2⟩, q3⟩
    have HFIN : Hid (RmPost w tb G I C p (.returned (.int .i64 0)) w4) :=
     ⟨by rw [unhide HE2], (unhide HFR).progTrans q3, .inr ⟨unhide HE2, ⟨none, uf⟩, unhide HAT, .inr ⟨rfl, r, I', unhide HIN, q2, fun G' hG' => ⟨rd, _, _, vi', q1.congrG (fun x => (hG' x).trans (gone_del G _ x).symm)⟩⟩⟩⟩
    clear HUL q1 q2 q3
    go_wp2
    go_ret
    exact unhide HFIN
   | some au =>
    rcases unhide HSHP with h0 | ⟨b', hb'⟩
    ·simp at h0
    ·simp only [VS.mk.injEq, Option.some.injEq] at hb'
     obtain ⟨rfl, rfl⟩ := hb'
     have hdir' : IsDir G rd (names p) b' := .inr (unhide HMEM)
     have hlen := lenS w2 b' 0 (V b') (E b').length (cellsS (E b')) (((unhide H2).d.row _ b' hdir').cell 0) ((unhide H2).d.sl _ b' hdir')
     have hc := (unhide H2).d.len hG hdir'
     rw [hc] at hlen
     have HLEN := hide hlen
     have hcl : G.countP (qIn (names p)) ≤ 10000 := Nat.le_trans List.countP_le_length hGl
     obtain ⟨c, hcc⟩ : ∃ c, c = G.countP (qIn (names p)) := ⟨_, rfl⟩
     rw [← hcc] at HLEN HE hcl
     clear hlen hc hcc hdir'
     by_cases h0 : 0 < c
     ·have HE2 : Hid (rmE G p = 7) := by show _ = _; rw [unhide HE, if_pos ⟨rfl, h0⟩]
      have h0' : (0 : Int) < (c : Int) := by omega
      go_wp2_with (first | (go_at_call 178; refine (unhide HLEN).mono ?_; rintro e w' ⟨rfl, hw⟩; rw [hw]; clear hw))
      go_ret
      have := unhide HSAME w2 hbw (by rw [unhide HE2]; decide)
      rw [unhide HE2] at this
      exact this
     ·have HE2 : Hid (rmE G p = 0) := by show _ = _; rw [unhide HE, if_neg (fun h => h0 h.2)]
      have h0' : ¬ (0 : Int) < (c : Int) := by omega
      go_wp2_with (first | (go_at_call 178; refine (unhide HLEN).mono ?_; rintro e w' ⟨rfl, hw⟩; rw [hw]; clear hw) | (go_at_call 196; refine (unhide HLV).mono ?_; rintro e w3 ⟨rfl, v', es', q1, q2, q3, q4, q5, q6, q7⟩))
      go_ret
      have h2 := unhide H2
      refine ⟨by rw [unhide HE2]; rfl, Fr.prog hbw (Fr.progOne (h2.dlo (unhide HDIR)) (h2.d.row ds db (unhide HDIR)) (h2.d.sl ds db (unhide HDIR)) q7), .inr ⟨unhide HE2, _, unhide HAT, .inl ⟨rfl, fun G' hG' => ⟨rd, _, _, vi, TW.dirs h2 (h2.d.row ds db (unhide HDIR)) (h2.d.sl ds db (unhide HDIR)) q7 (h2.d.del hG (unhide HDIR) (n := n) (fun x => by rw [← unhide HNS]; exact hG' x) q1 q2 q3 q5 q6 q7)⟩⟩⟩⟩
def lnkB (G : Gh) (ds : List ByteArray) : Bool := decide (G.countP (qIn ds) < 20 ∧ G.length < 100)
def lnE (G : Gh) (p q : ByteArray) : Int := if nmOk q = false then 1 else if fileE G p true ≠ 0 then fileE G p true else if gapE G (names q) ≠ 0 then gapE G (names q) else if lnkB G (names q).dropLast = false then 8 else 0
def LnPost (w : World) (tb : Nat) (G : Gh) (I : List (Int × VF)) (C : Int → ByteArray) (p q : ByteArray) (e : Ending) (w' : World) : Prop :=
 e = .returned (.int .i64 (lnE G p q)) ∧ Fr (ProgT tb w) w w' ∧ ((lnE G p q ≠ 0 ∧ PS w' tb G I C) ∨ (lnE G p q = 0 ∧ ∃ u r I', atG G (names p) = some u ∧ u.p = none ∧ (u.f, r) ∈ I ∧ IOver I I' u.f ⟨r.a, r.l, r.c, r.f + 1⟩ ∧ PS w' tb (G ++ [(names q, ⟨none, u.f⟩)]) I' C))
theorem name_size {p : ByteArray} (hok : nmOk p = true) {ds : List ByteArray} {n : ByteArray} (hns : names p = ds ++ [n]) : n.size ≤ 2000000 := by
 cases hr : (p.toList == [47]) with
 | true => have h0 := names_root hr; rw [hns] at h0; simp at h0
 | false =>
  have h1 := (path_names hok hr).2.1 n (by rw [hns]; simp)
  simp only [okName, Bool.and_eq_true, decide_eq_true_eq] at h1
  have := h1.1.2; omega
theorem FlOk.mono {G : Gh} {I : List (Int × VF)} (h : FlOk G I) {u : VS} {ns : List ByteArray} (ha : atG G ns = some u) (hu : u.p = none) : ∃ r, (u.f, r) ∈ I ∧ 0 < r.f ∧ r.f ≤ 10000 := h _ (atG_mem ha) hu
theorem link_end (w : World) (tb rd : Nat) (V : Nat → Value) (E : Nat → List (ByteArray × VS)) (vi : Value) (G : Gh) (I : List (Int × VF)) (C : Int → ByteArray) (h : TW w tb rd V E vi G I C) (hG : GOk G) (hGl : G.length ≤ 10000) (_hIl : I.length ≤ 10000) (ds : List ByteArray) (db : Nat) (hdir : IsDir G rd ds db) (n : ByteArray) (hn : n.size ≤ 2000000) (hat : atG G (ds ++ [n]) = none) (f : Int) :
  Calls Tryz.prog 183 #[spotV (some ⟨db, 0, none⟩) n false ⟨none, 0⟩, .agg #[.pointer none, .int .i64 f]] w fun e w' => e = .returned (.tuple #[]) ∧ ∃ V' E', TW w' tb rd V' E' vi (G ++ [(ds ++ [n], ⟨none, f⟩)]) I C ∧ Fr (ProgT tb w) w w' := by
 refine (enter_low w db n hn false ⟨none, 0⟩ ⟨none, f⟩ (V db) (E db) (h.d.row ds db hdir) (h.d.sl ds db hdir) (Nat.le_trans (h.d.le hG hdir) hGl) (h.d.srt ds db hdir) (fun x hx e => by
  have := (h.d.en ds db hdir x.1 x.2).1 hx
  rw [e] at this
  exact atG_none hat _ this)).mono ?_
 rintro e w' ⟨rfl, v', es', q1, q2, q3, q4, q5, q6, q7⟩
 exact ⟨rfl, _, _, TW.dirs h (h.d.row ds db hdir) (h.d.sl ds db hdir) q7 (h.d.addFile hG hdir q1 q2 q3 q5 q6 q7), Fr.progOne (h.dlo hdir) (h.d.row ds db hdir) (h.d.sl ds db hdir) q7⟩
theorem makeLink_code (w : World) (tb rd : Nat) (V : Nat → Value) (E : Nat → List (ByteArray × VS)) (vi : Value) (G : Gh) (I : List (Int × VF)) (C : Int → ByteArray) (h : TW w tb rd V E vi G I C) (hG : GOk G) (hGl : G.length ≤ 10000) (hIl : I.length ≤ 10000) (ds : List ByteArray) (db : Nat) (hdir : IsDir G rd ds db) (n : ByteArray) (hn : n.size ≤ 2000000) (hat : atG G (ds ++ [n]) = none) (f : Int) (r : VF) (hin : (f, r) ∈ I) (hr0 : 0 ≤ r.f) (hr1 : r.f ≤ 10000) :
  Calls Tryz.prog 192 #[.pointer (some ⟨tb, 0, none⟩), spotV (some ⟨db, 0, none⟩) n false ⟨none, 0⟩, .int .i64 f] w fun e w' => (lnkB G ds = false ∧ e = .returned (.int .i64 8) ∧ Below w.heap.size w w') ∨
   (lnkB G ds = true ∧ e = .returned (.int .i64 0) ∧ Fr (ProgT tb w) w w' ∧ ∃ V' E' I', TW w' tb rd V' E' vi (G ++ [(ds ++ [n], ⟨none, f⟩)]) I' C ∧ IOver I I' f ⟨r.a, r.l, r.c, r.f + 1⟩) := by
 unfold spotV
 obtain ⟨W, hW, hx, hk, hsz, hbW⟩ := alloc_name w (spotL (some ⟨db, 0, none⟩) n false ⟨none, 0⟩) 262
 have hml := mayLink_code W tb rd V E vi G I C (h.below hbW (Nat.le_refl _)) hG hGl ds db hdir
 have HGET : Hid (∀ X, Below w.heap.size w X → Calls Tryz.prog 175 #[.pointer (some ⟨tb, 1, none⟩), .int .i64 f] X fun e w' => e = .returned (.tuple #[.agg #[.slice r.a r.l r.c, .int .i64 r.f], .bool true]) ∧ Below X.heap.size X w') := fun X hb => getI_code X tb rd V E vi G I C (h.below hb (Nat.le_refl _)) hIl f r hin
 have HPUT : Hid (∀ X, Below w.heap.size w X → _) := fun X hb => putOver_at w tb rd V E vi G I C h hIl f r hin (r.f + 1) X hb
 have HEND : Hid (∀ (X : World) (I' : List (Int × VF)), TW X tb rd V E vi G I' C → _) := fun X I' hX => link_end X tb rd V E vi G I' C hX hG hGl
 have HDIR := hide hdir
 have HAT := hide hat
 have HI := hide hIl
 have HW := hide hW
 have hlt0 := hx.lt
 clear hW hk h hdir hat hin
 go_enter Tryz.func192, Tryz.ntmps192
 go_upto_region 1 with fail
 rw [unhide HW]
 clear HW
 have a0 := hx.cell 0
 go_wp2_with fail
 refine hml.mono ?_
 rintro e w4 ⟨rfl, hb4⟩
 have hx4 : RowIs w4 w.heap.size 262 _ := (hb4.block _ hx.lt).trans hx
 have hbw4 : Below w.heap.size w w4 := hbW.trans (hb4.mono hbW.size)
 clear hml a0 hx hlt0
 rw [show decide (G.countP (qIn ds) < 20 ∧ G.length < 100) = lnkB G ds from rfl]
 cases hmb : lnkB G ds with
 | false =>
  go_wp2
  go_ret
  exact .inl ⟨hmb, rfl, hbw4⟩
 | true =>
  have hget := unhide HGET w4 hbw4
  go_wp2_with fail
  refine hget.mono ?_
  rintro e w5 ⟨rfl, hb5⟩
  have hx5 : RowIs w5 w.heap.size 262 _ := (hb5.block _ hx4.lt).trans hx4
  have hbw5 : Below w.heap.size w w5 := hbw4.trans (hb5.mono hbw4.size)
  clear hget HGET
  obtain ⟨W6, hW6, hx6, hk6, hsz6, hbW6⟩ := alloc_name w5 [.slice r.a r.l r.c, .int .i64 (r.f + 1)] 217
  have hxs6 := hk6 _ _ _ hx5
  have hbb : Below w.heap.size w W6 := hbw5.trans (hbW6.mono hbw5.size)
  go_upto_region 5 with fail
  try rw [hW6]
  have a0 := hx6.cell 0; have a1 := hx6.cell 1
  have hbs := hbw5.size
  have HXS := hide hxs6
  have hls := hxs6.lt
  clear hW6 hk6 hx6 hx5 hx4 hbW6 hb5 hb4 hbw4 hbw5 hbW hxs6
  go_region_held3 (fun W => W.cell? ⟨w5.heap.size, 0, none⟩ = some (.slice r.a r.l r.c) ∧ W.cell? ⟨w5.heap.size, 1, none⟩ = some (.int .i64 (r.f + 1))) (go_keep)
   (first | (go_at_call 228; refine (unhide HPUT _ hbb.drew).mono ?_; rintro e w7 ⟨rfl, ⟨⟨I', q1, q2⟩, q3⟩, q8⟩; have m0 := (World.cell?_of_block (a := ⟨w5.heap.size, 0, none⟩) (q8 _ (World.block_lt_of_cell? _ _ a0) hbs)).trans a0; have m1 := (World.cell?_of_block (a := ⟨w5.heap.size, 1, none⟩) (q8 _ (World.block_lt_of_cell? _ _ a1) hbs)).trans a1))
  all_goals
   have hx7 : RowIs w7 w.heap.size 262 _ := (q8 _ hls (Nat.le_refl _)).trans (unhide HXS)
   have hent := unhide HEND w7 I' q1 (by rw [q2.1]; exact unhide HI) ds db (unhide HDIR) n hn (unhide HAT) f
   unfold spotV at hent
   have b0 := hx7.cell 0; have b1 := hx7.cell 1; have b2 := hx7.cell 2; have b3 := hx7.cell 3; have b4 := hx7.cell 4
   have HENT := hide hent
   clear hent a0 a1 m0 m1 q8 hx7
   go_wp2_with fail
   refine (unhide HENT).mono ?_
   rintro e w8 ⟨rfl, V', E', h8, hf8⟩
   clear HENT b0 b1 b2 b3 b4
   go_wp2
   go_ret
   exact .inr ⟨hmb, rfl, q3.progTrans hf8, V', E', I', h8, q2⟩
theorem linkT_code (w : World) (tb : Nat) (G : Gh) (I : List (Int × VF)) (C : Int → ByteArray) (h : PS w tb G I C) (hG : GOk G) (hGl : G.length ≤ 10000) (hIl : I.length ≤ 10000) (hFl : FlOk G I) (p q : ByteArray) (hp : p.size ≤ 2000000) (hq : q.size ≤ 2000000) :
  Calls Tryz.prog 125 #[.pointer (some ⟨tb, 0, none⟩), .string p, .string q] w (LnPost w tb G I C p q) := by
 obtain ⟨rd, V, E, vi, h⟩ := h
 have HSAME : Hid (∀ W, Below w.heap.size w W → lnE G p q ≠ 0 → LnPost w tb G I C p q (.returned (.int .i64 (lnE G p q))) W) := fun W hb hne => ⟨rfl, Fr.of_below hb, .inl ⟨hne, rd, V, E, vi, h.below hb (Nat.le_refl _)⟩⟩
 have hfi := first_code w tb rd V E vi G I C h hG hGl p q hp hq
 have HH := hide h
 have HFL := hide hFl
 clear hFl h
 go_enter Tryz.func125, Tryz.ntmps125
 go_wp2_with fail
 refine hfi.mono ?_
 rintro e w1 ⟨hpost, hb⟩
 clear hfi
 rcases hpost with ⟨hn, rfl⟩ | ⟨hok, a, c, hSl, ⟨hne, rfl⟩ | ⟨he, hokp, d, n, t, u, hsp, rfl⟩⟩
 ·have HE : Hid (lnE G p q = 1) := by show _ = _; unfold lnE; rw [if_pos hn]
  clear hn
  unfold noSpot spotV
  go_wp2
  go_ret
  have := unhide HSAME _ (hb.alloc hb.size (.cells (spotL none ⟨#[]⟩ false ⟨none, 0⟩).toArray 262)) (by rw [unhide HE]; decide)
  rw [unhide HE] at this
  exact this
 ·have HE : Hid (lnE G p q = locE G p true) := by
   show _ = _
   have : fileE G p true = locE G p true := by unfold fileE; rw [if_pos hne]
   unfold lnE; rw [if_neg (by rw [hok]; simp), this, if_pos hne]
  have HNE := hide hne
  have hne' : (locE G p true != 0) = true := by simpa using hne
  obtain ⟨nl, hnl⟩ : ∃ nl, nl = (names q).length := ⟨_, rfl⟩
  rw [← hnl]
  clear hne hok hSl hnl
  unfold noSpot spotV
  go_wp2
  go_ret
  have := unhide HSAME _ (hb.alloc hb.size (.cells (spotL none ⟨#[]⟩ false ⟨none, 0⟩).toArray 262)) (by rw [unhide HE]; exact unhide HNE)
  rw [unhide HE] at this
  exact this
 ·have HSP := hide hsp
  have HE0 := hide he
  have HOK := hide hok
  have HSL := hide hSl
  obtain ⟨nl, hnl⟩ : ∃ nl, nl = (names q).length := ⟨_, rfl⟩
  have HNL := hide hnl
  rw [← hnl]
  have hfn := fun W => fnum_code d n t u W
  have HFN := hide hfn
  have hsf := spot_file hsp
  clear hsp he hok hnl hSl hfn hokp
  unfold spotV
  obtain ⟨W, hW, hx, hk, hsz, hbW⟩ := alloc_name w1 (spotL d n t u) 262
  have hbb : Below w.heap.size w W := hb.trans (hbW.mono hb.size)
  have HBW := hide hbW
  have HW := hide hW
  clear hW hk hbW
  go_upto_if 21 with fail
  rw [unhide HW]
  clear HW
  have a0 := hx.cell 0; have a1 := hx.cell 1; have a2 := hx.cell 2; have a3 := hx.cell 3; have a4 := hx.cell 4
  go_wp2_with fail
  refine (unhide HFN _).mono ?_
  rintro e w2 ⟨rfl, hb2⟩
  have hbw : Below w.heap.size w w2 := hbb.trans (hb2.mono hbb.size)
  have HSL2 : Hid (Sl w2 9 1 (.slice a (names q).length c) (names q).length ((names q).map .string)) := ((unhide HSL).kept (fun k hk _ => (unhide HBW).block k hk)).kept (fun k hk _ => hb2.block k hk)
  clear HFN a0 a1 a2 a3 a4 hx
  have HERR : Hid (fileE G p true ≠ 0 → lnE G p q = fileE G p true) := fun hne => by unfold lnE; rw [if_neg (by rw [unhide HOK]; simp), if_pos hne]
  rcases hsf with ⟨rfl, h1, h2⟩ | ⟨rfl, h1, h2⟩ | ⟨rfl, h1, h2, h3⟩
  ·have hfe : fileE G p true = 3 := by unfold fileE; rw [if_neg (by rw [unhide HE0]; simp), if_neg h1, h2]
   have HE : Hid (lnE G p q = 3) := by show _ = _; rw [unhide HERR (by rw [hfe]; decide), hfe]
   clear hfe h1 h2
   rw [if_pos rfl]
   go_wp2
   go_ret
   have := unhide HSAME _ hbw (by rw [unhide HE]; decide)
   rw [unhide HE] at this
   exact this
  ·have hfe : fileE G p true = 5 := by
    unfold fileE; rw [if_neg (by rw [unhide HE0]; simp)]
    rcases h2 with h2 | ⟨h2, h3⟩
    ·rw [if_pos h2]
    ·rw [if_neg h2, h3]; simp [h1]
   have HE : Hid (lnE G p q = 5) := by show _ = _; rw [unhide HERR (by rw [hfe]; decide), hfe]
   rw [if_neg (by simp), if_pos h1]
   clear hfe h1 h2
   go_wp2
   go_ret
   have := unhide HSAME _ hbw (by rw [unhide HE]; decide)
   rw [unhide HE] at this
   exact this
  ·have hfe : fileE G p true = 0 := by unfold fileE; rw [if_neg (by rw [unhide HE0]; simp), if_neg h2, h3]; simp [h1]
   have HE : Hid (lnE G p q = if gapE G (names q) ≠ 0 then gapE G (names q) else if lnkB G (names q).dropLast = false then 8 else 0) := by show _ = _; unfold lnE; rw [if_neg (by rw [unhide HOK]; simp), if_neg (by rw [hfe]; simp)]
   rw [if_neg (by simp), if_neg (by rw [h1]; simp)]
   have HAT := hide h3
   have HU := hide h1
   obtain ⟨r, hin, hr0, hr1⟩ := FlOk.mono (unhide HFL) h3 h1
   have HIN := hide hin
   have hgap := gap_code w2 tb rd V E vi G I C ((unhide HH).below hbw (Nat.le_refl _)) hG hGl (names q) (names_len (unhide HOK)) a c (unhide HSL2)
   rw [← unhide HNL] at hgap
   clear hfe h1 h2 h3 hin
   go_wp2_with fail
   refine hgap.mono ?_
   rintro e w3 ⟨hpost, hb3⟩
   have hbw3 : Below w.heap.size w w3 := hbw.trans (hb3.mono hbw.size)
   clear hgap
   rcases hpost with ⟨hne, rfl⟩ | ⟨hge, ds, m, db, hns, hdir, hat, rfl⟩
   ·have HE2 : Hid (lnE G p q = gapE G (names q)) := by show _ = _; rw [unhide HE, if_pos hne]
    have HNE := hide hne
    have hne' : (gapE G (names q) != 0) = true := by simpa using hne
    clear hne
    unfold noSpot spotV
    go_wp2
    go_ret
    have := unhide HSAME _ (hbw3.alloc hbw3.size (.cells (spotL none ⟨#[]⟩ false ⟨none, 0⟩).toArray 262)) (by rw [unhide HE2]; exact unhide HNE)
    rw [unhide HE2] at this
    exact this
   ·have HE2 : Hid (lnE G p q = if lnkB G ds = false then 8 else 0) := by show _ = _; rw [unhide HE, if_neg (by rw [hge]; simp), hns, List.dropLast_concat]
    have HNS := hide hns
    have HDIR := hide hdir
    have HATQ := hide hat
    clear hge hns hdir hat
    unfold spotV
    obtain ⟨W3, hW3, hx3, hk3, hsz3, hbW3⟩ := alloc_name w3 (spotL (some ⟨db, 0, none⟩) m false ⟨none, 0⟩) 262
    have hbb3 : Below w.heap.size w W3 := hbw3.trans (hbW3.mono hbw3.size)
    have hmk := makeLink_code W3 tb rd V E vi G I C ((unhide HH).below hbb3 (Nat.le_refl _)) hG hGl hIl ds db (unhide HDIR) m (name_size (unhide HOK) (unhide HNS)) (by rw [← unhide HNS]; exact unhide HATQ) u.f r (unhide HIN) (by omega) hr1
    unfold spotV at hmk
    have HMK := hide hmk
    have HW3 := hide hW3
    clear hW3 hk3 hmk
    go_upto_if 38 with fail
    rw [unhide HW3]
    clear HW3
    have a0 := hx3.cell 0; have a1 := hx3.cell 1; have a2 := hx3.cell 2; have a3 := hx3.cell 3; have a4 := hx3.cell 4
    go_wp2_with fail
    refine (unhide HMK).mono ?_
    rintro e w6 hq
    clear HMK a0 a1 a2 a3 a4
    rcases hq with ⟨hmb, rfl, hb6⟩ | ⟨hmb, rfl, hf6, V', E', I', q1, q2⟩
    ·have HE3 : Hid (lnE G p q = 8) := by show _ = _; rw [unhide HE2, hmb]; rfl
     go_wp2
     go_ret
     have := unhide HSAME w6 (hbb3.trans (hb6.mono hbb3.size)) (by rw [unhide HE3]; decide)
     rw [unhide HE3] at this
     exact this
    ·have HE3 : Hid (lnE G p q = 0) := by show _ = _; rw [unhide HE2, hmb]; rfl
     have HFIN : Hid (LnPost w tb G I C p q (.returned (.int .i64 0)) w6) :=
      ⟨by rw [unhide HE3], Fr.prog hbb3 hf6, .inr ⟨unhide HE3, u, r, I', unhide HAT, unhide HU, unhide HIN, q2, by rw [unhide HNS]; exact ⟨rd, V', E', vi, q1⟩⟩⟩
     clear q1 q2 hf6 hmb
     go_wp2
     go_ret
     exact unhide HFIN
end Go.Proofs.YtaieidcohdhgpaaGreatDoor
