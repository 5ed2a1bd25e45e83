/- Files: how the directories in memory follow the list of all entries: one more, one fewer. Files: the program's Mkdir. Files: a file's links: link, unlink. -/
import Derived.Test.YtfabjhgkigagpaaGreatDoorPAT
namespace Go.Proofs.YtfabjhgkigagpaaGreatDoor
open Go.RowKit

set_option maxHeartbeats 1000000
set_option maxRecDepth 100000
def upd {α : Type} (f : Nat → α) (b : Nat) (v : α) : Nat → α := fun k => if k = b then v else f k
theorem upd_same {α : Type} (f : Nat → α) (b : Nat) (v : α) : upd f b v b = v := by simp [upd]
theorem upd_other {α : Type} (f : Nat → α) {b k : Nat} (v : α) (h : k ≠ b) : upd f b v k = f k := by simp [upd, h]
structure DirH (w : World) (rd : Nat) (B : Nat → Prop) (V : Nat → Value) (E : Nat → List (ByteArray × VS)) : Prop where
  row : ∀ b, B b → RowIs w b 131 [V b]
  sl : ∀ b, B b → Sl w 164 3 (V b) (E b).length (cellsS (E b))
  srt : ∀ b, B b → SrtS (E b)
  own : ∀ b b' g, B b → B b' → (V b).ownBlock = some g → (V b').ownBlock = some g → b = b'
  lo : ∀ b, B b → rd ≤ b ∧ ∀ g, (V b).ownBlock = some g → rd ≤ g
theorem DirW.h {w : World} {G : Gh} {rd : Nat} {V : Nat → Value} {E : Nat → List (ByteArray × VS)} (h : DirW w G rd V E) : DirH w rd (fun b => ∃ ns, IsDir G rd ns b) V E :=
  ⟨fun b ⟨ns, hd⟩ => h.row ns b hd, fun b ⟨ns, hd⟩ => h.sl ns b hd, fun b ⟨ns, hd⟩ => h.srt ns b hd, fun b b' g ⟨ns, hd⟩ ⟨ns', hd'⟩ => h.own ns ns' b b' g hd hd', fun b ⟨ns, hd⟩ => h.lo ns b hd⟩
theorem DirH.w {w : World} {rd : Nat} {B : Nat → Prop} {V : Nat → Value} {E : Nat → List (ByteArray × VS)} (h : DirH w rd B V E) {G : Gh} (hB : ∀ ns b, IsDir G rd ns b → B b) (hs : ∀ x ∈ G, x.2.p = none ∨ ∃ b, x.2 = ⟨some ⟨b, 0, none⟩, 0⟩)
    (he : ∀ ns b, IsDir G rd ns b → EnOk G ns (E b)) (hi : ∀ ns ns' b, IsDir G rd ns b → IsDir G rd ns' b → ns = ns') : DirW w G rd V E :=
  ⟨hs, fun ns b hd => h.row b (hB ns b hd), fun ns b hd => h.sl b (hB ns b hd), fun ns b hd => h.srt b (hB ns b hd), he, hi, fun ns ns' b b' g hd hd' => h.own b b' g (hB ns b hd) (hB ns' b' hd'), fun ns b hd => h.lo b (hB ns b hd)⟩
theorem DirH.upd {w w' : World} {rd : Nat} {B : Nat → Prop} {V : Nat → Value} {E : Nat → List (ByteArray × VS)} (h : DirH w rd B V E) {db : Nat} (hdb : B db) {v' : Value} {es' : List (ByteArray × VS)} (hr : RowIs w' db 131 [v']) (hS : Sl w' 164 3 v' es'.length (cellsS es')) (hs : SrtS es') (hn : NewOr w (V db) v')
    (hf : Fr (fun k => k = db ∨ (V db).ownBlock = some k) w w') : DirH w' rd B (upd V db v') (upd E db es') := by
  have hlo := h.lo db hdb
  have hdl := (h.row db hdb).lt
  refine ⟨fun b hb => ?_, fun b hb => ?_, fun b hb => ?_, fun b b' g hb hb' h1 h2 => ?_, fun b hb => ⟨(h.lo b hb).1, fun g hg => ?_⟩⟩
  · by_cases e : b = db
    · subst e; rw [upd_same]; exact hr
    · rw [upd_other _ _ e]
      exact (h.row b hb).fr hf (fun hx => hx.elim e (fun h1 => by obtain ⟨R, hR⟩ := (h.sl db hdb).type h1; have := hR.type (h.row b hb); revert this; decide))
  · by_cases e : b = db
    · subst e; rw [upd_same, upd_same]; exact hS
    · rw [upd_other _ _ e, upd_other _ _ e]
      refine (h.sl b hb).fr hf (fun g hg hx => ?_)
      rcases hx with rfl | h1
      · obtain ⟨R, hR⟩ := (h.sl b hb).type hg; have := hR.type (h.row g hdb); revert this; decide
      · exact e (h.own b db g hb hdb hg h1)
  · by_cases e : b = db
    · subst e; rw [upd_same]; exact hs
    · rw [upd_other _ _ e]; exact h.srt b hb
  · by_cases e : b = db
    · by_cases e' : b' = db
      · rw [e, e']
      · rw [e, upd_same] at h1
        rw [upd_other _ _ e'] at h2
        rcases hn g h1 with h3 | h3
        · rw [e]; exact h.own db b' g hdb hb' h3 h2
        · have := (h.sl b' hb').lt h2; omega
    · by_cases e' : b' = db
      · rw [e', upd_same] at h2
        rw [upd_other _ _ e] at h1
        rcases hn g h2 with h3 | h3
        · rw [e']; exact h.own b db g hb hdb h1 h3
        · have := (h.sl b hb).lt h1; omega
      · rw [upd_other _ _ e] at h1
        rw [upd_other _ _ e'] at h2
        exact h.own b b' g hb hb' h1 h2
  · by_cases e : b = db
    · subst e
      rw [upd_same] at hg
      rcases hn g hg with h3 | h3
      · exact hlo.2 g h3
      · have := hlo.1; omega
    · rw [upd_other _ _ e] at hg; exact (h.lo b hb).2 g hg
theorem DirH.new {w : World} {rd : Nat} {B : Nat → Prop} {V : Nat → Value} {E : Nat → List (ByteArray × VS)} (h : DirH w rd B V E) {nb : Nat} (hnl : rd ≤ nb) (hnb : ∀ b, B b → b ≠ nb) (hr : RowIs w nb 131 [.slice none 0 0]) : DirH w rd (fun b => B b ∨ b = nb) (Go.Proofs.YtfabjhgkigagpaaGreatDoor.upd V nb (.slice none 0 0)) (Go.Proofs.YtfabjhgkigagpaaGreatDoor.upd E nb []) := by
  refine ⟨fun b hb => ?_, fun b hb => ?_, fun b hb => ?_, fun b b' g hb hb' h1 h2 => ?_, fun b hb => ?_⟩
  · rcases hb with hb | rfl
    · rw [upd_other _ _ (hnb b hb)]; exact h.row b hb
    · rw [upd_same]; exact hr
  · rcases hb with hb | rfl
    · rw [upd_other _ _ (hnb b hb), upd_other _ _ (hnb b hb)]; exact h.sl b hb
    · rw [upd_same, upd_same]; exact ⟨rfl, .inl ⟨rfl, rfl⟩⟩
  · rcases hb with hb | rfl
    · rw [upd_other _ _ (hnb b hb)]; exact h.srt b hb
    · rw [upd_same]; intro j k x y _ hx; simp at hx
  · rcases hb with hb | rfl
    · rcases hb' with hb' | rfl
      · rw [upd_other _ _ (hnb b hb)] at h1
        rw [upd_other _ _ (hnb b' hb')] at h2
        exact h.own b b' g hb hb' h1 h2
      · rw [upd_same] at h2; simp [Value.ownBlock] at h2
    · rw [upd_same] at h1; simp [Value.ownBlock] at h1
  · rcases hb with hb | rfl
    · rw [upd_other _ _ (hnb b hb)]; exact h.lo b hb
    · rw [upd_same]; exact ⟨hnl, fun g hg => by simp [Value.ownBlock] at hg⟩
theorem IsDir.func {G : Gh} (hG : GOk G) {rd : Nat} {ns : List ByteArray} {b b' : Nat} (h : IsDir G rd ns b) (h' : IsDir G rd ns b') : b = b' := by
  rcases h with ⟨rfl, rfl⟩ | h
  · rcases h' with ⟨_, rfl⟩ | h'
    · rfl
    · exact absurd rfl (hG.ne _ h')
  · rcases h' with ⟨rfl, rfl⟩ | h'
    · exact absurd rfl (hG.ne _ h)
    · have := nodup_fst hG.nd h h'
      simpa using this
theorem snoc_inj {α : Type} {a b : List α} {x y : α} (h : a ++ [x] = b ++ [y]) : a = b ∧ x = y := by
  have := List.append_inj' h rfl
  exact ⟨this.1, by simpa using this.2⟩
/-- One file's entry more. -/
theorem DirW.addFile {w w' : World} {G : Gh} {rd : Nat} {V : Nat → Value} {E : Nat → List (ByteArray × VS)} (h : DirW w G rd V E) (hG : GOk G) {ds : List ByteArray} {db : Nat} (hd : IsDir G rd ds db) {n : ByteArray} {f : Int}
    {v' : Value} {es' : List (ByteArray × VS)} (hr : RowIs w' db 131 [v']) (hS : Sl w' 164 3 v' es'.length (cellsS es')) (hs : SrtS es') (hm : ∀ x, x ∈ es' ↔ x = (n, ⟨none, f⟩) ∨ x ∈ E db) (hn : NewOr w (V db) v')
    (hf : Fr (fun k => k = db ∨ (V db).ownBlock = some k) w w') : DirW w' (G ++ [(ds ++ [n], ⟨none, f⟩)]) rd (upd V db v') (upd E db es') := by
  have hiff : ∀ ns b, IsDir (G ++ [(ds ++ [n], (⟨none, f⟩ : VS))]) rd ns b ↔ IsDir G rd ns b := by
    intro ns b
    constructor
    · rintro (e | hx)
      · exact .inl e
      · rcases List.mem_append.1 hx with hx | hx
        · exact .inr hx
        · simp at hx
    · rintro (e | hx)
      · exact .inl e
      · exact .inr (List.mem_append_left _ hx)
  refine (h.h.upd ⟨ds, hd⟩ hr hS hs hn hf).w (fun ns b hb => ⟨ns, (hiff ns b).1 hb⟩) (fun x hx => ?_) (fun ns b hb => ?_) (fun ns ns' b h1 h2 => h.inj ns ns' b ((hiff _ _).1 h1) ((hiff _ _).1 h2))
  · rcases List.mem_append.1 hx with hx | hx
    · exact h.shp x hx
    · obtain rfl : x = _ := by simpa using hx
      exact .inl rfl
  · have hb' := (hiff ns b).1 hb
    intro m u
    by_cases e : b = db
    · subst e
      obtain rfl := h.inj ns ds b hb' hd
      rw [upd_same, hm, List.mem_append, h.en ns b hb' m u, List.mem_singleton]
      constructor
      · rintro (e | e)
        · right; obtain ⟨rfl, rfl⟩ := Prod.mk.inj e; rfl
        · exact .inl e
      · rintro (e | e)
        · exact .inr e
        · left; obtain ⟨e1, e2⟩ := Prod.mk.inj e; rw [(snoc_inj e1).2, e2]
    · rw [upd_other _ _ e, h.en ns b hb' m u, List.mem_append, List.mem_singleton]
      constructor
      · exact .inl
      · rintro (e1 | e1)
        · exact e1
        · obtain ⟨e2, _⟩ := Prod.mk.inj e1
          rw [(snoc_inj e2).1] at hb'
          exact absurd (hb'.func hG hd) e
/-- One directory more: empty. -/
theorem DirW.addDir {w w' : World} {G : Gh} {rd : Nat} {V : Nat → Value} {E : Nat → List (ByteArray × VS)} (h : DirW w G rd V E) (hG : GOk G) {ds : List ByteArray} {db : Nat} (hd : IsDir G rd ds db) {n : ByteArray} (hat : atG G (ds ++ [n]) = none) {nb : Nat} (hnl : rd ≤ nb) (hnb : ∀ ns b, IsDir G rd ns b → b ≠ nb) (hnr : RowIs w' nb 131 [.slice none 0 0])
    {v' : Value} {es' : List (ByteArray × VS)} (hr : RowIs w' db 131 [v']) (hS : Sl w' 164 3 v' es'.length (cellsS es')) (hs : SrtS es') (hm : ∀ x, x ∈ es' ↔ x = (n, ⟨some ⟨nb, 0, none⟩, 0⟩) ∨ x ∈ E db) (hn : NewOr w (V db) v')
    (hf : Fr (fun k => k = db ∨ (V db).ownBlock = some k) w w') : DirW w' (G ++ [(ds ++ [n], ⟨some ⟨nb, 0, none⟩, 0⟩)]) rd (upd (upd V db v') nb (.slice none 0 0)) (upd (upd E db es') nb []) := by
  have hiff : ∀ ns b, IsDir (G ++ [(ds ++ [n], (⟨some ⟨nb, 0, none⟩, 0⟩ : VS))]) rd ns b → IsDir G rd ns b ∨ (ns = ds ++ [n] ∧ b = nb) := by
    intro ns b
    rintro (e | hx)
    · exact .inl (.inl e)
    · rcases List.mem_append.1 hx with hx | hx
      · exact .inl (.inr hx)
      · simp at hx; exact .inr hx
  refine ((h.h.upd ⟨ds, hd⟩ hr hS hs hn hf).new hnl (fun b ⟨ns, hb⟩ => hnb ns b hb) hnr).w (fun ns b hb => ?_) (fun x hx => ?_) (fun ns b hb => ?_) (fun ns ns' b h1 h2 => ?_)
  · rcases hiff ns b hb with h1 | ⟨_, h1⟩
    · exact .inl ⟨ns, h1⟩
    · exact .inr h1
  · rcases List.mem_append.1 hx with hx | hx
    · exact h.shp x hx
    · obtain rfl : x = _ := by simpa using hx
      exact .inr ⟨nb, rfl⟩
  · intro m u
    rcases hiff ns b hb with hb' | ⟨rfl, rfl⟩
    · rw [upd_other _ _ (hnb ns b hb')]
      by_cases e : b = db
      · subst e
        obtain rfl := h.inj ns ds b hb' hd
        rw [upd_same, hm, List.mem_append, h.en ns b hb' m u, List.mem_singleton]
        constructor
        · rintro (e | e)
          · right; obtain ⟨rfl, rfl⟩ := Prod.mk.inj e; rfl
          · exact .inl e
        · rintro (e | e)
          · exact .inr e
          · left; obtain ⟨e1, e2⟩ := Prod.mk.inj e; rw [(snoc_inj e1).2, e2]
      · rw [upd_other _ _ e, h.en ns b hb' m u, List.mem_append, List.mem_singleton]
        constructor
        · exact .inl
        · rintro (e1 | e1)
          · exact e1
          · obtain ⟨e2, _⟩ := Prod.mk.inj e1
            rw [(snoc_inj e2).1] at hb'
            exact absurd (hb'.func hG hd) e
    · rw [upd_same]
      constructor
      · intro hx; cases hx
      · intro hx
        exfalso
        rcases List.mem_append.1 hx with hx | hx
        · rcases hG.up _ _ _ hx with e | ⟨v, hv, _⟩
          · simp at e
          · exact atG_none hat v hv
        · have e := (Prod.mk.inj (List.mem_singleton.1 hx)).1
          have := congrArg List.length e
          simp at this
  · rcases hiff ns b h1 with k1 | ⟨e1, e2⟩
    · rcases hiff ns' b h2 with k2 | ⟨_, e3⟩
      · exact h.inj ns ns' b k1 k2
      · exact absurd e3 (hnb _ _ k1)
    · rcases hiff ns' b h2 with k2 | ⟨e3, _⟩
      · exact absurd e2 (hnb _ _ k2)
      · rw [e1, e3]
/-- One entry fewer. -/
theorem DirW.del {w w' : World} {G G' : Gh} {rd : Nat} {V : Nat → Value} {E : Nat → List (ByteArray × VS)} (h : DirW w G rd V E) (hG : GOk G) {ds : List ByteArray} {db : Nat} (hd : IsDir G rd ds db) {n : ByteArray} (hG' : ∀ x, x ∈ G' ↔ x ∈ G ∧ x.1 ≠ ds ++ [n])
    {v' : Value} {es' : List (ByteArray × VS)} (hr : RowIs w' db 131 [v']) (hS : Sl w' 164 3 v' es'.length (cellsS es')) (hs : SrtS es') (hm : ∀ x, x ∈ es' ↔ x ∈ E db ∧ x.1 ≠ n) (hn : NewOr w (V db) v')
    (hf : Fr (fun k => k = db ∨ (V db).ownBlock = some k) w w') : DirW w' G' rd (upd V db v') (upd E db es') := by
  have hiff : ∀ ns b, IsDir G' rd ns b → IsDir G rd ns b := by
    intro ns b
    rintro (e | hx)
    · exact .inl e
    · exact .inr ((hG' _).1 hx).1
  refine (h.h.upd ⟨ds, hd⟩ hr hS hs hn hf).w (fun ns b hb => ⟨ns, hiff ns b hb⟩) (fun x hx => h.shp x ((hG' x).1 hx).1) (fun ns b hb => ?_) (fun ns ns' b h1 h2 => h.inj ns ns' b (hiff _ _ h1) (hiff _ _ h2))
  have hb' := hiff ns b hb
  intro m u
  by_cases e : b = db
  · subst e
    obtain rfl := h.inj ns ds b hb' hd
    rw [upd_same, hm, hG', h.en ns b hb' m u]
    constructor
    · rintro ⟨h1, h2⟩; exact ⟨h1, fun e => h2 (snoc_inj e).2⟩
    · rintro ⟨h1, h2⟩; exact ⟨h1, fun e => h2 (by rw [show m = n from e])⟩
  · rw [upd_other _ _ e, h.en ns b hb' m u, hG']
    constructor
    · intro h1
      refine ⟨h1, fun e1 => ?_⟩
      rw [(snoc_inj e1).1] at hb'
      exact e (hb'.func hG hd)
    · exact fun h1 => h1.1
end Go.Proofs.YtfabjhgkigagpaaGreatDoor
namespace Go.Proofs.YtfabjhgkigagpaaGreatDoor
open Go.RowKit

set_option maxHeartbeats 1000000
set_option maxRecDepth 100000
/-- What the program's own calls may write: trees, directories, their rows. -/
def ProgT (tb : Nat) (w : World) (k : Nat) : Prop := (∃ t R, RowIs w k t R ∧ (t = 118 ∨ t = 131 ∨ t = 164 ∨ t = 160)) ∧ tb ≤ k + 1
def PS (w : World) (tb : Nat) (G : Gh) (I : List (Int × VF)) (C : Int → ByteArray) : Prop := ∃ rd V E vi, TW w tb rd V E vi G I C
theorem RowIs.back {B : Nat} {w w' : World} (hb : Below B w w') {k : Nat} (_hk : k < w.heap.size) (hB : k < B) {t : TypeId} {R : List Value} (h : RowIs w' k t R) : RowIs w k t R := (hb.block k hB).symm.trans h
theorem Fr.prog {tb : Nat} {w w1 w2 : World} (hb : Below w.heap.size w w1) (hf : Fr (ProgT tb w1) w1 w2) : Fr (ProgT tb w) w w2 :=
  ⟨hf.os.trans hb.os, hf.tape.trans hb.tape, hf.output.trans hb.output, Nat.le_trans hb.size hf.size, fun k hk hX => (hf.block k (Nat.lt_of_lt_of_le hk hb.size) (fun ⟨⟨t, R, hR, ht⟩, hl⟩ => hX ⟨⟨t, R, hR.back hb hk hk, ht⟩, hl⟩)).trans (hb.block k hk)⟩
theorem Fr.progTrans {tb : Nat} {w w1 w2 : World} (h1 : Fr (ProgT tb w) w w1) (h2 : Fr (ProgT tb w1) w1 w2) : Fr (ProgT tb w) w w2 :=
  ⟨h2.os.trans h1.os, h2.tape.trans h1.tape, h2.output.trans h1.output, Nat.le_trans h1.size h2.size, fun k hk hX => by
    have e1 := h1.block k hk hX
    refine (h2.block k (Nat.lt_of_lt_of_le hk h1.size) (fun ⟨⟨t, R, hR, ht⟩, hl⟩ => hX ⟨⟨t, R, ?_, ht⟩, hl⟩)).trans e1
    unfold RowIs at hR ⊢; rw [← e1]; exact hR⟩
theorem Fr.progOne {tb : Nat} {w w' : World} {db : Nat} {v : Value} (hl : tb ≤ db + 1 ∧ ∀ g, v.ownBlock = some g → tb ≤ g + 1) (hr : RowIs w db 131 [v]) {n : Nat} {xs : List Value} (hS : Sl w 164 3 v n xs) (hf : Fr (fun k => k = db ∨ v.ownBlock = some k) w w') : Fr (ProgT tb w) w w' :=
  hf.mono (fun k _ hk => by
    rcases hk with rfl | hk
    · exact ⟨⟨131, _, hr, .inr (.inl rfl)⟩, hl.1⟩
    · obtain ⟨R, hR⟩ := hS.type hk
      exact ⟨⟨164, R, hR, .inr (.inr (.inl rfl))⟩, hl.2 k hk⟩)
/-- What changes a directory alone leaves the rest of a tree. -/
theorem TW.dirs {w w' : World} {tb rd : Nat} {V : Nat → Value} {E : Nat → List (ByteArray × VS)} {vi : Value} {G : Gh} {I : List (Int × VF)} {C : Int → ByteArray} (h : TW w tb rd V E vi G I C) {db : Nat} {v : Value} (hr : RowIs w db 131 [v]) {n : Nat} {xs : List Value} (hS : Sl w 164 3 v n xs) (hf : Fr (fun k => k = db ∨ v.ownBlock = some k) w w')
    {G' : Gh} {V' : Nat → Value} {E' : Nat → List (ByteArray × VS)} (hd : DirW w' G' rd V' E') : TW w' tb rd V' E' vi G' I C := by
  have hX : ∀ k t R, (k = db ∨ v.ownBlock = some k) → RowIs w k t R → t = 131 ∨ t = 164 := fun k t R hk hR => by
    rcases hk with rfl | hk
    · exact .inl (hR.type hr)
    · obtain ⟨R', hR'⟩ := hS.type hk
      exact .inr (hR.type hR')
  refine ⟨h.pk.fr hf (fun e => ?_), h.t.fr hf (fun e => ?_), hd, h.i.fr hf (fun g hg e => ?_), h.si, fun x hx => (h.dat x hx).fr hf (fun g hg e => ?_), h.lo⟩
  · obtain ⟨_, ht⟩ := h.pk
    rcases e with rfl | hk
    · have := ht _ _ hr; revert this; decide
    · obtain ⟨R', hR'⟩ := hS.type hk
      have := ht _ _ hR'; revert this; decide
  · rcases hX _ _ _ e h.t with h1 | h1 <;> (revert h1; decide)
  · obtain ⟨R, hR⟩ := h.i.type hg
    rcases hX _ _ _ e hR with h1 | h1 <;> (revert h1; decide)
  · obtain ⟨R, hR⟩ := (h.dat x hx).type hg
    rcases hX _ _ _ e hR with h1 | h1 <;> (revert h1; decide)
def mayB (G : Gh) (I : List (Int × VF)) (ds : List ByteArray) : Bool := decide ((G.countP (qIn ds) < 20 ∧ G.length < 100) ∧ cD G [] + I.length < 60)
def mkE (G : Gh) (I : List (Int × VF)) (p : ByteArray) : Int := if nmOk p = false then 1 else if gapE G (names p) ≠ 0 then gapE G (names p) else if mayB G I (names p).dropLast = false then 8 else 0
def MkPost (w : World) (tb : Nat) (G : Gh) (I : List (Int × VF)) (C : Int → ByteArray) (p : ByteArray) (e : Ending) (w' : World) : Prop :=
  e = .returned (.int .i64 (mkE G I p)) ∧ Fr (ProgT tb w) w w' ∧ ((mkE G I p ≠ 0 ∧ PS w' tb G I C) ∨ (mkE G I p = 0 ∧ ∃ nb, PS w' tb (G ++ [(names p, ⟨some ⟨nb, 0, none⟩, 0⟩)]) I C))
theorem mkdir_code (w : World) (tb : Nat) (G : Gh) (I : List (Int × VF)) (C : Int → ByteArray) (h : PS w tb G I C) (hG : GOk G) (hGl : G.length ≤ 10000) (hIl : I.length ≤ 10000) (p : ByteArray) (hp : p.size ≤ 2000000) :
    Calls Tryz.prog 51 #[.pointer (some ⟨tb, 0, none⟩), .string p] w (MkPost w tb G I C p) := by
  obtain ⟨rd, V, E, vi, h⟩ := h
  have HSAME : Hid (∀ W, Below w.heap.size w W → mkE G I p ≠ 0 → MkPost w tb G I C p (.returned (.int .i64 (mkE G I p))) W) := fun W hb hne => ⟨rfl, Fr.of_below hb, .inl ⟨hne, rd, V, E, vi, h.below hb (Nat.le_refl _)⟩⟩
  obtain ⟨m, hm⟩ := h.pk.1
  have hnm := names_code p m w hp hm
  go_enter Tryz.func51, Tryz.ntmps51
  go_wp2_with fail
  refine hnm.mono ?_
  rintro e w1 ⟨hpost, hb1⟩
  have HH := hide h
  clear hnm h
  rcases hpost with ⟨hn, rfl⟩ | ⟨hn, a, c, rfl, hSl⟩
  · have HE : Hid (mkE G I p = 1) := by show _ = _; unfold mkE; rw [if_pos hn]
    clear hn
    go_wp2
    go_ret
    have := unhide HSAME w1 hb1 (by rw [unhide HE]; decide)
    rw [unhide HE] at this
    exact this
  · have hgap := gap_code w1 tb rd V E vi G I C ((unhide HH).below hb1 (Nat.le_refl _)) hG hGl (names p) (names_len hn) a c hSl
    obtain ⟨nl, hnl⟩ : ∃ nl, nl = (names p).length := ⟨_, rfl⟩
    rw [← hnl] at hgap ⊢
    have HN := hide hn
    clear hn hSl hnl
    go_wp2_with fail
    refine hgap.mono ?_
    rintro e w2 ⟨hpost, hb2⟩
    have hb : Below w.heap.size w w2 := hb1.trans (hb2.mono hb1.size)
    clear hgap hb1 hb2
    rcases hpost with ⟨hne, rfl⟩ | ⟨he, ds, n, db, hns, hdir, hat, rfl⟩
    · have HE : Hid (mkE G I p = gapE G (names p)) := by show _ = _; unfold mkE; rw [if_neg (by rw [unhide HN]; simp), if_pos hne]
      have HNE := hide hne
      have hne' : (gapE G (names p) != 0) = true := by simpa using hne
      clear hne
      unfold noSpot spotV
      go_wp2
      go_ret
      have := unhide HSAME _ (hb.alloc hb.size (.cells (spotL none ⟨#[]⟩ false ⟨none, 0⟩).toArray 124)) (by rw [unhide HE]; exact unhide HNE)
      rw [unhide HE] at this
      exact this
    · obtain ⟨W, hW, hx, hk, hsz, hbW⟩ := alloc_name w2 (spotL (some ⟨db, 0, none⟩) n false ⟨none, 0⟩) 124
      have hbb : Below w.heap.size w W := hb.trans (hbW.mono hb.size)
      have hmay := mayMake_code W tb rd V E vi G I C ((unhide HH).below hbb (Nat.le_refl _)) hG hGl hIl ds db hdir
      have HMAY : Hid (mkE G I p = if mayB G I ds = false then 8 else 0) := by
        show _ = _
        unfold mkE
        rw [if_neg (by rw [unhide HN]; simp), if_neg (by rw [he]; simp), hns, List.dropLast_concat]
      have HNS := hide hns
      have HAT := hide hat
      have HDIR := hide hdir
      have HW := hide hW
      clear he hns hat hdir hk hW
      unfold spotV
      go_upto_if 23 with fail
      rw [unhide HW]
      clear HW
      have a0 := hx.cell 0; have a1 := hx.cell 1; have a2 := hx.cell 2; have a3 := hx.cell 3; have a4 := hx.cell 4
      go_wp2_with fail
      refine hmay.mono ?_
      rintro e w3 ⟨rfl, hb3⟩
      have hx3 : RowIs w3 w2.heap.size 124 _ := (hb3.block _ hx.lt).trans hx
      have hbw3 : Below w.heap.size w w3 := hbb.trans (hb3.mono hbb.size)
      clear hmay a0 a1 a2 a3 a4
      change Hid (mkE G I p = if mayB G I ds = false then 8 else 0) at HMAY
      rw [show decide ((G.countP (qIn ds) < 20 ∧ G.length < 100) ∧ cD G [] + I.length < 60) = mayB G I ds from rfl]
      cases hmb : mayB G I ds with
      | false =>
        have HE : Hid (mkE G I p = 8) := by show _ = _; rw [unhide HMAY, hmb]; rfl
        go_wp2
        go_ret
        have := unhide HSAME w3 hbw3 (by rw [unhide HE]; decide)
        rw [unhide HE] at this
        exact this
      | true =>
        have HE : Hid (mkE G I p = 0) := by show _ = _; rw [unhide HMAY, hmb]; rfl
        have a0 := hx3.cell 0; have a1 := hx3.cell 1; have a2 := hx3.cell 2; have a3 := hx3.cell 3; have a4 := hx3.cell 4
        obtain ⟨W4, hW4, hx4, hk4, hsz4, hb4⟩ := alloc_name w3 [.slice none 0 0] 131
        have hbw4 : Below w.heap.size w W4 := hbw3.trans (hb4.mono hbw3.size)
        have h4 := (unhide HH).below hbw4 (Nat.le_refl _)
        have hdir := unhide HDIR
        have hent := enter_low W4 db n (by
          have := names_len (unhide HN)
          cases hr : (p.toList == [47]) with
          | true => have h0 := names_root hr; rw [unhide HNS] at h0; simp at h0
          | false =>
            have h1 := (path_names (unhide HN) hr).2.1 n (by rw [unhide HNS]; simp)
            simp only [okName, Bool.and_eq_true, decide_eq_true_eq] at h1
            have := h1.1.2; omega) false ⟨none, 0⟩ ⟨some ⟨w3.heap.size, 0, none⟩, 0⟩ (V db) (E db) (h4.d.row ds db hdir) (h4.d.sl ds db hdir) (Nat.le_trans (h4.d.le hG hdir) hGl) (h4.d.srt ds db hdir) (fun x hx e => by
            have := (h4.d.en ds db hdir x.1 x.2).1 hx
            rw [e] at this
            exact atG_none (by rw [← unhide HNS]; exact unhide HAT) _ this)
        unfold spotV at hent
        have HENT := hide hent
        have H4 := hide h4
        have HW4 := hide hW4
        clear hent h4 hW4
        go_wp2_with fail
        rw [unhide HW4]
        refine (unhide HENT).mono ?_
        rintro e w5 ⟨rfl, v', es', q1, q2, q3, q4, q5, q6, q7⟩
        have HFIN : Hid (MkPost w tb G I C p (.returned (.int .i64 0)) w5) := by
          have h4 := unhide H4
          have hrow := h4.d.row ds db hdir
          have hsl := h4.d.sl ds db hdir
          have hfresh : ∀ ns b, IsDir G rd ns b → b ≠ w3.heap.size := fun ns b hb e => by
            have := ((unhide HH).d.row ns b hb).lt
            have := hbw3.size
            omega
          have hx5 : RowIs w5 w3.heap.size 131 [.slice none 0 0] := by
            refine hx4.fr q7 (fun e => ?_)
            rcases e with e | e
            · exact hfresh ds db hdir e.symm
            · obtain ⟨R, hR⟩ := hsl.type e
              have := hR.type hx4; revert this; decide
          have hD := h4.d.addDir hG hdir (by rw [← unhide HNS]; exact unhide HAT) (Nat.le_trans (Nat.le_of_lt ((unhide HH).d.row _ _ (.inl ⟨rfl, rfl⟩)).lt) hbw3.size) hfresh hx5 q1 q2 q3 q5 q6 q7
          have hT := TW.dirs h4 hrow hsl q7 hD
          rw [← unhide HNS] at hT
          exact ⟨by rw [unhide HE], Fr.prog hbw4 (Fr.progOne (h4.dlo hdir) hrow hsl q7), .inr ⟨unhide HE, w3.heap.size, rd, _, _, vi, hT⟩⟩
        clear HENT q1 q2 q3 q4 q5 q6 q7
        go_wp2
        go_ret
        exact unhide HFIN
end Go.Proofs.YtfabjhgkigagpaaGreatDoor
namespace Go.Proofs.YtfabjhgkigagpaaGreatDoor
open Go.RowKit

set_option maxHeartbeats 1000000
set_option maxRecDepth 100000
theorem TW.setI {w w' : World} {tb rd : Nat} {V : Nat → Value} {E : Nat → List (ByteArray × VS)} {vi vi' : Value} {G : Gh} {I I' : List (Int × VF)} {C C' : Int → ByteArray} (h : TW w tb rd V E vi G I C)
    (hr : RowIs w' tb 118 [.pointer (some ⟨rd, 0, none⟩), vi']) (hS : Sl w' 160 3 vi' I'.length (cellsI I')) (hs : SrtI I') (hf : Fr (fun k => k = tb ∨ vi.ownBlock = some k) w w')
    (hd : ∀ x ∈ I', Sl w' 5 1 (.slice x.2.a x.2.l x.2.c) x.2.l (bytesV (C' x.1))) (hn : NewOr w vi vi') : TW w' tb rd V E vi' G I' C' := by
  have hX : ∀ k t R, (k = tb ∨ vi.ownBlock = some k) → RowIs w k t R → t = 118 ∨ t = 160 := fun k t R hk hR => by
    rcases hk with rfl | hk
    · exact .inl (hR.type h.t)
    · obtain ⟨R', hR'⟩ := h.i.type hk
      exact .inr (hR.type hR')
  refine ⟨h.pk.fr hf (fun e => ?_), hr, h.d.fr hf (fun k t R e hR => ?_), hS, hs, hd, h.lo.1, fun g hg => (hn g hg).elim (h.lo.2 g) (fun h1 => Nat.le_trans (Nat.le_of_lt (h.d.row _ _ (.inl ⟨rfl, rfl⟩)).lt) h1)⟩
  · obtain ⟨_, ht⟩ := h.pk
    rcases e with rfl | hk
    · have := ht _ _ h.t; revert this; decide
    · obtain ⟨R', hR'⟩ := h.i.type hk
      have := ht _ _ hR'; revert this; decide
  · rcases hX k t R e hR with rfl | rfl <;> decide
theorem Fr.progI {w w' : World} {tb rd : Nat} {V : Nat → Value} {E : Nat → List (ByteArray × VS)} {vi : Value} {G : Gh} {I : List (Int × VF)} {C : Int → ByteArray} (h : TW w tb rd V E vi G I C) (hf : Fr (fun k => k = tb ∨ vi.ownBlock = some k) w w') : Fr (ProgT tb w) w w' :=
  hf.mono (fun k _ hk => by
    rcases hk with rfl | hk
    · exact ⟨⟨118, _, h.t, .inl rfl⟩, Nat.le_succ _⟩
    · obtain ⟨R, hR⟩ := h.i.type hk
      exact ⟨⟨160, R, hR, .inr (.inr (.inr rfl))⟩, by have := h.lo.1; have := h.lo.2 k hk; omega⟩)
theorem TW.ne {w : World} {tb rd : Nat} {V : Nat → Value} {E : Nat → List (ByteArray × VS)} {vi : Value} {G : Gh} {I : List (Int × VF)} {C : Int → ByteArray} (h : TW w tb rd V E vi G I C) : vi.ownBlock ≠ some tb := fun e => by
  obtain ⟨R, hR⟩ := h.i.type e; have := hR.type h.t; revert this; decide
theorem rowHead {w w' : World} {tb : Nat} {a b v v' : Value} (h : RowIs w tb 118 [a, b]) (hm : MapFr w w' tb 1 v v') : RowIs w' tb 118 [a, v'] := by
  have h1 := hm.head
  have h2 := h.set 1 v'
  unfold RowIs at h2 ⊢
  rw [h1]; simpa using h2
/-- Put over a number that is there. -/
theorem putOver_code (w : World) (tb rd : Nat) (V : Nat → Value) (E : Nat → List (ByteArray × VS)) (vi : Value) (G : Gh) (I : List (Int × VF)) (C : Int → ByteArray) (h : TW w tb rd V E vi G I C) (hIl : I.length ≤ 10000) (n : Int) (r0 r : VF) (hin : (n, r0) ∈ I) (s : ByteArray) (hdat : Sl w 5 1 (.slice r.a r.l r.c) r.l (bytesV s)) :
    Calls Tryz.prog 126 #[.pointer (some ⟨tb, 1, none⟩), .int .i64 n, .agg #[.slice r.a r.l r.c, .int .i64 r.f]] w fun e w' => e = .returned (.tuple #[]) ∧ (∃ I', TW w' tb rd V E vi G I' (fun k => if k = n then s else C k) ∧ I'.length = I.length ∧ ∀ x, x ∈ I' ↔ x = (n, r) ∨ x ∈ I ∧ x.1 ≠ n) ∧ Fr (fun k => k = tb ∨ vi.ownBlock = some k) w w' := by
  refine (putOverI w tb 1 vi I n r0 r (h.t.cell 1) h.ne h.i hIl h.si hin).mono ?_
  rintro e w' ⟨rfl, I', q1, q2, q3, q4, q5, q6⟩
  have hf : Fr (fun k => k = tb ∨ vi.ownBlock = some k) w w' := Fr.of_grown q6 (fun k e => .inr e)
  have hr : RowIs w' tb 118 [.pointer (some ⟨rd, 0, none⟩), vi] := (q6.block tb h.t.lt (fun e => h.ne e.symm)).trans h.t
  have hkeep : ∀ (v : Value) (m : Nat) (xs : List Value), Sl w 5 1 v m xs → Sl w' 5 1 v m xs := fun v m xs hS => hS.fr hf (fun g hg e => by
    obtain ⟨R, hR⟩ := hS.type hg
    rcases e with rfl | e
    · have := hR.type h.t; revert this; decide
    · obtain ⟨R', hR'⟩ := h.i.type e; have := hR.type hR'; revert this; decide)
  refine ⟨rfl, ⟨I', h.setI hr q2 q3 hf (fun x hx => ?_) (fun g hg => .inl hg), q4, q5⟩, hf⟩
  rcases (q5 x).1 hx with rfl | ⟨hx', hne⟩
  · simp only [if_true]; exact hkeep _ _ _ hdat
  · rw [if_neg hne]; exact hkeep _ _ _ (h.dat x hx')
/-- Drop a number. -/
theorem drop_code (w : World) (tb rd : Nat) (V : Nat → Value) (E : Nat → List (ByteArray × VS)) (vi : Value) (G : Gh) (I : List (Int × VF)) (C : Int → ByteArray) (h : TW w tb rd V E vi G I C) (hIl : I.length ≤ 10000) (n : Int) (r0 : VF) (hin : (n, r0) ∈ I) :
    Calls Tryz.prog 128 #[.pointer (some ⟨tb, 1, none⟩), .int .i64 n] w fun e w' => e = .returned (.tuple #[]) ∧ (∃ vi' I', TW w' tb rd V E vi' G I' C ∧ I'.length + 1 = I.length ∧ ∀ x, x ∈ I' ↔ x ∈ I ∧ x.1 ≠ n) ∧ Fr (fun k => k = tb ∨ vi.ownBlock = some k) w w' := by
  refine (dropI w tb 1 vi I n r0 (h.t.cell 1) (h.t.frozen 1) h.ne h.i hIl h.si hin).mono ?_
  rintro e w' ⟨rfl, vi', I', q1, q2, q3, q4, q5, q6, q7⟩
  have hf : Fr (fun k => k = tb ∨ vi.ownBlock = some k) w w' := ⟨q7.os, q7.tape, q7.output, q7.size, fun k hk hX => q7.block k hk (fun e => hX (.inl e)) (fun e => hX (.inr e))⟩
  have hkeep : ∀ (v : Value) (m : Nat) (xs : List Value), Sl w 5 1 v m xs → Sl w' 5 1 v m xs := fun v m xs hS => hS.fr hf (fun g hg e => by
    obtain ⟨R, hR⟩ := hS.type hg
    rcases e with rfl | e
    · have := hR.type h.t; revert this; decide
    · obtain ⟨R', hR'⟩ := h.i.type e; have := hR.type hR'; revert this; decide)
  exact ⟨rfl, ⟨vi', I', h.setI (rowHead h.t q7) q2 q3 hf (fun x hx => hkeep _ _ _ (h.dat x ((q5 x).1 hx).1)) q6, q4, q5⟩, hf⟩
/-- Put a number that is not there. -/
theorem putNew_code (w : World) (tb rd : Nat) (V : Nat → Value) (E : Nat → List (ByteArray × VS)) (vi : Value) (G : Gh) (I : List (Int × VF)) (C : Int → ByteArray) (h : TW w tb rd V E vi G I C) (hIl : I.length ≤ 10000) (n : Int) (r : VF) (hno : ∀ x ∈ I, x.1 ≠ n) (s : ByteArray) (hdat : Sl w 5 1 (.slice r.a r.l r.c) r.l (bytesV s)) :
    Calls Tryz.prog 126 #[.pointer (some ⟨tb, 1, none⟩), .int .i64 n, .agg #[.slice r.a r.l r.c, .int .i64 r.f]] w fun e w' => e = .returned (.tuple #[]) ∧ (∃ vi' I', TW w' tb rd V E vi' G I' (fun k => if k = n then s else C k) ∧ I'.length = I.length + 1 ∧ ∀ x, x ∈ I' ↔ x = (n, r) ∨ x ∈ I) ∧ Fr (fun k => k = tb ∨ vi.ownBlock = some k) w w' := by
  refine (putNewI w tb 1 vi I n r (h.t.cell 1) (h.t.frozen 1) h.ne h.i hIl h.si hno).mono ?_
  rintro e w' ⟨rfl, vi', I', q1, q2, q3, q4, q5, q6, q7⟩
  have hf : Fr (fun k => k = tb ∨ vi.ownBlock = some k) w w' := ⟨q7.os, q7.tape, q7.output, q7.size, fun k hk hX => q7.block k hk (fun e => hX (.inl e)) (fun e => hX (.inr e))⟩
  have hkeep : ∀ (v : Value) (m : Nat) (xs : List Value), Sl w 5 1 v m xs → Sl w' 5 1 v m xs := fun v m xs hS => hS.fr hf (fun g hg e => by
    obtain ⟨R, hR⟩ := hS.type hg
    rcases e with rfl | e
    · have := hR.type h.t; revert this; decide
    · obtain ⟨R', hR'⟩ := h.i.type e; have := hR.type hR'; revert this; decide)
  refine ⟨rfl, ⟨vi', I', h.setI (rowHead h.t q7) q2 q3 hf (fun x hx => ?_) q6, q4, q5⟩, hf⟩
  rcases (q5 x).1 hx with rfl | hx'
  · simp only [if_true]; exact hkeep _ _ _ hdat
  · rw [if_neg (hno x hx')]; exact hkeep _ _ _ (h.dat x hx')
theorem getI_code (w : World) (tb rd : Nat) (V : Nat → Value) (E : Nat → List (ByteArray × VS)) (vi : Value) (G : Gh) (I : List (Int × VF)) (C : Int → ByteArray) (h : TW w tb rd V E vi G I C) (hIl : I.length ≤ 10000) (n : Int) (r : VF) (hin : (n, r) ∈ I) :
    Calls Tryz.prog 83 #[.pointer (some ⟨tb, 1, none⟩), .int .i64 n] w fun e w' => e = .returned (.tuple #[.agg #[.slice r.a r.l r.c, .int .i64 r.f], .bool true]) ∧ Below w.heap.size w w' := by
  refine (getI w tb 1 vi I n (h.t.cell 1) h.i hIl h.si).mono ?_
  rintro e w' ⟨r', b, rfl, hfd, hb⟩
  rcases hfd with ⟨rfl, hm⟩ | ⟨rfl, _, hno⟩
  · have hnd : (I.map (·.1)).Nodup := by
      unfold List.Nodup
      rw [List.pairwise_iff_getElem]
      intro i j hi hj hij e
      have hj' : j < I.length := by simpa using hj
      rw [List.getElem_map, List.getElem_map] at e
      have := h.si i j I[i] I[j] hij (List.getElem?_eq_getElem _) (List.getElem?_eq_getElem _)
      have := of_decide_eq_true this
      omega
    rw [nodup_fst hnd hm hin]
    exact ⟨rfl, hb⟩
  · exact absurd rfl (hno _ hin)
def IOver (I I' : List (Int × VF)) (n : Int) (r : VF) : Prop := I'.length = I.length ∧ ∀ x, x ∈ I' ↔ x = (n, r) ∨ x ∈ I ∧ x.1 ≠ n
def IDrop (I I' : List (Int × VF)) (n : Int) : Prop := I'.length + 1 = I.length ∧ ∀ x, x ∈ I' ↔ x ∈ I ∧ x.1 ≠ n
theorem if_self_C (C : Int → ByteArray) (n : Int) : (fun k => if k = n then C n else C k) = C := by
  funext k; split
  · rename_i h; rw [h]
  · rfl
/-- The last statement of link and unlink: the file is put over. -/
theorem putOver_at (w : World) (tb rd : Nat) (V : Nat → Value) (E : Nat → List (ByteArray × VS)) (vi : Value) (G : Gh) (I : List (Int × VF)) (C : Int → ByteArray) (h : TW w tb rd V E vi G I C) (hIl : I.length ≤ 10000) (n : Int) (r : VF) (hin : (n, r) ∈ I) (f : Int) (W : World) (hb : Below w.heap.size w W) :
    Calls Tryz.prog 126 #[.pointer (some ⟨tb, 1, none⟩), .int .i64 n, .agg #[.slice r.a r.l r.c, .int .i64 f]] W fun e w' => e = .returned (.tuple #[]) ∧ ((∃ I', TW w' tb rd V E vi G I' C ∧ IOver I I' n ⟨r.a, r.l, r.c, f⟩) ∧ Fr (ProgT tb w) w w') ∧ ∀ k, k < W.heap.size → w.heap.size ≤ k → w'.heap[k]? = W.heap[k]? := by
  have hW := h.below hb (Nat.le_refl _)
  refine (putOver_code W tb rd V E vi G I C hW hIl n r ⟨r.a, r.l, r.c, f⟩ hin (C n) (hW.dat _ hin)).mono ?_
  rintro e w' ⟨rfl, ⟨I', q1, q2, q3⟩, q4⟩
  rw [if_self_C] at q1
  exact ⟨rfl, ⟨⟨I', q1, q2, q3⟩, Fr.prog hb (Fr.progI hW q4)⟩, fun k hk hkw => q4.block k hk (fun e => by
    rcases e with rfl | e
    · have := h.t.lt; omega
    · have := h.i.lt e; omega)⟩
/-- Tree.link. -/
theorem link_code (w : World) (tb rd : Nat) (V : Nat → Value) (E : Nat → List (ByteArray × VS)) (vi : Value) (G : Gh) (I : List (Int × VF)) (C : Int → ByteArray) (h : TW w tb rd V E vi G I C) (hIl : I.length ≤ 10000) (n : Int) (r : VF) (hin : (n, r) ∈ I) (hf0 : 0 ≤ r.f) (hf1 : r.f ≤ 10000) :
    Calls Tryz.prog 103 #[.pointer (some ⟨tb, 0, none⟩), .int .i64 n] w fun e w' => e = .returned (.tuple #[]) ∧ (∃ I', TW w' tb rd V E vi G I' C ∧ IOver I I' n ⟨r.a, r.l, r.c, r.f + 1⟩) ∧ Fr (ProgT tb w) w w' := by
  have hget := getI_code w tb rd V E vi G I C h hIl n r hin
  have HPUT : Hid (∀ W, Below w.heap.size w W → _) := fun W hb => putOver_at w tb rd V E vi G I C h hIl n r hin (r.f + 1) W hb
  go_enter Tryz.func103, Tryz.ntmps103
  go_wp2_with fail
  refine hget.mono ?_
  rintro e w1 ⟨rfl, hb⟩
  clear hget h
  go_upto_region 2 with fail
  obtain ⟨W, hW, hx, hk, hsz, hbW⟩ := alloc_name w1 [.slice r.a r.l r.c, .int .i64 (r.f + 1)] 111
  have hbb : Below w.heap.size w W := hb.trans (hbW.mono hb.size)
  rw [hW]
  have a0 := hx.cell 0; have a1 := hx.cell 1
  have hbs := hb.size
  clear hW hk hx hb hbW
  go_region_held3 (fun W => W.cell? ⟨w1.heap.size, 0, none⟩ = some (.slice r.a r.l r.c) ∧ W.cell? ⟨w1.heap.size, 1, none⟩ = some (.int .i64 (r.f + 1))) (go_keep)
    (first | (go_at_call 126; refine (unhide HPUT _ hbb.drew).mono ?_; rintro e w'' ⟨rfl, hpost, q8⟩; have m0 := (World.cell?_of_block (a := ⟨w1.heap.size, 0, none⟩) (q8 _ (World.block_lt_of_cell? _ _ a0) hbs)).trans a0; have m1 := (World.cell?_of_block (a := ⟨w1.heap.size, 1, none⟩) (q8 _ (World.block_lt_of_cell? _ _ a1) hbs)).trans a1))
  all_goals
    go_wp2
    go_end0
    exact ⟨rfl, hpost⟩
/-- Tree.unlink. -/
theorem unlink_code (w : World) (tb rd : Nat) (V : Nat → Value) (E : Nat → List (ByteArray × VS)) (vi : Value) (G : Gh) (I : List (Int × VF)) (C : Int → ByteArray) (h : TW w tb rd V E vi G I C) (hIl : I.length ≤ 10000) (n : Int) (r : VF) (hin : (n, r) ∈ I) (hf0 : 0 < r.f) (hf1 : r.f ≤ 10000) :
    Calls Tryz.prog 97 #[.pointer (some ⟨tb, 0, none⟩), .int .i64 n] w fun e w' => e = .returned (.tuple #[]) ∧ (∃ vi' I', TW w' tb rd V E vi' G I' C ∧ ((r.f = 1 ∧ IDrop I I' n) ∨ (r.f ≠ 1 ∧ IOver I I' n ⟨r.a, r.l, r.c, r.f - 1⟩))) ∧ Fr (ProgT tb w) w w' := by
  have hget := getI_code w tb rd V E vi G I C h hIl n r hin
  have HPUT : Hid (∀ W, Below w.heap.size w W → _) := fun W hb => putOver_at w tb rd V E vi G I C h hIl n r hin (r.f - 1) W hb
  have HH := hide h
  go_enter Tryz.func97, Tryz.ntmps97
  go_wp2_with fail
  refine hget.mono ?_
  rintro e w1 ⟨rfl, hb⟩
  clear hget h
  obtain ⟨W, hW, hx, hk, hsz, hbW⟩ := alloc_name w1 [.slice r.a r.l r.c, .int .i64 (r.f - 1)] 111
  have hbb : Below w.heap.size w W := hb.trans (hbW.mono hb.size)
  have hbs := hb.size
  have HW := hide hW
  clear hW hk hb hbW
  go_upto_region 2 with fail
  rw [unhide HW]
  have a0 := hx.cell 0; have a1 := hx.cell 1
  clear hx HW
  by_cases h1 : r.f = 1
  · have hz : (r.f - 1 == 0) = true := by rw [h1]; rfl
    have hdrop := drop_code W tb rd V E vi G I C ((unhide HH).below hbb (Nat.le_refl _)) hIl n r hin
    have HDROP := hide hdrop
    have H1 := hide h1
    clear hdrop h1
    go_wp2_with (first | (go_at_call 128; refine (unhide HDROP).mono ?_; rintro e w'' ⟨rfl, ⟨vi', I', q1, q2, q3⟩, q4⟩))
    refine bodyPost_ret (results_none rfl _ _ _) rfl ?_
    exact ⟨rfl, ⟨vi', I', q1, .inl ⟨unhide H1, q2, q3⟩⟩, Fr.prog hbb (Fr.progI ((unhide HH).below hbb (Nat.le_refl _)) q4)⟩
  · have hz : (r.f - 1 == 0) = false := by simp; omega
    have H1 := hide h1
    clear h1
    go_upto_region 4 with fail
    go_region_held3 (fun W => W.cell? ⟨w1.heap.size, 0, none⟩ = some (.slice r.a r.l r.c) ∧ W.cell? ⟨w1.heap.size, 1, none⟩ = some (.int .i64 (r.f - 1))) (go_keep)
      (first | (go_at_call 126; refine (unhide HPUT _ hbb.drew).mono ?_; rintro e w'' ⟨rfl, hpost, q8⟩; have m0 := (World.cell?_of_block (a := ⟨w1.heap.size, 0, none⟩) (q8 _ (World.block_lt_of_cell? _ _ a0) hbs)).trans a0; have m1 := (World.cell?_of_block (a := ⟨w1.heap.size, 1, none⟩) (q8 _ (World.block_lt_of_cell? _ _ a1) hbs)).trans a1))
    all_goals
      go_wp2
      go_end0
      obtain ⟨⟨I', q1, q2⟩, q3⟩ := hpost
      exact ⟨rfl, ⟨vi, I', q1, .inr ⟨unhide H1, q2⟩⟩, q3⟩
end Go.Proofs.YtfabjhgkigagpaaGreatDoor
