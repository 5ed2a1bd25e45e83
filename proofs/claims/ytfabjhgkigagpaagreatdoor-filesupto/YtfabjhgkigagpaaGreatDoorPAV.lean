/- Files: the program's Remove. Files: the program's Link. Files: bytes in memory: resized, overlaid. Files: overlaid; Read. -/
import Derived.Test.YtfabjhgkigagpaaGreatDoorPAU
import Derived.Test.YtfabjhgkigagpaaGreatDoorPAJ
import Derived.Test.YtfabjhgkigagpaaGreatDoorPAK
namespace Go.Proofs.YtfabjhgkigagpaaGreatDoor
open Go.RowKit

set_option maxHeartbeats 1000000
set_option maxRecDepth 100000
def delG (G G' : Gh) (ns : List ByteArray) : Prop := ∀ x, x ∈ G' ↔ x ∈ G ∧ x.1 ≠ ns
def rmE (G : Gh) (p : ByteArray) : Int := if thE G p ≠ 0 then thE G p else if names p = [] then 7 else match atG G (names p) with | some u => if u.p.isSome = true ∧ 0 < G.countP (qIn (names p)) then 7 else 0 | none => 0
/-- The files that entries name are there. -/
def FlOk (G : Gh) (I : List (Int × VF)) : Prop := ∀ x ∈ G, x.2.p = none → ∃ r, (x.2.f, r) ∈ I ∧ 0 < r.f ∧ r.f ≤ 10000
def RmPost (w : World) (tb : Nat) (G : Gh) (I : List (Int × VF)) (C : Int → ByteArray) (p : ByteArray) (e : Ending) (w' : World) : Prop :=
  e = .returned (.int .i64 (rmE G p)) ∧ Fr (ProgT tb w) w w' ∧ ((rmE G p ≠ 0 ∧ PS w' tb G I C) ∨ (rmE G p = 0 ∧ ∃ u, atG G (names p) = some u ∧
    ((u.p.isSome = true ∧ ∀ G', delG G G' (names p) → PS w' tb G' I C) ∨
     (u.p = none ∧ ∃ r I', (u.f, r) ∈ I ∧ ((r.f = 1 ∧ IDrop I I' u.f) ∨ (r.f ≠ 1 ∧ IOver I I' u.f ⟨r.a, r.l, r.c, r.f - 1⟩)) ∧ ∀ G', delG G G' (names p) → PS w' tb G' I' C))))
theorem TW.congrG {w : World} {tb rd : Nat} {V : Nat → Value} {E : Nat → List (ByteArray × VS)} {vi : Value} {G G' : Gh} {I : List (Int × VF)} {C : Int → ByteArray} (h : TW w tb rd V E vi G I C) (hg : ∀ x, x ∈ G' ↔ x ∈ G) : TW w tb rd V E vi G' I C := by
  have hd : ∀ ns b, IsDir G' rd ns b → IsDir G rd ns b := fun ns b hx => hx.elim .inl (fun hx => .inr ((hg _).1 hx))
  exact ⟨h.pk, h.t, ⟨fun x hx => h.d.shp x ((hg x).1 hx), fun ns b hb => h.d.row ns b (hd ns b hb), fun ns b hb => h.d.sl ns b (hd ns b hb), fun ns b hb => h.d.srt ns b (hd ns b hb), fun ns b hb n u => (h.d.en ns b (hd ns b hb) n u).trans (hg _).symm, fun ns ns' b h1 h2 => h.d.inj ns ns' b (hd _ _ h1) (hd _ _ h2), fun ns ns' b b' g h1 h2 => h.d.own ns ns' b b' g (hd _ _ h1) (hd _ _ h2), fun ns b hb => h.d.lo ns b (hd ns b hb)⟩, h.i, h.si, h.dat, h.lo⟩
def gone (G : Gh) (ns : List ByteArray) : Gh := G.filter (fun x => decide (x.1 ≠ ns))
theorem gone_del (G : Gh) (ns : List ByteArray) : delG G (gone G ns) ns := fun x => by unfold gone; rw [List.mem_filter, decide_eq_true_eq]
theorem SpotIs.in {G : Gh} {rd : Nat} {ns : List ByteArray} {d : Option Addr} {n : ByteArray} {u : VS} (h : SpotIs G rd ns d n true u) (hne : ns ≠ []) : ∃ ds db, ns = ds ++ [n] ∧ IsDir G rd ds db ∧ d = some ⟨db, 0, none⟩ ∧ atG G ns = some u := by
  rcases h with ⟨rfl, _⟩ | ⟨ds, db, h1, h2, h3, h4, h5⟩
  · exact absurd rfl hne
  · refine ⟨ds, db, h1, h2, h3, ?_⟩
    cases ha : atG G ns with
    | none => rw [ha] at h4; cases h4
    | some v => rw [ha] at h5; rw [h5]; rfl
theorem remove_code (w : World) (tb : Nat) (G : Gh) (I : List (Int × VF)) (C : Int → ByteArray) (h : PS w tb G I C) (hG : GOk G) (hGl : G.length ≤ 10000) (hIl : I.length ≤ 10000) (hFl : FlOk G I) (p : ByteArray) (hp : p.size ≤ 2000000) :
    Calls Tryz.prog 56 #[.pointer (some ⟨tb, 0, none⟩), .string p] w (RmPost w tb G I C p) := by
  obtain ⟨rd, V, E, vi, h⟩ := h
  have HSAME : Hid (∀ W, Below w.heap.size w W → rmE G p ≠ 0 → RmPost w tb G I C p (.returned (.int .i64 (rmE G p))) W) := fun W hb hne => ⟨rfl, Fr.of_below hb, .inl ⟨hne, rd, V, E, vi, h.below hb (Nat.le_refl _)⟩⟩
  have hth := there_code w tb rd V E vi G I C h hG hGl p hp
  have HH := hide h
  have HFL := hide hFl
  clear hFl h
  go_enter Tryz.func56, Tryz.ntmps56
  go_wp2_with fail
  refine hth.mono ?_
  rintro e w1 ⟨hpost, hb⟩
  clear hth
  rcases hpost with ⟨hne, rfl⟩ | ⟨he, hok, d, n, u, hsp, rfl⟩
  · have HE : Hid (rmE G p = thE G p) := by show _ = _; unfold rmE; rw [if_pos hne]
    have HNE := hide hne
    have hne' : (thE G p != 0) = true := by simpa using hne
    clear hne
    unfold noSpot spotV
    go_wp2
    go_ret
    have := unhide HSAME _ (hb.alloc hb.size (.cells (spotL none ⟨#[]⟩ false ⟨none, 0⟩).toArray 124)) (by rw [unhide HE]; exact unhide HNE)
    rw [unhide HE] at this
    exact this
  · have HSP := hide hsp
    have HE0 := hide he
    have HOK := hide hok
    clear hsp he hok
    unfold spotV
    go_upto_if 15 with fail
    obtain ⟨W, hW, hx, hk, hsz, hbW⟩ := alloc_name w1 (spotL d n true u) 124
    have hbb : Below w.heap.size w W := hb.trans (hbW.mono hb.size)
    rw [hW]
    clear hW hk
    have a0 := hx.cell 0; have a1 := hx.cell 1; have a2 := hx.cell 2; have a3 := hx.cell 3; have a4 := hx.cell 4
    have hroot := fun W => isRoot_code d n true u W
    unfold spotV at hroot
    have HROOT := hide hroot
    clear hroot
    go_wp2_with fail
    refine (unhide HROOT _).mono ?_
    rintro e w2 ⟨rfl, hb2⟩
    clear HROOT a0 a1 a2 a3 a4
    have hx2 : RowIs w2 w1.heap.size 124 _ := (hb2.block _ hx.lt).trans hx
    have hbw : Below w.heap.size w w2 := hbb.trans (hb2.mono hbb.size)
    have a0 := hx2.cell 0; have a1 := hx2.cell 1; have a2 := hx2.cell 2; have a3 := hx2.cell 3; have a4 := hx2.cell 4
    have h2 := (unhide HH).below hbw (Nat.le_refl _)
    have H2 := hide h2
    clear hb hbW hbb hb2 hx h2
    by_cases hne : names p = []
    · have HE : Hid (rmE G p = 7) := by show _ = _; unfold rmE; rw [if_neg (by rw [unhide HE0]; simp), if_pos hne]
      obtain rfl : d = none := by
        rcases unhide HSP with ⟨_, h1, _⟩ | ⟨ds, db, h1, _⟩
        · exact h1
        · rw [hne] at h1; simp at h1
      clear hne
      go_wp2
      go_ret
      have := unhide HSAME w2 hbw (by rw [unhide HE]; decide)
      rw [unhide HE] at this
      exact this
    · obtain ⟨ds, db, hns, hdir, rfl, hat⟩ := (unhide HSP).in hne
      have hmem := atG_mem hat
      have hnsz : (n, u) ∈ E db := ((unhide H2).d.en ds db hdir n u).2 (by rw [← hns]; exact hmem)
      have HE : Hid (rmE G p = if u.p.isSome = true ∧ 0 < G.countP (qIn (names p)) then 7 else 0) := by show _ = _; unfold rmE; rw [if_neg (by rw [unhide HE0]; simp), if_neg hne, hat]
      have hshp := (unhide H2).d.shp _ hmem
      have hlv := leave_low w2 db n true u u (V db) (E db) ((unhide H2).d.row ds db hdir) ((unhide H2).d.sl ds db hdir) (Nat.le_trans ((unhide H2).d.le hG hdir) hGl) ((unhide H2).d.srt ds db hdir) hnsz
      unfold spotV at hlv
      have HLV := hide hlv
      have HNS := hide hns
      have HDIR := hide hdir
      have HAT := hide hat
      have HMEM := hide hmem
      have HSHP := hide hshp
      clear hlv hns hdir hat hmem hshp hnsz hne
      obtain ⟨up, uf⟩ := u
      cases up with
      | none =>
        have HE2 : Hid (rmE G p = 0) := by show _ = _; rw [unhide HE]; simp
        obtain ⟨r, hin, hr0, hr1⟩ := unhide HFL _ (unhide HMEM) rfl
        simp only at hin
        have HIN := hide hin
        clear hin
        go_wp2_with fail
        refine (unhide HLV).mono ?_
        rintro e w3 ⟨rfl, v', es', q1, q2, q3, q4, q5, q6, q7⟩
        have h3 : TW w3 tb rd (upd V db v') (upd E db es') vi (gone G (names p)) I C := by
          have h2 := unhide H2
          exact TW.dirs h2 (h2.d.row ds db (unhide HDIR)) (h2.d.sl ds db (unhide HDIR)) q7 (h2.d.del hG (unhide HDIR) (n := n) (fun x => by rw [← unhide HNS]; exact gone_del G _ x) q1 q2 q3 q5 q6 q7)
        have HFR : Hid (Fr (ProgT tb w) w w3) := Fr.prog hbw (Fr.progOne ((unhide H2).dlo (unhide HDIR)) ((unhide H2).d.row ds db (unhide HDIR)) ((unhide H2).d.sl ds db (unhide HDIR)) q7)
        have hx3 : RowIs w3 w1.heap.size 124 _ := hx2.fr q7 (fun hX => by
          rcases hX with e | e
          · have := (unhide H2).d.row ds db (unhide HDIR); rw [← e] at this; have := this.type hx2; revert this; decide
          · obtain ⟨R, hR⟩ := ((unhide H2).d.sl ds db (unhide HDIR)).type e; have := hR.type hx2; revert this; decide)
        clear a0 a1 a2 a3 a4 HLV q1 q2 q3 q4 q5 q6 q7
        have b3 := hx3.cell 3; have b4 := hx3.cell 4
        have hul := unlink_code w3 tb rd (upd V db v') (upd E db es') vi (gone G (names p)) I C h3 hIl uf r (unhide HIN) hr0 hr1
        have HUL := hide hul
        clear hul h3
        go_wp2_with fail
        refine (unhide HUL).mono ?_
        rintro e w4 ⟨rfl, ⟨vi', I', q1, q2⟩, q3⟩
        have HFIN : Hid (RmPost w tb G I C p (.returned (.int .i64 0)) w4) :=
          ⟨by rw [unhide HE2], (unhide HFR).progTrans q3, .inr ⟨unhide HE2, ⟨none, uf⟩, unhide HAT, .inr ⟨rfl, r, I', unhide HIN, q2, fun G' hG' => ⟨rd, _, _, vi', q1.congrG (fun x => (hG' x).trans (gone_del G _ x).symm)⟩⟩⟩⟩
        clear HUL q1 q2 q3
        go_wp2
        go_ret
        exact unhide HFIN
      | some au =>
        rcases unhide HSHP with h0 | ⟨b', hb'⟩
        · simp at h0
        · simp only [VS.mk.injEq, Option.some.injEq] at hb'
          obtain ⟨rfl, rfl⟩ := hb'
          have hdir' : IsDir G rd (names p) b' := .inr (unhide HMEM)
          have hlen := lenS w2 b' 0 (V b') (E b').length (cellsS (E b')) (((unhide H2).d.row _ b' hdir').cell 0) ((unhide H2).d.sl _ b' hdir')
          have hc := (unhide H2).d.len hG hdir'
          rw [hc] at hlen
          have HLEN := hide hlen
          have hcl : G.countP (qIn (names p)) ≤ 10000 := Nat.le_trans List.countP_le_length hGl
          obtain ⟨c, hcc⟩ : ∃ c, c = G.countP (qIn (names p)) := ⟨_, rfl⟩
          rw [← hcc] at HLEN HE hcl
          clear hlen hc hcc hdir'
          by_cases h0 : 0 < c
          · have HE2 : Hid (rmE G p = 7) := by show _ = _; rw [unhide HE, if_pos ⟨rfl, h0⟩]
            have h0' : (0 : Int) < (c : Int) := by omega
            go_wp2_with (first | (go_at_call 86; refine (unhide HLEN).mono ?_; rintro e w' ⟨rfl, hw⟩; rw [hw]; clear hw))
            go_ret
            have := unhide HSAME w2 hbw (by rw [unhide HE2]; decide)
            rw [unhide HE2] at this
            exact this
          · have HE2 : Hid (rmE G p = 0) := by show _ = _; rw [unhide HE, if_neg (fun h => h0 h.2)]
            have h0' : ¬ (0 : Int) < (c : Int) := by omega
            go_wp2_with (first | (go_at_call 86; refine (unhide HLEN).mono ?_; rintro e w' ⟨rfl, hw⟩; rw [hw]; clear hw) | (go_at_call 96; refine (unhide HLV).mono ?_; rintro e w3 ⟨rfl, v', es', q1, q2, q3, q4, q5, q6, q7⟩))
            go_ret
            have h2 := unhide H2
            refine ⟨by rw [unhide HE2]; rfl, Fr.prog hbw (Fr.progOne (h2.dlo (unhide HDIR)) (h2.d.row ds db (unhide HDIR)) (h2.d.sl ds db (unhide HDIR)) q7), .inr ⟨unhide HE2, _, unhide HAT, .inl ⟨rfl, fun G' hG' => ⟨rd, _, _, vi, TW.dirs h2 (h2.d.row ds db (unhide HDIR)) (h2.d.sl ds db (unhide HDIR)) q7 (h2.d.del hG (unhide HDIR) (n := n) (fun x => by rw [← unhide HNS]; exact hG' x) q1 q2 q3 q5 q6 q7)⟩⟩⟩⟩
end Go.Proofs.YtfabjhgkigagpaaGreatDoor
namespace Go.Proofs.YtfabjhgkigagpaaGreatDoor
open Go.RowKit

set_option maxHeartbeats 1000000
set_option maxRecDepth 100000
def lnkB (G : Gh) (ds : List ByteArray) : Bool := decide (G.countP (qIn ds) < 20 ∧ G.length < 100)
def lnE (G : Gh) (p q : ByteArray) : Int := if nmOk q = false then 1 else if fileE G p true ≠ 0 then fileE G p true else if gapE G (names q) ≠ 0 then gapE G (names q) else if lnkB G (names q).dropLast = false then 8 else 0
def LnPost (w : World) (tb : Nat) (G : Gh) (I : List (Int × VF)) (C : Int → ByteArray) (p q : ByteArray) (e : Ending) (w' : World) : Prop :=
  e = .returned (.int .i64 (lnE G p q)) ∧ Fr (ProgT tb w) w w' ∧ ((lnE G p q ≠ 0 ∧ PS w' tb G I C) ∨ (lnE G p q = 0 ∧ ∃ u r I', atG G (names p) = some u ∧ u.p = none ∧ (u.f, r) ∈ I ∧ IOver I I' u.f ⟨r.a, r.l, r.c, r.f + 1⟩ ∧ PS w' tb (G ++ [(names q, ⟨none, u.f⟩)]) I' C))
theorem name_size {p : ByteArray} (hok : nmOk p = true) {ds : List ByteArray} {n : ByteArray} (hns : names p = ds ++ [n]) : n.size ≤ 2000000 := by
  cases hr : (p.toList == [47]) with
  | true => have h0 := names_root hr; rw [hns] at h0; simp at h0
  | false =>
    have h1 := (path_names hok hr).2.1 n (by rw [hns]; simp)
    simp only [okName, Bool.and_eq_true, decide_eq_true_eq] at h1
    have := h1.1.2; omega
theorem FlOk.mono {G : Gh} {I : List (Int × VF)} (h : FlOk G I) {u : VS} {ns : List ByteArray} (ha : atG G ns = some u) (hu : u.p = none) : ∃ r, (u.f, r) ∈ I ∧ 0 < r.f ∧ r.f ≤ 10000 := h _ (atG_mem ha) hu
/-- The end of Link: the entry and one more link. -/
theorem link_end (w : World) (tb rd : Nat) (V : Nat → Value) (E : Nat → List (ByteArray × VS)) (vi : Value) (G : Gh) (I : List (Int × VF)) (C : Int → ByteArray) (h : TW w tb rd V E vi G I C) (hG : GOk G) (hGl : G.length ≤ 10000) (_hIl : I.length ≤ 10000) (ds : List ByteArray) (db : Nat) (hdir : IsDir G rd ds db) (n : ByteArray) (hn : n.size ≤ 2000000) (hat : atG G (ds ++ [n]) = none) (f : Int) :
    Calls Tryz.prog 92 #[spotV (some ⟨db, 0, none⟩) n false ⟨none, 0⟩, .agg #[.pointer none, .int .i64 f]] w fun e w' => e = .returned (.tuple #[]) ∧ ∃ V' E', TW w' tb rd V' E' vi (G ++ [(ds ++ [n], ⟨none, f⟩)]) I C ∧ Fr (ProgT tb w) w w' := by
  refine (enter_low w db n hn false ⟨none, 0⟩ ⟨none, f⟩ (V db) (E db) (h.d.row ds db hdir) (h.d.sl ds db hdir) (Nat.le_trans (h.d.le hG hdir) hGl) (h.d.srt ds db hdir) (fun x hx e => by
    have := (h.d.en ds db hdir x.1 x.2).1 hx
    rw [e] at this
    exact atG_none hat _ this)).mono ?_
  rintro e w' ⟨rfl, v', es', q1, q2, q3, q4, q5, q6, q7⟩
  exact ⟨rfl, _, _, TW.dirs h (h.d.row ds db hdir) (h.d.sl ds db hdir) q7 (h.d.addFile hG hdir q1 q2 q3 q5 q6 q7), Fr.progOne (h.dlo hdir) (h.d.row ds db hdir) (h.d.sl ds db hdir) q7⟩
theorem linkT_code (w : World) (tb : Nat) (G : Gh) (I : List (Int × VF)) (C : Int → ByteArray) (h : PS w tb G I C) (hG : GOk G) (hGl : G.length ≤ 10000) (hIl : I.length ≤ 10000) (hFl : FlOk G I) (p q : ByteArray) (hp : p.size ≤ 2000000) (hq : q.size ≤ 2000000) :
    Calls Tryz.prog 54 #[.pointer (some ⟨tb, 0, none⟩), .string p, .string q] w (LnPost w tb G I C p q) := by
  obtain ⟨rd, V, E, vi, h⟩ := h
  have HSAME : Hid (∀ W, Below w.heap.size w W → lnE G p q ≠ 0 → LnPost w tb G I C p q (.returned (.int .i64 (lnE G p q))) W) := fun W hb hne => ⟨rfl, Fr.of_below hb, .inl ⟨hne, rd, V, E, vi, h.below hb (Nat.le_refl _)⟩⟩
  have hfi := first_code w tb rd V E vi G I C h hG hGl p q hp hq
  have HH := hide h
  have HFL := hide hFl
  clear hFl h
  go_enter Tryz.func54, Tryz.ntmps54
  go_wp2_with fail
  refine hfi.mono ?_
  rintro e w1 ⟨hpost, hb⟩
  clear hfi
  rcases hpost with ⟨hn, rfl⟩ | ⟨hok, a, c, hSl, ⟨hne, rfl⟩ | ⟨he, hokp, d, n, t, u, hsp, rfl⟩⟩
  · have HE : Hid (lnE G p q = 1) := by show _ = _; unfold lnE; rw [if_pos hn]
    clear hn
    unfold noSpot spotV
    go_wp2
    go_ret
    have := unhide HSAME _ (hb.alloc hb.size (.cells (spotL none ⟨#[]⟩ false ⟨none, 0⟩).toArray 124)) (by rw [unhide HE]; decide)
    rw [unhide HE] at this
    exact this
  · have HE : Hid (lnE G p q = locE G p true) := by
      show _ = _
      have : fileE G p true = locE G p true := by unfold fileE; rw [if_pos hne]
      unfold lnE; rw [if_neg (by rw [hok]; simp), this, if_pos hne]
    have HNE := hide hne
    have hne' : (locE G p true != 0) = true := by simpa using hne
    obtain ⟨nl, hnl⟩ : ∃ nl, nl = (names q).length := ⟨_, rfl⟩
    rw [← hnl]
    clear hne hok hSl hnl
    unfold noSpot spotV
    go_wp2
    go_ret
    have := unhide HSAME _ (hb.alloc hb.size (.cells (spotL none ⟨#[]⟩ false ⟨none, 0⟩).toArray 124)) (by rw [unhide HE]; exact unhide HNE)
    rw [unhide HE] at this
    exact this
  · have HSP := hide hsp
    have HE0 := hide he
    have HOK := hide hok
    have HSL := hide hSl
    obtain ⟨nl, hnl⟩ : ∃ nl, nl = (names q).length := ⟨_, rfl⟩
    have HNL := hide hnl
    rw [← hnl]
    have hfn := fun W => fnum_code d n t u W
    have HFN := hide hfn
    have hsf := spot_file hsp
    clear hsp he hok hnl hSl hfn hokp
    unfold spotV
    obtain ⟨W, hW, hx, hk, hsz, hbW⟩ := alloc_name w1 (spotL d n t u) 124
    have hbb : Below w.heap.size w W := hb.trans (hbW.mono hb.size)
    have HBW := hide hbW
    have HW := hide hW
    clear hW hk hbW
    go_upto_if 21 with fail
    rw [unhide HW]
    clear HW
    have a0 := hx.cell 0; have a1 := hx.cell 1; have a2 := hx.cell 2; have a3 := hx.cell 3; have a4 := hx.cell 4
    go_wp2_with fail
    refine (unhide HFN _).mono ?_
    rintro e w2 ⟨rfl, hb2⟩
    have hbw : Below w.heap.size w w2 := hbb.trans (hb2.mono hbb.size)
    have HSL2 : Hid (Sl w2 9 1 (.slice a (names q).length c) (names q).length ((names q).map .string)) := ((unhide HSL).kept (fun k hk _ => (unhide HBW).block k hk)).kept (fun k hk _ => hb2.block k hk)
    clear HFN a0 a1 a2 a3 a4 hx
    have HERR : Hid (fileE G p true ≠ 0 → lnE G p q = fileE G p true) := fun hne => by unfold lnE; rw [if_neg (by rw [unhide HOK]; simp), if_pos hne]
    rcases hsf with ⟨rfl, h1, h2⟩ | ⟨rfl, h1, h2⟩ | ⟨rfl, h1, h2, h3⟩
    · have hfe : fileE G p true = 3 := by unfold fileE; rw [if_neg (by rw [unhide HE0]; simp), if_neg h1, h2]
      have HE : Hid (lnE G p q = 3) := by show _ = _; rw [unhide HERR (by rw [hfe]; decide), hfe]
      clear hfe h1 h2
      rw [if_pos rfl]
      go_wp2
      go_ret
      have := unhide HSAME _ hbw (by rw [unhide HE]; decide)
      rw [unhide HE] at this
      exact this
    · have hfe : fileE G p true = 5 := by
        unfold fileE; rw [if_neg (by rw [unhide HE0]; simp)]
        rcases h2 with h2 | ⟨h2, h3⟩
        · rw [if_pos h2]
        · rw [if_neg h2, h3]; simp [h1]
      have HE : Hid (lnE G p q = 5) := by show _ = _; rw [unhide HERR (by rw [hfe]; decide), hfe]
      rw [if_neg (by simp), if_pos h1]
      clear hfe h1 h2
      go_wp2
      go_ret
      have := unhide HSAME _ hbw (by rw [unhide HE]; decide)
      rw [unhide HE] at this
      exact this
    · have hfe : fileE G p true = 0 := by unfold fileE; rw [if_neg (by rw [unhide HE0]; simp), if_neg h2, h3]; simp [h1]
      have HE : Hid (lnE G p q = if gapE G (names q) ≠ 0 then gapE G (names q) else if lnkB G (names q).dropLast = false then 8 else 0) := by show _ = _; unfold lnE; rw [if_neg (by rw [unhide HOK]; simp), if_neg (by rw [hfe]; simp)]
      rw [if_neg (by simp), if_neg (by rw [h1]; simp)]
      have HAT := hide h3
      have HU := hide h1
      obtain ⟨r, hin, hr0, hr1⟩ := FlOk.mono (unhide HFL) h3 h1
      have HIN := hide hin
      have hgap := gap_code w2 tb rd V E vi G I C ((unhide HH).below hbw (Nat.le_refl _)) hG hGl (names q) (names_len (unhide HOK)) a c (unhide HSL2)
      rw [← unhide HNL] at hgap
      clear hfe h1 h2 h3 hin
      go_wp2_with fail
      refine hgap.mono ?_
      rintro e w3 ⟨hpost, hb3⟩
      have hbw3 : Below w.heap.size w w3 := hbw.trans (hb3.mono hbw.size)
      clear hgap
      rcases hpost with ⟨hne, rfl⟩ | ⟨hge, ds, m, db, hns, hdir, hat, rfl⟩
      · have HE2 : Hid (lnE G p q = gapE G (names q)) := by show _ = _; rw [unhide HE, if_pos hne]
        have HNE := hide hne
        have hne' : (gapE G (names q) != 0) = true := by simpa using hne
        clear hne
        unfold noSpot spotV
        go_wp2
        go_ret
        have := unhide HSAME _ (hbw3.alloc hbw3.size (.cells (spotL none ⟨#[]⟩ false ⟨none, 0⟩).toArray 124)) (by rw [unhide HE2]; exact unhide HNE)
        rw [unhide HE2] at this
        exact this
      · have HE2 : Hid (lnE G p q = if lnkB G ds = false then 8 else 0) := by show _ = _; rw [unhide HE, if_neg (by rw [hge]; simp), hns, List.dropLast_concat]
        have HNS := hide hns
        have HDIR := hide hdir
        have HATQ := hide hat
        clear hge hns hdir hat
        unfold spotV
        obtain ⟨W3, hW3, hx3, hk3, hsz3, hbW3⟩ := alloc_name w3 (spotL (some ⟨db, 0, none⟩) m false ⟨none, 0⟩) 124
        have hbb3 : Below w.heap.size w W3 := hbw3.trans (hbW3.mono hbw3.size)
        have hml := mayLink_code W3 tb rd V E vi G I C ((unhide HH).below hbb3 (Nat.le_refl _)) hG hGl ds db (unhide HDIR)
        have HW3 := hide hW3
        clear hW3 hk3
        go_upto_if 38 with fail
        rw [unhide HW3]
        clear HW3
        have a0 := hx3.cell 0
        go_wp2_with fail
        refine hml.mono ?_
        rintro e w4 ⟨rfl, hb4⟩
        have hx4 : RowIs w4 w3.heap.size 124 _ := (hb4.block _ hx3.lt).trans hx3
        have hbw4 : Below w.heap.size w w4 := hbb3.trans (hb4.mono hbb3.size)
        clear hml a0
        rw [show decide (G.countP (qIn ds) < 20 ∧ G.length < 100) = lnkB G ds from rfl]
        cases hmb : lnkB G ds with
        | false =>
          have HE3 : Hid (lnE G p q = 8) := by show _ = _; rw [unhide HE2, hmb]; rfl
          go_wp2
          go_ret
          have := unhide HSAME w4 hbw4 (by rw [unhide HE3]; decide)
          rw [unhide HE3] at this
          exact this
        | true =>
          have HE3 : Hid (lnE G p q = 0) := by show _ = _; rw [unhide HE2, hmb]; rfl
          have a0 := hx4.cell 0; have a1 := hx4.cell 1; have a2 := hx4.cell 2; have a3 := hx4.cell 3; have a4 := hx4.cell 4
          have hent := link_end w4 tb rd V E vi G I C ((unhide HH).below hbw4 (Nat.le_refl _)) hG hGl hIl ds db (unhide HDIR) m (name_size (unhide HOK) (unhide HNS)) (by rw [← unhide HNS]; exact unhide HATQ) u.f
          unfold spotV at hent
          have HENT := hide hent
          clear hent
          go_wp2_with fail
          refine (unhide HENT).mono ?_
          rintro e w5 ⟨rfl, V', E', h5, hf5⟩
          have hli := link_code w5 tb rd V' E' vi _ I C h5 hIl u.f r (unhide HIN) (by omega) hr1
          have HLI := hide hli
          clear hli HENT a0 a1 a2 a3 a4
          go_wp2_with fail
          refine (unhide HLI).mono ?_
          rintro e w6 ⟨rfl, ⟨I', q1, q2⟩, q3⟩
          have HFIN : Hid (LnPost w tb G I C p q (.returned (.int .i64 0)) w6) :=
            ⟨by rw [unhide HE3], (Fr.prog hbw4 hf5).progTrans q3, .inr ⟨unhide HE3, u, r, I', unhide HAT, unhide HU, unhide HIN, q2, by rw [unhide HNS]; exact ⟨rd, V', E', vi, q1⟩⟩⟩
          clear HLI q1 q2 q3
          go_wp2
          go_ret
          exact unhide HFIN
end Go.Proofs.YtfabjhgkigagpaaGreatDoor
namespace Go.Proofs.YtfabjhgkigagpaaGreatDoor
open Go.RowKit

set_option maxHeartbeats 1000000
set_option maxRecDepth 100000
theorem bytesV_length (s : ByteArray) : (bytesV s).length = s.size := by unfold bytesV; rw [List.length_map]; exact Array.length_toList
theorem bytesV_one (s : ByteArray) : ∀ u ∈ bytesV s, u.oneCell' = true := fun u hu => by
  unfold bytesV at hu
  obtain ⟨b, _, rfl⟩ := List.mem_map.1 hu
  rfl
/-- A slice of bytes that can be read. -/
def RdB (w : World) (a : Option Addr) (l c : Nat) (s : ByteArray) : Prop := l = s.size ∧ (a = none → c = 0) ∧ ∀ j v, (bytesV s)[j]? = some v → ∃ x, a = some x ∧ w.cell? (x.add j) = some v
theorem RdB.below {w w' : World} {a : Option Addr} {l c : Nat} {s : ByteArray} (h : RdB w a l c s) (hb : Below w.heap.size w w') : RdB w' a l c s :=
  ⟨h.1, h.2.1, fun j v hv => by
    obtain ⟨x, e, hc⟩ := h.2.2 j v hv
    exact ⟨x, e, (hb.cell (p := x.add j) (World.block_lt_of_cell? _ _ hc)).trans hc⟩⟩
theorem Sl.rdB {w : World} {a : Option Addr} {l c : Nat} {s : ByteArray} (h : Sl w 5 1 (.slice a l c) l (bytesV s)) : RdB w a l c s := by
  refine ⟨by have := h.1; rw [bytesV_length] at this; omega, fun e => ?_, fun j v hv => ?_⟩
  · subst e
    rcases h.2 with ⟨e, _⟩ | ⟨g, cap, L, e, _⟩
    · cases e; rfl
    · cases e
  · rcases h.2 with ⟨e, h0⟩ | ⟨g, cap, L, e, hR, _, _, _, hT⟩
    · have h1 := h.1; rw [h0] at h1
      have : bytesV s = [] := List.eq_nil_of_length_eq_zero (by simpa using h1)
      rw [this] at hv; simp at hv
    · cases e
      refine ⟨_, rfl, ?_⟩
      rw [Addr.add_lit, Nat.zero_add, hR.cell]
      rw [← hT, List.getElem?_take] at hv
      split at hv
      · exact hv
      · cases hv
theorem size5 : (Tryz.prog.info? 5).map (·.size) = some 1 := by kernel_rfl
theorem copy_nil (w : World) (g n c : Nat) : (Builtin.copy_ #[43, 43] 3 #[.slice (some ⟨g, 0, none⟩) n c, .slice none 0 0]).run Tryz.prog w = .ok (goInt 0) w := by
  obtain ⟨i0, hi0, hz0, hz1, hz2⟩ := info_parts info5
  simp [Builtin.copy_, run_underlying Tryz.underlying43, Builtin.lenOf, sizeOf, typeInfo, hi0, Builtin.firstCells, storeCells]
theorem bytesV_append (a b : ByteArray) : bytesV (a ++ b) = bytesV a ++ bytesV b := by unfold bytesV; rw [ByteArray.data_append, Array.toList_append, List.map_append]
theorem bytesV_extract (s : ByteArray) (i j : Nat) : bytesV (s.extract i j) = ((bytesV s).drop i).take (j - i) := by
  unfold bytesV; rw [Lib.extract_data]; simp [List.map_drop, List.map_take]
theorem bytesV_zeros (n : Nat) : bytesV ⟨(List.replicate n 0).toArray⟩ = List.replicate n (.int .u8 0) := by unfold bytesV; simp
theorem resized_code (w : World) (a : Option Addr) (l c : Nat) (s : ByteArray) (h : RdB w a l c s) (_hs : s.size ≤ 2000000) (n : Nat) (hn : n ≤ 2000000) :
    Calls Tryz.prog 84 #[.slice a l c, .int .i64 n] w fun e w' => ∃ x, e = .returned (.slice (some ⟨x, 0, none⟩) n n) ∧ w.heap.size ≤ x ∧ Sl w' 5 1 (.slice (some ⟨x, 0, none⟩) n n) n (bytesV (longR s n)) ∧ Below w.heap.size w w' := by
  obtain ⟨i0, hi0, hz0, hz1, hz2⟩ := info_parts info5
  have hcopy : ∀ W : World, W.ownsRow 0 5 1 (.slice (some ⟨w.heap.size, 0, none⟩) n n) n (madeCells (Value.int .u8 0).cells (n * 1)).toList → w.grownBy W none → ∃ W' k, (Builtin.copy_ #[43, 43] 3 #[.slice (some ⟨w.heap.size, 0, none⟩) n n, .slice a l c]).run Tryz.prog W = .ok (goInt k) W' ∧ Hid (Sl W' 5 1 (.slice (some ⟨w.heap.size, 0, none⟩) n n) n (bytesV (longR s n)) ∧ Below w.heap.size w W') := by
    intro W hW hg
    have hS := Sl.of_owns hW
    have hb := below_of_grown hg
    have e1 : (madeCells (Value.int .u8 0).cells (n * 1)).toList = List.replicate n (.int .u8 0) := by rw [Nat.mul_one]; exact toList_madeCells_one (.int .u8 0) n
    rw [e1] at hS
    have hrd := h.below hb
    cases a with
    | none =>
      have hs0 : s.size = 0 := by
        rcases Nat.eq_zero_or_pos s.size with e | e
        · exact e
        · obtain ⟨x, hx, _⟩ := h.2.2 0 ((bytesV s)[0]'(by rw [bytesV_length]; exact e)) (List.getElem?_eq_getElem _)
          cases hx
      have hl0 : l = 0 := by rw [h.1, hs0]
      have hc0 := h.2.1 rfl
      subst hl0 hc0
      refine ⟨W, 0, copy_nil W _ _ _, ?_, hb⟩
      have : bytesV (longR s n) = List.replicate n (.int .u8 0) := by
        have hse : s = ⟨#[]⟩ := by
          apply WideShapes.bytes_inj
          have : s.data.toList.length = 0 := by rw [← hs0]; exact Array.length_toList
          rw [List.eq_nil_of_length_eq_zero this]
        unfold longR
        by_cases hn0 : n ≤ s.size
        · rw [if_pos hn0]
          have : n = 0 := by omega
          subst this
          rw [bytesV_extract]; simp
        · rw [if_neg hn0, bytesV_append, bytesV_zeros, hs0, hse]
          simp [bytesV]
      rw [this]; exact hS
    | some x =>
      rcases hS.2 with ⟨e, _⟩ | ⟨g, cap, L, e, hR, h1, h2, h3, h4⟩
      · cases e
      · cases e
        have hL : L = List.replicate n (.int .u8 0) := by
          rw [← h4, List.take_of_length_le (by omega)]
        have hlen : ((bytesV s).take (Nat.min l n)).length = Nat.min l n * 1 := by
          rw [List.length_take, bytesV_length, h.1, Nat.mul_one]
          exact Nat.min_eq_left (Nat.min_le_left _ _)
        obtain ⟨W', q1, q2, q3⟩ := run_copy_spl (P := Tryz.prog) W 43 43 3 5 1 w.heap.size 0 n n x l c L 5 ((bytesV s).take (Nat.min l n)) Tryz.underlying43 size5 hR hlen
          (fun j v hv => by
            rw [List.getElem?_take] at hv
            split at hv
            · obtain ⟨y, e, hy⟩ := hrd.2.2 j v hv; cases e; exact hy
            · cases hv) (by rw [hlen, h3]; have : Nat.min l n ≤ n := Nat.min_le_right _ _; omega) (fun v hv => bytesV_one s v (List.mem_of_mem_take hv))
        refine ⟨W', _, q1, ?_, ?_⟩
        · have hfin : spl L 0 ((bytesV s).take (Nat.min l n)) = bytesV (longR s n) := by
            unfold spl
            rw [hlen, hL, List.take_zero, List.nil_append, Nat.zero_add, Nat.mul_one, List.drop_replicate]
            unfold longR
            by_cases hns : n ≤ s.size
            · have hm : Nat.min l n = n := by rw [h.1]; exact Nat.min_eq_right hns
              rw [if_pos hns, bytesV_extract, hm]; simp
            · have hm : Nat.min l n = s.size := by rw [h.1]; exact Nat.min_eq_left (by omega)
              rw [if_neg hns, bytesV_append, bytesV_zeros, hm, List.take_of_length_le (by rw [bytesV_length]; exact Nat.le_refl _)]
          rw [hfin] at q2
          refine ⟨by rw [bytesV_length, longR_size]; omega, .inr ⟨w.heap.size, n, _, rfl, q2, Nat.le_refl _, h2, by rw [bytesV_length, longR_size]; omega, by rw [List.take_of_length_le (by rw [bytesV_length, longR_size]; omega)]⟩⟩
        · exact hb.grown q3 hb.size (fun k e => by cases e; exact Nat.le_refl _)
  have HC := hide hcopy
  clear hcopy
  go_enter Tryz.func84, Tryz.ntmps84
  go_wp2_with (first | (at_make; refine wpList_make_full _ rfl _ _ 43 rfl 0 5 i0 (.int .u8 0) 1 Tryz.underlying43 hi0 hz0 hz1 _ _ _ _ n rfl rfl rfl rfl (by rw [hz2]; omega) (by unfold maxLen; omega) (Nat.zero_le _) ?_; intro w1 hown hgr; obtain ⟨W', k, hr1, HP⟩ := unhide HC w1 hown hgr) | (at_builtin; refine wpList_copy_run _ rfl _ _ 43 43 rfl _ _ rfl rfl hr1 ?_))
  go_ret
  obtain ⟨p1, p2⟩ := unhide (unhide HP)
  exact ⟨w.heap.size, rfl, Nat.le_refl _, p1, p2⟩
end Go.Proofs.YtfabjhgkigagpaaGreatDoor
namespace Go.Proofs.YtfabjhgkigagpaaGreatDoor
open Go.RowKit

set_option maxHeartbeats 1000000
set_option maxRecDepth 100000
theorem longR_list (s : ByteArray) (n : Nat) : bytesV (longR s n) = (bytesV s ++ List.replicate n (Value.int .u8 0)).take n := by
  unfold longR
  by_cases h : n ≤ s.size
  · rw [if_pos h, bytesV_extract, List.take_append_of_le_length (by rw [bytesV_length]; exact h)]; simp
  · rw [if_neg h, bytesV_append, bytesV_zeros, List.take_append, List.take_of_length_le (by rw [bytesV_length]; omega), bytesV_length, List.take_replicate, Nat.min_eq_left (by omega)]
theorem over_list (s d : ByteArray) (i M : Nat) (hM : M = max s.size (i + d.size)) : spl (bytesV (longR s M)) i (bytesV d) = bytesV (wrR s i d) := by
  unfold spl wrR
  rw [bytesV_append, bytesV_append, longR_list, longR_list, bytesV_length]
  have h1 : ((bytesV s ++ List.replicate M (Value.int .u8 0)).take M).take i = (bytesV s ++ List.replicate i (Value.int .u8 0)).take i := by
    rw [List.take_take, Nat.min_eq_left (by omega)]
    rw [List.take_append, List.take_append, List.take_replicate, List.take_replicate]
    congr 2
    omega
  rw [h1]
  congr 1
  by_cases hlt : i + d.size < s.size
  · rw [if_pos hlt]
    have hMs : M = s.size := by omega
    rw [hMs, List.take_append_of_le_length (by rw [bytesV_length]; exact Nat.le_refl _), List.take_of_length_le (by rw [bytesV_length]; exact Nat.le_refl _), bytesV_extract]
    rw [List.take_of_length_le (by rw [List.length_drop, bytesV_length]; exact Nat.le_refl _)]
  · rw [if_neg hlt]
    have hMs : M = i + d.size := by omega
    rw [hMs, List.drop_take]
    simp [bytesV]
theorem wrR_size' (s : ByteArray) (m : Nat) (d : ByteArray) : (wrR s m d).size = max (m + d.size) s.size := wrR_size s m d
theorem overlaid_code (w : World) (a : Option Addr) (l c : Nat) (s : ByteArray) (h : RdB w a l c s) (hs : s.size ≤ 1280) (i : Nat) (ad : Option Addr) (ld cd : Nat) (d : ByteArray) (hd : RdB w ad ld cd d) (hi : i + d.size ≤ 1280) :
    Calls Tryz.prog 99 #[.slice a l c, .int .i64 i, .slice ad ld cd] w fun e w' => ((d.size = 0 ∧ e = .returned (.slice a l c)) ∨ (0 < d.size ∧ ∃ x m, e = .returned (.slice (some ⟨x, 0, none⟩) m m) ∧ w.heap.size ≤ x ∧ Sl w' 5 1 (.slice (some ⟨x, 0, none⟩) m m) m (bytesV (wrR s i d)))) ∧ Below w.heap.size w w' := by
  obtain ⟨hls, hcs, hrs0⟩ := h
  obtain ⟨hld, hcd, hrd⟩ := hd
  subst hls hld
  have HRS : Hid (RdB w a s.size c s) := ⟨rfl, hcs, hrs0⟩
  have HRD : Hid (RdB w ad d.size cd d) := ⟨rfl, hcd, hrd⟩
  clear hrs0 hrd
  by_cases h0 : d.size = 0
  · have h0' : ((d.size : Int) == 0) = true := by rw [h0]; rfl
    have H0 := hide h0
    clear h0
    go_enter Tryz.func99, Tryz.ntmps99
    go_wp2
    go_ret
    exact ⟨.inl ⟨unhide H0, rfl⟩, Below.refl _ _⟩
  · have h0' : ((d.size : Int) == 0) = false := by simpa using h0
    obtain ⟨M, hM⟩ : ∃ M, M = max s.size (i + d.size) := ⟨_, rfl⟩
    have HM := hide hM
    have HMI : Hid (max (s.size : Int) ((i : Int) + (d.size : Int)) = (M : Int)) := by show _ = _; omega
    have hrs := resized_code w a s.size c s (unhide HRS) (by omega) M (by omega)
    have HRES := hide hrs
    have hiM : i < M := by omega
    have hM2 : M ≤ 2000000 := by omega
    clear hrs hM
    go_enter Tryz.func99, Tryz.ntmps99
    go_wp2_with fail
    rw [unhide HMI]
    refine (unhide HRES).mono ?_
    rintro e w1 ⟨x, rfl, hxw, hS, hb⟩
    have hcopy : ∃ W' k, (Builtin.copy_ #[43, 43] 3 #[.slice (some ⟨x, i, none⟩) (M - i) (M - i), .slice ad d.size cd]).run Tryz.prog w1 = .ok (goInt k) W' ∧ Hid (Sl W' 5 1 (.slice (some ⟨x, 0, none⟩) M M) M (bytesV (wrR s i d)) ∧ Below w.heap.size w W') := by
      have hrd := (unhide HRD).below hb
      cases ad with
      | none =>
        exfalso
        have hpos : 0 < d.size := by omega
        obtain ⟨y, hy, _⟩ := hrd.2.2 0 ((bytesV d)[0]'(by rw [bytesV_length]; exact hpos)) (List.getElem?_eq_getElem _)
        cases hy
      | some y =>
        rcases hS.2 with ⟨e, _⟩ | ⟨g, cap, L, e, hR, h1, h2, h3, h4⟩
        · cases e
        · cases e
          have hL : L = bytesV (longR s M) := by rw [← h4, List.take_of_length_le (by omega)]
          have hmin : Nat.min d.size (M - i) = d.size := Nat.min_eq_left (by have := unhide HM; omega)
          obtain ⟨W', q1, q2, q3⟩ := run_copy_spl (P := Tryz.prog) w1 43 43 3 5 1 x i (M - i) (M - i) y d.size cd L 5 (bytesV d) Tryz.underlying43 size5 hR (by rw [bytesV_length, hmin, Nat.mul_one])
            (fun j v hv => by obtain ⟨z, e, hz⟩ := hrd.2.2 j v hv; cases e; exact hz) (by rw [bytesV_length, h3]; have := unhide HM; omega) (bytesV_one d)
          refine ⟨W', _, q1, ?_, hb.grown q3 hb.size (fun k e => by cases e; exact hxw)⟩
          rw [hL, over_list s d i M (unhide HM)] at q2
          have hsz : (bytesV (wrR s i d)).length = M := by rw [bytesV_length, wrR_size', unhide HM]; omega
          exact ⟨by rw [hsz]; omega, .inr ⟨x, M, _, rfl, q2, Nat.le_refl _, h2, by rw [hsz]; omega, by rw [List.take_of_length_le (by rw [hsz]; omega)]⟩⟩
    obtain ⟨W', k, hr1, HP⟩ := hcopy
    have H0 := hide h0
    clear hS hb HRES HM h0
    go_wp2_with (first | (at_builtin; refine wpList_copy_run _ rfl _ _ 43 43 rfl _ _ rfl rfl hr1 ?_))
    go_ret
    obtain ⟨p1, p2⟩ := unhide (unhide HP)
    exact ⟨.inr ⟨Nat.pos_of_ne_zero (unhide H0), x, M, rfl, hxw, p1⟩, p2⟩
end Go.Proofs.YtfabjhgkigagpaaGreatDoor
