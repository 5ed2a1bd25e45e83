/- Files. -/
import Derived.Test.YtaieidcohdhgpaaGreatDoorPBI
import Derived.Test.YtaieidcohdhgpaaGreatDoorPAT
import Derived.Test.YtaieidcohdhgpaaGreatDoorPAU
namespace Go.Proofs.YtaieidcohdhgpaaGreatDoor
open Go.RowKit
set_option maxHeartbeats 4000000
set_option maxRecDepth 100000
theorem CarryPost.from {w0 w w' : World} {stb db tn : Nat} {vf vn vw ve : Value} {D : List ByteArray} {ps : List (Nat × ByteArray)} {es : List Int} {va : Value} {eP : List (Int × Int)} {tp tx : Nat} {qs : List (Nat × ByteArray)} {e : Ending} (h : CarryPost w stb db tn vf vn vw ve D ps es va eP tp tx qs e w') (hb : Below w0.heap.size w0 w) : CarryPost w0 stb db tn vf vn vw ve D ps es va eP tp tx qs e w' := by
 obtain ⟨h0, vw', ve', h1, h2, h3, h4, h5, h6⟩ := h
 have hs := hb.size
 exact ⟨h0, vw', ve', h1, fun g hg => (h2 g hg).imp id (fun e => Nat.le_trans hs e), fun g hg => (h3 g hg).imp id (fun e => Nat.le_trans hs e), (Fr.of_below (X := StO stb db vn vw ve) hb).then h4 (fun _ _ e => e), h5, h6⟩
theorem tab0_size : tab0.size = 64 := blkK_size _ _ _ _
def rol0 : List (Int × Int) := [(((roleN 3 0 0 : Nat) : Int), ((16 : Nat) : Int))]
def KeepFPost (w : World) (stb db : Nat) (vf vn : Value) (D : List ByteArray) (e : Ending) (w' : World) : Prop :=
 ∃ va, CarryPost w stb db 1 vf vn (.slice none 0 0) (.slice none 0 0) D [] [] va rol0 16 (fnvN tab0) [(16, tab0)] e w' ∧ ∀ k, Own va k → w.heap.size ≤ k
theorem keepF_code (w : World) (stb db tb rb : Nat) (vi vf vn : Value) (D : List ByteArray) (h : StW w stb db (.slice none 0 0) ((15 : Nat) : Int) 0 ((0 : Nat) : Int) vf vn (.slice none 0 0) (.slice none 0 0) D [] []) (ht : RowIs w tb 214 [.pointer (some ⟨rb, 0, none⟩), vi]) (hr : RowIs w rb 229 [.slice none 0 0]) :
  Calls Tryz.prog 74 #[.pointer (some ⟨stb, 0, none⟩), .pointer (some ⟨tb, 0, none⟩)] w (KeepFPost w stb db vf vn D) := by
 have hc0 : w.cell? ⟨stb, 0, none⟩ = some (.pointer (some ⟨db, 0, none⟩)) := (h.row.cell 0).trans rfl
 have hc1 : w.cell? ⟨stb, 1, none⟩ = some (.slice none 0 0) := (h.row.cell 1).trans rfl
 have hc2 : w.cell? ⟨stb, 2, none⟩ = some (.int .i64 ((15 : Nat) : Int)) := (h.row.cell 2).trans rfl
 have hstl := h.row.lt
 have HNP : Hid (Calls Tryz.prog 131 #[.pointer (some ⟨db, 0, none⟩), .pointer (some ⟨stb, 1, none⟩), .pointer (some ⟨tb, 0, none⟩), .bool false] w.drew fun e X => ∃ pb, e = .returned (.pointer (some ⟨pb, 0, none⟩)) ∧ X.cell? ⟨stb, 0, none⟩ = some (.pointer (some ⟨db, 0, none⟩)) ∧ Hid (Calls Tryz.prog 132 #[.pointer (some ⟨pb, 100, none⟩)] X fun e Y => e = .returned (.int .i64 1504) ∧ Hid (Calls Tryz.prog 133 #[.pointer (some ⟨stb, 0, none⟩), .pointer (some ⟨pb, 0, none⟩)] Y fun e Z => e = .returned (.tuple #[]) ∧ Hid (KeepFPost w stb db vf vn D (.returned (.tuple #[])) Z)))) := by
  refine (newPlan_empty w.drew db stb 1 tb rb 15 vi false (by omega) hc1 hc2 ht hr).mono ?_
  rintro e X ⟨pb, va, vp, rfl, hpb, hP, hbX, hva, hvp⟩
  rw [place0] at hP
  have hwX : Below w.heap.size w X := ⟨hbX.os, hbX.tape, hbX.output, hbX.size, hbX.block⟩
  have hsX := h.below hwX
  refine ⟨pb, rfl, (hsX.row.cell 0).trans rfl, ?_⟩
  refine (free_st_code X pb 100 va rol0 hP.cells.2.2.2.2.2.1 hP.sa placesOk0).mono ?_
  rintro e Y ⟨rfl, hbY⟩
  refine ⟨by unfold rol0; rw [free0]; rfl, ?_⟩
  have hP2 := hP.below hbY
  have hsY := hsX.below hbY
  have hwY : Below w.heap.size w Y := hwX.trans (hbY.mono hwX.size)
  have hlo : ∀ k, StO stb db vn (.slice none 0 0) (.slice none 0 0) k → k < w.heap.size := fun k e => by
   rcases e with rfl | rfl | e | e | e
   ·exact h.row.lt
   ·exact h.disk.1.lt
   ·exact h.disk.2.1.1.lt e
   ·simp [Own, Value.ownBlock] at e
   ·simp [Own, Value.ownBlock] at e
  refine (carry_code Y stb db pb _ _ _ 0 vf vn _ _ D [] [] hsY db stb 1 _ false _ va rol0 16 (fnvN tab0) vp [(16, tab0)] hP2 (fun x hx => by rw [List.mem_singleton.1 hx]; exact ⟨(by decide), tab0_size⟩) (by simp) (by simp) (by simp) 1 rfl (by omega) (by omega) (fnvN_lt _) (fun k hk e => ?_)).mono ?_
  ·have h1 := hlo k e
   have h2 : w.heap.size ≤ k := by
    rcases hk with rfl | hk | hk
    ·exact hpb
    ·exact hvp k hk
    ·exact hva k hk
   omega
  ·intro e Z hz
   obtain rfl := hz.1
   exact ⟨rfl, va, hz.from hwY, hva⟩
 clear h ht hr hc1 hc2
 go_enter Tryz.func74, Tryz.ntmps74
 go_upto_region 0 with fail
 refine wp_region_held_drew (S := fun X => X.cell? ⟨stb, 0, none⟩ = some (.pointer (some ⟨db, 0, none⟩))) (by kernel_rfl) hc0 (fun hHeld => ?_)
 refine wpAnyH_take (i := 0) (v := ?_) rfl (by kernel_rfl) (by kernel_rfl) (by kernel_rfl) (fun _ _ _ h => h) (Or.inl ⟨by rfl, ?_⟩) (by assumption) ?_
 rotate_left
 ·intro w hSw; (try dsimp only at hSw); go_simp <;> with_reducible rfl
 (try simp only [pE])
 refine wpAnyH_take (i := 1) (v := ?_) rfl (by kernel_rfl) (by kernel_rfl) (by kernel_rfl) (fun _ _ _ h => h) (Or.inl ⟨by rfl, ?_⟩) (by assumption) ?_
 rotate_left
 ·intro w hSw; (try dsimp only at hSw); go_simp <;> with_reducible rfl
 (try simp only [pE])
 refine wpAnyH_take (i := 2) (v := ?_) rfl (by kernel_rfl) (by kernel_rfl) (by kernel_rfl) (fun _ _ _ h => h) (Or.inl ⟨by rfl, ?_⟩) (by assumption) ?_
 rotate_left
 ·intro w hSw; (try dsimp only at hSw); go_simp <;> with_reducible rfl
 (try simp only [pE])
 refine wpAnyH_take (i := 3) (v := ?_) rfl (by kernel_rfl) (by kernel_rfl) (by kernel_rfl) (fun _ _ _ h => h) (Or.inl ⟨by rfl, ?_⟩) (by assumption) ?_
 rotate_left
 ·intro w hSw; (try dsimp only at hSw); go_simp <;> with_reducible rfl
 (try simp only [pE])
 refine wpAnyH_take (i := 4) (v := ?_) rfl (by kernel_rfl) (by kernel_rfl) (by kernel_rfl) (fun _ _ _ h => h) (Or.inl ⟨by rfl, ?_⟩) (by assumption) ?_
 rotate_left
 ·intro w hSw; (try dsimp only at hSw); go_simp <;> with_reducible rfl
 (try simp only [pE])
 refine wpAnyH_take (i := 5) (v := ?_) rfl (by kernel_rfl) (by kernel_rfl) (by kernel_rfl) (fun _ _ _ h => h) (Or.inl ⟨by rfl, ?_⟩) (by assumption) ?_
 rotate_left
 ·intro w hSw; (try dsimp only at hSw); go_simp <;> with_reducible rfl
 (try simp only [pE])
 refine wpAnyH_take (i := 6) (v := ?_) rfl (by kernel_rfl) (by kernel_rfl) (by kernel_rfl) (fun _ _ _ h => h) (Or.inl ⟨by rfl, ?_⟩) (by assumption) ?_
 rotate_left
 ·intro w hSw; (try dsimp only at hSw); go_simp <;> with_reducible rfl
 (try simp only [pE])
 refine wpAnyH_take (i := 7) (v := ?_) rfl (by kernel_rfl) (by kernel_rfl) (by kernel_rfl) (fun _ _ _ h => h) (Or.inl ⟨by rfl, ?_⟩) (by assumption) ?_
 rotate_left
 ·intro w hSw; (try dsimp only at hSw); go_simp <;> with_reducible rfl
 (try simp only [pE])
 refine wpAnyH_ready (rs := [8]) (by kernel_rfl) (by simp) ?_
 refine AllReadyH.cons (i := 8) rfl ?_ AllReadyH.nil
 intro K hK
 go_simp
 go_at_call 131
 refine (unhide HNP).mono ?_
 rintro e X ⟨pb, rfl, hcX, HFR⟩
 go_wp2_with fail
 refine hK.out _ _ hcX (fun hH8 => ?_)
 clear hK K
 (try simp only [pE])
 refine wpAnyH_take (i := 9) (v := ?_) rfl (by kernel_rfl) (by kernel_rfl) (by kernel_rfl) (fun _ _ _ h => h) (Or.inl ⟨by rfl, ?_⟩) (by assumption) ?_
 rotate_left
 ·intro w hSw; (try dsimp only at hSw); go_simp <;> with_reducible rfl
 (try simp only [pE])
 refine wpAnyH_done (by kernel_rfl) ?_ _
 go_wp2_with (first | (go_at_call 132; refine (unhide HFR).mono ?_; rintro e Y ⟨rfl, HCR⟩) | (go_at_call 133; refine (unhide HCR).mono ?_; rintro e Z ⟨rfl, HP⟩))
 go_end0
 exact unhide HP
def fmtD : List ByteArray := (((wrAll zeroD [(16, tab0)]).set 1 (ckB 1 16 (fnvN tab0))).set 0 (ckB 0 16 (fnvN tab0)))
def FormatSPost (w : World) (db : Nat) (vn : Value) (e : Ending) (w' : World) : Prop :=
 ∃ stb vf' va, e = .returned (.pointer (some ⟨stb, 0, none⟩)) ∧ w.heap.size ≤ stb ∧ StW w' stb db va ((16 : Nat) : Int) (fnvN tab0 : Nat) ((1 : Nat) : Int) vf' vn (.slice none 0 0) (.slice none 0 0) fmtD [] [] ∧ SlD w' vf' fmtD ∧ Sl w' 350 2 va 1 (cellsR rol0) ∧ (∀ k, Own vf' k → w.heap.size ≤ k ∧ k ≠ stb ∧ ¬ Own va k ∧ k ≠ db ∧ ¬ Own vn k) ∧ (∀ k, Own va k → w.heap.size ≤ k ∧ k ≠ stb ∧ k ≠ db ∧ ¬ Own vn k) ∧ Fr (fun k => k = db ∨ Own vn k) w w'
theorem formatS_code (w : World) (db tb rb : Nat) (vi vf vn : Value) (h : DiskW w db vf vn (.slice none 0 0) (.slice none 0 0) zeroD) (hnd : ¬ Own vn db) (ht : RowIs w tb 214 [.pointer (some ⟨rb, 0, none⟩), vi]) (hr : RowIs w rb 229 [.slice none 0 0]) :
  Calls Tryz.prog 99 #[.pointer (some ⟨db, 0, none⟩), .pointer (some ⟨tb, 0, none⟩)] w (FormatSPost w db vn) := by
 obtain ⟨W, hW, xW, kW, sW, bW⟩ := alloc_name w [.pointer (some ⟨db, 0, none⟩), .slice none 0 0, .int .i64 15, .int .u64 0, .int .u64 0] 179
 have hno : ∀ k, ¬ Own (.slice none 0 0) k := fun k e => by simp [Own, Value.ownBlock] at e
 have hdl := h.1.lt
 have hst : StW W w.heap.size db (.slice none 0 0) ((15 : Nat) : Int) 0 ((0 : Nat) : Int) vf vn (.slice none 0 0) (.slice none 0 0) zeroD [] [] := by
  refine ⟨xW, ⟨kW _ _ _ h.1, ⟨h.2.1.1.kept (fun k hk _ => bW.block k hk), h.2.1.2⟩, h.2.2⟩, SlP.nil _, ⟨rfl, .inl ⟨rfl, rfl⟩⟩, by omega, ⟨fun e => ?_, hno _, hno _⟩, ⟨hnd, hno _, hno _⟩, fun k _ => hno k, fun k _ => hno k, fun k _ => hno k⟩
  have := h.2.1.1.lt e; omega
 obtain ⟨VK, hVK⟩ : ∃ V, V = pcV 0 (ckB 0 16 (fnvN tab0)) := ⟨_, rfl⟩
 have HK : Hid (Calls Tryz.prog 74 #[.pointer (some ⟨w.heap.size, 0, none⟩), .pointer (some ⟨tb, 0, none⟩)] W fun e X => e = .returned (.tuple #[]) ∧ (X.cell? ⟨w.heap.size, 4, none⟩ = some (.int .u64 1) ∧ X.cell? ⟨w.heap.size, 2, none⟩ = some (.int .i64 16) ∧ X.cell? ⟨w.heap.size, 3, none⟩ = some (.int .u64 (fnvN tab0 : Nat))) ∧
   Hid (Calls Tryz.prog 160 #[.agg #[.int .u64 0, .int .i64 16, .int .u64 (fnvN tab0 : Nat)]] X.drew fun e Y => e = .returned VK ∧ (Y.cell? ⟨w.heap.size, 4, none⟩ = some (.int .u64 1) ∧ Y.cell? ⟨w.heap.size, 2, none⟩ = some (.int .i64 16) ∧ Y.cell? ⟨w.heap.size, 3, none⟩ = some (.int .u64 (fnvN tab0 : Nat))) ∧
    Hid (Calls Tryz.prog 159 #[.pointer (some ⟨db, 0, none⟩), VK] Y fun e Z => e = .returned (.tuple #[]) ∧ (Z.cell? ⟨w.heap.size, 4, none⟩ = some (.int .u64 1) ∧ Z.cell? ⟨w.heap.size, 2, none⟩ = some (.int .i64 16) ∧ Z.cell? ⟨w.heap.size, 3, none⟩ = some (.int .u64 (fnvN tab0 : Nat))) ∧
     Hid (Calls Tryz.prog 161 #[.pointer (some ⟨db, 0, none⟩)] Z fun e V => e = .returned (.tuple #[]) ∧ Hid (FormatSPost w db vn (.returned (.pointer (some ⟨w.heap.size, 0, none⟩))) V))))) := by
  refine (keepF_code W w.heap.size db tb rb vi vf vn zeroD hst (kW _ _ _ ht) (kW _ _ _ hr)).mono ?_
  rintro e X ⟨va, ⟨rfl, vw1, ve1, s1, s2, s3, s4, s5, s6⟩, s7⟩
  have s1' : StW X w.heap.size db va ((16 : Nat) : Int) (fnvN tab0 : Nat) ((1 : Nat) : Int) vf vn vw1 ve1 ((wrAll zeroD [(16, tab0)]).set 1 (ckB 1 16 (fnvN tab0))) ([] ++ [(16, tab0)] ++ [(1, ckB 1 16 (fnvN tab0))]) _ := s1
  refine ⟨rfl, ⟨(s1.row.cell 4).trans rfl, (s1.row.cell 2).trans rfl, (s1.row.cell 3).trans rfl⟩, ?_⟩
  refine (piece_code X.drew 0 16 (fnvN tab0) (by omega) (by omega) (fnvN_lt _)).mono ?_
  rintro e Y ⟨rfl, hY⟩
  have hY1 : Below X.heap.size X Y := ⟨hY.os, hY.tape, hY.output, hY.size, hY.block⟩
  have s1Y := s1'.below hY1
  have s5Y : Sl Y 350 2 va 1 (cellsR rol0) := s5.kept (fun k hk _ => hY1.block k hk)
  refine ⟨by rw [hVK], ⟨(s1Y.row.cell 4).trans rfl, (s1Y.row.cell 2).trans rfl, (s1Y.row.cell 3).trans rfl⟩, ?_⟩
  rw [hVK]
  refine (s1Y.write_call (by simp) 0 (by omega) _ (ckB_size _ _ _)).mono ?_
  intro e Z hz
  obtain ⟨vw2, u1, u2, u3⟩ := s1Y.write hz
  have hvaY : ∀ k, Own va k → k < Y.heap.size := fun k hk => s5Y.lt hk
  have s5Z : Sl Z 350 2 va 1 (cellsR rol0) := s5Y.fr u3 (fun k hk e => s6 k hk (by rcases e with e | e | e; exact .inr (.inl e); exact .inr (.inr (.inl e)); exact .inr (.inr (.inr (.inl e)))))
  refine ⟨hz.1, ⟨(u1.row.cell 4).trans rfl, (u1.row.cell 2).trans rfl, (u1.row.cell 3).trans rfl⟩, ?_⟩
  refine (begin_code Z db vf vn vw2 ve1 _ u1.disk u1.nd.1).mono ?_
  rintro e V ⟨rfl, vf', v1, v2, v3, v4⟩
  have hsX : w.heap.size + 1 ≤ X.heap.size := by have := s4.size; omega
  have hsY := hY1.size
  have hsZ := u3.size
  have hlt : ∀ k, k < w.heap.size → ¬ (k = db ∨ Own vn k) → ¬ StO w.heap.size db vn (.slice none 0 0) (.slice none 0 0) k := fun k hk hn e => by
   rcases e with e | e | e | e | e
   ·omega
   ·exact hn (.inl e)
   ·exact hn (.inr e)
   ·exact hno _ e
   ·exact hno _ e
  refine ⟨rfl, w.heap.size, vf', va, rfl, Nat.le_refl _, ⟨u1.row.fr v3 (fun e => u1.ne e), v1, SlP.nil _, ⟨rfl, .inl ⟨rfl, rfl⟩⟩, u1.ne, ⟨u1.ns.1, hno _, hno _⟩, ⟨u1.nd.1, hno _, hno _⟩, fun k _ => hno k, fun k _ => hno k, fun k _ => hno k⟩, v2, s5Z.fr v3 (fun k hk e => s6 k hk (.inr (.inl e))), fun k hk => ?_, fun k hk => ?_, ?_⟩
  ·have h1 := v4 k hk
   refine ⟨by omega, by omega, fun e => (by have := hvaY k e; omega), fun e => (by have := u1.disk.1.lt; omega), fun e => (by have := u1.disk.2.1.1.lt e; omega)⟩
  ·exact ⟨(by have := s7 k hk; omega), fun e => s6 k hk (.inl e), fun e => s6 k hk (.inr (.inl e)), fun e => s6 k hk (.inr (.inr (.inl e)))⟩
  ·refine ⟨v3.os.trans (u3.os.trans (hY1.os.trans (s4.os.trans bW.os))), v3.tape.trans (u3.tape.trans (hY1.tape.trans (s4.tape.trans bW.tape))), v3.output.trans (u3.output.trans (hY1.output.trans (s4.output.trans bW.output))), by have := v3.size; omega, fun k hk hn => ?_⟩
   have hvw1 : ¬ Own vw1 k := fun e => (s2 k e).elim (hno _) (fun e => by omega)
   rw [v3.block k (by omega) (fun e => hn (.inl e)), u3.block k (by omega) (fun e => by rcases e with e | e | e; exact hn (.inl e); exact hn (.inr e); exact hvw1 e), hY1.block k (by omega), s4.block k (by omega) (hlt k hk hn), bW.block k hk]
 have HW := hide hW
 have HBLT := hide (built191 0 16 (fnvN tab0 : Nat))
 have hwr : IntKind.u64.wrap (1 - 1) = 0 := by decide
 clear h hnd ht hr hW xW kW sW bW hst hno hdl hVK
 go_enter Tryz.func99, Tryz.ntmps99
 go_upto_region 2 with fail
 rw [show w.alloc (.cells #[.pointer (some ⟨db, 0, none⟩), .slice none 0 0, .int .i64 15, .int .u64 0, .int .u64 0] 179) = W from unhide HW]
 go_upto_region 3 with (go_at_call 74; refine (unhide HK).mono ?_; rintro e X ⟨rfl, hcX, HC3⟩)
 refine wp_region_held_drew (S := fun X => X.cell? ⟨w.heap.size, 4, none⟩ = some (.int .u64 1) ∧ X.cell? ⟨w.heap.size, 2, none⟩ = some (.int .i64 16) ∧ X.cell? ⟨w.heap.size, 3, none⟩ = some (.int .u64 (fnvN tab0 : Nat))) (by kernel_rfl) hcX (fun hHeld => ?_)
 refine wpAnyH_take (i := 0) (v := ?_) rfl (by kernel_rfl) (by kernel_rfl) (by kernel_rfl) (fun _ _ _ h => h) (Or.inl ⟨by rfl, ?_⟩) (by assumption) ?_
 rotate_left
 ·intro w hSw; (try dsimp only at hSw); go_simp <;> with_reducible rfl
 (try simp only [pE])
 refine wpAnyH_take (i := 1) (v := ?_) rfl (by kernel_rfl) (by kernel_rfl) (by kernel_rfl) (fun _ _ _ h => h) (Or.inl ⟨by rfl, ?_⟩) (by assumption) ?_
 rotate_left
 ·intro w hSw; (try dsimp only at hSw); go_simp <;> with_reducible rfl
 (try simp only [pE])
 refine wpAnyH_take (i := 2) (v := ?_) rfl (by kernel_rfl) (by kernel_rfl) (by kernel_rfl) (fun _ _ _ h => h) (Or.inl ⟨by rfl, ?_⟩) (by assumption) ?_
 rotate_left
 ·intro w hSw; (try dsimp only at hSw); go_simp <;> with_reducible rfl
 (try simp only [pE])
 refine wpAnyH_take (i := 3) (v := ?_) rfl (by kernel_rfl) (by kernel_rfl) (by kernel_rfl) (fun _ _ _ h => h) (Or.inl ⟨by rfl, ?_⟩) (by assumption) ?_
 rotate_left
 ·intro w hSw; (try dsimp only at hSw); go_simp <;> with_reducible rfl
 (try simp only [pE])
 refine wpAnyH_take (i := 4) (v := ?_) rfl (by kernel_rfl) (by kernel_rfl) (by kernel_rfl) (fun _ _ _ h => h) (Or.inl ⟨by rfl, ?_⟩) (by assumption) ?_
 rotate_left
 ·intro w hSw; (try dsimp only at hSw); go_simp <;> with_reducible rfl
 (try simp only [pE])
 refine wpAnyH_take (i := 5) (v := .int .u64 0) rfl (by kernel_rfl) (by kernel_rfl) (by kernel_rfl) (fun _ _ _ h => h) (Or.inl ⟨by rfl, ?_⟩) (by assumption) ?_
 ·intro w hSw; (try dsimp only at hSw); go_simp
  rfl
 (try simp only [pE])
 refine wpAnyH_take (i := 6) (v := ?_) rfl (by kernel_rfl) (by kernel_rfl) (by kernel_rfl) (fun _ _ _ h => h) (Or.inl ⟨by rfl, ?_⟩) (by assumption) ?_
 rotate_left
 ·intro w hSw; (try dsimp only at hSw); go_simp <;> with_reducible rfl
 (try simp only [pE])
 refine wpAnyH_take (i := 7) (v := ?_) rfl (by kernel_rfl) (by kernel_rfl) (by kernel_rfl) (fun _ _ _ h => h) (Or.inl ⟨by rfl, ?_⟩) (by assumption) ?_
 rotate_left
 ·intro w hSw; (try dsimp only at hSw); go_simp <;> with_reducible rfl
 (try simp only [pE])
 refine wpAnyH_take (i := 8) (v := ?_) rfl (by kernel_rfl) (by kernel_rfl) (by kernel_rfl) (fun _ _ _ h => h) (Or.inl ⟨by rfl, ?_⟩) (by assumption) ?_
 rotate_left
 ·intro w hSw; (try dsimp only at hSw); go_simp <;> with_reducible rfl
 (try simp only [pE])
 refine wpAnyH_take (i := 9) (v := ?_) rfl (by kernel_rfl) (by kernel_rfl) (by kernel_rfl) (fun _ _ _ h => h) (Or.inl ⟨by rfl, ?_⟩) (by assumption) ?_
 rotate_left
 ·intro w hSw; (try dsimp only at hSw); go_simp <;> with_reducible rfl
 (try simp only [pE])
 refine wpAnyH_take (i := 10) (v := ?_) rfl (by kernel_rfl) (by kernel_rfl) (by kernel_rfl) (fun _ _ _ h => h) (Or.inl ⟨by rfl, ?_⟩) (by assumption) ?_
 rotate_left
 ·intro w hSw; (try dsimp only at hSw); go_simp <;> with_reducible rfl
 (try simp only [pE])
 refine wpAnyH_take (i := 11) (v := .agg #[.int .u64 0, .int .i64 16, .int .u64 (fnvN tab0 : Nat)]) rfl (by kernel_rfl) (by kernel_rfl) (by kernel_rfl) (fun _ _ _ h => h) (Or.inl ⟨by rfl, fun V _ => exec_build V 191 _ rfl (vs := #[(0, .int .u64 0), (1, .agg #[.int .i64 16, .int .u64 (fnvN tab0 : Nat)])]) (by simp [Act.eval]) (unhide HBLT)⟩) (by assumption) ?_
 (try simp only [pE])
 refine wpAnyH_ready (rs := [12]) (by kernel_rfl) (by simp) ?_
 refine AllReadyH.cons (i := 12) rfl ?_ AllReadyH.nil
 intro K hK
 go_simp
 go_at_call 160
 refine (unhide HC3).mono ?_
 rintro e Y ⟨rfl, hcY, HC4⟩
 go_wp2_with fail
 refine hK.out _ _ hcY (fun hH12 => ?_)
 clear hK K
 (try simp only [pE])
 refine wpAnyH_ready (rs := [13]) (by kernel_rfl) (by simp) ?_
 refine AllReadyH.cons (i := 13) rfl ?_ AllReadyH.nil
 intro K hK
 go_simp
 go_at_call 159
 refine (unhide HC4).mono ?_
 rintro e Z ⟨rfl, hcZ, HC5⟩
 go_wp2_with fail
 refine hK.out _ _ hcZ (fun hH13 => ?_)
 clear hK K
 (try simp only [pE])
 refine wpAnyH_done (by kernel_rfl) ?_ _
 go_wp2_with (go_at_call 161; refine (unhide HC5).mono ?_; rintro e V ⟨rfl, HP⟩)
 go_ret
 exact unhide HP
set_option maxHeartbeats 1000000
def VolW (w : World) (vb tb : Nat) : Prop := ∃ d s : Nat, RowIs w vb 41 [.pointer (some ⟨vb, 0, none⟩), .pointer (some ⟨tb, 0, none⟩), .pointer (some ⟨d, 0, none⟩), .pointer (some ⟨s, 0, none⟩)]
theorem VolW.c0 {w : World} {vb tb : Nat} (h : VolW w vb tb) : w.cell? ⟨vb, 0, none⟩ = some (.pointer (some ⟨vb, 0, none⟩)) := by
 obtain ⟨d, s, h⟩ := h
 exact (RowIs.cell h 0).trans rfl
theorem VolW.c1 {w : World} {vb tb : Nat} (h : VolW w vb tb) : w.cell? ⟨vb, 1, none⟩ = some (.pointer (some ⟨tb, 0, none⟩)) := by
 obtain ⟨d, s, h⟩ := h
 exact (RowIs.cell h 1).trans rfl
theorem VolW.alloc {w : World} {vb tb : Nat} (h : VolW w vb tb) (o : Obj) : VolW (w.alloc o) vb tb := by
 obtain ⟨d, s, h⟩ := h
 exact ⟨d, s, RowIs.alloc h o⟩
theorem VolW.row {w : World} {vb tb : Nat} (h : VolW w vb tb) : ∃ R, RowIs w vb 41 R := by
 obtain ⟨d, s, h⟩ := h
 exact ⟨_, h⟩
theorem VolW.fr {w w' : World} {vb tb : Nat} {X : Nat → Prop} (h : VolW w vb tb) (hf : Fr X w w') (hX : ¬ X vb) : VolW w' vb tb := by
 obtain ⟨d, s, h⟩ := h
 exact ⟨d, s, RowIs.fr h hf hX⟩
theorem eql_same (a : Addr) (w : World) : (binOp .eql 25 (.pointer (some a)) (.pointer (some a))).run Tryz.prog w = .ok (.bool true) w := by
 obtain ⟨j, hj⟩ : ∃ j, Tryz.prog.info? 41 = some j := Option.isSome_iff_exists.1 (by kernel_rfl)
 exact run_eql_ptr_same w a Tryz.underlying25 hj
theorem made_yes (w : World) (vb tb : Nat) (h : VolW w vb tb) : Calls Tryz.prog 53 #[.pointer (some ⟨vb, 0, none⟩)] w fun e w' => e = .returned (.bool true) ∧ w' = w := by
 have h0 : w.cell? ⟨vb, 0, none⟩ = some (.pointer (some ⟨vb, 0, none⟩)) := VolW.c0 h
 have hq := eql_same
 go_enter Tryz.func53, Tryz.ntmps53
 go_wp2
 go_ret
 exact ⟨rfl, rfl⟩
theorem mkdirV (w : World) (vb tb : Nat) (h : VolW w vb tb) (p : ByteArray) (Q : Ending → World → Prop) (hQ : ∀ e w', Q e w' → ∃ n : Int, e = .returned (.int .i64 n))
  (hc : Calls Tryz.prog 122 #[.pointer (some ⟨tb, 0, none⟩), .string p] w Q) : Calls Tryz.prog 58 #[.pointer (some ⟨vb, 0, none⟩), .string p] w Q := by
 have hm := made_yes w vb tb h
 have h1 : w.cell? ⟨vb, 1, none⟩ = some (.pointer (some ⟨tb, 0, none⟩)) := VolW.c1 h
 have HQ := hide hQ
 clear hQ h
 go_enter Tryz.func58, Tryz.ntmps58
 go_wp2_with (go_at_call 53; refine hm.mono ?_; rintro e w' ⟨rfl, rfl⟩)
 refine hc.mono ?_
 intro e w1 hq
 obtain ⟨n, rfl⟩ := unhide HQ e w1 hq
 go_wp2
 exact hq
theorem writeV (w : World) (vb tb : Nat) (h : VolW w vb tb) (p : ByteArray) (i : Int) (x : Value) (Q : Ending → World → Prop) (hQ : ∀ e w', Q e w' → ∃ n : Int, e = .returned (.int .i64 n))
  (hc : Calls Tryz.prog 123 #[.pointer (some ⟨tb, 0, none⟩), .string p, .int .i64 i, x] w Q) : Calls Tryz.prog 59 #[.pointer (some ⟨vb, 0, none⟩), .string p, .int .i64 i, x] w Q := by
 have hm := made_yes w vb tb h
 have h1 : w.cell? ⟨vb, 1, none⟩ = some (.pointer (some ⟨tb, 0, none⟩)) := VolW.c1 h
 have HQ := hide hQ
 clear hQ h
 go_enter Tryz.func59, Tryz.ntmps59
 go_wp2_with (go_at_call 53; refine hm.mono ?_; rintro e w' ⟨rfl, rfl⟩)
 refine hc.mono ?_
 intro e w1 hq
 obtain ⟨n, rfl⟩ := unhide HQ e w1 hq
 go_wp2
 exact hq
theorem cutV (w : World) (vb tb : Nat) (h : VolW w vb tb) (p : ByteArray) (i : Int) (Q : Ending → World → Prop) (hQ : ∀ e w', Q e w' → ∃ n : Int, e = .returned (.int .i64 n))
  (hc : Calls Tryz.prog 124 #[.pointer (some ⟨tb, 0, none⟩), .string p, .int .i64 i] w Q) : Calls Tryz.prog 60 #[.pointer (some ⟨vb, 0, none⟩), .string p, .int .i64 i] w Q := by
 have hm := made_yes w vb tb h
 have h1 : w.cell? ⟨vb, 1, none⟩ = some (.pointer (some ⟨tb, 0, none⟩)) := VolW.c1 h
 have HQ := hide hQ
 clear hQ h
 go_enter Tryz.func60, Tryz.ntmps60
 go_wp2_with (go_at_call 53; refine hm.mono ?_; rintro e w' ⟨rfl, rfl⟩)
 refine hc.mono ?_
 intro e w1 hq
 obtain ⟨n, rfl⟩ := unhide HQ e w1 hq
 go_wp2
 exact hq
theorem linkV (w : World) (vb tb : Nat) (h : VolW w vb tb) (p q : ByteArray) (Q : Ending → World → Prop) (hQ : ∀ e w', Q e w' → ∃ n : Int, e = .returned (.int .i64 n))
  (hc : Calls Tryz.prog 125 #[.pointer (some ⟨tb, 0, none⟩), .string p, .string q] w Q) : Calls Tryz.prog 61 #[.pointer (some ⟨vb, 0, none⟩), .string p, .string q] w Q := by
 have hm := made_yes w vb tb h
 have h1 : w.cell? ⟨vb, 1, none⟩ = some (.pointer (some ⟨tb, 0, none⟩)) := VolW.c1 h
 have HQ := hide hQ
 clear hQ h
 go_enter Tryz.func61, Tryz.ntmps61
 go_wp2_with (go_at_call 53; refine hm.mono ?_; rintro e w' ⟨rfl, rfl⟩)
 refine hc.mono ?_
 intro e w1 hq
 obtain ⟨n, rfl⟩ := unhide HQ e w1 hq
 go_wp2
 exact hq
theorem moveV (w : World) (vb tb : Nat) (h : VolW w vb tb) (p q : ByteArray) (Q : Ending → World → Prop) (hQ : ∀ e w', Q e w' → ∃ n : Int, e = .returned (.int .i64 n))
  (hc : Calls Tryz.prog 126 #[.pointer (some ⟨tb, 0, none⟩), .string p, .string q] w Q) : Calls Tryz.prog 62 #[.pointer (some ⟨vb, 0, none⟩), .string p, .string q] w Q := by
 have hm := made_yes w vb tb h
 have h1 : w.cell? ⟨vb, 1, none⟩ = some (.pointer (some ⟨tb, 0, none⟩)) := VolW.c1 h
 have HQ := hide hQ
 clear hQ h
 go_enter Tryz.func62, Tryz.ntmps62
 go_wp2_with (go_at_call 53; refine hm.mono ?_; rintro e w' ⟨rfl, rfl⟩)
 refine hc.mono ?_
 intro e w1 hq
 obtain ⟨n, rfl⟩ := unhide HQ e w1 hq
 go_wp2
 exact hq
theorem removeV (w : World) (vb tb : Nat) (h : VolW w vb tb) (p : ByteArray) (Q : Ending → World → Prop) (hQ : ∀ e w', Q e w' → ∃ n : Int, e = .returned (.int .i64 n))
  (hc : Calls Tryz.prog 127 #[.pointer (some ⟨tb, 0, none⟩), .string p] w Q) : Calls Tryz.prog 63 #[.pointer (some ⟨vb, 0, none⟩), .string p] w Q := by
 have hm := made_yes w vb tb h
 have h1 : w.cell? ⟨vb, 1, none⟩ = some (.pointer (some ⟨tb, 0, none⟩)) := VolW.c1 h
 have HQ := hide hQ
 clear hQ h
 go_enter Tryz.func63, Tryz.ntmps63
 go_wp2_with (go_at_call 53; refine hm.mono ?_; rintro e w' ⟨rfl, rfl⟩)
 refine hc.mono ?_
 intro e w1 hq
 obtain ⟨n, rfl⟩ := unhide HQ e w1 hq
 go_wp2
 exact hq
theorem usageV (w : World) (vb tb : Nat) (h : VolW w vb tb)  (Q : Ending → World → Prop) (hQ : ∀ e w', Q e w' → ∃ n : Int, e = .returned (.int .i64 n))
  (hc : Calls Tryz.prog 82 #[.pointer (some ⟨tb, 0, none⟩)] w Q) : Calls Tryz.prog 34 #[.pointer (some ⟨vb, 0, none⟩)] w Q := by
 have hm := made_yes w vb tb h
 have h1 : w.cell? ⟨vb, 1, none⟩ = some (.pointer (some ⟨tb, 0, none⟩)) := VolW.c1 h
 have HQ := hide hQ
 clear hQ h
 go_enter Tryz.func34, Tryz.ntmps34
 go_wp2_with (go_at_call 53; refine hm.mono ?_; rintro e w' ⟨rfl, rfl⟩)
 refine hc.mono ?_
 intro e w1 hq
 obtain ⟨n, rfl⟩ := unhide HQ e w1 hq
 go_wp2
 exact hq
theorem readV (w : World) (vb tb : Nat) (h : VolW w vb tb) (p : ByteArray) (i n : Int) (Q : Ending → World → Prop) (hQ : ∀ e w', Q e w' → ∃ a n c k, e = .returned (.tuple #[.slice a n c, .int .i64 k]))
  (hc : Calls Tryz.prog 119 #[.pointer (some ⟨tb, 0, none⟩), .string p, .int .i64 i, .int .i64 n] w Q) : Calls Tryz.prog 55 #[.pointer (some ⟨vb, 0, none⟩), .string p, .int .i64 i, .int .i64 n] w Q := by
 have hm := made_yes w vb tb h
 have h1 : w.cell? ⟨vb, 1, none⟩ = some (.pointer (some ⟨tb, 0, none⟩)) := VolW.c1 h
 have HQ := hide hQ
 clear hQ h
 go_enter Tryz.func55, Tryz.ntmps55
 go_wp2_with (go_at_call 53; refine hm.mono ?_; rintro e w' ⟨rfl, rfl⟩)
 refine hc.mono ?_
 intro e w1 hq
 obtain ⟨a, n, c, k, rfl⟩ := unhide HQ e w1 hq
 go_wp2
 exact hq
theorem listV (w : World) (vb tb : Nat) (h : VolW w vb tb) (p : ByteArray) (Q : Ending → World → Prop) (hQ : ∀ e w', Q e w' → ∃ a n c k, e = .returned (.tuple #[.slice a n c, .int .i64 k]))
  (hc : Calls Tryz.prog 120 #[.pointer (some ⟨tb, 0, none⟩), .string p] w Q) : Calls Tryz.prog 56 #[.pointer (some ⟨vb, 0, none⟩), .string p] w Q := by
 have hm := made_yes w vb tb h
 have h1 : w.cell? ⟨vb, 1, none⟩ = some (.pointer (some ⟨tb, 0, none⟩)) := VolW.c1 h
 have HQ := hide hQ
 clear hQ h
 go_enter Tryz.func56, Tryz.ntmps56
 go_wp2_with (go_at_call 53; refine hm.mono ?_; rintro e w' ⟨rfl, rfl⟩)
 refine hc.mono ?_
 intro e w1 hq
 obtain ⟨a, n, c, k, rfl⟩ := unhide HQ e w1 hq
 go_wp2
 exact hq
theorem statV (w : World) (vb tb : Nat) (h : VolW w vb tb) (p : ByteArray) (Q : Ending → Prop) (hQ : ∀ e, Q e → ∃ a b c d k, e = .returned (.tuple #[.agg #[.string a, .bool b, .int .i64 c, .int .i64 d], .int .i64 k]))
  (hc : ∀ W, Below w.heap.size w W → Calls Tryz.prog 121 #[.pointer (some ⟨tb, 0, none⟩), .string p] W fun e w' => Q e ∧ Below W.heap.size W w') :
  Calls Tryz.prog 57 #[.pointer (some ⟨vb, 0, none⟩), .string p] w fun e w' => Q e ∧ Below w.heap.size w w' := by
 have hal : ∀ o, Below w.heap.size w (w.alloc o) := fun o => (Below.refl _ _).alloc (Nat.le_refl _) o
 have hm := fun o => made_yes (w.alloc o) vb tb (VolW.alloc h o)
 have h1 := fun o => (VolW.c1 (VolW.alloc h o) : (w.alloc o).cell? ⟨vb, 1, none⟩ = some (.pointer (some ⟨tb, 0, none⟩)))
 have HR0 := hide (row_new w [.string ⟨#[]⟩, .bool false, .int .i64 0, .int .i64 0] 112)
 have hcc := fun o => hc _ (hal o)
 have HQ := hide hQ
 clear hQ h hc
 go_enter Tryz.func57, Tryz.ntmps57
 go_wp2_with (go_at_call 53; refine (hm _).mono ?_; rintro e w' ⟨rfl, rfl⟩)
 refine (hcc _).mono ?_
 rintro e w1 ⟨hq, hb1⟩
 obtain ⟨a, b, c, d, k, rfl⟩ := unhide HQ e hq
 have hb : Below w.heap.size w w1 := (hal _).trans (hb1.mono (by simp))
 have hy : RowIs w1 w.heap.size 112 _ := (hb1.block _ (by simp)).trans (unhide HR0)
 clear hcc hal hb1 HR0 hm h1
 have b0 := hy.cell 0; have b1 := hy.cell 1; have b2 := hy.cell 2; have b3 := hy.cell 3
 have g0 := hy.frozen 0; have g1 := hy.frozen 1; have g2 := hy.frozen 2; have g3 := hy.frozen 3
 go_wp2
 have hR := set4' hy (.string a) (.bool b) (.int .i64 c) (.int .i64 d)
 have r0 := hR.cell 0; have r1 := hR.cell 1; have r2 := hR.cell 2; have r3 := hR.cell 3
 exact bodyPost_ret (v := .tuple #[.agg #[.string a, .bool b, .int .i64 c, .int .i64 d], .int .i64 k]) (by simp [results, Tryz.results57, go_sem, r0, r1, r2, r3]) rfl
   ⟨hq, below_set4' hb (Nat.le_refl _) _ _ _ _⟩
def NewPost (w : World) (e : Ending) (w' : World) : Prop :=
 ∃ tb, e = .returned (.pointer (some ⟨tb, 0, none⟩)) ∧ w.heap.size < tb ∧ PS w' tb [] [] (fun _ => ⟨#[]⟩) ∧ Below w.heap.size w w' ∧ ∃ rb vi, RowIs w' tb 214 [.pointer (some ⟨rb, 0, none⟩), vi] ∧ RowIs w' rb 229 [.slice none 0 0]
theorem new_code (w : World) (hp : PkgOk w) : Calls Tryz.prog 95 #[] w (NewPost w) := by
 go_enter Tryz.func95, Tryz.ntmps95
 go_wp2
 go_ret
 have hb : Below w.heap.size w ((w.alloc (.cells #[.slice none 0 0] 229)).alloc (.cells #[.pointer (some ⟨w.heap.size, 0, none⟩), .slice none 0 0] 214)) := ((Below.refl _ w).alloc (Nat.le_refl _) _).alloc (by simp) _
 refine ⟨_, rfl, by simp, ⟨w.heap.size, fun _ => .slice none 0 0, fun _ => [], .slice none 0 0, ?_, ?_, ?_, ?_, ?_, ?_, by simp, fun g hg => by simp [Value.ownBlock] at hg⟩, hb, w.heap.size, .slice none 0 0, ?_, (row_new w [.slice none 0 0] 229).alloc _⟩
 ·exact hp.fr (X := fun _ => False) (Fr.of_below hb) id
 ·have := row_new (w.alloc (.cells #[.slice none 0 0] 229)) [.pointer (some ⟨w.heap.size, 0, none⟩), .slice none 0 0] 214
  rw [show (w.alloc (.cells #[.slice none 0 0] 229)).heap.size = w.heap.size + 1 by simp] at this
  exact this
 ·have hr : RowIs ((w.alloc (.cells #[.slice none 0 0] 229)).alloc (.cells #[.pointer (some ⟨w.heap.size, 0, none⟩), .slice none 0 0] 214)) w.heap.size 229 [.slice none 0 0] := (row_new w [.slice none 0 0] 229).alloc _
  have hd : ∀ ns b, IsDir [] w.heap.size ns b → ns = [] ∧ b = w.heap.size := fun ns b h => h.elim id (fun h => by cases h)
  refine ⟨fun x hx => (by cases hx), fun ns b h => ?_, fun ns b h => ⟨rfl, .inl ⟨rfl, rfl⟩⟩, fun ns b h => ?_, fun ns b h => ?_, fun ns ns' b h h' => (hd _ _ h).1.trans (hd _ _ h').1.symm, fun ns ns' b b' g h h' _ _ => (hd _ _ h).2.trans (hd _ _ h').2.symm, fun ns b h => ⟨Nat.le_of_eq (hd _ _ h).2.symm, fun g hg => by simp [Value.ownBlock] at hg⟩⟩
  ·obtain ⟨-, rfl⟩ := hd _ _ h
   exact hr
  ·exact fun j k x y _ h => by simp at h
  ·intro a s
   simp
 ·exact ⟨rfl, .inl ⟨rfl, rfl⟩⟩
 ·exact fun j k x y _ h => by simp at h
 ·intro x hx
  cases hx
 ·have := row_new (w.alloc (.cells #[.slice none 0 0] 229)) [.pointer (some ⟨w.heap.size, 0, none⟩), .slice none 0 0] 214
  rw [show (w.alloc (.cells #[.slice none 0 0] 229)).heap.size = w.heap.size + 1 by simp] at this
  exact this
set_option maxHeartbeats 2000000
def VolR (w : World) (vb tb db stb : Nat) : Prop := RowIs w vb 41 [.pointer (some ⟨vb, 0, none⟩), .pointer (some ⟨tb, 0, none⟩), .pointer (some ⟨db, 0, none⟩), .pointer (some ⟨stb, 0, none⟩)]
theorem VolR.vol {w : World} {vb tb db stb : Nat} (h : VolR w vb tb db stb) : VolW w vb tb := ⟨db, stb, h⟩
theorem newVolume_code (w : World) (tb db stb : Nat) : Calls Tryz.prog 77 #[.pointer (some ⟨tb, 0, none⟩), .pointer (some ⟨db, 0, none⟩), .pointer (some ⟨stb, 0, none⟩)] w fun e w' => e = .returned (.pointer (some ⟨w.heap.size, 0, none⟩)) ∧ VolR w' w.heap.size tb db stb ∧ Below w.heap.size w w' ∧ w.heap.size < w'.heap.size := by
 obtain ⟨W, hW, hx, hk, hsz, hbW⟩ := alloc_name w [.pointer none, .pointer (some ⟨tb, 0, none⟩), .pointer (some ⟨db, 0, none⟩), .pointer (some ⟨stb, 0, none⟩)] 41
 go_enter Tryz.func77, Tryz.ntmps77
 go_upto_region 2 with fail
 have b0 := hx.cell 0
 have g0 := hx.frozen 0
 have HX := hide hx
 have HBW := hide hbW
 have HS := hide hsz
 clear hW hk hbW hx hsz
 go_wp2
 go_ret
 exact ⟨rfl, (unhide HX).set 0 _, (unhide HBW).setCell (p := ⟨w.heap.size, 0, none⟩) (Nat.le_refl _) _, by have := unhide HS; simp [World.setCell]; omega⟩
def FmPost (w : World) (tb : Nat) (e : Ending) (w' : World) : Prop :=
 ∃ vb db stb vf vn va, e = .returned (.pointer (some ⟨vb, 0, none⟩)) ∧ VolR w' vb tb db stb ∧ StW w' stb db va ((16 : Nat) : Int) (fnvN tab0 : Nat) ((1 : Nat) : Int) vf vn (.slice none 0 0) (.slice none 0 0) fmtD [] [] ∧ SlD w' vf fmtD ∧ Sl w' 350 2 va 1 (cellsR rol0) ∧ Below w.heap.size w w' ∧ w.heap.size ≤ vb ∧ w.heap.size ≤ db ∧ w.heap.size ≤ stb ∧ vb ≠ db ∧ vb ≠ stb ∧ (∀ k, Own vf k → w.heap.size ≤ k ∧ k ≠ stb ∧ k ≠ db ∧ ¬ Own va k ∧ ¬ Own vn k ∧ k ≠ vb) ∧ (∀ k, Own va k → w.heap.size ≤ k ∧ k ≠ stb ∧ k ≠ db ∧ ¬ Own vn k ∧ k ≠ vb) ∧ (∀ k, Own vn k → w.heap.size ≤ k ∧ k ≠ vb)
theorem formatted_code (w : World) (tb rb : Nat) (vi : Value) (ht : RowIs w tb 214 [.pointer (some ⟨rb, 0, none⟩), vi]) (hr : RowIs w rb 229 [.slice none 0 0]) :
  Calls Tryz.prog 40 #[.pointer (some ⟨tb, 0, none⟩)] w (FmPost w tb) := by
 have HD : Hid (Calls Tryz.prog 98 #[] w fun e X => ∃ db, e = .returned (.pointer (some ⟨db, 0, none⟩)) ∧ Hid (Calls Tryz.prog 99 #[.pointer (some ⟨db, 0, none⟩), .pointer (some ⟨tb, 0, none⟩)] X fun e Y => ∃ stb, e = .returned (.pointer (some ⟨stb, 0, none⟩)) ∧ Hid (Calls Tryz.prog 77 #[.pointer (some ⟨tb, 0, none⟩), .pointer (some ⟨db, 0, none⟩), .pointer (some ⟨stb, 0, none⟩)] Y fun e Z => ∃ vb, e = .returned (.pointer (some ⟨vb, 0, none⟩)) ∧ Hid (FmPost w tb (.returned (.pointer (some ⟨vb, 0, none⟩))) Z)))) := by
  refine (newD_code w).mono ?_
  rintro e X ⟨db, vf0, vn, rfl, hdb, hD, -, hbX, -, hn1, -⟩
  refine ⟨db, rfl, ?_⟩
  have hXs := hbX.size
  refine (formatS_code X db tb rb vi vf0 vn hD (fun e => (hn1 _ e).2 rfl) ((hbX.block _ ht.lt).trans ht) ((hbX.block _ hr.lt).trans hr)).mono ?_
  rintro e Y ⟨stb, vf, va, rfl, hstb, hSt, hVf, hVa, hof, hoa, hfY⟩
  refine ⟨stb, rfl, ?_⟩
  have hYs := hfY.size
  refine (newVolume_code Y tb db stb).mono ?_
  rintro e Z ⟨rfl, hV, hbZ, hlt⟩
  have hbY : Below w.heap.size w Y := ⟨hfY.os.trans hbX.os, hfY.tape.trans hbX.tape, hfY.output.trans hbX.output, Nat.le_trans hXs hYs, fun k hk => (hfY.block k (by omega) (fun e => by
   rcases e with e | e
   ·omega
   ·have := (hn1 _ e).1; omega)).trans (hbX.block k hk)⟩
  have l1 := hSt.disk.1.lt
  have l2 := hSt.row.lt
  have hval : ∀ k, Own va k → w.heap.size ≤ k ∨ k < w.heap.size := fun k _ => by omega
  refine ⟨Y.heap.size, rfl, Y.heap.size, db, stb, vf, vn, va, rfl, hV, hSt.below hbZ, ⟨hVf.1.kept (fun k hk _ => hbZ.block k hk), hVf.2⟩, hVa.kept (fun k hk _ => hbZ.block k hk), hbY.trans (hbZ.mono (by omega)), by omega, hdb, by omega, by omega, by omega, fun k hk => ?_, fun k hk => ?_, fun k hk => ?_⟩
  ·have h1 := hof k hk
   have h2 := hVf.1.lt hk
   exact ⟨by omega, h1.2.1, h1.2.2.2.1, h1.2.2.1, h1.2.2.2.2, by omega⟩
  ·have h1 := hoa k hk
   have h2 := hVa.lt hk
   exact ⟨Nat.le_trans hXs h1.1, h1.2.1, h1.2.2.1, h1.2.2.2, by omega⟩
  ·have h1 := hn1 k hk
   have h2 := hSt.disk.2.1.1.lt hk
   exact ⟨h1.1, by omega⟩
 clear ht hr
 go_enter Tryz.func40, Tryz.ntmps40
 go_wp2_with (first | (go_at_call 98; refine (unhide HD).mono ?_; rintro e X ⟨db, rfl, H2⟩) | (go_at_call 99; refine (unhide H2).mono ?_; rintro e Y ⟨stb, rfl, H3⟩) | (go_at_call 77; refine (unhide H3).mono ?_; rintro e Z ⟨vb, rfl, HP⟩))
 go_ret
 exact unhide HP
def FormatPost (w : World) (e : Ending) (w' : World) : Prop :=
 ∃ tb w1, w.heap.size < tb ∧ Below w.heap.size w w1 ∧ tb < w1.heap.size ∧ PS w' tb [] [] (fun _ => ⟨#[]⟩) ∧ FmPost w1 tb e w'
theorem format_code (w : World) (hp : PkgOk w) : Calls Tryz.prog 71 #[] w (FormatPost w) := by
 have HN : Hid (Calls Tryz.prog 95 #[] w fun e X => ∃ tb, e = .returned (.pointer (some ⟨tb, 0, none⟩)) ∧ Hid (Calls Tryz.prog 40 #[.pointer (some ⟨tb, 0, none⟩)] X fun e Y => ∃ vb, e = .returned (.pointer (some ⟨vb, 0, none⟩)) ∧ Hid (FormatPost w (.returned (.pointer (some ⟨vb, 0, none⟩))) Y))) := by
  refine (new_code w hp).mono ?_
  rintro e X ⟨tb, rfl, hlt, hps, hb, rb, vi, ht, hr⟩
  refine ⟨tb, rfl, ?_⟩
  refine (formatted_code X tb rb vi ht hr).mono ?_
  intro e Y hq
  have hq0 := hq
  obtain ⟨vb, db, stb, vf, vn, va, rfl, h1, h2, h3, h4, h5, h6⟩ := hq
  refine ⟨vb, rfl, tb, X, hlt, hb, ht.lt, ?_, hq0⟩
  obtain ⟨rd, V, E, vi', h⟩ := hps
  exact ⟨rd, V, E, vi', h.below h5 (Nat.le_refl _)⟩
 clear hp
 go_enter Tryz.func71, Tryz.ntmps71
 go_wp2_with (first | (go_at_call 95; refine (unhide HN).mono ?_; rintro e X ⟨tb, rfl, H2⟩) | (go_at_call 40; refine (unhide H2).mono ?_; rintro e Y ⟨vb, rfl, HP⟩))
 go_ret
 exact unhide HP
theorem imageV (w : World) (vb tb db stb : Nat) (h : VolR w vb tb db stb) (vf vn vw ve : Value) (D : List ByteArray) (hd : DiskW w db vf vn vw ve D) : Calls Tryz.prog 28 #[.pointer (some ⟨vb, 0, none⟩)] w (JoinPost w D) := by
 have hm := made_yes w vb tb h.vol
 have HJ := hide (image_code w db vf vn vw ve D hd)
 have c2 : w.cell? ⟨vb, 2, none⟩ = some (.pointer (some ⟨db, 0, none⟩)) := (RowIs.cell h 2).trans rfl
 clear h hd
 go_enter Tryz.func28, Tryz.ntmps28
 go_wp2_with (first | (go_at_call 53; refine hm.mono ?_; rintro e w' ⟨rfl, rfl⟩) | (go_at_call 78; refine (unhide HJ).mono ?_; rintro e w' ⟨a', l', c', rfl, HP⟩; have HPP := hide HP; clear HP))
 go_ret
 exact ⟨a', l', c', rfl, unhide HPP⟩
theorem epochsV (w : World) (vb tb db stb : Nat) (h : VolR w vb tb db stb) (a : Option Addr) (l c : Nat) (hd : w.cell? ⟨db, 3, none⟩ = some (.slice a l c)) : Calls Tryz.prog 30 #[.pointer (some ⟨vb, 0, none⟩)] w fun e w' => e = .returned (.int .i64 l) ∧ w' = w := by
 have hm := made_yes w vb tb h.vol
 have he := epochs_code w db a l c hd
 have c2 : w.cell? ⟨vb, 2, none⟩ = some (.pointer (some ⟨db, 0, none⟩)) := (RowIs.cell h 2).trans rfl
 clear h hd
 go_enter Tryz.func30, Tryz.ntmps30
 go_wp2_with (first | (go_at_call 53; refine hm.mono ?_; rintro e w' ⟨rfl, rfl⟩) | (go_at_call 79; refine he.mono ?_; rintro e w' ⟨rfl, rfl⟩))
 go_ret
 exact ⟨rfl, rfl⟩
set_option maxHeartbeats 1000000
def JT (tb : Nat) (w : World) (k : Nat) : Prop := (∃ t R, RowIs w k t R ∧ (t = 214 ∨ t = 229 ∨ t = 310 ∨ t = 293 ∨ t = 89 ∨ t = 103 ∨ t = 9)) ∧ tb ≤ k + 1
theorem Fr.jTrans {tb : Nat} {w w1 w2 : World} (h1 : Fr (JT tb w) w w1) (h2 : Fr (JT tb w1) w1 w2) : Fr (JT tb w) w w2 :=
 ⟨h2.os.trans h1.os, h2.tape.trans h1.tape, h2.output.trans h1.output, Nat.le_trans h1.size h2.size, fun k hk hX => by
  have e1 := h1.block k hk hX
  refine (h2.block k (Nat.lt_of_lt_of_le hk h1.size) (fun ⟨⟨t, R, hR, ht⟩, hl⟩ => hX ⟨⟨t, R, e1.symm.trans hR, ht⟩, hl⟩)).trans e1⟩
theorem Fr.jBelow {tb : Nat} {w w1 w2 : World} (h1 : Fr (JT tb w) w w1) (h2 : Below w1.heap.size w1 w2) : Fr (JT tb w) w w2 := h1.jTrans (Fr.of_below h2)
structure RefL (w : World) (tb rb : Nat) (vl vf : Value) (L : List (ByteArray × Int)) (F : List ByteArray) : Prop extends RefW w rb vl vf L F where
 lo : ∀ k, RefOwn rb vl vf k → tb ≤ k + 1
def Md (w : World) (vb tb rb : Nat) (L : List (ByteArray × Int)) (F : List ByteArray) (L' : List (ByteArray × Int)) (F' : List ByteArray) : Prop :=
 ∃ G I C ρ vl vf, VolW w vb tb ∧ PS w tb G I C ∧ RefL w tb rb vl vf L F ∧ Rl G I C ρ L' F' ∧ cD G [] + I.length ≤ 60
section
variable {w w' : World} {vb tb rb : Nat} {L L' L1 : List (ByteArray × Int)} {F F' F1 : List ByteArray} {G G' : Gh} {I I' : List (Int × VF)} {C C' : Int → ByteArray} {ρ ρ' : Int → Nat} {vl vf : Value}
theorem refOwn_type (h : RefW w rb vl vf L F) {k : Nat} (hk : RefOwn rb vl vf k) : ∃ t R, RowIs w k t R ∧ (t = 89 ∨ t = 103 ∨ t = 9) := by
 rcases hk with rfl | hk | hk
 ·exact ⟨_, _, h.hd, .inl rfl⟩
 ·obtain ⟨R, hR⟩ := h.sl.type hk
  exact ⟨_, _, hR, .inr (.inl rfl)⟩
 ·obtain ⟨R, hR⟩ := h.sf.type hk
  exact ⟨_, _, hR, .inr (.inr rfl)⟩
theorem Md.prog (hv : VolW w vb tb) (hrf : RefL w tb rb vl vf L F) (hf : Fr (ProgT tb w) w w') (hps : PS w' tb G' I' C') (hrl : Rl G' I' C' ρ' L' F') (hn : cD G' [] + I'.length ≤ 60) : Fr (JT tb w) w w' ∧ Md w' vb tb rb L F L' F' := by
 refine ⟨⟨hf.os, hf.tape, hf.output, hf.size, fun k hk hX => hf.block k hk (fun ⟨⟨t, R, hR, ht⟩, hl⟩ => hX ⟨⟨t, R, hR, by rcases ht with h | h | h | h <;> simp [h]⟩, hl⟩)⟩, G', I', C', ρ', vl, vf, ?_, hps, ?_, hrl, hn⟩
 ·refine VolW.fr hv hf (fun ⟨⟨t, R, hR, ht⟩, _⟩ => ?_)
  obtain ⟨R', hv'⟩ := hv.row
  have := hR.type hv'
  subst this
  revert ht; decide
 ·refine ⟨hrf.fr hf (fun k hk ⟨⟨t, R, hR, ht⟩, _⟩ => ?_), hrf.lo⟩
  obtain ⟨t', R', hR', ht'⟩ := refOwn_type hrf.toRefW hk
  have := hR.type hR'
  subst this
  rcases ht' with rfl | rfl | rfl <;> revert ht <;> decide
theorem PS.fr {X : Nat → Prop} (h : PS w tb G I C) (hf : Fr X w w') (h0 : ¬ X 0) (hX : ∀ k t R, X k → RowIs w k t R → t ≠ 214 ∧ t ≠ 229 ∧ t ≠ 310 ∧ t ≠ 293 ∧ t ≠ 5) : PS w' tb G I C := by
 obtain ⟨rd, V, E, vi, h⟩ := h
 exact ⟨rd, V, E, vi, h.fr hf h0 hX⟩
theorem PS.ndI (h : PS w tb G I C) : (I.map (·.1)).Nodup := by
 obtain ⟨rd, V, E, vi, h⟩ := h
 exact h.si.nd
theorem Md.ref (hv : VolW w vb tb) (hps : PS w tb G I C) (hrf : RefL w tb rb vl vf L F) (hrl : Rl G I C ρ L' F') (hn : cD G [] + I.length ≤ 60) (hp : RefPost w rb vl vf w' L1 F1) : Fr (JT tb w) w w' ∧ Md w' vb tb rb L1 F1 L' F' := by
 obtain ⟨vl', vf', h1, hf, h3⟩ := hp
 have hty : ∀ k t R, RefOwn rb vl vf k → RowIs w k t R → t = 89 ∨ t = 103 ∨ t = 9 := fun k t R hk hR => by
  obtain ⟨t', R', hR', ht'⟩ := refOwn_type hrf.toRefW hk
  have := hR.type hR'
  subst this
  exact ht'
 refine ⟨⟨hf.os, hf.tape, hf.output, hf.size, fun k hk hX => hf.block k hk (fun hk' => ?_)⟩, G, I, C, ρ, vl', vf', ?_, ?_, ⟨h1, fun k hk => (h3 k hk).elim (hrf.lo k) (fun h => by have := hrf.hd.lt; have := hrf.lo rb (.inl rfl); omega)⟩, hrl, hn⟩
 ·obtain ⟨t, R, hR, ht⟩ := refOwn_type hrf.toRefW hk'
  exact hX ⟨⟨t, R, hR, by rcases ht with h | h | h <;> simp [h]⟩, hrf.lo k hk'⟩
 ·refine VolW.fr hv hf (fun hk => ?_)
  obtain ⟨R', hv'⟩ := hv.row
  have := hty _ _ _ hk hv'
  revert this; decide
 ·refine hps.fr hf (fun hk => ?_) (fun k t R hk hR => ?_)
  ·obtain ⟨t, R, hR, ht⟩ := refOwn_type hrf.toRefW hk
   obtain ⟨rd, V, E, vi, h⟩ := hps
   have := h.pk.2 t R hR
   subst this
   revert ht; decide
  ·rcases hty k t R hk hR with rfl | rfl | rfl <;> decide
theorem Md.below (h : Md w vb tb rb L F L' F') (hb : Below w.heap.size w w') : Md w' vb tb rb L F L' F' := by
 obtain ⟨G, I, C, ρ, vl, vf, hv, hps, hrf, hrl, hn⟩ := h
 exact (Md.ref hv hps hrf hrl hn (RefPost.same hrf.toRefW hb)).2
theorem Md.refCall (h : Md w vb tb rb L F L' F') {f : FuncId} {args : Array Value} {v : Value} (hc : ∀ vl vf, RefW w rb vl vf L F → Calls Tryz.prog f args w fun e w' => e = .returned v ∧ RefPost w rb vl vf w' L1 F1) :
  Calls Tryz.prog f args w fun e w' => e = .returned v ∧ Fr (JT tb w) w w' ∧ Md w' vb tb rb L1 F1 L' F' := by
 obtain ⟨G, I, C, ρ, vl, vf, hv, hps, hrf, hrl, hn⟩ := h
 exact (hc vl vf hrf.toRefW).mono (fun e w' hq => ⟨hq.1, Md.ref hv hps hrf hrl hn hq.2⟩)
end
section
variable {w : World} {vb tb rb : Nat} {L : List (ByteArray × Int)} {F : List ByteArray}
theorem mkdirJ (h : Md w vb tb rb L F L F) (p : ByteArray) (hp : p.size ≤ 2000000) :
  Calls Tryz.prog 58 #[.pointer (some ⟨vb, 0, none⟩), .string p] w fun e w' => e = .returned (.int .i64 (mkdirR L F p).1) ∧ Fr (JT tb w) w w' ∧ Md w' vb tb rb L F (mkdirR L F p).2 F := by
 obtain ⟨G, I, C, ρ, vl, vf, hv, hps, hrf, hrl, hn⟩ := h
 have hlG := hrl.lG
 have hlI := hrl.lI
 refine (mkdirV w vb tb hv p (MkPost w tb G I C p) (fun e w' hq => ⟨_, hq.1⟩) (mkdir_code w tb G I C hps hrl.ok (by omega) (by omega) p hp)).mono ?_
 rintro e w' ⟨rfl, hf, hc⟩
 obtain ⟨e1, e2, e3⟩ := hrl.mkdirE p
 refine ⟨by rw [e1], ?_⟩
 rcases hc with ⟨hne, hps'⟩ | ⟨hz, nb, hps'⟩
 ·rw [e2 hne]; exact Md.prog hv hrf hf hps' hrl hn
 ·obtain ⟨e4, -, -, -, -, hm⟩ := e3 hz
  rw [e4]
  refine Md.prog hv hrf hf hps' (hrl.addDir hz nb) ?_
  unfold mayB at hm
  have hm' := of_decide_eq_true hm
  rw [cD_root (hrl.addDir hz nb).ok, List.countP_append]
  rw [cD_root hrl.ok] at hm'
  simp
  omega
theorem linkJ (h : Md w vb tb rb L F L F) (p q : ByteArray) (hp : p.size ≤ 2000000) (hq : q.size ≤ 2000000) :
  Calls Tryz.prog 61 #[.pointer (some ⟨vb, 0, none⟩), .string p, .string q] w fun e w' => e = .returned (.int .i64 (linkR L F p q).1) ∧ Fr (JT tb w) w w' ∧ Md w' vb tb rb L F (linkR L F p q).2 F := by
 obtain ⟨G, I, C, ρ, vl, vf, hv, hps, hrf, hrl, hn⟩ := h
 have hlG := hrl.lG
 have hlI := hrl.lI
 refine (linkV w vb tb hv p q (LnPost w tb G I C p q) (fun e w' hq => ⟨_, hq.1⟩) (linkT_code w tb G I C hps hrl.ok (by omega) (by omega) hrl.flOk p q hp hq)).mono ?_
 rintro e w' ⟨rfl, hf, hc⟩
 obtain ⟨e1, e2, e3⟩ := hrl.linkE hn p q
 refine ⟨by rw [e1], ?_⟩
 rcases hc with ⟨hne, hps'⟩ | ⟨hz, u, r, I', hat, hu, hin, hio, hps'⟩
 ·rw [e2 hne]; exact Md.prog hv hrf hf hps' hrl hn
 ·obtain ⟨e4, a1, a2, a3, a4, a5⟩ := e3 hz u hat hu
  rw [e4]
  have hr2 := hrl.addLink a1 a2 a3 a4 a5 hin hio (hio.nd hrl.num.nd hin)
  refine Md.prog hv hrf hf hps' hr2 ?_
  rw [cD_root hr2.ok, List.countP_append, hio.1]
  rw [cD_root hrl.ok] at hn
  simp
  omega
theorem removeJ (h : Md w vb tb rb L F L F) (p : ByteArray) (hp : p.size ≤ 2000000) :
  Calls Tryz.prog 63 #[.pointer (some ⟨vb, 0, none⟩), .string p] w fun e w' => e = .returned (.int .i64 (removeR L p).1) ∧ Fr (JT tb w) w w' ∧ Md w' vb tb rb L F (removeR L p).2 F := by
 obtain ⟨G, I, C, ρ, vl, vf, hv, hps, hrf, hrl, hn⟩ := h
 have hlG := hrl.lG
 have hlI := hrl.lI
 refine (removeV w vb tb hv p (RmPost w tb G I C p) (fun e w' hq => ⟨_, hq.1⟩) (remove_code w tb G I C hps hrl.ok (by omega) (by omega) hrl.flOk p hp)).mono ?_
 rintro e w' ⟨rfl, hf, hc⟩
 obtain ⟨e1, e2, e3⟩ := hrl.removeE p
 refine ⟨by rw [e1], ?_⟩
 rcases hc with ⟨hne, hps'⟩ | ⟨hz, u, hat, hc⟩
 ·rw [e2 hne]; exact Md.prog hv hrf hf hps' hrl hn
 ·obtain ⟨e4, a1, a2, a3⟩ := e3 hz u hat
  rw [e4]
  have hd := gErase_del hrl.ok.nd (names p)
  have hsub := List.Sublist.countP_le (p := fun x : List ByteArray × VS => x.2.p.isSome) (gErase_sub G (names p))
  rcases hc with ⟨hu, hps'⟩ | ⟨hu, r, I', hin, hci, hps'⟩
  ·have hr2 := hrl.delDir a1 a2 hat hu (a3 hu)
   refine Md.prog hv hrf hf (hps' _ hd) hr2 ?_
   rw [cD_root hr2.ok]
   rw [cD_root hrl.ok] at hn
   omega
  ·have hnd : (I'.map (·.1)).Nodup := (hps' _ hd).ndI
   have hr2 := hrl.delFile a1 a2 hat hu hin hci hnd
   refine Md.prog hv hrf hf (hps' _ hd) hr2 ?_
   rw [cD_root hr2.ok]
   rw [cD_root hrl.ok] at hn
   have hl : I'.length ≤ I.length := by rcases hci with ⟨_, h, _⟩ | ⟨_, h, _⟩ <;> omega
   omega
theorem moveJ (h : Md w vb tb rb L F L F) (p q : ByteArray) (hp : p.size ≤ 2000000) (hq : q.size ≤ 2000000) :
  Calls Tryz.prog 62 #[.pointer (some ⟨vb, 0, none⟩), .string p, .string q] w fun e w' => e = .returned (.int .i64 (moveR L p q).1) ∧ Fr (JT tb w) w w' ∧ Md w' vb tb rb L F (moveR L p q).2 F := by
 obtain ⟨G, I, C, ρ, vl, vf, hv, hps, hrf, hrl, hn⟩ := h
 have hlG := hrl.lG
 refine (moveV w vb tb hv p q (MvPost w tb G I C p q) (fun e w' hq => ⟨_, hq.1⟩) (moveT_code w tb G I C hps hrl.ok (by omega) p q hp hq)).mono ?_
 rintro e w' ⟨rfl, hf, hc⟩
 obtain ⟨e1, e2, e3⟩ := hrl.moveE p q
 refine ⟨by rw [e1], ?_⟩
 rcases hc with ⟨hne, hps'⟩ | ⟨hz, hps'⟩
 ·rw [e2 hne]; exact Md.prog hv hrf hf hps' hrl hn
 ·obtain ⟨u, hm, e4, a1, a2, a3, a4⟩ := e3 hz
  rw [e4]
  have hr2 := hrl.moved hm a1 a2 a3 a4
  refine Md.prog hv hrf hf (hps' u hm) hr2 ?_
  rw [cD_root hr2.ok, mvG, List.countP_map]
  rw [cD_root hrl.ok] at hn
  exact hn
theorem cutJ (h : Md w vb tb rb L F L F) (p : ByteArray) (n : Int) (hp : p.size ≤ 2000000) :
  Calls Tryz.prog 60 #[.pointer (some ⟨vb, 0, none⟩), .string p, .int .i64 n] w fun e w' => e = .returned (.int .i64 (trimR L F p n).1) ∧ Fr (JT tb w) w w' ∧ Md w' vb tb rb L F L (trimR L F p n).2 := by
 obtain ⟨G, I, C, ρ, vl, vf, hv, hps, hrf, hrl, hn⟩ := h
 have hlG := hrl.lG
 have hlI := hrl.lI
 have hC := hrl.C_le
 have hll : ∀ x ∈ I, x.2.l ≤ 2000000 := fun x hx => by rw [hrl.l_eq x hx]; have := hC x hx; omega
 refine (cutV w vb tb hv p n (CtPost w tb G I C p n) (fun e w' hq => ?_) (cutT_code w tb G I C hps hrl.ok (by omega) (by omega) hrl.flOk hll hC p hp n)).mono ?_
 ·rcases hq with ⟨_, he, _⟩ | ⟨_, u, r, a, c, _, _, _, _, I', _, ⟨he, _⟩ | ⟨he, _⟩⟩
  ·exact ⟨_, he⟩
  ·exact ⟨_, he⟩
  ·exact ⟨_, he⟩
 intro e w' hq
 obtain ⟨e1, e2⟩ := hrl.cutE p n
 rcases hq with ⟨hne, rfl, hf, hps'⟩ | ⟨hz, u, r, a, c, hat, hu, hin, hf, I', hio, hc⟩
 ·obtain ⟨e3, e4⟩ := e1 hne
  rw [e4]
  exact ⟨by rw [e3], Md.prog hv hrf hf hps' hrl hn⟩
 ·have hn' := of_decide_eq_true (fileE_fits hz)
  have hs := longR_size (C u.f) n.toNat
  have hr2 := hrl.filled hin (s := longR (C u.f) n.toNat) (by omega) (by rw [hs]; exact hio)
  have hus := hr2.num.usage
  rw [← use_eq] at hus
  rw [e2 hz u hat hu, ← hus]
  rcases hc with ⟨rfl, hgt, I'', hps', hl, hm⟩ | ⟨rfl, hle, hps'⟩
  ·rw [if_pos hgt]
   refine ⟨rfl, Md.prog hv hrf hf hps' (hrl.congrI hl hm hps'.ndI (fun _ _ => rfl)) (by omega)⟩
  ·rw [if_neg (by omega)]
   refine ⟨rfl, Md.prog hv hrf hf hps' hr2 (by rw [hio.1]; exact hn)⟩
theorem ovR_le {s : ByteArray} {i : Int} {d : ByteArray} (h : 0 ≤ i ∧ i ≤ 1280 - (d.size : Int)) (hs : s.size ≤ 1280) : (ovR s i d).size ≤ 1280 := by
 unfold ovR
 split
 ·exact hs
 ·rw [wrR_size]
  omega
theorem wrE_fits {G : Gh} {I : List (Int × VF)} {p : ByteArray} {i : Int} {d : ByteArray} (h : wrE G I p i d = 0) : 0 ≤ i ∧ i ≤ 1280 - (d.size : Int) := by
 by_cases hf : wrFits i d = true
 ·exact of_decide_eq_true hf
 ·exfalso
  have hf' : wrFits i d = false := by simpa using hf
  have hl : locE G p (wrFits i d) ≠ 0 := by rw [hf']; unfold locE; split <;> simp
  unfold wrE at h
  rw [if_pos hl] at h
  exact hl h
theorem readJ (h : Md w vb tb rb L F L F) (p : ByteArray) (hp : p.size ≤ 2000000) (i n : Int) (hi : i ≤ 9223372036854775807) (hn : n ≤ 9223372036854775807) :
  Calls Tryz.prog 55 #[.pointer (some ⟨vb, 0, none⟩), .string p, .int .i64 i, .int .i64 n] w fun e w' => (∃ a m c, e = .returned (.tuple #[.slice a m c, .int .i64 (readR L F p i n).2]) ∧ m = (readR L F p i n).1.size ∧ Sl w' 5 1 (.slice a m c) m (bytesV (readR L F p i n).1)) ∧ Below w.heap.size w w' := by
 obtain ⟨G, I, C, ρ, vl, vf, hv, ⟨rd, V, E, vi, htw⟩, hrf, hrl, hnod⟩ := h
 have hlG := hrl.lG
 have hlI := hrl.lI
 refine (readV w vb tb hv p i n (RdPost w G C p i n) (fun e w' hq => ?_) (readT_code w tb rd V E vi G I C htw hrl.ok (by omega) (by omega) hrl.flOk hrl.C_le p hp i n hi hn)).mono ?_
 ·rcases hq with ⟨⟨_, he⟩ | ⟨_, u, _, _, x, m, he, _⟩, _⟩
  ·exact ⟨_, _, _, _, he⟩
  ·exact ⟨_, _, _, _, he⟩
 rintro e w' ⟨hq, hb⟩
 obtain ⟨e1, e2, e3⟩ := hrl.readE p i n
 refine ⟨?_, hb⟩
 rcases hq with ⟨hne, rfl⟩ | ⟨hz, u, hat, hu, x, m, rfl, _, hS⟩
 ·rw [e2 hne, ← e1]
  exact ⟨none, 0, 0, rfl, rfl, rfl, .inl ⟨rfl, rfl⟩⟩
 ·rw [← e1, hz, e3 hz u hat hu]
  refine ⟨_, _, _, rfl, ?_, hS⟩
  have h1 := hS.1
  unfold bytesV at h1
  simp at h1
  exact h1.symm
theorem statJ (h : Md w vb tb rb L F L F) (p : ByteArray) (hp : p.size ≤ 2000000) :
  Calls Tryz.prog 57 #[.pointer (some ⟨vb, 0, none⟩), .string p] w fun e w' => e = .returned (.tuple #[(statR L F p).1, .int .i64 (statR L F p).2]) ∧ Below w.heap.size w w' := by
 obtain ⟨G, I, C, ρ, vl, vf, hv, ⟨rd, V, E, vi, htw⟩, hrf, hrl, hnod⟩ := h
 have hlG := hrl.lG
 have hlI := hrl.lI
 obtain ⟨e1, e2, e3⟩ := hrl.statE p
 have key : ∀ e W W', StPost W G I p e W' → e = .returned (.tuple #[(statR L F p).1, .int .i64 (statR L F p).2]) ∧ ∃ a b c d k, e = .returned (.tuple #[.agg #[.string a, .bool b, .int .i64 c, .int .i64 d], .int .i64 k]) := by
  rintro e W W' ⟨⟨hne, rfl⟩ | ⟨hz, v, hv, rfl⟩, _⟩
  ·refine ⟨by rw [e2 hne, ← e1], ?_⟩
   unfold noEntry
   exact ⟨_, _, _, _, _, rfl⟩
  ·refine ⟨by rw [e3 hz v hv, ← e1, hz], ?_⟩
   rcases hv with ⟨_, rfl⟩ | ⟨ds, n, u, _, _, ht⟩
   ·exact ⟨_, _, _, _, _, rfl⟩
   ·obtain ⟨b, c, d, rfl⟩ := tellV_shape ht
    exact ⟨_, _, _, _, _, rfl⟩
 refine (statV w vb tb hv p (fun e => ∃ W W', StPost W G I p e W') (fun e ⟨W, W', hq⟩ => (key e W W' hq).2) (fun W hb => (statT_code W tb rd V E vi G I C (htw.below hb (Nat.le_refl _)) hrl.ok (by omega) (by omega) hrl.flOk p hp).mono (fun e W' hq => ⟨⟨W, W', hq⟩, hq.2⟩))).mono ?_
 rintro e w' ⟨⟨W, W', hq⟩, hb⟩
 exact ⟨(key e W W' hq).1, hb⟩
theorem usageJ (h : Md w vb tb rb L F L F) :
  Calls Tryz.prog 34 #[.pointer (some ⟨vb, 0, none⟩)] w fun e w' => e = .returned (.int .i64 (usageR L F : Nat)) ∧ Below w.heap.size w w' := by
 obtain ⟨G, I, C, ρ, vl, vf, hv, ⟨rd, V, E, vi, htw⟩, hrf, hrl, hnod⟩ := h
 have hlI := hrl.lI
 have hC := hrl.C_le
 have hll : ∀ x ∈ I, x.2.l ≤ 2000000 := fun x hx => by rw [hrl.l_eq x hx]; have := hC x hx; omega
 have hus := hrl.num.usage
 rw [← use_eq] at hus
 rw [← hus]
 exact usageV w vb tb hv _ (fun e w' hq => ⟨_, hq.1⟩) (usage_code w tb _ vi I htw.t htw.i (by omega) hll)
end
end Go.Proofs.YtaieidcohdhgpaaGreatDoor
