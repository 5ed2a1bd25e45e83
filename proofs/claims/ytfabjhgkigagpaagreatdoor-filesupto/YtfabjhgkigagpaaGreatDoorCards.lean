/-
  DERIVED. GIVEN WITH THE SEED: THE CARDS: each row of YtfabjhgkigagpaaGreatDoorRows.lean that lists a variable, with what it lists TIED to the program's text (the seventh form; the later family's looks); each row that meets fmt, with fmt's text TOLD by the authors' own Lean function (tested against real Go, not proved from fmt's source: count such statements apart). THE CARD IS WHAT COUNTS. Prove the row's statement (the work); the ties are given (YtfabjhgkigagpaaGreatDoorTie.lean); close each card by the builder's one call (the guide's Derived/Test/ToyasCard.lean, 'card_holds'). Laid BY PROGRAM, IN A SANDBOX (cutbox-door.mjs). By AI agents, Wed Nov 11 2026. No macro, syntax, notation, axiom, sorry.
-/
import Derived.Test.YtfabjhgkigagpaaGreatDoorRows
import GoSem.ClaimSeven
namespace Go.Proofs.YtfabjhgkigagpaaGreatDoor
namespace Rows

/-- THE TIED CARD OF 'siltlaw.Files'. -/
def filesCard : Claim7 := { stood := { row := filesRow, standIns := [], harness := (true, "658dcc2edb69eb2b8c4087b3ba8903e143a6c4bb6d55121b2c7be963d0694fe3"), looks := false }, kinds := [], alts := [], laidByText := true, laidKinds := [.data, .pinned], laidTests := true, laidLooks := .later }
def FilesCardSaid : Prop := Claim7.holds Tryz.pinned (.plain (OpenSpec.ofChange filesSpec)) filesCard

/-- THE TIED CARD OF 'siltlaw.Unmade'. -/
def unmadeCard : Claim7 := { stood := { row := unmadeRow, standIns := [], harness := (true, "658dcc2edb69eb2b8c4087b3ba8903e143a6c4bb6d55121b2c7be963d0694fe3"), looks := false }, kinds := [], alts := [], laidByText := true, laidKinds := [.data, .pinned], laidTests := true, laidLooks := .later }
def UnmadeCardSaid : Prop := Claim7.holds Tryz.pinned (.plain (OpenSpec.ofChange unmadeSpec)) unmadeCard

/-- THE SECOND FORM's CARD OF 'siltlaw.Files'. -/
def filesUptoCard : Claim7 := { stood := { row := filesUptoRow, standIns := [], harness := (true, "658dcc2edb69eb2b8c4087b3ba8903e143a6c4bb6d55121b2c7be963d0694fe3"), looks := false }, kinds := [], alts := [], laidByText := true, laidKinds := [.data, .pinned], laidTests := true, laidLooks := .later }
def FilesUptoCardSaid : Prop := Claim7.holds Tryz.pinned (.plain (OpenSpec.upto filesSpec)) filesUptoCard

/-- THE SECOND FORM's CARD OF 'siltlaw.Unmade'. -/
def unmadeUptoCard : Claim7 := { stood := { row := unmadeUptoRow, standIns := [], harness := (true, "658dcc2edb69eb2b8c4087b3ba8903e143a6c4bb6d55121b2c7be963d0694fe3"), looks := false }, kinds := [], alts := [], laidByText := true, laidKinds := [.data, .pinned], laidTests := true, laidLooks := .later }
def UnmadeUptoCardSaid : Prop := Claim7.holds Tryz.pinned (.plain (OpenSpec.upto unmadeSpec)) unmadeUptoCard
end Rows
end Go.Proofs.YtfabjhgkigagpaaGreatDoor
