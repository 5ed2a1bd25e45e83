/-
  DERIVED. GIVEN WITH THE SEED: THE CARDS: each row of YtmloapnbonpniaaGreatDoorRows.lean that lists a variable, with what it lists TIED to the program's text (the seventh form; the later family's looks); each row that meets fmt, with fmt's text TOLD by the authors' own Lean function (tested against real Go, not proved from fmt's source: count such statements apart). THE CARD IS WHAT COUNTS. Prove the row's statement (the work); the ties are given (YtmloapnbonpniaaGreatDoorTie.lean); close each card by the builder's one call (the guide's Derived/Test/ToyasCard.lean, 'card_holds'). Laid BY PROGRAM, IN A SANDBOX (cutbox-door.mjs). By AI agents, Wed Nov 11 2026. No macro, syntax, notation, axiom, sorry.
-/
import Derived.Test.YtmloapnbonpniaaGreatDoorRows
import GoSem.ClaimSeven
namespace Go.Proofs.YtmloapnbonpniaaGreatDoor
namespace Rows

/-- THE TIED CARD OF 'siltlaw.Files'. -/
def filesCard : Claim7 := { stood := { row := filesRow, standIns := [], harness := (true, "aabe0c576d509f9a0d0b3c98c5106f1be2402cf0d17e9ed425131cb700138900"), looks := false }, kinds := [], alts := [], laidByText := true, laidKinds := [.data, .pinned], laidTests := true, laidLooks := .later }
def FilesCardSaid : Prop := Claim7.holds Tryz.pinned (.plain (OpenSpec.ofChange filesSpec)) filesCard

/-- THE TIED CARD OF 'siltlaw.Kept'. -/
def keptCard : Claim7 := { stood := { row := keptRow, standIns := [], harness := (true, "aabe0c576d509f9a0d0b3c98c5106f1be2402cf0d17e9ed425131cb700138900"), looks := false }, kinds := [], alts := [], laidByText := true, laidKinds := [.data, .pinned], laidTests := true, laidLooks := .later }
def KeptCardSaid : Prop := Claim7.holds Tryz.pinned (.plain (OpenSpec.ofChange keptSpec)) keptCard

/-- THE TIED CARD OF 'siltlaw.Unmade'. -/
def unmadeCard : Claim7 := { stood := { row := unmadeRow, standIns := [], harness := (true, "aabe0c576d509f9a0d0b3c98c5106f1be2402cf0d17e9ed425131cb700138900"), looks := false }, kinds := [], alts := [], laidByText := true, laidKinds := [.data, .pinned], laidTests := true, laidLooks := .later }
def UnmadeCardSaid : Prop := Claim7.holds Tryz.pinned (.plain (OpenSpec.ofChange unmadeSpec)) unmadeCard

/-- THE TIED CARD OF 'siltkeep.Long'. -/
def longCard : Claim7 := { stood := { row := longRow, standIns := [], harness := (true, "aabe0c576d509f9a0d0b3c98c5106f1be2402cf0d17e9ed425131cb700138900"), looks := false }, kinds := [], alts := [], laidByText := true, laidKinds := [.data, .pinned], laidTests := true, laidLooks := .later }
def LongCardSaid : Prop := Claim7.holds Tryz.pinned (.plain (OpenSpec.ofChange longSpec)) longCard

/-- THE TIED CARD OF 'siltkeep.Failed'. -/
def failedCard : Claim7 := { stood := { row := failedRow, standIns := [], harness := (true, "aabe0c576d509f9a0d0b3c98c5106f1be2402cf0d17e9ed425131cb700138900"), looks := false }, kinds := [], alts := [], laidByText := true, laidKinds := [.data, .pinned], laidTests := true, laidLooks := .later }
def FailedCardSaid : Prop := Claim7.holds Tryz.pinned (.plain (OpenSpec.ofChange failedSpec)) failedCard

/-- THE TIED CARD OF 'siltkeep.Spoilt'. -/
def spoiltCard : Claim7 := { stood := { row := spoiltRow, standIns := [], harness := (true, "aabe0c576d509f9a0d0b3c98c5106f1be2402cf0d17e9ed425131cb700138900"), looks := false }, kinds := [], alts := [], laidByText := true, laidKinds := [.data, .pinned], laidTests := true, laidLooks := .later }
def SpoiltCardSaid : Prop := Claim7.holds Tryz.pinned (.plain (OpenSpec.ofChange spoiltSpec)) spoiltCard

/-- THE TIED CARD OF 'siltkeep.Cleaned'. -/
def cleanedCard : Claim7 := { stood := { row := cleanedRow, standIns := [], harness := (true, "aabe0c576d509f9a0d0b3c98c5106f1be2402cf0d17e9ed425131cb700138900"), looks := false }, kinds := [], alts := [], laidByText := true, laidKinds := [.data, .pinned], laidTests := true, laidLooks := .later }
def CleanedCardSaid : Prop := Claim7.holds Tryz.pinned (.plain (OpenSpec.ofChange cleanedSpec)) cleanedCard

/-- THE SECOND FORM's CARD OF 'siltlaw.Files'. -/
def filesUptoCard : Claim7 := { stood := { row := filesUptoRow, standIns := [], harness := (true, "aabe0c576d509f9a0d0b3c98c5106f1be2402cf0d17e9ed425131cb700138900"), looks := false }, kinds := [], alts := [], laidByText := true, laidKinds := [.data, .pinned], laidTests := true, laidLooks := .later }
def FilesUptoCardSaid : Prop := Claim7.holds Tryz.pinned (.plain (OpenSpec.upto filesSpec)) filesUptoCard

/-- THE SECOND FORM's CARD OF 'siltlaw.Kept'. -/
def keptUptoCard : Claim7 := { stood := { row := keptUptoRow, standIns := [], harness := (true, "aabe0c576d509f9a0d0b3c98c5106f1be2402cf0d17e9ed425131cb700138900"), looks := false }, kinds := [], alts := [], laidByText := true, laidKinds := [.data, .pinned], laidTests := true, laidLooks := .later }
def KeptUptoCardSaid : Prop := Claim7.holds Tryz.pinned (.plain (OpenSpec.upto keptSpec)) keptUptoCard

/-- THE SECOND FORM's CARD OF 'siltlaw.Unmade'. -/
def unmadeUptoCard : Claim7 := { stood := { row := unmadeUptoRow, standIns := [], harness := (true, "aabe0c576d509f9a0d0b3c98c5106f1be2402cf0d17e9ed425131cb700138900"), looks := false }, kinds := [], alts := [], laidByText := true, laidKinds := [.data, .pinned], laidTests := true, laidLooks := .later }
def UnmadeUptoCardSaid : Prop := Claim7.holds Tryz.pinned (.plain (OpenSpec.upto unmadeSpec)) unmadeUptoCard

/-- THE SECOND FORM's CARD OF 'siltkeep.Long'. -/
def longUptoCard : Claim7 := { stood := { row := longUptoRow, standIns := [], harness := (true, "aabe0c576d509f9a0d0b3c98c5106f1be2402cf0d17e9ed425131cb700138900"), looks := false }, kinds := [], alts := [], laidByText := true, laidKinds := [.data, .pinned], laidTests := true, laidLooks := .later }
def LongUptoCardSaid : Prop := Claim7.holds Tryz.pinned (.plain (OpenSpec.upto longSpec)) longUptoCard

/-- THE SECOND FORM's CARD OF 'siltkeep.Failed'. -/
def failedUptoCard : Claim7 := { stood := { row := failedUptoRow, standIns := [], harness := (true, "aabe0c576d509f9a0d0b3c98c5106f1be2402cf0d17e9ed425131cb700138900"), looks := false }, kinds := [], alts := [], laidByText := true, laidKinds := [.data, .pinned], laidTests := true, laidLooks := .later }
def FailedUptoCardSaid : Prop := Claim7.holds Tryz.pinned (.plain (OpenSpec.upto failedSpec)) failedUptoCard

/-- THE SECOND FORM's CARD OF 'siltkeep.Spoilt'. -/
def spoiltUptoCard : Claim7 := { stood := { row := spoiltUptoRow, standIns := [], harness := (true, "aabe0c576d509f9a0d0b3c98c5106f1be2402cf0d17e9ed425131cb700138900"), looks := false }, kinds := [], alts := [], laidByText := true, laidKinds := [.data, .pinned], laidTests := true, laidLooks := .later }
def SpoiltUptoCardSaid : Prop := Claim7.holds Tryz.pinned (.plain (OpenSpec.upto spoiltSpec)) spoiltUptoCard

/-- THE SECOND FORM's CARD OF 'siltkeep.Cleaned'. -/
def cleanedUptoCard : Claim7 := { stood := { row := cleanedUptoRow, standIns := [], harness := (true, "aabe0c576d509f9a0d0b3c98c5106f1be2402cf0d17e9ed425131cb700138900"), looks := false }, kinds := [], alts := [], laidByText := true, laidKinds := [.data, .pinned], laidTests := true, laidLooks := .later }
def CleanedUptoCardSaid : Prop := Claim7.holds Tryz.pinned (.plain (OpenSpec.upto cleanedSpec)) cleanedUptoCard
end Rows
end Go.Proofs.YtmloapnbonpniaaGreatDoor
