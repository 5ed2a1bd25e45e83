/-
  DERIVED. GIVEN WITH THE SEED: THE CARDS: each row of YtaieidcohdhgpaaGreatDoorRows.lean that lists a variable, with what it lists TIED to the program's text (the seventh form; the later family's looks); each row that meets fmt, with fmt's text TOLD by the authors' own Lean function (tested against real Go, not proved from fmt's source: count such statements apart). THE CARD IS WHAT COUNTS. Prove the row's statement (the work); the ties are given (YtaieidcohdhgpaaGreatDoorTie.lean); close each card by the builder's one call (the guide's Derived/Test/ToyasCard.lean, 'card_holds'). Laid BY PROGRAM, IN A SANDBOX (cutbox-door.mjs). By AI agents, Wed Nov 11 2026. No macro, syntax, notation, axiom, sorry.
-/
import Derived.Test.YtaieidcohdhgpaaGreatDoorRows
import GoSem.ClaimSeven
namespace Go.Proofs.YtaieidcohdhgpaaGreatDoor
namespace Rows

/-- THE TIED CARD OF 'siltlaw.Files'. -/
def filesCard : Claim7 := { stood := { row := filesRow, standIns := [], harness := (true, "8a99ccce4f5ebe8914f82461046568af7d878d7c838937ebb02550d3e722fe4e"), looks := true }, kinds := [], alts := [], laidByText := true, laidKinds := [.data, .data, .data, .data, .sentinel, .sentinel, .pinned], laidTests := true, laidLooks := .later }
def FilesCardSaid : Prop := Claim7.holds Tryz.pinned (.plain (OpenSpec.ofChange filesSpec)) filesCard

/-- THE TIED CARD OF 'siltlaw.Kept'. -/
def keptCard : Claim7 := { stood := { row := keptRow, standIns := [], harness := (true, "8a99ccce4f5ebe8914f82461046568af7d878d7c838937ebb02550d3e722fe4e"), looks := true }, kinds := [], alts := [], laidByText := true, laidKinds := [.data, .data, .data, .data, .sentinel, .sentinel, .pinned], laidTests := true, laidLooks := .later }
def KeptCardSaid : Prop := Claim7.holds Tryz.pinned (.plain (OpenSpec.ofChange keptSpec)) keptCard

/-- THE TIED CARD OF 'siltlaw.Dumps'. -/
def dumpsCard : Claim7 := { stood := { row := dumpsRow, standIns := [], harness := (true, "8a99ccce4f5ebe8914f82461046568af7d878d7c838937ebb02550d3e722fe4e"), looks := true }, kinds := [], alts := [], laidByText := true, laidKinds := [.data, .data, .data, .data, .sentinel, .sentinel, .pinned], laidTests := true, laidLooks := .later }
def DumpsCardSaid : Prop := Claim7.holds Tryz.pinned (.plain (OpenSpec.ofChange dumpsSpec)) dumpsCard

/-- THE TIED CARD OF 'siltlaw.Plays'. -/
def playsCard : Claim7 := { stood := { row := playsRow, standIns := [], harness := (true, "8a99ccce4f5ebe8914f82461046568af7d878d7c838937ebb02550d3e722fe4e"), looks := true }, kinds := [], alts := [], laidByText := true, laidKinds := [.data, .data, .data, .data, .sentinel, .sentinel, .pinned], laidTests := true, laidLooks := .later }
def PlaysCardSaid : Prop := Claim7.holds Tryz.pinned (.plain (OpenSpec.ofChange playsSpec)) playsCard

/-- THE TIED CARD OF 'siltlaw.Unmade'. -/
def unmadeCard : Claim7 := { stood := { row := unmadeRow, standIns := [], harness := (true, "8a99ccce4f5ebe8914f82461046568af7d878d7c838937ebb02550d3e722fe4e"), looks := true }, kinds := [], alts := [], laidByText := true, laidKinds := [.data, .data, .data, .data, .pinned], laidTests := true, laidLooks := .later }
def UnmadeCardSaid : Prop := Claim7.holds Tryz.pinned (.plain (OpenSpec.ofChange unmadeSpec)) unmadeCard

/-- THE TIED CARD OF 'siltlaw.All'. -/
def allCard : Claim7 := { stood := { row := allRow, standIns := [], harness := (true, "8a99ccce4f5ebe8914f82461046568af7d878d7c838937ebb02550d3e722fe4e"), looks := true }, kinds := [], alts := [], laidByText := true, laidKinds := [.data, .data, .data, .data, .sentinel, .sentinel, .pinned], laidTests := true, laidLooks := .later }
def AllCardSaid : Prop := Claim7.holds Tryz.pinned (.plain (OpenSpec.ofChange allSpec)) allCard

/-- THE TIED CARD OF 'siltkeep.Long'. -/
def longCard : Claim7 := { stood := { row := longRow, standIns := [], harness := (true, "8a99ccce4f5ebe8914f82461046568af7d878d7c838937ebb02550d3e722fe4e"), looks := true }, kinds := [], alts := [], laidByText := true, laidKinds := [.data, .pinned], laidTests := true, laidLooks := .later }
def LongCardSaid : Prop := Claim7.holds Tryz.pinned (.plain (OpenSpec.ofChange longSpec)) longCard

/-- THE TIED CARD OF 'siltkeep.Failed'. -/
def failedCard : Claim7 := { stood := { row := failedRow, standIns := [], harness := (true, "8a99ccce4f5ebe8914f82461046568af7d878d7c838937ebb02550d3e722fe4e"), looks := true }, kinds := [], alts := [], laidByText := true, laidKinds := [.data, .pinned], laidTests := true, laidLooks := .later }
def FailedCardSaid : Prop := Claim7.holds Tryz.pinned (.plain (OpenSpec.ofChange failedSpec)) failedCard

/-- THE TIED CARD OF 'siltkeep.Spoilt'. -/
def spoiltCard : Claim7 := { stood := { row := spoiltRow, standIns := [], harness := (true, "8a99ccce4f5ebe8914f82461046568af7d878d7c838937ebb02550d3e722fe4e"), looks := true }, kinds := [], alts := [], laidByText := true, laidKinds := [.data, .pinned], laidTests := true, laidLooks := .later }
def SpoiltCardSaid : Prop := Claim7.holds Tryz.pinned (.plain (OpenSpec.ofChange spoiltSpec)) spoiltCard

/-- THE TIED CARD OF 'siltkeep.Cleaned'. -/
def cleanedCard : Claim7 := { stood := { row := cleanedRow, standIns := [], harness := (true, "8a99ccce4f5ebe8914f82461046568af7d878d7c838937ebb02550d3e722fe4e"), looks := true }, kinds := [], alts := [], laidByText := true, laidKinds := [.data, .pinned], laidTests := true, laidLooks := .later }
def CleanedCardSaid : Prop := Claim7.holds Tryz.pinned (.plain (OpenSpec.ofChange cleanedSpec)) cleanedCard

/-- THE TIED CARD OF 'siltkeep.Told'. -/
def toldCard : Claim7 := { stood := { row := toldRow, standIns := [], harness := (true, "8a99ccce4f5ebe8914f82461046568af7d878d7c838937ebb02550d3e722fe4e"), looks := true }, kinds := [], alts := [], laidByText := true, laidKinds := [.data, .data, .data, .data, .sentinel, .sentinel, .pinned], laidTests := true, laidLooks := .later }
def ToldCardSaid : Prop := Claim7.holds Tryz.pinned (.plain (OpenSpec.ofChange toldSpec)) toldCard

/-- THE SECOND FORM's CARD OF 'siltlaw.Files'. -/
def filesUptoCard : Claim7 := { stood := { row := filesUptoRow, standIns := [], harness := (true, "8a99ccce4f5ebe8914f82461046568af7d878d7c838937ebb02550d3e722fe4e"), looks := true }, kinds := [], alts := [], laidByText := true, laidKinds := [.data, .data, .data, .data, .sentinel, .sentinel, .pinned], laidTests := true, laidLooks := .later }
def FilesUptoCardSaid : Prop := Claim7.holds Tryz.pinned (.plain (OpenSpec.upto filesSpec)) filesUptoCard

/-- THE SECOND FORM's CARD OF 'siltlaw.Kept'. -/
def keptUptoCard : Claim7 := { stood := { row := keptUptoRow, standIns := [], harness := (true, "8a99ccce4f5ebe8914f82461046568af7d878d7c838937ebb02550d3e722fe4e"), looks := true }, kinds := [], alts := [], laidByText := true, laidKinds := [.data, .data, .data, .data, .sentinel, .sentinel, .pinned], laidTests := true, laidLooks := .later }
def KeptUptoCardSaid : Prop := Claim7.holds Tryz.pinned (.plain (OpenSpec.upto keptSpec)) keptUptoCard

/-- THE SECOND FORM's CARD OF 'siltlaw.Dumps'. -/
def dumpsUptoCard : Claim7 := { stood := { row := dumpsUptoRow, standIns := [], harness := (true, "8a99ccce4f5ebe8914f82461046568af7d878d7c838937ebb02550d3e722fe4e"), looks := true }, kinds := [], alts := [], laidByText := true, laidKinds := [.data, .data, .data, .data, .sentinel, .sentinel, .pinned], laidTests := true, laidLooks := .later }
def DumpsUptoCardSaid : Prop := Claim7.holds Tryz.pinned (.plain (OpenSpec.upto dumpsSpec)) dumpsUptoCard

/-- THE SECOND FORM's CARD OF 'siltlaw.Plays'. -/
def playsUptoCard : Claim7 := { stood := { row := playsUptoRow, standIns := [], harness := (true, "8a99ccce4f5ebe8914f82461046568af7d878d7c838937ebb02550d3e722fe4e"), looks := true }, kinds := [], alts := [], laidByText := true, laidKinds := [.data, .data, .data, .data, .sentinel, .sentinel, .pinned], laidTests := true, laidLooks := .later }
def PlaysUptoCardSaid : Prop := Claim7.holds Tryz.pinned (.plain (OpenSpec.upto playsSpec)) playsUptoCard

/-- THE SECOND FORM's CARD OF 'siltlaw.Unmade'. -/
def unmadeUptoCard : Claim7 := { stood := { row := unmadeUptoRow, standIns := [], harness := (true, "8a99ccce4f5ebe8914f82461046568af7d878d7c838937ebb02550d3e722fe4e"), looks := true }, kinds := [], alts := [], laidByText := true, laidKinds := [.data, .data, .data, .data, .pinned], laidTests := true, laidLooks := .later }
def UnmadeUptoCardSaid : Prop := Claim7.holds Tryz.pinned (.plain (OpenSpec.upto unmadeSpec)) unmadeUptoCard

/-- THE SECOND FORM's CARD OF 'siltlaw.All'. -/
def allUptoCard : Claim7 := { stood := { row := allUptoRow, standIns := [], harness := (true, "8a99ccce4f5ebe8914f82461046568af7d878d7c838937ebb02550d3e722fe4e"), looks := true }, kinds := [], alts := [], laidByText := true, laidKinds := [.data, .data, .data, .data, .sentinel, .sentinel, .pinned], laidTests := true, laidLooks := .later }
def AllUptoCardSaid : Prop := Claim7.holds Tryz.pinned (.plain (OpenSpec.upto allSpec)) allUptoCard

/-- THE SECOND FORM's CARD OF 'siltkeep.Long'. -/
def longUptoCard : Claim7 := { stood := { row := longUptoRow, standIns := [], harness := (true, "8a99ccce4f5ebe8914f82461046568af7d878d7c838937ebb02550d3e722fe4e"), looks := true }, kinds := [], alts := [], laidByText := true, laidKinds := [.data, .pinned], laidTests := true, laidLooks := .later }
def LongUptoCardSaid : Prop := Claim7.holds Tryz.pinned (.plain (OpenSpec.upto longSpec)) longUptoCard

/-- THE SECOND FORM's CARD OF 'siltkeep.Failed'. -/
def failedUptoCard : Claim7 := { stood := { row := failedUptoRow, standIns := [], harness := (true, "8a99ccce4f5ebe8914f82461046568af7d878d7c838937ebb02550d3e722fe4e"), looks := true }, kinds := [], alts := [], laidByText := true, laidKinds := [.data, .pinned], laidTests := true, laidLooks := .later }
def FailedUptoCardSaid : Prop := Claim7.holds Tryz.pinned (.plain (OpenSpec.upto failedSpec)) failedUptoCard

/-- THE SECOND FORM's CARD OF 'siltkeep.Spoilt'. -/
def spoiltUptoCard : Claim7 := { stood := { row := spoiltUptoRow, standIns := [], harness := (true, "8a99ccce4f5ebe8914f82461046568af7d878d7c838937ebb02550d3e722fe4e"), looks := true }, kinds := [], alts := [], laidByText := true, laidKinds := [.data, .pinned], laidTests := true, laidLooks := .later }
def SpoiltUptoCardSaid : Prop := Claim7.holds Tryz.pinned (.plain (OpenSpec.upto spoiltSpec)) spoiltUptoCard

/-- THE SECOND FORM's CARD OF 'siltkeep.Cleaned'. -/
def cleanedUptoCard : Claim7 := { stood := { row := cleanedUptoRow, standIns := [], harness := (true, "8a99ccce4f5ebe8914f82461046568af7d878d7c838937ebb02550d3e722fe4e"), looks := true }, kinds := [], alts := [], laidByText := true, laidKinds := [.data, .pinned], laidTests := true, laidLooks := .later }
def CleanedUptoCardSaid : Prop := Claim7.holds Tryz.pinned (.plain (OpenSpec.upto cleanedSpec)) cleanedUptoCard

/-- THE SECOND FORM's CARD OF 'siltkeep.Told'. -/
def toldUptoCard : Claim7 := { stood := { row := toldUptoRow, standIns := [], harness := (true, "8a99ccce4f5ebe8914f82461046568af7d878d7c838937ebb02550d3e722fe4e"), looks := true }, kinds := [], alts := [], laidByText := true, laidKinds := [.data, .data, .data, .data, .sentinel, .sentinel, .pinned], laidTests := true, laidLooks := .later }
def ToldUptoCardSaid : Prop := Claim7.holds Tryz.pinned (.plain (OpenSpec.upto toldSpec)) toldUptoCard
end Rows
end Go.Proofs.YtaieidcohdhgpaaGreatDoor
