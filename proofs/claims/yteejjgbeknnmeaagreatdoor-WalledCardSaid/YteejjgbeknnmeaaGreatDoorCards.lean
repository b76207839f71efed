/-
  DERIVED. GIVEN WITH THE SEED: THE CARDS: each row of YteejjgbeknnmeaaGreatDoorRows.lean that lists a variable, with what it lists TIED to the program's text (the seventh form; the later family's looks); each row that meets fmt, with fmt's text TOLD by the authors' own Lean function (tested against real Go, not proved from fmt's source: count such statements apart). THE CARD IS WHAT COUNTS. Prove the row's statement (the work); the ties are given (YteejjgbeknnmeaaGreatDoorTie.lean); close each card by the builder's one call (the guide's Derived/Test/ToyasCard.lean, 'card_holds'). Laid BY PROGRAM, IN A SANDBOX (cutbox-door.mjs). By AI agents, Wed Nov 11 2026. No macro, syntax, notation, axiom, sorry.
-/
import Derived.Test.YteejjgbeknnmeaaGreatDoorRows
import GoSem.ClaimSeven
namespace Go.Proofs.YteejjgbeknnmeaaGreatDoor
namespace Rows

/-- THE TIED CARD OF 'embassylaw.Boots'. -/
def bootsCard : Claim7 := { stood := { row := bootsRow, standIns := [], harness := (true, "6b548d1456c62829c7317ee0e0a1a1e36b0d27bef02f767f506fe5b0a58c0901"), looks := true }, kinds := [], alts := [], laidByText := true, laidKinds := [.data, .data, .data, .handle], laidTests := true, laidLooks := .later }
def BootsCardSaid : Prop := Claim7.holds Tryz.pinned (.plain (OpenSpec.ofChange bootsSpec)) bootsCard

/-- THE TIED CARD OF 'embassylaw.Holds'. -/
def holdsCard : Claim7 := { stood := { row := holdsRow, standIns := [], harness := (true, "6b548d1456c62829c7317ee0e0a1a1e36b0d27bef02f767f506fe5b0a58c0901"), looks := true }, kinds := [], alts := [], laidByText := true, laidKinds := [.data, .data, .data, .handle], laidTests := true, laidLooks := .later }
def HoldsCardSaid : Prop := Claim7.holds Tryz.pinned (.plain (OpenSpec.ofChange holdsSpec)) holdsCard

/-- THE TIED CARD OF 'embassylaw.Speaks'. -/
def speaksCard : Claim7 := { stood := { row := speaksRow, standIns := [], harness := (true, "6b548d1456c62829c7317ee0e0a1a1e36b0d27bef02f767f506fe5b0a58c0901"), looks := true }, kinds := [], alts := [], laidByText := true, laidKinds := [.data, .data, .data, .handle], laidTests := true, laidLooks := .later }
def SpeaksCardSaid : Prop := Claim7.holds Tryz.pinned (.plain (OpenSpec.ofChange speaksSpec)) speaksCard

/-- THE TIED CARD OF 'embassylaw.All'. -/
def allCard : Claim7 := { stood := { row := allRow, standIns := [], harness := (true, "6b548d1456c62829c7317ee0e0a1a1e36b0d27bef02f767f506fe5b0a58c0901"), looks := true }, kinds := [], alts := [], laidByText := true, laidKinds := [.data, .data, .data, .handle], laidTests := true, laidLooks := .later }
def AllCardSaid : Prop := Claim7.holds Tryz.pinned (.plain (OpenSpec.ofChange allSpec)) allCard

/-- THE TIED CARD OF 'embassykeep.Turns'. -/
def turnsCard : Claim7 := { stood := { row := turnsRow, standIns := [], harness := (true, "6b548d1456c62829c7317ee0e0a1a1e36b0d27bef02f767f506fe5b0a58c0901"), looks := true }, kinds := [], alts := [], laidByText := true, laidKinds := [.data, .data, .data, .handle], laidTests := true, laidLooks := .later }
def TurnsCardSaid : Prop := Claim7.holds Tryz.pinned (.plain (OpenSpec.ofChange turnsSpec)) turnsCard

/-- THE TIED CARD OF 'embassykeep.Met'. -/
def metCard : Claim7 := { stood := { row := metRow, standIns := [], harness := (true, "6b548d1456c62829c7317ee0e0a1a1e36b0d27bef02f767f506fe5b0a58c0901"), looks := true }, kinds := [], alts := [], laidByText := true, laidKinds := [.data, .data, .data, .handle], laidTests := true, laidLooks := .later }
def MetCardSaid : Prop := Claim7.holds Tryz.pinned (.plain (OpenSpec.ofChange metSpec)) metCard

/-- THE TIED CARD OF 'embassykeep.Timed'. -/
def timedCard : Claim7 := { stood := { row := timedRow, standIns := [], harness := (true, "6b548d1456c62829c7317ee0e0a1a1e36b0d27bef02f767f506fe5b0a58c0901"), looks := true }, kinds := [], alts := [], laidByText := true, laidKinds := [.data, .data, .data, .handle], laidTests := true, laidLooks := .later }
def TimedCardSaid : Prop := Claim7.holds Tryz.pinned (.plain (OpenSpec.ofChange timedSpec)) timedCard

/-- THE TIED CARD OF 'embassykeep.Queued'. -/
def queuedCard : Claim7 := { stood := { row := queuedRow, standIns := [], harness := (true, "6b548d1456c62829c7317ee0e0a1a1e36b0d27bef02f767f506fe5b0a58c0901"), looks := true }, kinds := [], alts := [], laidByText := true, laidKinds := [.data, .data, .data, .handle], laidTests := true, laidLooks := .later }
def QueuedCardSaid : Prop := Claim7.holds Tryz.pinned (.plain (OpenSpec.ofChange queuedSpec)) queuedCard

/-- THE TIED CARD OF 'embassykeep.Bounded'. -/
def boundedCard : Claim7 := { stood := { row := boundedRow, standIns := [], harness := (true, "6b548d1456c62829c7317ee0e0a1a1e36b0d27bef02f767f506fe5b0a58c0901"), looks := true }, kinds := [], alts := [], laidByText := true, laidKinds := [.data, .data, .data, .handle], laidTests := true, laidLooks := .later }
def BoundedCardSaid : Prop := Claim7.holds Tryz.pinned (.plain (OpenSpec.ofChange boundedSpec)) boundedCard

/-- THE TIED CARD OF 'embassykeep.Revoked'. -/
def revokedCard : Claim7 := { stood := { row := revokedRow, standIns := [], harness := (true, "6b548d1456c62829c7317ee0e0a1a1e36b0d27bef02f767f506fe5b0a58c0901"), looks := true }, kinds := [], alts := [], laidByText := true, laidKinds := [.data, .data, .data, .handle], laidTests := true, laidLooks := .later }
def RevokedCardSaid : Prop := Claim7.holds Tryz.pinned (.plain (OpenSpec.ofChange revokedSpec)) revokedCard

/-- THE TIED CARD OF 'embassykeep.Walled'. -/
def walledCard : Claim7 := { stood := { row := walledRow, standIns := [], harness := (true, "6b548d1456c62829c7317ee0e0a1a1e36b0d27bef02f767f506fe5b0a58c0901"), looks := true }, kinds := [], alts := [], laidByText := true, laidKinds := [.data, .data, .data, .handle], laidTests := true, laidLooks := .later }
def WalledCardSaid : Prop := Claim7.holds Tryz.pinned (.plain (OpenSpec.ofChange walledSpec)) walledCard

/-- THE SECOND FORM's CARD OF 'embassylaw.Boots'. -/
def bootsUptoCard : Claim7 := { stood := { row := bootsUptoRow, standIns := [], harness := (true, "6b548d1456c62829c7317ee0e0a1a1e36b0d27bef02f767f506fe5b0a58c0901"), looks := true }, kinds := [], alts := [], laidByText := true, laidKinds := [.data, .data, .data, .handle], laidTests := true, laidLooks := .later }
def BootsUptoCardSaid : Prop := Claim7.holds Tryz.pinned (.plain (OpenSpec.upto bootsSpec)) bootsUptoCard

/-- THE SECOND FORM's CARD OF 'embassylaw.Holds'. -/
def holdsUptoCard : Claim7 := { stood := { row := holdsUptoRow, standIns := [], harness := (true, "6b548d1456c62829c7317ee0e0a1a1e36b0d27bef02f767f506fe5b0a58c0901"), looks := true }, kinds := [], alts := [], laidByText := true, laidKinds := [.data, .data, .data, .handle], laidTests := true, laidLooks := .later }
def HoldsUptoCardSaid : Prop := Claim7.holds Tryz.pinned (.plain (OpenSpec.upto holdsSpec)) holdsUptoCard

/-- THE SECOND FORM's CARD OF 'embassylaw.Speaks'. -/
def speaksUptoCard : Claim7 := { stood := { row := speaksUptoRow, standIns := [], harness := (true, "6b548d1456c62829c7317ee0e0a1a1e36b0d27bef02f767f506fe5b0a58c0901"), looks := true }, kinds := [], alts := [], laidByText := true, laidKinds := [.data, .data, .data, .handle], laidTests := true, laidLooks := .later }
def SpeaksUptoCardSaid : Prop := Claim7.holds Tryz.pinned (.plain (OpenSpec.upto speaksSpec)) speaksUptoCard

/-- THE SECOND FORM's CARD OF 'embassylaw.All'. -/
def allUptoCard : Claim7 := { stood := { row := allUptoRow, standIns := [], harness := (true, "6b548d1456c62829c7317ee0e0a1a1e36b0d27bef02f767f506fe5b0a58c0901"), looks := true }, kinds := [], alts := [], laidByText := true, laidKinds := [.data, .data, .data, .handle], laidTests := true, laidLooks := .later }
def AllUptoCardSaid : Prop := Claim7.holds Tryz.pinned (.plain (OpenSpec.upto allSpec)) allUptoCard

/-- THE SECOND FORM's CARD OF 'embassykeep.Turns'. -/
def turnsUptoCard : Claim7 := { stood := { row := turnsUptoRow, standIns := [], harness := (true, "6b548d1456c62829c7317ee0e0a1a1e36b0d27bef02f767f506fe5b0a58c0901"), looks := true }, kinds := [], alts := [], laidByText := true, laidKinds := [.data, .data, .data, .handle], laidTests := true, laidLooks := .later }
def TurnsUptoCardSaid : Prop := Claim7.holds Tryz.pinned (.plain (OpenSpec.upto turnsSpec)) turnsUptoCard

/-- THE SECOND FORM's CARD OF 'embassykeep.Met'. -/
def metUptoCard : Claim7 := { stood := { row := metUptoRow, standIns := [], harness := (true, "6b548d1456c62829c7317ee0e0a1a1e36b0d27bef02f767f506fe5b0a58c0901"), looks := true }, kinds := [], alts := [], laidByText := true, laidKinds := [.data, .data, .data, .handle], laidTests := true, laidLooks := .later }
def MetUptoCardSaid : Prop := Claim7.holds Tryz.pinned (.plain (OpenSpec.upto metSpec)) metUptoCard

/-- THE SECOND FORM's CARD OF 'embassykeep.Timed'. -/
def timedUptoCard : Claim7 := { stood := { row := timedUptoRow, standIns := [], harness := (true, "6b548d1456c62829c7317ee0e0a1a1e36b0d27bef02f767f506fe5b0a58c0901"), looks := true }, kinds := [], alts := [], laidByText := true, laidKinds := [.data, .data, .data, .handle], laidTests := true, laidLooks := .later }
def TimedUptoCardSaid : Prop := Claim7.holds Tryz.pinned (.plain (OpenSpec.upto timedSpec)) timedUptoCard

/-- THE SECOND FORM's CARD OF 'embassykeep.Queued'. -/
def queuedUptoCard : Claim7 := { stood := { row := queuedUptoRow, standIns := [], harness := (true, "6b548d1456c62829c7317ee0e0a1a1e36b0d27bef02f767f506fe5b0a58c0901"), looks := true }, kinds := [], alts := [], laidByText := true, laidKinds := [.data, .data, .data, .handle], laidTests := true, laidLooks := .later }
def QueuedUptoCardSaid : Prop := Claim7.holds Tryz.pinned (.plain (OpenSpec.upto queuedSpec)) queuedUptoCard

/-- THE SECOND FORM's CARD OF 'embassykeep.Bounded'. -/
def boundedUptoCard : Claim7 := { stood := { row := boundedUptoRow, standIns := [], harness := (true, "6b548d1456c62829c7317ee0e0a1a1e36b0d27bef02f767f506fe5b0a58c0901"), looks := true }, kinds := [], alts := [], laidByText := true, laidKinds := [.data, .data, .data, .handle], laidTests := true, laidLooks := .later }
def BoundedUptoCardSaid : Prop := Claim7.holds Tryz.pinned (.plain (OpenSpec.upto boundedSpec)) boundedUptoCard

/-- THE SECOND FORM's CARD OF 'embassykeep.Revoked'. -/
def revokedUptoCard : Claim7 := { stood := { row := revokedUptoRow, standIns := [], harness := (true, "6b548d1456c62829c7317ee0e0a1a1e36b0d27bef02f767f506fe5b0a58c0901"), looks := true }, kinds := [], alts := [], laidByText := true, laidKinds := [.data, .data, .data, .handle], laidTests := true, laidLooks := .later }
def RevokedUptoCardSaid : Prop := Claim7.holds Tryz.pinned (.plain (OpenSpec.upto revokedSpec)) revokedUptoCard

/-- THE SECOND FORM's CARD OF 'embassykeep.Walled'. -/
def walledUptoCard : Claim7 := { stood := { row := walledUptoRow, standIns := [], harness := (true, "6b548d1456c62829c7317ee0e0a1a1e36b0d27bef02f767f506fe5b0a58c0901"), looks := true }, kinds := [], alts := [], laidByText := true, laidKinds := [.data, .data, .data, .handle], laidTests := true, laidLooks := .later }
def WalledUptoCardSaid : Prop := Claim7.holds Tryz.pinned (.plain (OpenSpec.upto walledSpec)) walledUptoCard
end Rows
end Go.Proofs.YteejjgbeknnmeaaGreatDoor
