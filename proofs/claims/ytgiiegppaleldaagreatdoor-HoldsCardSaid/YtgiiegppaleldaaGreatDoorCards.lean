/-
  DERIVED. GIVEN WITH THE SEED: THE CARDS: each row of YtgiiegppaleldaaGreatDoorRows.lean that lists a variable, with what it lists TIED to the program's text (the seventh form; the later family's looks); each row that meets fmt, with fmt's text TOLD by the authors' own Lean function (tested against real Go, not proved from fmt's source: count such statements apart). THE CARD IS WHAT COUNTS. Prove the row's statement (the work); the ties are given (YtgiiegppaleldaaGreatDoorTie.lean); close each card by the builder's one call (the guide's Derived/Test/ToyasCard.lean, 'card_holds'). Laid BY PROGRAM, IN A SANDBOX (cutbox-door.mjs). By AI agents, Wed Nov 11 2026. No macro, syntax, notation, axiom, sorry.
-/
import Derived.Test.YtgiiegppaleldaaGreatDoorRows
import GoSem.ClaimSeven
namespace Go.Proofs.YtgiiegppaleldaaGreatDoor
namespace Rows

/-- THE TIED CARD OF 'embassylaw.Boots'. -/
def bootsCard : Claim7 := { stood := { row := bootsRow, standIns := [], harness := (true, "d05faa771f17b92f3cf5b79ba8d3e9639fa7f3e92012228cafdef88d90d25477"), looks := true }, kinds := [], alts := [], laidByText := true, laidKinds := [.data, .data, .data, .handle], laidTests := true, laidLooks := .later }
def BootsCardSaid : Prop := Claim7.holds Tryz.pinned (.plain (OpenSpec.ofChange bootsSpec)) bootsCard

/-- THE TIED CARD OF 'embassylaw.Holds'. -/
def holdsCard : Claim7 := { stood := { row := holdsRow, standIns := [], harness := (true, "d05faa771f17b92f3cf5b79ba8d3e9639fa7f3e92012228cafdef88d90d25477"), looks := true }, kinds := [], alts := [], laidByText := true, laidKinds := [.data, .data, .data, .handle], laidTests := true, laidLooks := .later }
def HoldsCardSaid : Prop := Claim7.holds Tryz.pinned (.plain (OpenSpec.ofChange holdsSpec)) holdsCard

/-- THE SECOND FORM's CARD OF 'embassylaw.Boots'. -/
def bootsUptoCard : Claim7 := { stood := { row := bootsUptoRow, standIns := [], harness := (true, "d05faa771f17b92f3cf5b79ba8d3e9639fa7f3e92012228cafdef88d90d25477"), looks := true }, kinds := [], alts := [], laidByText := true, laidKinds := [.data, .data, .data, .handle], laidTests := true, laidLooks := .later }
def BootsUptoCardSaid : Prop := Claim7.holds Tryz.pinned (.plain (OpenSpec.upto bootsSpec)) bootsUptoCard

/-- THE SECOND FORM's CARD OF 'embassylaw.Holds'. -/
def holdsUptoCard : Claim7 := { stood := { row := holdsUptoRow, standIns := [], harness := (true, "d05faa771f17b92f3cf5b79ba8d3e9639fa7f3e92012228cafdef88d90d25477"), looks := true }, kinds := [], alts := [], laidByText := true, laidKinds := [.data, .data, .data, .handle], laidTests := true, laidLooks := .later }
def HoldsUptoCardSaid : Prop := Claim7.holds Tryz.pinned (.plain (OpenSpec.upto holdsSpec)) holdsUptoCard
end Rows
end Go.Proofs.YtgiiegppaleldaaGreatDoor
