/-
  DERIVED. GIVEN WITH THE SEED: THE CARDS: each row of YtaeainnkhjnlaaaGreatDoorRows.lean that lists a variable, with what it lists TIED to the program's text (the seventh form; the later family's looks); each row that meets fmt, with fmt's text TOLD by the authors' own Lean function (tested against real Go, not proved from fmt's source: count such statements apart). THE CARD IS WHAT COUNTS. Prove the row's statement (the work); the ties are given (YtaeainnkhjnlaaaGreatDoorTie.lean); close each card by the builder's one call (the guide's Derived/Test/ToyasCard.lean, 'card_holds'). Laid BY PROGRAM, IN A SANDBOX (cutbox-door.mjs). By AI agents, Wed Nov 11 2026. No macro, syntax, notation, axiom, sorry.
-/
import Derived.Test.YtaeainnkhjnlaaaGreatDoorRows
import GoSem.ClaimSeven
namespace Go.Proofs.YtaeainnkhjnlaaaGreatDoor
namespace Rows

/-- THE TIED CARD OF 'slagheaplaw10.RootedPlays'. -/
def rootedPlaysCard : Claim7 := { stood := { row := rootedPlaysRow, standIns := [], harness := (true, "602546b49fe837992f48d3761b48f1991df789aab215b17b74337d47729362e7"), looks := false }, kinds := [], alts := [], laidByText := true, laidKinds := [.data, .data, .data], laidTests := true, laidLooks := .later }
def RootedPlaysCardSaid : Prop := Claim7.holds Tryz.pinned (.plain (OpenSpec.ofChange rootedPlaysSpec)) rootedPlaysCard

/-- THE SECOND FORM's CARD OF 'slagheaplaw10.RootedPlays'. -/
def rootedPlaysUptoCard : Claim7 := { stood := { row := rootedPlaysUptoRow, standIns := [], harness := (true, "602546b49fe837992f48d3761b48f1991df789aab215b17b74337d47729362e7"), looks := false }, kinds := [], alts := [], laidByText := true, laidKinds := [.data, .data, .data], laidTests := true, laidLooks := .later }
def RootedPlaysUptoCardSaid : Prop := Claim7.holds Tryz.pinned (.plain (OpenSpec.upto rootedPlaysSpec)) rootedPlaysUptoCard
end Rows
end Go.Proofs.YtaeainnkhjnlaaaGreatDoor
