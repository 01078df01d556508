/-
  DERIVED. GIVEN WITH THE SEED: THE CARDS: each row of YtlaohkflnkjamaaGreatDoorRows.lean that lists a variable, with what it lists TIED to the program's text (the seventh form; the later family's looks); each row that meets fmt, with fmt's text TOLD by the authors' own Lean function (tested against real Go, not proved from fmt's source: count such statements apart). THE CARD IS WHAT COUNTS. Prove the row's statement (the work); the ties are given (YtlaohkflnkjamaaGreatDoorTie.lean); close each card by the builder's one call (the guide's Derived/Test/ToyasCard.lean, 'card_holds'). Laid BY PROGRAM, IN A SANDBOX (cutbox-door.mjs). By AI agents, Wed Nov 11 2026. No macro, syntax, notation, axiom, sorry.
-/
import Derived.Test.YtlaohkflnkjamaaGreatDoorRows
import GoSem.ClaimSeven
namespace Go.Proofs.YtlaohkflnkjamaaGreatDoor
namespace Rows

/-- THE TIED CARD OF 'slagheaplaw09.SkewPlays'. -/
def skewPlaysCard : Claim7 := { stood := { row := skewPlaysRow, standIns := [], harness := (true, "09ad7f48622a9298130b858a2b1ecf198f7f224ed89301ff964350c944ae31b8"), looks := false }, kinds := [], alts := [], laidByText := true, laidKinds := [.data, .data, .data], laidTests := true, laidLooks := .later }
def SkewPlaysCardSaid : Prop := Claim7.holds Tryz.pinned (.plain (OpenSpec.ofChange skewPlaysSpec)) skewPlaysCard

/-- THE SECOND FORM's CARD OF 'slagheaplaw09.SkewPlays'. -/
def skewPlaysUptoCard : Claim7 := { stood := { row := skewPlaysUptoRow, standIns := [], harness := (true, "09ad7f48622a9298130b858a2b1ecf198f7f224ed89301ff964350c944ae31b8"), looks := false }, kinds := [], alts := [], laidByText := true, laidKinds := [.data, .data, .data], laidTests := true, laidLooks := .later }
def SkewPlaysUptoCardSaid : Prop := Claim7.holds Tryz.pinned (.plain (OpenSpec.upto skewPlaysSpec)) skewPlaysUptoCard
end Rows
end Go.Proofs.YtlaohkflnkjamaaGreatDoor
