/-
  DERIVED. GIVEN WITH THE SEED: THE CARDS: each row of YtkilmflcgljgeaaDoorRows.lean that lists a variable, with what it lists TIED to the program's text (the seventh form; the later family's looks); each row that meets fmt, with fmt's text TOLD by the authors' own Lean function (tested against real Go, not proved from fmt's source: count such statements apart). THE CARD IS WHAT COUNTS. Prove the row's statement (the work); the ties are given (YtkilmflcgljgeaaDoorTie.lean); close each card by the builder's one call (the guide's Derived/Test/ToyasCard.lean, 'card_holds'). Laid BY PROGRAM, IN A SANDBOX (cutbox-door.mjs). By AI agents, Wed Nov 11 2026. No macro, syntax, notation, axiom, sorry.
-/
import Derived.Test.YtkilmflcgljgeaaDoorRows
import GoSem.ClaimSeven
namespace Go.Proofs.YtkilmflcgljgeaaDoor
namespace Rows

/-- THE TIED CARD OF 'slagheaplaw07.BinomialPlays'. -/
def binomialPlaysCard : Claim7 := { stood := { row := binomialPlaysRow, standIns := [], harness := (true, "7f09c8f5737b03437681dd2b4f788e42f79e57116f30c0e014a82a0f402a77f5"), looks := false }, kinds := [], alts := [], laidByText := true, laidKinds := [.data, .data, .data], laidTests := true, laidLooks := .later }
def BinomialPlaysCardSaid : Prop := Claim7.holds Tryd.pinned (.plain (OpenSpec.ofChange binomialPlaysSpec)) binomialPlaysCard

/-- THE TIED CARD OF 'slagheaplaw07.BinomialSorts'. -/
def binomialSortsCard : Claim7 := { stood := { row := binomialSortsRow, standIns := [], harness := (true, "7f09c8f5737b03437681dd2b4f788e42f79e57116f30c0e014a82a0f402a77f5"), looks := false }, kinds := [], alts := [], laidByText := true, laidKinds := [.data, .data, .data], laidTests := true, laidLooks := .later }
def BinomialSortsCardSaid : Prop := Claim7.holds Tryd.pinned (.plain (OpenSpec.ofChange binomialSortsSpec)) binomialSortsCard

/-- THE TIED CARD OF 'slagheaplaw07.BinomialCounts'. -/
def binomialCountsCard : Claim7 := { stood := { row := binomialCountsRow, standIns := [], harness := (true, "7f09c8f5737b03437681dd2b4f788e42f79e57116f30c0e014a82a0f402a77f5"), looks := false }, kinds := [], alts := [], laidByText := true, laidKinds := [.data, .data, .data], laidTests := true, laidLooks := .later }
def BinomialCountsCardSaid : Prop := Claim7.holds Tryd.pinned (.plain (OpenSpec.ofChange binomialCountsSpec)) binomialCountsCard

/-- THE TIED CARD OF 'slagheaplaw07.BinomialBits'. -/
def binomialBitsCard : Claim7 := { stood := { row := binomialBitsRow, standIns := [], harness := (true, "7f09c8f5737b03437681dd2b4f788e42f79e57116f30c0e014a82a0f402a77f5"), looks := false }, kinds := [], alts := [], laidByText := true, laidKinds := [.data, .data, .data], laidTests := true, laidLooks := .later }
def BinomialBitsCardSaid : Prop := Claim7.holds Tryd.pinned (.plain (OpenSpec.ofChange binomialBitsSpec)) binomialBitsCard

/-- THE TIED CARD OF 'slagheaplaw07.BinomialCommutes'. -/
def binomialCommutesCard : Claim7 := { stood := { row := binomialCommutesRow, standIns := [], harness := (true, "7f09c8f5737b03437681dd2b4f788e42f79e57116f30c0e014a82a0f402a77f5"), looks := false }, kinds := [], alts := [], laidByText := true, laidKinds := [.data, .data, .data], laidTests := true, laidLooks := .later }
def BinomialCommutesCardSaid : Prop := Claim7.holds Tryd.pinned (.plain (OpenSpec.ofChange binomialCommutesSpec)) binomialCommutesCard

/-- THE TIED CARD OF 'slagheaplaw07.BinomialLeast'. -/
def binomialLeastCard : Claim7 := { stood := { row := binomialLeastRow, standIns := [], harness := (true, "7f09c8f5737b03437681dd2b4f788e42f79e57116f30c0e014a82a0f402a77f5"), looks := false }, kinds := [], alts := [], laidByText := true, laidKinds := [.data, .data, .data], laidTests := true, laidLooks := .later }
def BinomialLeastCardSaid : Prop := Claim7.holds Tryd.pinned (.plain (OpenSpec.ofChange binomialLeastSpec)) binomialLeastCard

/-- THE TIED CARD OF 'slagheaplaw07.BinomialStays'. -/
def binomialStaysCard : Claim7 := { stood := { row := binomialStaysRow, standIns := [], harness := (true, "7f09c8f5737b03437681dd2b4f788e42f79e57116f30c0e014a82a0f402a77f5"), looks := false }, kinds := [], alts := [], laidByText := true, laidKinds := [.data, .data, .data], laidTests := true, laidLooks := .later }
def BinomialStaysCardSaid : Prop := Claim7.holds Tryd.pinned (.plain (OpenSpec.ofChange binomialStaysSpec)) binomialStaysCard

/-- THE TIED CARD OF 'slagheaplaw07.BinomialDoubles'. -/
def binomialDoublesCard : Claim7 := { stood := { row := binomialDoublesRow, standIns := [], harness := (true, "7f09c8f5737b03437681dd2b4f788e42f79e57116f30c0e014a82a0f402a77f5"), looks := false }, kinds := [], alts := [], laidByText := true, laidKinds := [.data, .data, .data], laidTests := true, laidLooks := .later }
def BinomialDoublesCardSaid : Prop := Claim7.holds Tryd.pinned (.plain (OpenSpec.ofChange binomialDoublesSpec)) binomialDoublesCard

/-- THE TIED CARD OF 'slagheaplaw07.BinomialEnds'. -/
def binomialEndsCard : Claim7 := { stood := { row := binomialEndsRow, standIns := [], harness := (true, "7f09c8f5737b03437681dd2b4f788e42f79e57116f30c0e014a82a0f402a77f5"), looks := false }, kinds := [], alts := [], laidByText := true, laidKinds := [.data, .data, .data], laidTests := true, laidLooks := .later }
def BinomialEndsCardSaid : Prop := Claim7.holds Tryd.pinned (.plain (OpenSpec.ofChange binomialEndsSpec)) binomialEndsCard

/-- THE TIED CARD OF 'slagheaplaw07.BinomialFolds'. -/
def binomialFoldsCard : Claim7 := { stood := { row := binomialFoldsRow, standIns := [], harness := (true, "7f09c8f5737b03437681dd2b4f788e42f79e57116f30c0e014a82a0f402a77f5"), looks := false }, kinds := [], alts := [], laidByText := true, laidKinds := [.data, .data, .data], laidTests := true, laidLooks := .later }
def BinomialFoldsCardSaid : Prop := Claim7.holds Tryd.pinned (.plain (OpenSpec.ofChange binomialFoldsSpec)) binomialFoldsCard

/-- THE TIED CARD OF 'slagheaplaw07.BinomialAgain'. -/
def binomialAgainCard : Claim7 := { stood := { row := binomialAgainRow, standIns := [], harness := (true, "7f09c8f5737b03437681dd2b4f788e42f79e57116f30c0e014a82a0f402a77f5"), looks := false }, kinds := [], alts := [], laidByText := true, laidKinds := [.data, .data, .data], laidTests := true, laidLooks := .later }
def BinomialAgainCardSaid : Prop := Claim7.holds Tryd.pinned (.plain (OpenSpec.ofChange binomialAgainSpec)) binomialAgainCard

/-- THE SECOND FORM's CARD OF 'slagheaplaw07.BinomialPlays'. -/
def binomialPlaysUptoCard : Claim7 := { stood := { row := binomialPlaysUptoRow, standIns := [], harness := (true, "7f09c8f5737b03437681dd2b4f788e42f79e57116f30c0e014a82a0f402a77f5"), looks := false }, kinds := [], alts := [], laidByText := true, laidKinds := [.data, .data, .data], laidTests := true, laidLooks := .later }
def BinomialPlaysUptoCardSaid : Prop := Claim7.holds Tryd.pinned (.plain (OpenSpec.upto binomialPlaysSpec)) binomialPlaysUptoCard

/-- THE SECOND FORM's CARD OF 'slagheaplaw07.BinomialSorts'. -/
def binomialSortsUptoCard : Claim7 := { stood := { row := binomialSortsUptoRow, standIns := [], harness := (true, "7f09c8f5737b03437681dd2b4f788e42f79e57116f30c0e014a82a0f402a77f5"), looks := false }, kinds := [], alts := [], laidByText := true, laidKinds := [.data, .data, .data], laidTests := true, laidLooks := .later }
def BinomialSortsUptoCardSaid : Prop := Claim7.holds Tryd.pinned (.plain (OpenSpec.upto binomialSortsSpec)) binomialSortsUptoCard

/-- THE SECOND FORM's CARD OF 'slagheaplaw07.BinomialCounts'. -/
def binomialCountsUptoCard : Claim7 := { stood := { row := binomialCountsUptoRow, standIns := [], harness := (true, "7f09c8f5737b03437681dd2b4f788e42f79e57116f30c0e014a82a0f402a77f5"), looks := false }, kinds := [], alts := [], laidByText := true, laidKinds := [.data, .data, .data], laidTests := true, laidLooks := .later }
def BinomialCountsUptoCardSaid : Prop := Claim7.holds Tryd.pinned (.plain (OpenSpec.upto binomialCountsSpec)) binomialCountsUptoCard

/-- THE SECOND FORM's CARD OF 'slagheaplaw07.BinomialBits'. -/
def binomialBitsUptoCard : Claim7 := { stood := { row := binomialBitsUptoRow, standIns := [], harness := (true, "7f09c8f5737b03437681dd2b4f788e42f79e57116f30c0e014a82a0f402a77f5"), looks := false }, kinds := [], alts := [], laidByText := true, laidKinds := [.data, .data, .data], laidTests := true, laidLooks := .later }
def BinomialBitsUptoCardSaid : Prop := Claim7.holds Tryd.pinned (.plain (OpenSpec.upto binomialBitsSpec)) binomialBitsUptoCard

/-- THE SECOND FORM's CARD OF 'slagheaplaw07.BinomialCommutes'. -/
def binomialCommutesUptoCard : Claim7 := { stood := { row := binomialCommutesUptoRow, standIns := [], harness := (true, "7f09c8f5737b03437681dd2b4f788e42f79e57116f30c0e014a82a0f402a77f5"), looks := false }, kinds := [], alts := [], laidByText := true, laidKinds := [.data, .data, .data], laidTests := true, laidLooks := .later }
def BinomialCommutesUptoCardSaid : Prop := Claim7.holds Tryd.pinned (.plain (OpenSpec.upto binomialCommutesSpec)) binomialCommutesUptoCard

/-- THE SECOND FORM's CARD OF 'slagheaplaw07.BinomialLeast'. -/
def binomialLeastUptoCard : Claim7 := { stood := { row := binomialLeastUptoRow, standIns := [], harness := (true, "7f09c8f5737b03437681dd2b4f788e42f79e57116f30c0e014a82a0f402a77f5"), looks := false }, kinds := [], alts := [], laidByText := true, laidKinds := [.data, .data, .data], laidTests := true, laidLooks := .later }
def BinomialLeastUptoCardSaid : Prop := Claim7.holds Tryd.pinned (.plain (OpenSpec.upto binomialLeastSpec)) binomialLeastUptoCard

/-- THE SECOND FORM's CARD OF 'slagheaplaw07.BinomialStays'. -/
def binomialStaysUptoCard : Claim7 := { stood := { row := binomialStaysUptoRow, standIns := [], harness := (true, "7f09c8f5737b03437681dd2b4f788e42f79e57116f30c0e014a82a0f402a77f5"), looks := false }, kinds := [], alts := [], laidByText := true, laidKinds := [.data, .data, .data], laidTests := true, laidLooks := .later }
def BinomialStaysUptoCardSaid : Prop := Claim7.holds Tryd.pinned (.plain (OpenSpec.upto binomialStaysSpec)) binomialStaysUptoCard

/-- THE SECOND FORM's CARD OF 'slagheaplaw07.BinomialDoubles'. -/
def binomialDoublesUptoCard : Claim7 := { stood := { row := binomialDoublesUptoRow, standIns := [], harness := (true, "7f09c8f5737b03437681dd2b4f788e42f79e57116f30c0e014a82a0f402a77f5"), looks := false }, kinds := [], alts := [], laidByText := true, laidKinds := [.data, .data, .data], laidTests := true, laidLooks := .later }
def BinomialDoublesUptoCardSaid : Prop := Claim7.holds Tryd.pinned (.plain (OpenSpec.upto binomialDoublesSpec)) binomialDoublesUptoCard

/-- THE SECOND FORM's CARD OF 'slagheaplaw07.BinomialEnds'. -/
def binomialEndsUptoCard : Claim7 := { stood := { row := binomialEndsUptoRow, standIns := [], harness := (true, "7f09c8f5737b03437681dd2b4f788e42f79e57116f30c0e014a82a0f402a77f5"), looks := false }, kinds := [], alts := [], laidByText := true, laidKinds := [.data, .data, .data], laidTests := true, laidLooks := .later }
def BinomialEndsUptoCardSaid : Prop := Claim7.holds Tryd.pinned (.plain (OpenSpec.upto binomialEndsSpec)) binomialEndsUptoCard

/-- THE SECOND FORM's CARD OF 'slagheaplaw07.BinomialFolds'. -/
def binomialFoldsUptoCard : Claim7 := { stood := { row := binomialFoldsUptoRow, standIns := [], harness := (true, "7f09c8f5737b03437681dd2b4f788e42f79e57116f30c0e014a82a0f402a77f5"), looks := false }, kinds := [], alts := [], laidByText := true, laidKinds := [.data, .data, .data], laidTests := true, laidLooks := .later }
def BinomialFoldsUptoCardSaid : Prop := Claim7.holds Tryd.pinned (.plain (OpenSpec.upto binomialFoldsSpec)) binomialFoldsUptoCard

/-- THE SECOND FORM's CARD OF 'slagheaplaw07.BinomialAgain'. -/
def binomialAgainUptoCard : Claim7 := { stood := { row := binomialAgainUptoRow, standIns := [], harness := (true, "7f09c8f5737b03437681dd2b4f788e42f79e57116f30c0e014a82a0f402a77f5"), looks := false }, kinds := [], alts := [], laidByText := true, laidKinds := [.data, .data, .data], laidTests := true, laidLooks := .later }
def BinomialAgainUptoCardSaid : Prop := Claim7.holds Tryd.pinned (.plain (OpenSpec.upto binomialAgainSpec)) binomialAgainUptoCard
end Rows
end Go.Proofs.YtkilmflcgljgeaaDoor
