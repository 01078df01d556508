/-
  DERIVED. GIVEN WITH THE SEED: THE CARDS: each row of YtliehednnhilkaaDoorRows.lean that lists a variable, with what it lists TIED to the program's text (the seventh form; the later family's looks); each row that meets fmt, with fmt's text TOLD by the authors' own Lean function (tested against real Go, not proved from fmt's source: count such statements apart). THE CARD IS WHAT COUNTS. Prove the row's statement (the work); the ties are given (YtliehednnhilkaaDoorTie.lean); close each card by the builder's one call (the guide's Derived/Test/ToyasCard.lean, 'card_holds'). Laid BY PROGRAM, IN A SANDBOX (cutbox-door.mjs). By AI agents, Wed Nov 11 2026. No macro, syntax, notation, axiom, sorry.
-/
import Derived.Test.YtliehednnhilkaaDoorRows
import GoSem.ClaimSeven
namespace Go.Proofs.YtliehednnhilkaaDoor
namespace Rows

/-- THE TIED CARD OF 'slagheaplaw06.LeftistPlays'. -/
def leftistPlaysCard : Claim7 := { stood := { row := leftistPlaysRow, standIns := [], harness := (true, "32da06a4476a8cec2fcbb1a5f4e2e588daeee5abb30ff9aff8b7091af2679c10"), looks := false }, kinds := [], alts := [], laidByText := true, laidKinds := [.data, .data, .data], laidTests := true, laidLooks := .later }
def LeftistPlaysCardSaid : Prop := Claim7.holds Tryd.pinned (.plain (OpenSpec.ofChange leftistPlaysSpec)) leftistPlaysCard

/-- THE TIED CARD OF 'slagheaplaw06.LeftistSorts'. -/
def leftistSortsCard : Claim7 := { stood := { row := leftistSortsRow, standIns := [], harness := (true, "32da06a4476a8cec2fcbb1a5f4e2e588daeee5abb30ff9aff8b7091af2679c10"), looks := false }, kinds := [], alts := [], laidByText := true, laidKinds := [.data, .data, .data], laidTests := true, laidLooks := .later }
def LeftistSortsCardSaid : Prop := Claim7.holds Tryd.pinned (.plain (OpenSpec.ofChange leftistSortsSpec)) leftistSortsCard

/-- THE TIED CARD OF 'slagheaplaw06.LeftistCounts'. -/
def leftistCountsCard : Claim7 := { stood := { row := leftistCountsRow, standIns := [], harness := (true, "32da06a4476a8cec2fcbb1a5f4e2e588daeee5abb30ff9aff8b7091af2679c10"), looks := false }, kinds := [], alts := [], laidByText := true, laidKinds := [.data, .data, .data], laidTests := true, laidLooks := .later }
def LeftistCountsCardSaid : Prop := Claim7.holds Tryd.pinned (.plain (OpenSpec.ofChange leftistCountsSpec)) leftistCountsCard

/-- THE TIED CARD OF 'slagheaplaw06.LeftistRight'. -/
def leftistRightCard : Claim7 := { stood := { row := leftistRightRow, standIns := [], harness := (true, "32da06a4476a8cec2fcbb1a5f4e2e588daeee5abb30ff9aff8b7091af2679c10"), looks := false }, kinds := [], alts := [], laidByText := true, laidKinds := [.data, .data, .data], laidTests := true, laidLooks := .later }
def LeftistRightCardSaid : Prop := Claim7.holds Tryd.pinned (.plain (OpenSpec.ofChange leftistRightSpec)) leftistRightCard

/-- THE TIED CARD OF 'slagheaplaw06.LeftistCommutes'. -/
def leftistCommutesCard : Claim7 := { stood := { row := leftistCommutesRow, standIns := [], harness := (true, "32da06a4476a8cec2fcbb1a5f4e2e588daeee5abb30ff9aff8b7091af2679c10"), looks := false }, kinds := [], alts := [], laidByText := true, laidKinds := [.data, .data, .data], laidTests := true, laidLooks := .later }
def LeftistCommutesCardSaid : Prop := Claim7.holds Tryd.pinned (.plain (OpenSpec.ofChange leftistCommutesSpec)) leftistCommutesCard

/-- THE TIED CARD OF 'slagheaplaw06.LeftistLeast'. -/
def leftistLeastCard : Claim7 := { stood := { row := leftistLeastRow, standIns := [], harness := (true, "32da06a4476a8cec2fcbb1a5f4e2e588daeee5abb30ff9aff8b7091af2679c10"), looks := false }, kinds := [], alts := [], laidByText := true, laidKinds := [.data, .data, .data], laidTests := true, laidLooks := .later }
def LeftistLeastCardSaid : Prop := Claim7.holds Tryd.pinned (.plain (OpenSpec.ofChange leftistLeastSpec)) leftistLeastCard

/-- THE TIED CARD OF 'slagheaplaw06.LeftistStays'. -/
def leftistStaysCard : Claim7 := { stood := { row := leftistStaysRow, standIns := [], harness := (true, "32da06a4476a8cec2fcbb1a5f4e2e588daeee5abb30ff9aff8b7091af2679c10"), looks := false }, kinds := [], alts := [], laidByText := true, laidKinds := [.data, .data, .data], laidTests := true, laidLooks := .later }
def LeftistStaysCardSaid : Prop := Claim7.holds Tryd.pinned (.plain (OpenSpec.ofChange leftistStaysSpec)) leftistStaysCard

/-- THE TIED CARD OF 'slagheaplaw06.LeftistDoubles'. -/
def leftistDoublesCard : Claim7 := { stood := { row := leftistDoublesRow, standIns := [], harness := (true, "32da06a4476a8cec2fcbb1a5f4e2e588daeee5abb30ff9aff8b7091af2679c10"), looks := false }, kinds := [], alts := [], laidByText := true, laidKinds := [.data, .data, .data], laidTests := true, laidLooks := .later }
def LeftistDoublesCardSaid : Prop := Claim7.holds Tryd.pinned (.plain (OpenSpec.ofChange leftistDoublesSpec)) leftistDoublesCard

/-- THE TIED CARD OF 'slagheaplaw06.LeftistEnds'. -/
def leftistEndsCard : Claim7 := { stood := { row := leftistEndsRow, standIns := [], harness := (true, "32da06a4476a8cec2fcbb1a5f4e2e588daeee5abb30ff9aff8b7091af2679c10"), looks := false }, kinds := [], alts := [], laidByText := true, laidKinds := [.data, .data, .data], laidTests := true, laidLooks := .later }
def LeftistEndsCardSaid : Prop := Claim7.holds Tryd.pinned (.plain (OpenSpec.ofChange leftistEndsSpec)) leftistEndsCard

/-- THE TIED CARD OF 'slagheaplaw06.LeftistFolds'. -/
def leftistFoldsCard : Claim7 := { stood := { row := leftistFoldsRow, standIns := [], harness := (true, "32da06a4476a8cec2fcbb1a5f4e2e588daeee5abb30ff9aff8b7091af2679c10"), looks := false }, kinds := [], alts := [], laidByText := true, laidKinds := [.data, .data, .data], laidTests := true, laidLooks := .later }
def LeftistFoldsCardSaid : Prop := Claim7.holds Tryd.pinned (.plain (OpenSpec.ofChange leftistFoldsSpec)) leftistFoldsCard

/-- THE TIED CARD OF 'slagheaplaw06.LeftistAgain'. -/
def leftistAgainCard : Claim7 := { stood := { row := leftistAgainRow, standIns := [], harness := (true, "32da06a4476a8cec2fcbb1a5f4e2e588daeee5abb30ff9aff8b7091af2679c10"), looks := false }, kinds := [], alts := [], laidByText := true, laidKinds := [.data, .data, .data], laidTests := true, laidLooks := .later }
def LeftistAgainCardSaid : Prop := Claim7.holds Tryd.pinned (.plain (OpenSpec.ofChange leftistAgainSpec)) leftistAgainCard

/-- THE SECOND FORM's CARD OF 'slagheaplaw06.LeftistPlays'. -/
def leftistPlaysUptoCard : Claim7 := { stood := { row := leftistPlaysUptoRow, standIns := [], harness := (true, "32da06a4476a8cec2fcbb1a5f4e2e588daeee5abb30ff9aff8b7091af2679c10"), looks := false }, kinds := [], alts := [], laidByText := true, laidKinds := [.data, .data, .data], laidTests := true, laidLooks := .later }
def LeftistPlaysUptoCardSaid : Prop := Claim7.holds Tryd.pinned (.plain (OpenSpec.upto leftistPlaysSpec)) leftistPlaysUptoCard

/-- THE SECOND FORM's CARD OF 'slagheaplaw06.LeftistSorts'. -/
def leftistSortsUptoCard : Claim7 := { stood := { row := leftistSortsUptoRow, standIns := [], harness := (true, "32da06a4476a8cec2fcbb1a5f4e2e588daeee5abb30ff9aff8b7091af2679c10"), looks := false }, kinds := [], alts := [], laidByText := true, laidKinds := [.data, .data, .data], laidTests := true, laidLooks := .later }
def LeftistSortsUptoCardSaid : Prop := Claim7.holds Tryd.pinned (.plain (OpenSpec.upto leftistSortsSpec)) leftistSortsUptoCard

/-- THE SECOND FORM's CARD OF 'slagheaplaw06.LeftistCounts'. -/
def leftistCountsUptoCard : Claim7 := { stood := { row := leftistCountsUptoRow, standIns := [], harness := (true, "32da06a4476a8cec2fcbb1a5f4e2e588daeee5abb30ff9aff8b7091af2679c10"), looks := false }, kinds := [], alts := [], laidByText := true, laidKinds := [.data, .data, .data], laidTests := true, laidLooks := .later }
def LeftistCountsUptoCardSaid : Prop := Claim7.holds Tryd.pinned (.plain (OpenSpec.upto leftistCountsSpec)) leftistCountsUptoCard

/-- THE SECOND FORM's CARD OF 'slagheaplaw06.LeftistRight'. -/
def leftistRightUptoCard : Claim7 := { stood := { row := leftistRightUptoRow, standIns := [], harness := (true, "32da06a4476a8cec2fcbb1a5f4e2e588daeee5abb30ff9aff8b7091af2679c10"), looks := false }, kinds := [], alts := [], laidByText := true, laidKinds := [.data, .data, .data], laidTests := true, laidLooks := .later }
def LeftistRightUptoCardSaid : Prop := Claim7.holds Tryd.pinned (.plain (OpenSpec.upto leftistRightSpec)) leftistRightUptoCard

/-- THE SECOND FORM's CARD OF 'slagheaplaw06.LeftistCommutes'. -/
def leftistCommutesUptoCard : Claim7 := { stood := { row := leftistCommutesUptoRow, standIns := [], harness := (true, "32da06a4476a8cec2fcbb1a5f4e2e588daeee5abb30ff9aff8b7091af2679c10"), looks := false }, kinds := [], alts := [], laidByText := true, laidKinds := [.data, .data, .data], laidTests := true, laidLooks := .later }
def LeftistCommutesUptoCardSaid : Prop := Claim7.holds Tryd.pinned (.plain (OpenSpec.upto leftistCommutesSpec)) leftistCommutesUptoCard

/-- THE SECOND FORM's CARD OF 'slagheaplaw06.LeftistLeast'. -/
def leftistLeastUptoCard : Claim7 := { stood := { row := leftistLeastUptoRow, standIns := [], harness := (true, "32da06a4476a8cec2fcbb1a5f4e2e588daeee5abb30ff9aff8b7091af2679c10"), looks := false }, kinds := [], alts := [], laidByText := true, laidKinds := [.data, .data, .data], laidTests := true, laidLooks := .later }
def LeftistLeastUptoCardSaid : Prop := Claim7.holds Tryd.pinned (.plain (OpenSpec.upto leftistLeastSpec)) leftistLeastUptoCard

/-- THE SECOND FORM's CARD OF 'slagheaplaw06.LeftistStays'. -/
def leftistStaysUptoCard : Claim7 := { stood := { row := leftistStaysUptoRow, standIns := [], harness := (true, "32da06a4476a8cec2fcbb1a5f4e2e588daeee5abb30ff9aff8b7091af2679c10"), looks := false }, kinds := [], alts := [], laidByText := true, laidKinds := [.data, .data, .data], laidTests := true, laidLooks := .later }
def LeftistStaysUptoCardSaid : Prop := Claim7.holds Tryd.pinned (.plain (OpenSpec.upto leftistStaysSpec)) leftistStaysUptoCard

/-- THE SECOND FORM's CARD OF 'slagheaplaw06.LeftistDoubles'. -/
def leftistDoublesUptoCard : Claim7 := { stood := { row := leftistDoublesUptoRow, standIns := [], harness := (true, "32da06a4476a8cec2fcbb1a5f4e2e588daeee5abb30ff9aff8b7091af2679c10"), looks := false }, kinds := [], alts := [], laidByText := true, laidKinds := [.data, .data, .data], laidTests := true, laidLooks := .later }
def LeftistDoublesUptoCardSaid : Prop := Claim7.holds Tryd.pinned (.plain (OpenSpec.upto leftistDoublesSpec)) leftistDoublesUptoCard

/-- THE SECOND FORM's CARD OF 'slagheaplaw06.LeftistEnds'. -/
def leftistEndsUptoCard : Claim7 := { stood := { row := leftistEndsUptoRow, standIns := [], harness := (true, "32da06a4476a8cec2fcbb1a5f4e2e588daeee5abb30ff9aff8b7091af2679c10"), looks := false }, kinds := [], alts := [], laidByText := true, laidKinds := [.data, .data, .data], laidTests := true, laidLooks := .later }
def LeftistEndsUptoCardSaid : Prop := Claim7.holds Tryd.pinned (.plain (OpenSpec.upto leftistEndsSpec)) leftistEndsUptoCard

/-- THE SECOND FORM's CARD OF 'slagheaplaw06.LeftistFolds'. -/
def leftistFoldsUptoCard : Claim7 := { stood := { row := leftistFoldsUptoRow, standIns := [], harness := (true, "32da06a4476a8cec2fcbb1a5f4e2e588daeee5abb30ff9aff8b7091af2679c10"), looks := false }, kinds := [], alts := [], laidByText := true, laidKinds := [.data, .data, .data], laidTests := true, laidLooks := .later }
def LeftistFoldsUptoCardSaid : Prop := Claim7.holds Tryd.pinned (.plain (OpenSpec.upto leftistFoldsSpec)) leftistFoldsUptoCard

/-- THE SECOND FORM's CARD OF 'slagheaplaw06.LeftistAgain'. -/
def leftistAgainUptoCard : Claim7 := { stood := { row := leftistAgainUptoRow, standIns := [], harness := (true, "32da06a4476a8cec2fcbb1a5f4e2e588daeee5abb30ff9aff8b7091af2679c10"), looks := false }, kinds := [], alts := [], laidByText := true, laidKinds := [.data, .data, .data], laidTests := true, laidLooks := .later }
def LeftistAgainUptoCardSaid : Prop := Claim7.holds Tryd.pinned (.plain (OpenSpec.upto leftistAgainSpec)) leftistAgainUptoCard
end Rows
end Go.Proofs.YtliehednnhilkaaDoor
