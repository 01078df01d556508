/-
  DERIVED. GIVEN WITH THE SEED: THE CARDS: each row of YtlaohkflnkjamaaDoorRows.lean that lists a variable, with what it lists TIED to the program's text (the seventh form; the later family's looks); each row that meets fmt, with fmt's text TOLD by the authors' own Lean function (tested against real Go, not proved from fmt's source: count such statements apart). THE CARD IS WHAT COUNTS. Prove the row's statement (the work); the ties are given (YtlaohkflnkjamaaDoorTie.lean); close each card by the builder's one call (the guide's Derived/Test/ToyasCard.lean, 'card_holds'). Laid BY PROGRAM, IN A SANDBOX (cutbox-door.mjs). By AI agents, Wed Nov 11 2026. No macro, syntax, notation, axiom, sorry.
-/
import Derived.Test.YtlaohkflnkjamaaDoorRows
import GoSem.ClaimSeven
namespace Go.Proofs.YtlaohkflnkjamaaDoor
namespace Rows

/-- THE TIED CARD OF 'slagheaplaw09.SkewSorts'. -/
def skewSortsCard : Claim7 := { stood := { row := skewSortsRow, standIns := [], harness := (true, "096e1e49b94b9e5176a173c78062d021a28fb1d62ec5fcc3476cd2b94e2ca5c8"), looks := false }, kinds := [], alts := [], laidByText := true, laidKinds := [.data, .data, .data], laidTests := true, laidLooks := .later }
def SkewSortsCardSaid : Prop := Claim7.holds Tryd.pinned (.plain (OpenSpec.ofChange skewSortsSpec)) skewSortsCard

/-- THE TIED CARD OF 'slagheaplaw09.SkewCounts'. -/
def skewCountsCard : Claim7 := { stood := { row := skewCountsRow, standIns := [], harness := (true, "096e1e49b94b9e5176a173c78062d021a28fb1d62ec5fcc3476cd2b94e2ca5c8"), looks := false }, kinds := [], alts := [], laidByText := true, laidKinds := [.data, .data, .data], laidTests := true, laidLooks := .later }
def SkewCountsCardSaid : Prop := Claim7.holds Tryd.pinned (.plain (OpenSpec.ofChange skewCountsSpec)) skewCountsCard

/-- THE TIED CARD OF 'slagheaplaw09.SkewSteps'. -/
def skewStepsCard : Claim7 := { stood := { row := skewStepsRow, standIns := [], harness := (true, "096e1e49b94b9e5176a173c78062d021a28fb1d62ec5fcc3476cd2b94e2ca5c8"), looks := false }, kinds := [], alts := [], laidByText := true, laidKinds := [.data, .data, .data], laidTests := true, laidLooks := .later }
def SkewStepsCardSaid : Prop := Claim7.holds Tryd.pinned (.plain (OpenSpec.ofChange skewStepsSpec)) skewStepsCard

/-- THE TIED CARD OF 'slagheaplaw09.SkewCommutes'. -/
def skewCommutesCard : Claim7 := { stood := { row := skewCommutesRow, standIns := [], harness := (true, "096e1e49b94b9e5176a173c78062d021a28fb1d62ec5fcc3476cd2b94e2ca5c8"), looks := false }, kinds := [], alts := [], laidByText := true, laidKinds := [.data, .data, .data], laidTests := true, laidLooks := .later }
def SkewCommutesCardSaid : Prop := Claim7.holds Tryd.pinned (.plain (OpenSpec.ofChange skewCommutesSpec)) skewCommutesCard

/-- THE TIED CARD OF 'slagheaplaw09.SkewLeast'. -/
def skewLeastCard : Claim7 := { stood := { row := skewLeastRow, standIns := [], harness := (true, "096e1e49b94b9e5176a173c78062d021a28fb1d62ec5fcc3476cd2b94e2ca5c8"), looks := false }, kinds := [], alts := [], laidByText := true, laidKinds := [.data, .data, .data], laidTests := true, laidLooks := .later }
def SkewLeastCardSaid : Prop := Claim7.holds Tryd.pinned (.plain (OpenSpec.ofChange skewLeastSpec)) skewLeastCard

/-- THE TIED CARD OF 'slagheaplaw09.SkewStays'. -/
def skewStaysCard : Claim7 := { stood := { row := skewStaysRow, standIns := [], harness := (true, "096e1e49b94b9e5176a173c78062d021a28fb1d62ec5fcc3476cd2b94e2ca5c8"), looks := false }, kinds := [], alts := [], laidByText := true, laidKinds := [.data, .data, .data], laidTests := true, laidLooks := .later }
def SkewStaysCardSaid : Prop := Claim7.holds Tryd.pinned (.plain (OpenSpec.ofChange skewStaysSpec)) skewStaysCard

/-- THE TIED CARD OF 'slagheaplaw09.SkewDoubles'. -/
def skewDoublesCard : Claim7 := { stood := { row := skewDoublesRow, standIns := [], harness := (true, "096e1e49b94b9e5176a173c78062d021a28fb1d62ec5fcc3476cd2b94e2ca5c8"), looks := false }, kinds := [], alts := [], laidByText := true, laidKinds := [.data, .data, .data], laidTests := true, laidLooks := .later }
def SkewDoublesCardSaid : Prop := Claim7.holds Tryd.pinned (.plain (OpenSpec.ofChange skewDoublesSpec)) skewDoublesCard

/-- THE TIED CARD OF 'slagheaplaw09.SkewEnds'. -/
def skewEndsCard : Claim7 := { stood := { row := skewEndsRow, standIns := [], harness := (true, "096e1e49b94b9e5176a173c78062d021a28fb1d62ec5fcc3476cd2b94e2ca5c8"), looks := false }, kinds := [], alts := [], laidByText := true, laidKinds := [.data, .data, .data], laidTests := true, laidLooks := .later }
def SkewEndsCardSaid : Prop := Claim7.holds Tryd.pinned (.plain (OpenSpec.ofChange skewEndsSpec)) skewEndsCard

/-- THE TIED CARD OF 'slagheaplaw09.SkewFolds'. -/
def skewFoldsCard : Claim7 := { stood := { row := skewFoldsRow, standIns := [], harness := (true, "096e1e49b94b9e5176a173c78062d021a28fb1d62ec5fcc3476cd2b94e2ca5c8"), looks := false }, kinds := [], alts := [], laidByText := true, laidKinds := [.data, .data, .data], laidTests := true, laidLooks := .later }
def SkewFoldsCardSaid : Prop := Claim7.holds Tryd.pinned (.plain (OpenSpec.ofChange skewFoldsSpec)) skewFoldsCard

/-- THE TIED CARD OF 'slagheaplaw09.SkewAgain'. -/
def skewAgainCard : Claim7 := { stood := { row := skewAgainRow, standIns := [], harness := (true, "096e1e49b94b9e5176a173c78062d021a28fb1d62ec5fcc3476cd2b94e2ca5c8"), looks := false }, kinds := [], alts := [], laidByText := true, laidKinds := [.data, .data, .data], laidTests := true, laidLooks := .later }
def SkewAgainCardSaid : Prop := Claim7.holds Tryd.pinned (.plain (OpenSpec.ofChange skewAgainSpec)) skewAgainCard

/-- THE SECOND FORM's CARD OF 'slagheaplaw09.SkewSorts'. -/
def skewSortsUptoCard : Claim7 := { stood := { row := skewSortsUptoRow, standIns := [], harness := (true, "096e1e49b94b9e5176a173c78062d021a28fb1d62ec5fcc3476cd2b94e2ca5c8"), looks := false }, kinds := [], alts := [], laidByText := true, laidKinds := [.data, .data, .data], laidTests := true, laidLooks := .later }
def SkewSortsUptoCardSaid : Prop := Claim7.holds Tryd.pinned (.plain (OpenSpec.upto skewSortsSpec)) skewSortsUptoCard

/-- THE SECOND FORM's CARD OF 'slagheaplaw09.SkewCounts'. -/
def skewCountsUptoCard : Claim7 := { stood := { row := skewCountsUptoRow, standIns := [], harness := (true, "096e1e49b94b9e5176a173c78062d021a28fb1d62ec5fcc3476cd2b94e2ca5c8"), looks := false }, kinds := [], alts := [], laidByText := true, laidKinds := [.data, .data, .data], laidTests := true, laidLooks := .later }
def SkewCountsUptoCardSaid : Prop := Claim7.holds Tryd.pinned (.plain (OpenSpec.upto skewCountsSpec)) skewCountsUptoCard

/-- THE SECOND FORM's CARD OF 'slagheaplaw09.SkewSteps'. -/
def skewStepsUptoCard : Claim7 := { stood := { row := skewStepsUptoRow, standIns := [], harness := (true, "096e1e49b94b9e5176a173c78062d021a28fb1d62ec5fcc3476cd2b94e2ca5c8"), looks := false }, kinds := [], alts := [], laidByText := true, laidKinds := [.data, .data, .data], laidTests := true, laidLooks := .later }
def SkewStepsUptoCardSaid : Prop := Claim7.holds Tryd.pinned (.plain (OpenSpec.upto skewStepsSpec)) skewStepsUptoCard

/-- THE SECOND FORM's CARD OF 'slagheaplaw09.SkewCommutes'. -/
def skewCommutesUptoCard : Claim7 := { stood := { row := skewCommutesUptoRow, standIns := [], harness := (true, "096e1e49b94b9e5176a173c78062d021a28fb1d62ec5fcc3476cd2b94e2ca5c8"), looks := false }, kinds := [], alts := [], laidByText := true, laidKinds := [.data, .data, .data], laidTests := true, laidLooks := .later }
def SkewCommutesUptoCardSaid : Prop := Claim7.holds Tryd.pinned (.plain (OpenSpec.upto skewCommutesSpec)) skewCommutesUptoCard

/-- THE SECOND FORM's CARD OF 'slagheaplaw09.SkewLeast'. -/
def skewLeastUptoCard : Claim7 := { stood := { row := skewLeastUptoRow, standIns := [], harness := (true, "096e1e49b94b9e5176a173c78062d021a28fb1d62ec5fcc3476cd2b94e2ca5c8"), looks := false }, kinds := [], alts := [], laidByText := true, laidKinds := [.data, .data, .data], laidTests := true, laidLooks := .later }
def SkewLeastUptoCardSaid : Prop := Claim7.holds Tryd.pinned (.plain (OpenSpec.upto skewLeastSpec)) skewLeastUptoCard

/-- THE SECOND FORM's CARD OF 'slagheaplaw09.SkewStays'. -/
def skewStaysUptoCard : Claim7 := { stood := { row := skewStaysUptoRow, standIns := [], harness := (true, "096e1e49b94b9e5176a173c78062d021a28fb1d62ec5fcc3476cd2b94e2ca5c8"), looks := false }, kinds := [], alts := [], laidByText := true, laidKinds := [.data, .data, .data], laidTests := true, laidLooks := .later }
def SkewStaysUptoCardSaid : Prop := Claim7.holds Tryd.pinned (.plain (OpenSpec.upto skewStaysSpec)) skewStaysUptoCard

/-- THE SECOND FORM's CARD OF 'slagheaplaw09.SkewDoubles'. -/
def skewDoublesUptoCard : Claim7 := { stood := { row := skewDoublesUptoRow, standIns := [], harness := (true, "096e1e49b94b9e5176a173c78062d021a28fb1d62ec5fcc3476cd2b94e2ca5c8"), looks := false }, kinds := [], alts := [], laidByText := true, laidKinds := [.data, .data, .data], laidTests := true, laidLooks := .later }
def SkewDoublesUptoCardSaid : Prop := Claim7.holds Tryd.pinned (.plain (OpenSpec.upto skewDoublesSpec)) skewDoublesUptoCard

/-- THE SECOND FORM's CARD OF 'slagheaplaw09.SkewEnds'. -/
def skewEndsUptoCard : Claim7 := { stood := { row := skewEndsUptoRow, standIns := [], harness := (true, "096e1e49b94b9e5176a173c78062d021a28fb1d62ec5fcc3476cd2b94e2ca5c8"), looks := false }, kinds := [], alts := [], laidByText := true, laidKinds := [.data, .data, .data], laidTests := true, laidLooks := .later }
def SkewEndsUptoCardSaid : Prop := Claim7.holds Tryd.pinned (.plain (OpenSpec.upto skewEndsSpec)) skewEndsUptoCard

/-- THE SECOND FORM's CARD OF 'slagheaplaw09.SkewFolds'. -/
def skewFoldsUptoCard : Claim7 := { stood := { row := skewFoldsUptoRow, standIns := [], harness := (true, "096e1e49b94b9e5176a173c78062d021a28fb1d62ec5fcc3476cd2b94e2ca5c8"), looks := false }, kinds := [], alts := [], laidByText := true, laidKinds := [.data, .data, .data], laidTests := true, laidLooks := .later }
def SkewFoldsUptoCardSaid : Prop := Claim7.holds Tryd.pinned (.plain (OpenSpec.upto skewFoldsSpec)) skewFoldsUptoCard

/-- THE SECOND FORM's CARD OF 'slagheaplaw09.SkewAgain'. -/
def skewAgainUptoCard : Claim7 := { stood := { row := skewAgainUptoRow, standIns := [], harness := (true, "096e1e49b94b9e5176a173c78062d021a28fb1d62ec5fcc3476cd2b94e2ca5c8"), looks := false }, kinds := [], alts := [], laidByText := true, laidKinds := [.data, .data, .data], laidTests := true, laidLooks := .later }
def SkewAgainUptoCardSaid : Prop := Claim7.holds Tryd.pinned (.plain (OpenSpec.upto skewAgainSpec)) skewAgainUptoCard
end Rows
end Go.Proofs.YtlaohkflnkjamaaDoor
