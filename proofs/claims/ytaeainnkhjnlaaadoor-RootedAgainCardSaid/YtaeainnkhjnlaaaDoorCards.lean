/-
  DERIVED. GIVEN WITH THE SEED: THE CARDS: each row of YtaeainnkhjnlaaaDoorRows.lean that lists a variable, with what it lists TIED to the program's text (the seventh form; the later family's looks); each row that meets fmt, with fmt's text TOLD by the authors' own Lean function (tested against real Go, not proved from fmt's source: count such statements apart). THE CARD IS WHAT COUNTS. Prove the row's statement (the work); the ties are given (YtaeainnkhjnlaaaDoorTie.lean); close each card by the builder's one call (the guide's Derived/Test/ToyasCard.lean, 'card_holds'). Laid BY PROGRAM, IN A SANDBOX (cutbox-door.mjs). By AI agents, Wed Nov 11 2026. No macro, syntax, notation, axiom, sorry.
-/
import Derived.Test.YtaeainnkhjnlaaaDoorRows
import GoSem.ClaimSeven
namespace Go.Proofs.YtaeainnkhjnlaaaDoor
namespace Rows

/-- THE TIED CARD OF 'slagheaplaw10.RootedSorts'. -/
def rootedSortsCard : Claim7 := { stood := { row := rootedSortsRow, standIns := [], harness := (true, "bf0e363e29e8adb5badbbb25134f6f261eba8f5165cfb9fd4ed2f64de34a9da8"), looks := false }, kinds := [], alts := [], laidByText := true, laidKinds := [.data, .data, .data], laidTests := true, laidLooks := .later }
def RootedSortsCardSaid : Prop := Claim7.holds Tryd.pinned (.plain (OpenSpec.ofChange rootedSortsSpec)) rootedSortsCard

/-- THE TIED CARD OF 'slagheaplaw10.RootedCounts'. -/
def rootedCountsCard : Claim7 := { stood := { row := rootedCountsRow, standIns := [], harness := (true, "bf0e363e29e8adb5badbbb25134f6f261eba8f5165cfb9fd4ed2f64de34a9da8"), looks := false }, kinds := [], alts := [], laidByText := true, laidKinds := [.data, .data, .data], laidTests := true, laidLooks := .later }
def RootedCountsCardSaid : Prop := Claim7.holds Tryd.pinned (.plain (OpenSpec.ofChange rootedCountsSpec)) rootedCountsCard

/-- THE TIED CARD OF 'slagheaplaw10.RootedSteps'. -/
def rootedStepsCard : Claim7 := { stood := { row := rootedStepsRow, standIns := [], harness := (true, "bf0e363e29e8adb5badbbb25134f6f261eba8f5165cfb9fd4ed2f64de34a9da8"), looks := false }, kinds := [], alts := [], laidByText := true, laidKinds := [.data, .data, .data], laidTests := true, laidLooks := .later }
def RootedStepsCardSaid : Prop := Claim7.holds Tryd.pinned (.plain (OpenSpec.ofChange rootedStepsSpec)) rootedStepsCard

/-- THE TIED CARD OF 'slagheaplaw10.RootedCommutes'. -/
def rootedCommutesCard : Claim7 := { stood := { row := rootedCommutesRow, standIns := [], harness := (true, "bf0e363e29e8adb5badbbb25134f6f261eba8f5165cfb9fd4ed2f64de34a9da8"), looks := false }, kinds := [], alts := [], laidByText := true, laidKinds := [.data, .data, .data], laidTests := true, laidLooks := .later }
def RootedCommutesCardSaid : Prop := Claim7.holds Tryd.pinned (.plain (OpenSpec.ofChange rootedCommutesSpec)) rootedCommutesCard

/-- THE TIED CARD OF 'slagheaplaw10.RootedLeast'. -/
def rootedLeastCard : Claim7 := { stood := { row := rootedLeastRow, standIns := [], harness := (true, "bf0e363e29e8adb5badbbb25134f6f261eba8f5165cfb9fd4ed2f64de34a9da8"), looks := false }, kinds := [], alts := [], laidByText := true, laidKinds := [.data, .data, .data], laidTests := true, laidLooks := .later }
def RootedLeastCardSaid : Prop := Claim7.holds Tryd.pinned (.plain (OpenSpec.ofChange rootedLeastSpec)) rootedLeastCard

/-- THE TIED CARD OF 'slagheaplaw10.RootedStays'. -/
def rootedStaysCard : Claim7 := { stood := { row := rootedStaysRow, standIns := [], harness := (true, "bf0e363e29e8adb5badbbb25134f6f261eba8f5165cfb9fd4ed2f64de34a9da8"), looks := false }, kinds := [], alts := [], laidByText := true, laidKinds := [.data, .data, .data], laidTests := true, laidLooks := .later }
def RootedStaysCardSaid : Prop := Claim7.holds Tryd.pinned (.plain (OpenSpec.ofChange rootedStaysSpec)) rootedStaysCard

/-- THE TIED CARD OF 'slagheaplaw10.RootedDoubles'. -/
def rootedDoublesCard : Claim7 := { stood := { row := rootedDoublesRow, standIns := [], harness := (true, "bf0e363e29e8adb5badbbb25134f6f261eba8f5165cfb9fd4ed2f64de34a9da8"), looks := false }, kinds := [], alts := [], laidByText := true, laidKinds := [.data, .data, .data], laidTests := true, laidLooks := .later }
def RootedDoublesCardSaid : Prop := Claim7.holds Tryd.pinned (.plain (OpenSpec.ofChange rootedDoublesSpec)) rootedDoublesCard

/-- THE TIED CARD OF 'slagheaplaw10.RootedEnds'. -/
def rootedEndsCard : Claim7 := { stood := { row := rootedEndsRow, standIns := [], harness := (true, "bf0e363e29e8adb5badbbb25134f6f261eba8f5165cfb9fd4ed2f64de34a9da8"), looks := false }, kinds := [], alts := [], laidByText := true, laidKinds := [.data, .data, .data], laidTests := true, laidLooks := .later }
def RootedEndsCardSaid : Prop := Claim7.holds Tryd.pinned (.plain (OpenSpec.ofChange rootedEndsSpec)) rootedEndsCard

/-- THE TIED CARD OF 'slagheaplaw10.RootedFolds'. -/
def rootedFoldsCard : Claim7 := { stood := { row := rootedFoldsRow, standIns := [], harness := (true, "bf0e363e29e8adb5badbbb25134f6f261eba8f5165cfb9fd4ed2f64de34a9da8"), looks := false }, kinds := [], alts := [], laidByText := true, laidKinds := [.data, .data, .data], laidTests := true, laidLooks := .later }
def RootedFoldsCardSaid : Prop := Claim7.holds Tryd.pinned (.plain (OpenSpec.ofChange rootedFoldsSpec)) rootedFoldsCard

/-- THE TIED CARD OF 'slagheaplaw10.RootedAgain'. -/
def rootedAgainCard : Claim7 := { stood := { row := rootedAgainRow, standIns := [], harness := (true, "bf0e363e29e8adb5badbbb25134f6f261eba8f5165cfb9fd4ed2f64de34a9da8"), looks := false }, kinds := [], alts := [], laidByText := true, laidKinds := [.data, .data, .data], laidTests := true, laidLooks := .later }
def RootedAgainCardSaid : Prop := Claim7.holds Tryd.pinned (.plain (OpenSpec.ofChange rootedAgainSpec)) rootedAgainCard

/-- THE SECOND FORM's CARD OF 'slagheaplaw10.RootedSorts'. -/
def rootedSortsUptoCard : Claim7 := { stood := { row := rootedSortsUptoRow, standIns := [], harness := (true, "bf0e363e29e8adb5badbbb25134f6f261eba8f5165cfb9fd4ed2f64de34a9da8"), looks := false }, kinds := [], alts := [], laidByText := true, laidKinds := [.data, .data, .data], laidTests := true, laidLooks := .later }
def RootedSortsUptoCardSaid : Prop := Claim7.holds Tryd.pinned (.plain (OpenSpec.upto rootedSortsSpec)) rootedSortsUptoCard

/-- THE SECOND FORM's CARD OF 'slagheaplaw10.RootedCounts'. -/
def rootedCountsUptoCard : Claim7 := { stood := { row := rootedCountsUptoRow, standIns := [], harness := (true, "bf0e363e29e8adb5badbbb25134f6f261eba8f5165cfb9fd4ed2f64de34a9da8"), looks := false }, kinds := [], alts := [], laidByText := true, laidKinds := [.data, .data, .data], laidTests := true, laidLooks := .later }
def RootedCountsUptoCardSaid : Prop := Claim7.holds Tryd.pinned (.plain (OpenSpec.upto rootedCountsSpec)) rootedCountsUptoCard

/-- THE SECOND FORM's CARD OF 'slagheaplaw10.RootedSteps'. -/
def rootedStepsUptoCard : Claim7 := { stood := { row := rootedStepsUptoRow, standIns := [], harness := (true, "bf0e363e29e8adb5badbbb25134f6f261eba8f5165cfb9fd4ed2f64de34a9da8"), looks := false }, kinds := [], alts := [], laidByText := true, laidKinds := [.data, .data, .data], laidTests := true, laidLooks := .later }
def RootedStepsUptoCardSaid : Prop := Claim7.holds Tryd.pinned (.plain (OpenSpec.upto rootedStepsSpec)) rootedStepsUptoCard

/-- THE SECOND FORM's CARD OF 'slagheaplaw10.RootedCommutes'. -/
def rootedCommutesUptoCard : Claim7 := { stood := { row := rootedCommutesUptoRow, standIns := [], harness := (true, "bf0e363e29e8adb5badbbb25134f6f261eba8f5165cfb9fd4ed2f64de34a9da8"), looks := false }, kinds := [], alts := [], laidByText := true, laidKinds := [.data, .data, .data], laidTests := true, laidLooks := .later }
def RootedCommutesUptoCardSaid : Prop := Claim7.holds Tryd.pinned (.plain (OpenSpec.upto rootedCommutesSpec)) rootedCommutesUptoCard

/-- THE SECOND FORM's CARD OF 'slagheaplaw10.RootedLeast'. -/
def rootedLeastUptoCard : Claim7 := { stood := { row := rootedLeastUptoRow, standIns := [], harness := (true, "bf0e363e29e8adb5badbbb25134f6f261eba8f5165cfb9fd4ed2f64de34a9da8"), looks := false }, kinds := [], alts := [], laidByText := true, laidKinds := [.data, .data, .data], laidTests := true, laidLooks := .later }
def RootedLeastUptoCardSaid : Prop := Claim7.holds Tryd.pinned (.plain (OpenSpec.upto rootedLeastSpec)) rootedLeastUptoCard

/-- THE SECOND FORM's CARD OF 'slagheaplaw10.RootedStays'. -/
def rootedStaysUptoCard : Claim7 := { stood := { row := rootedStaysUptoRow, standIns := [], harness := (true, "bf0e363e29e8adb5badbbb25134f6f261eba8f5165cfb9fd4ed2f64de34a9da8"), looks := false }, kinds := [], alts := [], laidByText := true, laidKinds := [.data, .data, .data], laidTests := true, laidLooks := .later }
def RootedStaysUptoCardSaid : Prop := Claim7.holds Tryd.pinned (.plain (OpenSpec.upto rootedStaysSpec)) rootedStaysUptoCard

/-- THE SECOND FORM's CARD OF 'slagheaplaw10.RootedDoubles'. -/
def rootedDoublesUptoCard : Claim7 := { stood := { row := rootedDoublesUptoRow, standIns := [], harness := (true, "bf0e363e29e8adb5badbbb25134f6f261eba8f5165cfb9fd4ed2f64de34a9da8"), looks := false }, kinds := [], alts := [], laidByText := true, laidKinds := [.data, .data, .data], laidTests := true, laidLooks := .later }
def RootedDoublesUptoCardSaid : Prop := Claim7.holds Tryd.pinned (.plain (OpenSpec.upto rootedDoublesSpec)) rootedDoublesUptoCard

/-- THE SECOND FORM's CARD OF 'slagheaplaw10.RootedEnds'. -/
def rootedEndsUptoCard : Claim7 := { stood := { row := rootedEndsUptoRow, standIns := [], harness := (true, "bf0e363e29e8adb5badbbb25134f6f261eba8f5165cfb9fd4ed2f64de34a9da8"), looks := false }, kinds := [], alts := [], laidByText := true, laidKinds := [.data, .data, .data], laidTests := true, laidLooks := .later }
def RootedEndsUptoCardSaid : Prop := Claim7.holds Tryd.pinned (.plain (OpenSpec.upto rootedEndsSpec)) rootedEndsUptoCard

/-- THE SECOND FORM's CARD OF 'slagheaplaw10.RootedFolds'. -/
def rootedFoldsUptoCard : Claim7 := { stood := { row := rootedFoldsUptoRow, standIns := [], harness := (true, "bf0e363e29e8adb5badbbb25134f6f261eba8f5165cfb9fd4ed2f64de34a9da8"), looks := false }, kinds := [], alts := [], laidByText := true, laidKinds := [.data, .data, .data], laidTests := true, laidLooks := .later }
def RootedFoldsUptoCardSaid : Prop := Claim7.holds Tryd.pinned (.plain (OpenSpec.upto rootedFoldsSpec)) rootedFoldsUptoCard

/-- THE SECOND FORM's CARD OF 'slagheaplaw10.RootedAgain'. -/
def rootedAgainUptoCard : Claim7 := { stood := { row := rootedAgainUptoRow, standIns := [], harness := (true, "bf0e363e29e8adb5badbbb25134f6f261eba8f5165cfb9fd4ed2f64de34a9da8"), looks := false }, kinds := [], alts := [], laidByText := true, laidKinds := [.data, .data, .data], laidTests := true, laidLooks := .later }
def RootedAgainUptoCardSaid : Prop := Claim7.holds Tryd.pinned (.plain (OpenSpec.upto rootedAgainSpec)) rootedAgainUptoCard
end Rows
end Go.Proofs.YtaeainnkhjnlaaaDoor
