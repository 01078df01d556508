/-
  DERIVED. GIVEN WITH THE SEED: THE CARDS: each row of YtpclafbolppgcaaDoorRows.lean that lists a variable, with what it lists TIED to the program's text (the seventh form; the later family's looks); each row that meets fmt, with fmt's text TOLD by the authors' own Lean function (tested against real Go, not proved from fmt's source: count such statements apart). THE CARD IS WHAT COUNTS. Prove the row's statement (the work); the ties are given (YtpclafbolppgcaaDoorTie.lean); close each card by the builder's one call (the guide's Derived/Test/ToyasCard.lean, 'card_holds'). Laid BY PROGRAM, IN A SANDBOX (cutbox-door.mjs). By AI agents, Wed Nov 11 2026. No macro, syntax, notation, axiom, sorry.
-/
import Derived.Test.YtpclafbolppgcaaDoorRows
import GoSem.ClaimSeven
namespace Go.Proofs.YtpclafbolppgcaaDoor
namespace Rows

/-- THE TIED CARD OF 'slagheaplaw08.PairingPlays'. -/
def pairingPlaysCard : Claim7 := { stood := { row := pairingPlaysRow, standIns := [], harness := (true, "05a0eac028c6428db1c2e00b620fe4fb1eacf020b6188f0f140af09e6b79cb0a"), looks := false }, kinds := [], alts := [], laidByText := true, laidKinds := [.data, .data, .data], laidTests := true, laidLooks := .later }
def PairingPlaysCardSaid : Prop := Claim7.holds Tryd.pinned (.plain (OpenSpec.ofChange pairingPlaysSpec)) pairingPlaysCard

/-- THE TIED CARD OF 'slagheaplaw08.PairingSorts'. -/
def pairingSortsCard : Claim7 := { stood := { row := pairingSortsRow, standIns := [], harness := (true, "05a0eac028c6428db1c2e00b620fe4fb1eacf020b6188f0f140af09e6b79cb0a"), looks := false }, kinds := [], alts := [], laidByText := true, laidKinds := [.data, .data, .data], laidTests := true, laidLooks := .later }
def PairingSortsCardSaid : Prop := Claim7.holds Tryd.pinned (.plain (OpenSpec.ofChange pairingSortsSpec)) pairingSortsCard

/-- THE TIED CARD OF 'slagheaplaw08.PairingCounts'. -/
def pairingCountsCard : Claim7 := { stood := { row := pairingCountsRow, standIns := [], harness := (true, "05a0eac028c6428db1c2e00b620fe4fb1eacf020b6188f0f140af09e6b79cb0a"), looks := false }, kinds := [], alts := [], laidByText := true, laidKinds := [.data, .data, .data], laidTests := true, laidLooks := .later }
def PairingCountsCardSaid : Prop := Claim7.holds Tryd.pinned (.plain (OpenSpec.ofChange pairingCountsSpec)) pairingCountsCard

/-- THE TIED CARD OF 'slagheaplaw08.PairingCheap'. -/
def pairingCheapCard : Claim7 := { stood := { row := pairingCheapRow, standIns := [], harness := (true, "05a0eac028c6428db1c2e00b620fe4fb1eacf020b6188f0f140af09e6b79cb0a"), looks := false }, kinds := [], alts := [], laidByText := true, laidKinds := [.data, .data, .data], laidTests := true, laidLooks := .later }
def PairingCheapCardSaid : Prop := Claim7.holds Tryd.pinned (.plain (OpenSpec.ofChange pairingCheapSpec)) pairingCheapCard

/-- THE TIED CARD OF 'slagheaplaw08.PairingCommutes'. -/
def pairingCommutesCard : Claim7 := { stood := { row := pairingCommutesRow, standIns := [], harness := (true, "05a0eac028c6428db1c2e00b620fe4fb1eacf020b6188f0f140af09e6b79cb0a"), looks := false }, kinds := [], alts := [], laidByText := true, laidKinds := [.data, .data, .data], laidTests := true, laidLooks := .later }
def PairingCommutesCardSaid : Prop := Claim7.holds Tryd.pinned (.plain (OpenSpec.ofChange pairingCommutesSpec)) pairingCommutesCard

/-- THE TIED CARD OF 'slagheaplaw08.PairingLeast'. -/
def pairingLeastCard : Claim7 := { stood := { row := pairingLeastRow, standIns := [], harness := (true, "05a0eac028c6428db1c2e00b620fe4fb1eacf020b6188f0f140af09e6b79cb0a"), looks := false }, kinds := [], alts := [], laidByText := true, laidKinds := [.data, .data, .data], laidTests := true, laidLooks := .later }
def PairingLeastCardSaid : Prop := Claim7.holds Tryd.pinned (.plain (OpenSpec.ofChange pairingLeastSpec)) pairingLeastCard

/-- THE TIED CARD OF 'slagheaplaw08.PairingStays'. -/
def pairingStaysCard : Claim7 := { stood := { row := pairingStaysRow, standIns := [], harness := (true, "05a0eac028c6428db1c2e00b620fe4fb1eacf020b6188f0f140af09e6b79cb0a"), looks := false }, kinds := [], alts := [], laidByText := true, laidKinds := [.data, .data, .data], laidTests := true, laidLooks := .later }
def PairingStaysCardSaid : Prop := Claim7.holds Tryd.pinned (.plain (OpenSpec.ofChange pairingStaysSpec)) pairingStaysCard

/-- THE TIED CARD OF 'slagheaplaw08.PairingDoubles'. -/
def pairingDoublesCard : Claim7 := { stood := { row := pairingDoublesRow, standIns := [], harness := (true, "05a0eac028c6428db1c2e00b620fe4fb1eacf020b6188f0f140af09e6b79cb0a"), looks := false }, kinds := [], alts := [], laidByText := true, laidKinds := [.data, .data, .data], laidTests := true, laidLooks := .later }
def PairingDoublesCardSaid : Prop := Claim7.holds Tryd.pinned (.plain (OpenSpec.ofChange pairingDoublesSpec)) pairingDoublesCard

/-- THE TIED CARD OF 'slagheaplaw08.PairingEnds'. -/
def pairingEndsCard : Claim7 := { stood := { row := pairingEndsRow, standIns := [], harness := (true, "05a0eac028c6428db1c2e00b620fe4fb1eacf020b6188f0f140af09e6b79cb0a"), looks := false }, kinds := [], alts := [], laidByText := true, laidKinds := [.data, .data, .data], laidTests := true, laidLooks := .later }
def PairingEndsCardSaid : Prop := Claim7.holds Tryd.pinned (.plain (OpenSpec.ofChange pairingEndsSpec)) pairingEndsCard

/-- THE TIED CARD OF 'slagheaplaw08.PairingFolds'. -/
def pairingFoldsCard : Claim7 := { stood := { row := pairingFoldsRow, standIns := [], harness := (true, "05a0eac028c6428db1c2e00b620fe4fb1eacf020b6188f0f140af09e6b79cb0a"), looks := false }, kinds := [], alts := [], laidByText := true, laidKinds := [.data, .data, .data], laidTests := true, laidLooks := .later }
def PairingFoldsCardSaid : Prop := Claim7.holds Tryd.pinned (.plain (OpenSpec.ofChange pairingFoldsSpec)) pairingFoldsCard

/-- THE TIED CARD OF 'slagheaplaw08.PairingAgain'. -/
def pairingAgainCard : Claim7 := { stood := { row := pairingAgainRow, standIns := [], harness := (true, "05a0eac028c6428db1c2e00b620fe4fb1eacf020b6188f0f140af09e6b79cb0a"), looks := false }, kinds := [], alts := [], laidByText := true, laidKinds := [.data, .data, .data], laidTests := true, laidLooks := .later }
def PairingAgainCardSaid : Prop := Claim7.holds Tryd.pinned (.plain (OpenSpec.ofChange pairingAgainSpec)) pairingAgainCard

/-- THE SECOND FORM's CARD OF 'slagheaplaw08.PairingPlays'. -/
def pairingPlaysUptoCard : Claim7 := { stood := { row := pairingPlaysUptoRow, standIns := [], harness := (true, "05a0eac028c6428db1c2e00b620fe4fb1eacf020b6188f0f140af09e6b79cb0a"), looks := false }, kinds := [], alts := [], laidByText := true, laidKinds := [.data, .data, .data], laidTests := true, laidLooks := .later }
def PairingPlaysUptoCardSaid : Prop := Claim7.holds Tryd.pinned (.plain (OpenSpec.upto pairingPlaysSpec)) pairingPlaysUptoCard

/-- THE SECOND FORM's CARD OF 'slagheaplaw08.PairingSorts'. -/
def pairingSortsUptoCard : Claim7 := { stood := { row := pairingSortsUptoRow, standIns := [], harness := (true, "05a0eac028c6428db1c2e00b620fe4fb1eacf020b6188f0f140af09e6b79cb0a"), looks := false }, kinds := [], alts := [], laidByText := true, laidKinds := [.data, .data, .data], laidTests := true, laidLooks := .later }
def PairingSortsUptoCardSaid : Prop := Claim7.holds Tryd.pinned (.plain (OpenSpec.upto pairingSortsSpec)) pairingSortsUptoCard

/-- THE SECOND FORM's CARD OF 'slagheaplaw08.PairingCounts'. -/
def pairingCountsUptoCard : Claim7 := { stood := { row := pairingCountsUptoRow, standIns := [], harness := (true, "05a0eac028c6428db1c2e00b620fe4fb1eacf020b6188f0f140af09e6b79cb0a"), looks := false }, kinds := [], alts := [], laidByText := true, laidKinds := [.data, .data, .data], laidTests := true, laidLooks := .later }
def PairingCountsUptoCardSaid : Prop := Claim7.holds Tryd.pinned (.plain (OpenSpec.upto pairingCountsSpec)) pairingCountsUptoCard

/-- THE SECOND FORM's CARD OF 'slagheaplaw08.PairingCheap'. -/
def pairingCheapUptoCard : Claim7 := { stood := { row := pairingCheapUptoRow, standIns := [], harness := (true, "05a0eac028c6428db1c2e00b620fe4fb1eacf020b6188f0f140af09e6b79cb0a"), looks := false }, kinds := [], alts := [], laidByText := true, laidKinds := [.data, .data, .data], laidTests := true, laidLooks := .later }
def PairingCheapUptoCardSaid : Prop := Claim7.holds Tryd.pinned (.plain (OpenSpec.upto pairingCheapSpec)) pairingCheapUptoCard

/-- THE SECOND FORM's CARD OF 'slagheaplaw08.PairingCommutes'. -/
def pairingCommutesUptoCard : Claim7 := { stood := { row := pairingCommutesUptoRow, standIns := [], harness := (true, "05a0eac028c6428db1c2e00b620fe4fb1eacf020b6188f0f140af09e6b79cb0a"), looks := false }, kinds := [], alts := [], laidByText := true, laidKinds := [.data, .data, .data], laidTests := true, laidLooks := .later }
def PairingCommutesUptoCardSaid : Prop := Claim7.holds Tryd.pinned (.plain (OpenSpec.upto pairingCommutesSpec)) pairingCommutesUptoCard

/-- THE SECOND FORM's CARD OF 'slagheaplaw08.PairingLeast'. -/
def pairingLeastUptoCard : Claim7 := { stood := { row := pairingLeastUptoRow, standIns := [], harness := (true, "05a0eac028c6428db1c2e00b620fe4fb1eacf020b6188f0f140af09e6b79cb0a"), looks := false }, kinds := [], alts := [], laidByText := true, laidKinds := [.data, .data, .data], laidTests := true, laidLooks := .later }
def PairingLeastUptoCardSaid : Prop := Claim7.holds Tryd.pinned (.plain (OpenSpec.upto pairingLeastSpec)) pairingLeastUptoCard

/-- THE SECOND FORM's CARD OF 'slagheaplaw08.PairingStays'. -/
def pairingStaysUptoCard : Claim7 := { stood := { row := pairingStaysUptoRow, standIns := [], harness := (true, "05a0eac028c6428db1c2e00b620fe4fb1eacf020b6188f0f140af09e6b79cb0a"), looks := false }, kinds := [], alts := [], laidByText := true, laidKinds := [.data, .data, .data], laidTests := true, laidLooks := .later }
def PairingStaysUptoCardSaid : Prop := Claim7.holds Tryd.pinned (.plain (OpenSpec.upto pairingStaysSpec)) pairingStaysUptoCard

/-- THE SECOND FORM's CARD OF 'slagheaplaw08.PairingDoubles'. -/
def pairingDoublesUptoCard : Claim7 := { stood := { row := pairingDoublesUptoRow, standIns := [], harness := (true, "05a0eac028c6428db1c2e00b620fe4fb1eacf020b6188f0f140af09e6b79cb0a"), looks := false }, kinds := [], alts := [], laidByText := true, laidKinds := [.data, .data, .data], laidTests := true, laidLooks := .later }
def PairingDoublesUptoCardSaid : Prop := Claim7.holds Tryd.pinned (.plain (OpenSpec.upto pairingDoublesSpec)) pairingDoublesUptoCard

/-- THE SECOND FORM's CARD OF 'slagheaplaw08.PairingEnds'. -/
def pairingEndsUptoCard : Claim7 := { stood := { row := pairingEndsUptoRow, standIns := [], harness := (true, "05a0eac028c6428db1c2e00b620fe4fb1eacf020b6188f0f140af09e6b79cb0a"), looks := false }, kinds := [], alts := [], laidByText := true, laidKinds := [.data, .data, .data], laidTests := true, laidLooks := .later }
def PairingEndsUptoCardSaid : Prop := Claim7.holds Tryd.pinned (.plain (OpenSpec.upto pairingEndsSpec)) pairingEndsUptoCard

/-- THE SECOND FORM's CARD OF 'slagheaplaw08.PairingFolds'. -/
def pairingFoldsUptoCard : Claim7 := { stood := { row := pairingFoldsUptoRow, standIns := [], harness := (true, "05a0eac028c6428db1c2e00b620fe4fb1eacf020b6188f0f140af09e6b79cb0a"), looks := false }, kinds := [], alts := [], laidByText := true, laidKinds := [.data, .data, .data], laidTests := true, laidLooks := .later }
def PairingFoldsUptoCardSaid : Prop := Claim7.holds Tryd.pinned (.plain (OpenSpec.upto pairingFoldsSpec)) pairingFoldsUptoCard

/-- THE SECOND FORM's CARD OF 'slagheaplaw08.PairingAgain'. -/
def pairingAgainUptoCard : Claim7 := { stood := { row := pairingAgainUptoRow, standIns := [], harness := (true, "05a0eac028c6428db1c2e00b620fe4fb1eacf020b6188f0f140af09e6b79cb0a"), looks := false }, kinds := [], alts := [], laidByText := true, laidKinds := [.data, .data, .data], laidTests := true, laidLooks := .later }
def PairingAgainUptoCardSaid : Prop := Claim7.holds Tryd.pinned (.plain (OpenSpec.upto pairingAgainSpec)) pairingAgainUptoCard
end Rows
end Go.Proofs.YtpclafbolppgcaaDoor
