/-
  DERIVED. GIVEN WITH THE SEED: THE CARDS: each row of YtlmokendajgbdaaGreatDoorRows.lean that lists a variable, with what it lists TIED to the program's text (the seventh form; the later family's looks); each row that meets fmt, with fmt's text TOLD by the authors' own Lean function (tested against real Go, not proved from fmt's source: count such statements apart). THE CARD IS WHAT COUNTS. Prove the row's statement (the work); the ties are given (YtlmokendajgbdaaGreatDoorTie.lean); close each card by the builder's one call (the guide's Derived/Test/ToyasCard.lean, 'card_holds'). Laid BY PROGRAM, IN A SANDBOX (cutbox-door.mjs). By AI agents, Wed Nov 11 2026. No macro, syntax, notation, axiom, sorry.
-/
import Derived.Test.YtlmokendajgbdaaGreatDoorRows
import GoSem.ClaimSeven
namespace Go.Proofs.YtlmokendajgbdaaGreatDoor
namespace Rows

/-- THE TIED CARD OF 'slagheaplaw11.BootPlays'. -/
def bootPlaysCard : Claim7 := { stood := { row := bootPlaysRow, standIns := [], harness := (true, "c8c2075554e1e9afa1e46295788aec8a4a27353c3e453fd896db84b4f3b19d5a"), looks := false }, kinds := [], alts := [], laidByText := true, laidKinds := [.data, .data, .data], laidTests := true, laidLooks := .later }
def BootPlaysCardSaid : Prop := Claim7.holds Tryz.pinned (.plain (OpenSpec.ofChange bootPlaysSpec)) bootPlaysCard

/-- THE TIED CARD OF 'slagheaplaw11.BootSorts'. -/
def bootSortsCard : Claim7 := { stood := { row := bootSortsRow, standIns := [], harness := (true, "c8c2075554e1e9afa1e46295788aec8a4a27353c3e453fd896db84b4f3b19d5a"), looks := false }, kinds := [], alts := [], laidByText := true, laidKinds := [.data, .data, .data], laidTests := true, laidLooks := .later }
def BootSortsCardSaid : Prop := Claim7.holds Tryz.pinned (.plain (OpenSpec.ofChange bootSortsSpec)) bootSortsCard

/-- THE TIED CARD OF 'slagheaplaw11.BootCounts'. -/
def bootCountsCard : Claim7 := { stood := { row := bootCountsRow, standIns := [], harness := (true, "c8c2075554e1e9afa1e46295788aec8a4a27353c3e453fd896db84b4f3b19d5a"), looks := false }, kinds := [], alts := [], laidByText := true, laidKinds := [.data, .data, .data], laidTests := true, laidLooks := .later }
def BootCountsCardSaid : Prop := Claim7.holds Tryz.pinned (.plain (OpenSpec.ofChange bootCountsSpec)) bootCountsCard

/-- THE TIED CARD OF 'slagheaplaw11.BootCommutes'. -/
def bootCommutesCard : Claim7 := { stood := { row := bootCommutesRow, standIns := [], harness := (true, "c8c2075554e1e9afa1e46295788aec8a4a27353c3e453fd896db84b4f3b19d5a"), looks := false }, kinds := [], alts := [], laidByText := true, laidKinds := [.data, .data, .data], laidTests := true, laidLooks := .later }
def BootCommutesCardSaid : Prop := Claim7.holds Tryz.pinned (.plain (OpenSpec.ofChange bootCommutesSpec)) bootCommutesCard

/-- THE TIED CARD OF 'slagheaplaw11.BootLeast'. -/
def bootLeastCard : Claim7 := { stood := { row := bootLeastRow, standIns := [], harness := (true, "c8c2075554e1e9afa1e46295788aec8a4a27353c3e453fd896db84b4f3b19d5a"), looks := false }, kinds := [], alts := [], laidByText := true, laidKinds := [.data, .data, .data], laidTests := true, laidLooks := .later }
def BootLeastCardSaid : Prop := Claim7.holds Tryz.pinned (.plain (OpenSpec.ofChange bootLeastSpec)) bootLeastCard

/-- THE TIED CARD OF 'slagheaplaw11.BootStays'. -/
def bootStaysCard : Claim7 := { stood := { row := bootStaysRow, standIns := [], harness := (true, "c8c2075554e1e9afa1e46295788aec8a4a27353c3e453fd896db84b4f3b19d5a"), looks := false }, kinds := [], alts := [], laidByText := true, laidKinds := [.data, .data, .data], laidTests := true, laidLooks := .later }
def BootStaysCardSaid : Prop := Claim7.holds Tryz.pinned (.plain (OpenSpec.ofChange bootStaysSpec)) bootStaysCard

/-- THE TIED CARD OF 'slagheaplaw11.BootDoubles'. -/
def bootDoublesCard : Claim7 := { stood := { row := bootDoublesRow, standIns := [], harness := (true, "c8c2075554e1e9afa1e46295788aec8a4a27353c3e453fd896db84b4f3b19d5a"), looks := false }, kinds := [], alts := [], laidByText := true, laidKinds := [.data, .data, .data], laidTests := true, laidLooks := .later }
def BootDoublesCardSaid : Prop := Claim7.holds Tryz.pinned (.plain (OpenSpec.ofChange bootDoublesSpec)) bootDoublesCard

/-- THE TIED CARD OF 'slagheaplaw11.BootEnds'. -/
def bootEndsCard : Claim7 := { stood := { row := bootEndsRow, standIns := [], harness := (true, "c8c2075554e1e9afa1e46295788aec8a4a27353c3e453fd896db84b4f3b19d5a"), looks := false }, kinds := [], alts := [], laidByText := true, laidKinds := [.data, .data, .data], laidTests := true, laidLooks := .later }
def BootEndsCardSaid : Prop := Claim7.holds Tryz.pinned (.plain (OpenSpec.ofChange bootEndsSpec)) bootEndsCard

/-- THE TIED CARD OF 'slagheaplaw11.BootFolds'. -/
def bootFoldsCard : Claim7 := { stood := { row := bootFoldsRow, standIns := [], harness := (true, "c8c2075554e1e9afa1e46295788aec8a4a27353c3e453fd896db84b4f3b19d5a"), looks := false }, kinds := [], alts := [], laidByText := true, laidKinds := [.data, .data, .data], laidTests := true, laidLooks := .later }
def BootFoldsCardSaid : Prop := Claim7.holds Tryz.pinned (.plain (OpenSpec.ofChange bootFoldsSpec)) bootFoldsCard

/-- THE TIED CARD OF 'slagheaplaw11.BootAgain'. -/
def bootAgainCard : Claim7 := { stood := { row := bootAgainRow, standIns := [], harness := (true, "c8c2075554e1e9afa1e46295788aec8a4a27353c3e453fd896db84b4f3b19d5a"), looks := false }, kinds := [], alts := [], laidByText := true, laidKinds := [.data, .data, .data], laidTests := true, laidLooks := .later }
def BootAgainCardSaid : Prop := Claim7.holds Tryz.pinned (.plain (OpenSpec.ofChange bootAgainSpec)) bootAgainCard

/-- THE SECOND FORM's CARD OF 'slagheaplaw11.BootPlays'. -/
def bootPlaysUptoCard : Claim7 := { stood := { row := bootPlaysUptoRow, standIns := [], harness := (true, "c8c2075554e1e9afa1e46295788aec8a4a27353c3e453fd896db84b4f3b19d5a"), looks := false }, kinds := [], alts := [], laidByText := true, laidKinds := [.data, .data, .data], laidTests := true, laidLooks := .later }
def BootPlaysUptoCardSaid : Prop := Claim7.holds Tryz.pinned (.plain (OpenSpec.upto bootPlaysSpec)) bootPlaysUptoCard

/-- THE SECOND FORM's CARD OF 'slagheaplaw11.BootSorts'. -/
def bootSortsUptoCard : Claim7 := { stood := { row := bootSortsUptoRow, standIns := [], harness := (true, "c8c2075554e1e9afa1e46295788aec8a4a27353c3e453fd896db84b4f3b19d5a"), looks := false }, kinds := [], alts := [], laidByText := true, laidKinds := [.data, .data, .data], laidTests := true, laidLooks := .later }
def BootSortsUptoCardSaid : Prop := Claim7.holds Tryz.pinned (.plain (OpenSpec.upto bootSortsSpec)) bootSortsUptoCard

/-- THE SECOND FORM's CARD OF 'slagheaplaw11.BootCounts'. -/
def bootCountsUptoCard : Claim7 := { stood := { row := bootCountsUptoRow, standIns := [], harness := (true, "c8c2075554e1e9afa1e46295788aec8a4a27353c3e453fd896db84b4f3b19d5a"), looks := false }, kinds := [], alts := [], laidByText := true, laidKinds := [.data, .data, .data], laidTests := true, laidLooks := .later }
def BootCountsUptoCardSaid : Prop := Claim7.holds Tryz.pinned (.plain (OpenSpec.upto bootCountsSpec)) bootCountsUptoCard

/-- THE SECOND FORM's CARD OF 'slagheaplaw11.BootCommutes'. -/
def bootCommutesUptoCard : Claim7 := { stood := { row := bootCommutesUptoRow, standIns := [], harness := (true, "c8c2075554e1e9afa1e46295788aec8a4a27353c3e453fd896db84b4f3b19d5a"), looks := false }, kinds := [], alts := [], laidByText := true, laidKinds := [.data, .data, .data], laidTests := true, laidLooks := .later }
def BootCommutesUptoCardSaid : Prop := Claim7.holds Tryz.pinned (.plain (OpenSpec.upto bootCommutesSpec)) bootCommutesUptoCard

/-- THE SECOND FORM's CARD OF 'slagheaplaw11.BootLeast'. -/
def bootLeastUptoCard : Claim7 := { stood := { row := bootLeastUptoRow, standIns := [], harness := (true, "c8c2075554e1e9afa1e46295788aec8a4a27353c3e453fd896db84b4f3b19d5a"), looks := false }, kinds := [], alts := [], laidByText := true, laidKinds := [.data, .data, .data], laidTests := true, laidLooks := .later }
def BootLeastUptoCardSaid : Prop := Claim7.holds Tryz.pinned (.plain (OpenSpec.upto bootLeastSpec)) bootLeastUptoCard

/-- THE SECOND FORM's CARD OF 'slagheaplaw11.BootStays'. -/
def bootStaysUptoCard : Claim7 := { stood := { row := bootStaysUptoRow, standIns := [], harness := (true, "c8c2075554e1e9afa1e46295788aec8a4a27353c3e453fd896db84b4f3b19d5a"), looks := false }, kinds := [], alts := [], laidByText := true, laidKinds := [.data, .data, .data], laidTests := true, laidLooks := .later }
def BootStaysUptoCardSaid : Prop := Claim7.holds Tryz.pinned (.plain (OpenSpec.upto bootStaysSpec)) bootStaysUptoCard

/-- THE SECOND FORM's CARD OF 'slagheaplaw11.BootDoubles'. -/
def bootDoublesUptoCard : Claim7 := { stood := { row := bootDoublesUptoRow, standIns := [], harness := (true, "c8c2075554e1e9afa1e46295788aec8a4a27353c3e453fd896db84b4f3b19d5a"), looks := false }, kinds := [], alts := [], laidByText := true, laidKinds := [.data, .data, .data], laidTests := true, laidLooks := .later }
def BootDoublesUptoCardSaid : Prop := Claim7.holds Tryz.pinned (.plain (OpenSpec.upto bootDoublesSpec)) bootDoublesUptoCard

/-- THE SECOND FORM's CARD OF 'slagheaplaw11.BootEnds'. -/
def bootEndsUptoCard : Claim7 := { stood := { row := bootEndsUptoRow, standIns := [], harness := (true, "c8c2075554e1e9afa1e46295788aec8a4a27353c3e453fd896db84b4f3b19d5a"), looks := false }, kinds := [], alts := [], laidByText := true, laidKinds := [.data, .data, .data], laidTests := true, laidLooks := .later }
def BootEndsUptoCardSaid : Prop := Claim7.holds Tryz.pinned (.plain (OpenSpec.upto bootEndsSpec)) bootEndsUptoCard

/-- THE SECOND FORM's CARD OF 'slagheaplaw11.BootFolds'. -/
def bootFoldsUptoCard : Claim7 := { stood := { row := bootFoldsUptoRow, standIns := [], harness := (true, "c8c2075554e1e9afa1e46295788aec8a4a27353c3e453fd896db84b4f3b19d5a"), looks := false }, kinds := [], alts := [], laidByText := true, laidKinds := [.data, .data, .data], laidTests := true, laidLooks := .later }
def BootFoldsUptoCardSaid : Prop := Claim7.holds Tryz.pinned (.plain (OpenSpec.upto bootFoldsSpec)) bootFoldsUptoCard

/-- THE SECOND FORM's CARD OF 'slagheaplaw11.BootAgain'. -/
def bootAgainUptoCard : Claim7 := { stood := { row := bootAgainUptoRow, standIns := [], harness := (true, "c8c2075554e1e9afa1e46295788aec8a4a27353c3e453fd896db84b4f3b19d5a"), looks := false }, kinds := [], alts := [], laidByText := true, laidKinds := [.data, .data, .data], laidTests := true, laidLooks := .later }
def BootAgainUptoCardSaid : Prop := Claim7.holds Tryz.pinned (.plain (OpenSpec.upto bootAgainSpec)) bootAgainUptoCard
end Rows
end Go.Proofs.YtlmokendajgbdaaGreatDoor
