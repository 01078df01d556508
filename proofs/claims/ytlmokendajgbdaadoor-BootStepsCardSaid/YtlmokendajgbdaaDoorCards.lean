/-
  DERIVED. GIVEN WITH THE SEED: THE CARDS: each row of YtlmokendajgbdaaDoorRows.lean that lists a variable, with what it lists TIED to the program's text (the seventh form; the later family's looks); each row that meets fmt, with fmt's text TOLD by the authors' own Lean function (tested against real Go, not proved from fmt's source: count such statements apart). THE CARD IS WHAT COUNTS. Prove the row's statement (the work); the ties are given (YtlmokendajgbdaaDoorTie.lean); close each card by the builder's one call (the guide's Derived/Test/ToyasCard.lean, 'card_holds'). Laid BY PROGRAM, IN A SANDBOX (cutbox-door.mjs). By AI agents, Wed Nov 11 2026. No macro, syntax, notation, axiom, sorry.
-/
import Derived.Test.YtlmokendajgbdaaDoorRows
import GoSem.ClaimSeven
namespace Go.Proofs.YtlmokendajgbdaaDoor
namespace Rows

/-- THE TIED CARD OF 'slagheaplaw11.BootSteps'. -/
def bootStepsCard : Claim7 := { stood := { row := bootStepsRow, standIns := [], harness := (true, "2cf0c32ab6efb5cc84ab90ffc1975fc6a70feee9e972c242aba41b5bb6b184f6"), looks := false }, kinds := [], alts := [], laidByText := true, laidKinds := [.data, .data, .data], laidTests := true, laidLooks := .later }
def BootStepsCardSaid : Prop := Claim7.holds Tryd.pinned (.plain (OpenSpec.ofChange bootStepsSpec)) bootStepsCard

/-- THE SECOND FORM's CARD OF 'slagheaplaw11.BootSteps'. -/
def bootStepsUptoCard : Claim7 := { stood := { row := bootStepsUptoRow, standIns := [], harness := (true, "2cf0c32ab6efb5cc84ab90ffc1975fc6a70feee9e972c242aba41b5bb6b184f6"), looks := false }, kinds := [], alts := [], laidByText := true, laidKinds := [.data, .data, .data], laidTests := true, laidLooks := .later }
def BootStepsUptoCardSaid : Prop := Claim7.holds Tryd.pinned (.plain (OpenSpec.upto bootStepsSpec)) bootStepsUptoCard
end Rows
end Go.Proofs.YtlmokendajgbdaaDoor
