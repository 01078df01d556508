/-
  DERIVED. GIVEN WITH THE SEED: THE CARDS: each row of YtfjjfljkdflpcaaDoorRows.lean that lists a variable, with what it lists TIED to the program's text (the seventh form; the later family's looks); each row that meets fmt, with fmt's text TOLD by the authors' own Lean function (tested against real Go, not proved from fmt's source: count such statements apart). THE CARD IS WHAT COUNTS. Prove the row's statement (the work); the ties are given (YtfjjfljkdflpcaaDoorTie.lean); close each card by the builder's one call (the guide's Derived/Test/ToyasCard.lean, 'card_holds'). Laid BY PROGRAM, IN A SANDBOX (cutbox-door.mjs). By AI agents, Wed Nov 11 2026. No macro, syntax, notation, axiom, sorry.
-/
import Derived.Test.YtfjjfljkdflpcaaDoorRows
import GoSem.ClaimSeven
namespace Go.Proofs.YtfjjfljkdflpcaaDoor
namespace Rows

/-- THE TIED CARD OF 'slagheaplaw18.OpcodeTells'. -/
def opcodeTellsCard : Claim7 := { stood := { row := opcodeTellsRow, standIns := [], harness := (true, "2588346ebd6092ba1d7a40a3ee23e46ee6fa56dfb1d89052ff8ac75b5deda5d8"), looks := false }, kinds := [], alts := [], laidByText := true, laidKinds := [.data], laidTests := true, laidLooks := .later }
def OpcodeTellsCardSaid : Prop := Claim7.holds Tryd.pinned (.plain (OpenSpec.ofChange opcodeTellsSpec)) opcodeTellsCard

/-- THE TIED CARD OF 'slagheaplaw18.OpcodeBack'. -/
def opcodeBackCard : Claim7 := { stood := { row := opcodeBackRow, standIns := [], harness := (true, "2588346ebd6092ba1d7a40a3ee23e46ee6fa56dfb1d89052ff8ac75b5deda5d8"), looks := false }, kinds := [], alts := [], laidByText := true, laidKinds := [.data], laidTests := true, laidLooks := .later }
def OpcodeBackCardSaid : Prop := Claim7.holds Tryd.pinned (.plain (OpenSpec.ofChange opcodeBackSpec)) opcodeBackCard

/-- THE TIED CARD OF 'slagheaplaw18.OpcodeArgs'. -/
def opcodeArgsCard : Claim7 := { stood := { row := opcodeArgsRow, standIns := [], harness := (true, "2588346ebd6092ba1d7a40a3ee23e46ee6fa56dfb1d89052ff8ac75b5deda5d8"), looks := false }, kinds := [], alts := [], laidByText := true, laidKinds := [.data], laidTests := true, laidLooks := .later }
def OpcodeArgsCardSaid : Prop := Claim7.holds Tryd.pinned (.plain (OpenSpec.ofChange opcodeArgsSpec)) opcodeArgsCard

/-- THE SECOND FORM's CARD OF 'slagheaplaw18.OpcodeTells'. -/
def opcodeTellsUptoCard : Claim7 := { stood := { row := opcodeTellsUptoRow, standIns := [], harness := (true, "2588346ebd6092ba1d7a40a3ee23e46ee6fa56dfb1d89052ff8ac75b5deda5d8"), looks := false }, kinds := [], alts := [], laidByText := true, laidKinds := [.data], laidTests := true, laidLooks := .later }
def OpcodeTellsUptoCardSaid : Prop := Claim7.holds Tryd.pinned (.plain (OpenSpec.upto opcodeTellsSpec)) opcodeTellsUptoCard

/-- THE SECOND FORM's CARD OF 'slagheaplaw18.OpcodeBack'. -/
def opcodeBackUptoCard : Claim7 := { stood := { row := opcodeBackUptoRow, standIns := [], harness := (true, "2588346ebd6092ba1d7a40a3ee23e46ee6fa56dfb1d89052ff8ac75b5deda5d8"), looks := false }, kinds := [], alts := [], laidByText := true, laidKinds := [.data], laidTests := true, laidLooks := .later }
def OpcodeBackUptoCardSaid : Prop := Claim7.holds Tryd.pinned (.plain (OpenSpec.upto opcodeBackSpec)) opcodeBackUptoCard

/-- THE SECOND FORM's CARD OF 'slagheaplaw18.OpcodeArgs'. -/
def opcodeArgsUptoCard : Claim7 := { stood := { row := opcodeArgsUptoRow, standIns := [], harness := (true, "2588346ebd6092ba1d7a40a3ee23e46ee6fa56dfb1d89052ff8ac75b5deda5d8"), looks := false }, kinds := [], alts := [], laidByText := true, laidKinds := [.data], laidTests := true, laidLooks := .later }
def OpcodeArgsUptoCardSaid : Prop := Claim7.holds Tryd.pinned (.plain (OpenSpec.upto opcodeArgsSpec)) opcodeArgsUptoCard
end Rows
end Go.Proofs.YtfjjfljkdflpcaaDoor
