/-
  NARROWER THAN 'FOR EVERY INPUT', by the rows' own cells (each row's printed sentence says how): OpcodeTells: laid · OpcodeBack: laid · OpcodeArgs: laid.
  DERIVED. THE GIVEN ROWS OF THIS SEAT. 3 by the template 'for every input the law returns true; each argument reads behind the call as it read before'; 0 by the template 'total and deterministic' (their statements: YtfjjfljkdflpcaaDoorTotals.lean).
  GIVEN WITH THE SEED: the statements are not yours to turn. If you find one false, say at which input.
  Laid BY PROGRAM, IN A SANDBOX (cutbox-rows.mjs): the forced cells as the released guide's own fill.sh prints them over the translation 3c172b9099db5d00… (all of the seat's roots in one cut). By AI agents, Wed Nov 11 2026. No macro, syntax, notation, axiom, sorry.
-/
import Derived.Test.YtfjjfljkdflpcaaDoorChecked
import GoSem.Claim
import GoSem.ClaimJoined
import GoSem.ClaimMapViews
import Derived.JoinedTies
import Derived.KernelRfl
namespace Go.Proofs.YtfjjfljkdflpcaaDoor
/- THE CELL 'sum', in the pinned program and in every row, IS THE sha256 OF THE DUMP (.gsa) THAT YtfjjfljkdflpcaaDoorProg.lean LOADS. Nothing in Lean hashes anything: it is a label: what it is worth is what the hold of that sum in a sandbox is worth. -/
noncomputable def Tryd.pinned : Pinned := { name := "ytfjjfljkdflpcaadoor", sum := "3c172b9099db5d00fb48731ef0789df07eac59533411dda4060e120375798eea", checked := Tryd.checked }
namespace Rows
def none {H : Type} : Left H := { results := [], args := [] }

/- WHAT THE LISTED PACKAGE-LEVEL VARIABLES READ AS WHEN THE CALL BEGINS. Each datum BY PROGRAM (the guide's laid-datum.mjs) off the statement by which the dump's own 'gosem.cut.vars' lays the variable. In a bare row this is a premise. The card (YtfjjfljkdflpcaaDoorCards.lean) ties it to the program's text. -/
def laid_slagheap_opcode_told {H : Type} : DataW H := .agg [.lit (.int .i64 0), .lit (.int .i64 1), .lit (.int .i64 3), .lit (.int .i64 2), .lit (.int .i64 1), .lit (.int .i64 1), .lit (.int .i64 1), .lit (.int .i64 1), .lit (.int .i64 2), .lit (.int .i64 2), .lit (.int .i64 0), .lit (.int .i64 3), .lit (.int .i64 2), .lit (.int .i64 3), .lit (.int .i64 1), .lit (.int .i64 1), .lit (.int .i64 2), .lit (.int .i64 2), .lit (.int .i64 2), .lit (.int .i64 1), .lit (.int .i64 3), .lit (.int .i64 1), .lit (.int .i64 2)]

/-- 'slagheaplaw18.OpcodeTells': WHATEVER THE INPUT: true; the input reads as it did. -/
def opcodeTellsSpec : ChangeSpec := { name := "opcodeTells", fn := fun _ => fun
  | [d1, d2, d3] => { results := [.lit (.bool true)], args := [d1, d2, d3] }
  | _ => none }
def opcodeTellsRow : OpenClaim := { program := "ytfjjfljkdflpcaadoor", sum := "3c172b9099db5d00fb48731ef0789df07eac59533411dda4060e120375798eea", func := "slagheap/slagheaplaw18.OpcodeTells", spec := "opcodeTells", named := ["slagheap/opcode.told"], apart := false, laid := [("slagheap/opcode.told", laid_slagheap_opcode_told)] }
def OpcodeTellsSaid : Prop := opcodeTellsRow.holds Tryd.pinned (OpenSpec.ofChange opcodeTellsSpec)

/-- ITS FALSE NEIGHBOUR: 'it returns false'. Refute it at one input. -/
def opcodeTellsWrong : ChangeSpec := { name := "opcodeTells", fn := fun _ => fun
  | [d1, d2, d3] => { results := [.lit (.bool false)], args := [d1, d2, d3] }
  | _ => none }
def OpcodeTellsWrongFalsely : Prop := opcodeTellsRow.holds Tryd.pinned (OpenSpec.ofChange opcodeTellsWrong)

/-- 'slagheaplaw18.OpcodeBack': WHATEVER THE INPUT: true; the input reads as it did. -/
def opcodeBackSpec : ChangeSpec := { name := "opcodeBack", fn := fun _ => fun
  | [d1, d2, d3] => { results := [.lit (.bool true)], args := [d1, d2, d3] }
  | _ => none }
def opcodeBackRow : OpenClaim := { program := "ytfjjfljkdflpcaadoor", sum := "3c172b9099db5d00fb48731ef0789df07eac59533411dda4060e120375798eea", func := "slagheap/slagheaplaw18.OpcodeBack", spec := "opcodeBack", named := ["slagheap/opcode.told"], apart := false, laid := [("slagheap/opcode.told", laid_slagheap_opcode_told)] }
def OpcodeBackSaid : Prop := opcodeBackRow.holds Tryd.pinned (OpenSpec.ofChange opcodeBackSpec)

/-- ITS FALSE NEIGHBOUR: 'it returns false'. Refute it at one input. -/
def opcodeBackWrong : ChangeSpec := { name := "opcodeBack", fn := fun _ => fun
  | [d1, d2, d3] => { results := [.lit (.bool false)], args := [d1, d2, d3] }
  | _ => none }
def OpcodeBackWrongFalsely : Prop := opcodeBackRow.holds Tryd.pinned (OpenSpec.ofChange opcodeBackWrong)

/-- 'slagheaplaw18.OpcodeArgs': WHATEVER THE INPUT: true; the input reads as it did. -/
def opcodeArgsSpec : ChangeSpec := { name := "opcodeArgs", fn := fun _ => fun
  | [d1, d2, d3] => { results := [.lit (.bool true)], args := [d1, d2, d3] }
  | _ => none }
def opcodeArgsRow : OpenClaim := { program := "ytfjjfljkdflpcaadoor", sum := "3c172b9099db5d00fb48731ef0789df07eac59533411dda4060e120375798eea", func := "slagheap/slagheaplaw18.OpcodeArgs", spec := "opcodeArgs", named := ["slagheap/opcode.told"], apart := false, laid := [("slagheap/opcode.told", laid_slagheap_opcode_told)] }
def OpcodeArgsSaid : Prop := opcodeArgsRow.holds Tryd.pinned (OpenSpec.ofChange opcodeArgsSpec)

/-- ITS FALSE NEIGHBOUR: 'it returns false'. Refute it at one input. -/
def opcodeArgsWrong : ChangeSpec := { name := "opcodeArgs", fn := fun _ => fun
  | [d1, d2, d3] => { results := [.lit (.bool false)], args := [d1, d2, d3] }
  | _ => none }
def OpcodeArgsWrongFalsely : Prop := opcodeArgsRow.holds Tryd.pinned (OpenSpec.ofChange opcodeArgsWrong)

/- THE SECOND FORM. 'bulk': how many values and letters a reading holds, each counted each time it is reached (what is shared counts as often as it is met; a slice's spare places count too). A statement '..UptoSaid' is the law's where the arguments, and the package variables that the reading takes, are together of bulk at most 1048576: NARROWER than '..Said'. Prove '..Said' where nothing that the law and all that it calls make is longer than what came in: it says more and counts as full. Else prove '..UptoSaid'. A law counts once. -/
mutual
def uptoBulk {H : Type} : DataW H → Nat
  | .lit (.string bytes) => bytes.length + 1
  | .lit _ => 1
  | .nil => 1
  | .ptr d => uptoBulk d + 1
  | .slice elems spare => uptoBulkAll elems + uptoBulkAll spare + 1
  | .agg parts => uptoBulkAll parts + 1
  | .iface _ d => uptoBulk d + 1
  | .map entries => uptoBulkEntries entries + 1
  | .held _ => 1
def uptoBulkAll {H : Type} : List (DataW H) → Nat
  | [] => 0
  | d :: r => uptoBulk d + uptoBulkAll r
def uptoBulkEntries {H : Type} : List (Lit × DataW H) → Nat
  | [] => 0
  | x :: r => uptoBulkEntry x + uptoBulkEntries r
def uptoBulkEntry {H : Type} : Lit × DataW H → Nat
  | (.string bytes, d) => bytes.length + uptoBulk d + 1
  | (_, d) => uptoBulk d + 1
 end
def uptoSmall : (H : Type) → List (DataW H) → Bool := fun _ ds => decide (uptoBulkAll ds ≤ 1048576)
def OpenSpec.upto (s : _root_.Go.ChangeSpec) : _root_.Go.OpenSpec := { _root_.Go.OpenSpec.ofChange s with cond := some uptoSmall }

/-- 'slagheaplaw18.OpcodeTells', WHERE WHAT IT READS IS OF BULK AT MOST 1048576: true; the input reads as it did. -/
def opcodeTellsUptoRow : OpenClaim := { program := "ytfjjfljkdflpcaadoor", sum := "3c172b9099db5d00fb48731ef0789df07eac59533411dda4060e120375798eea", func := "slagheap/slagheaplaw18.OpcodeTells", spec := "opcodeTells", named := ["slagheap/opcode.told"], apart := false, laid := [("slagheap/opcode.told", laid_slagheap_opcode_told)], narrowed := true }
def OpcodeTellsUptoSaid : Prop := opcodeTellsUptoRow.holds Tryd.pinned (OpenSpec.upto opcodeTellsSpec)

/-- 'slagheaplaw18.OpcodeBack', WHERE WHAT IT READS IS OF BULK AT MOST 1048576: true; the input reads as it did. -/
def opcodeBackUptoRow : OpenClaim := { program := "ytfjjfljkdflpcaadoor", sum := "3c172b9099db5d00fb48731ef0789df07eac59533411dda4060e120375798eea", func := "slagheap/slagheaplaw18.OpcodeBack", spec := "opcodeBack", named := ["slagheap/opcode.told"], apart := false, laid := [("slagheap/opcode.told", laid_slagheap_opcode_told)], narrowed := true }
def OpcodeBackUptoSaid : Prop := opcodeBackUptoRow.holds Tryd.pinned (OpenSpec.upto opcodeBackSpec)

/-- 'slagheaplaw18.OpcodeArgs', WHERE WHAT IT READS IS OF BULK AT MOST 1048576: true; the input reads as it did. -/
def opcodeArgsUptoRow : OpenClaim := { program := "ytfjjfljkdflpcaadoor", sum := "3c172b9099db5d00fb48731ef0789df07eac59533411dda4060e120375798eea", func := "slagheap/slagheaplaw18.OpcodeArgs", spec := "opcodeArgs", named := ["slagheap/opcode.told"], apart := false, laid := [("slagheap/opcode.told", laid_slagheap_opcode_told)], narrowed := true }
def OpcodeArgsUptoSaid : Prop := opcodeArgsUptoRow.holds Tryd.pinned (OpenSpec.upto opcodeArgsSpec)

end Rows
end Go.Proofs.YtfjjfljkdflpcaaDoor
