/-
  NARROWER THAN 'FOR EVERY INPUT', by the rows' own cells (each row's printed sentence says how): RootedSorts: laid · RootedCounts: laid · RootedSteps: laid · RootedCommutes: laid · RootedLeast: laid · RootedStays: laid · RootedDoubles: laid · RootedEnds: laid · RootedFolds: laid · RootedAgain: laid.
  DERIVED. THE GIVEN ROWS OF THIS SEAT. 10 by the template 'for every input the law returns true; each argument reads behind the call as it read before'; 0 by the template 'total and deterministic' (their statements: YtaeainnkhjnlaaaDoorTotals.lean).
  GIVEN WITH THE SEED: the statements are not yours to turn. If you find one false, say at which input.
  Laid BY PROGRAM, IN A SANDBOX (cutbox-rows.mjs): the forced cells as the released guide's own fill.sh prints them over the translation 9f6b84ded96bd2c6… (all of the seat's roots in one cut). By AI agents, Wed Nov 11 2026. No macro, syntax, notation, axiom, sorry.
-/
import Derived.Test.YtaeainnkhjnlaaaDoorChecked
import GoSem.Claim
import GoSem.ClaimJoined
import GoSem.ClaimMapViews
import Derived.JoinedTies
import Derived.KernelRfl
namespace Go.Proofs.YtaeainnkhjnlaaaDoor
/- THE CELL 'sum', in the pinned program and in every row, IS THE sha256 OF THE DUMP (.gsa) THAT YtaeainnkhjnlaaaDoorProg.lean LOADS. Nothing in Lean hashes anything: it is a label: what it is worth is what the hold of that sum in a sandbox is worth. -/
noncomputable def Tryd.pinned : Pinned := { name := "ytaeainnkhjnlaaadoor", sum := "9f6b84ded96bd2c676f5114f6f98b8d565375ae7f049a072329a9d5d4b6600d7", checked := Tryd.checked }
namespace Rows
def none {H : Type} : Left H := { results := [], args := [] }

/- WHAT THE LISTED PACKAGE-LEVEL VARIABLES READ AS WHEN THE CALL BEGINS. Each datum BY PROGRAM (the guide's laid-datum.mjs) off the statement by which the dump's own 'gosem.cut.vars' lays the variable. In a bare row this is a premise. The card (YtaeainnkhjnlaaaDoorCards.lean) ties it to the program's text. -/
def laid_math_bits_deBruijn32tab {H : Type} : DataW H := .agg [.lit (.int .u8 0), .lit (.int .u8 1), .lit (.int .u8 28), .lit (.int .u8 2), .lit (.int .u8 29), .lit (.int .u8 14), .lit (.int .u8 24), .lit (.int .u8 3), .lit (.int .u8 30), .lit (.int .u8 22), .lit (.int .u8 20), .lit (.int .u8 15), .lit (.int .u8 25), .lit (.int .u8 17), .lit (.int .u8 4), .lit (.int .u8 8), .lit (.int .u8 31), .lit (.int .u8 27), .lit (.int .u8 13), .lit (.int .u8 23), .lit (.int .u8 21), .lit (.int .u8 19), .lit (.int .u8 16), .lit (.int .u8 7), .lit (.int .u8 26), .lit (.int .u8 12), .lit (.int .u8 18), .lit (.int .u8 6), .lit (.int .u8 11), .lit (.int .u8 5), .lit (.int .u8 10), .lit (.int .u8 9)]
def laid_math_bits_deBruijn64tab {H : Type} : DataW H := .agg [.lit (.int .u8 0), .lit (.int .u8 1), .lit (.int .u8 56), .lit (.int .u8 2), .lit (.int .u8 57), .lit (.int .u8 49), .lit (.int .u8 28), .lit (.int .u8 3), .lit (.int .u8 61), .lit (.int .u8 58), .lit (.int .u8 42), .lit (.int .u8 50), .lit (.int .u8 38), .lit (.int .u8 29), .lit (.int .u8 17), .lit (.int .u8 4), .lit (.int .u8 62), .lit (.int .u8 47), .lit (.int .u8 59), .lit (.int .u8 36), .lit (.int .u8 45), .lit (.int .u8 43), .lit (.int .u8 51), .lit (.int .u8 22), .lit (.int .u8 53), .lit (.int .u8 39), .lit (.int .u8 33), .lit (.int .u8 30), .lit (.int .u8 24), .lit (.int .u8 18), .lit (.int .u8 12), .lit (.int .u8 5), .lit (.int .u8 63), .lit (.int .u8 55), .lit (.int .u8 48), .lit (.int .u8 27), .lit (.int .u8 60), .lit (.int .u8 41), .lit (.int .u8 37), .lit (.int .u8 16), .lit (.int .u8 46), .lit (.int .u8 35), .lit (.int .u8 44), .lit (.int .u8 21), .lit (.int .u8 52), .lit (.int .u8 32), .lit (.int .u8 23), .lit (.int .u8 11), .lit (.int .u8 54), .lit (.int .u8 26), .lit (.int .u8 40), .lit (.int .u8 15), .lit (.int .u8 34), .lit (.int .u8 20), .lit (.int .u8 31), .lit (.int .u8 10), .lit (.int .u8 25), .lit (.int .u8 14), .lit (.int .u8 19), .lit (.int .u8 9), .lit (.int .u8 13), .lit (.int .u8 8), .lit (.int .u8 7), .lit (.int .u8 6)]
def laid_internal_strconv_uint64pow10 {H : Type} : DataW H := .agg [.lit (.int .u64 1), .lit (.int .u64 10), .lit (.int .u64 100), .lit (.int .u64 1000), .lit (.int .u64 10000), .lit (.int .u64 100000), .lit (.int .u64 1000000), .lit (.int .u64 10000000), .lit (.int .u64 100000000), .lit (.int .u64 1000000000), .lit (.int .u64 10000000000), .lit (.int .u64 100000000000), .lit (.int .u64 1000000000000), .lit (.int .u64 10000000000000), .lit (.int .u64 100000000000000), .lit (.int .u64 1000000000000000), .lit (.int .u64 10000000000000000), .lit (.int .u64 100000000000000000), .lit (.int .u64 1000000000000000000), .lit (.int .u64 10000000000000000000)]

/-- 'slagheaplaw10.RootedSorts': WHATEVER THE INPUT: true; the input reads as it did. -/
def rootedSortsSpec : ChangeSpec := { name := "rootedSorts", fn := fun _ => fun
  | [d1, d2] => { results := [.lit (.bool true)], args := [d1, d2] }
  | _ => none }
def rootedSortsRow : OpenClaim := { program := "ytaeainnkhjnlaaadoor", sum := "9f6b84ded96bd2c676f5114f6f98b8d565375ae7f049a072329a9d5d4b6600d7", func := "slagheap/slagheaplaw10.RootedSorts", spec := "rootedSorts", inPlace := ["sync/atomic.AddInt64", "sync/atomic.LoadInt64", "internal/abi.NoEscape", "internal/bytealg.MakeNoZero"], unfollowed := true, recurses := true, named := ["internal/strconv.uint64pow10", "math/bits.deBruijn32tab", "math/bits.deBruijn64tab"], apart := false, laid := [("math/bits.deBruijn32tab", laid_math_bits_deBruijn32tab), ("math/bits.deBruijn64tab", laid_math_bits_deBruijn64tab), ("internal/strconv.uint64pow10", laid_internal_strconv_uint64pow10)] }
def RootedSortsSaid : Prop := rootedSortsRow.holds Tryd.pinned (OpenSpec.ofChange rootedSortsSpec)

/-- ITS FALSE NEIGHBOUR: 'it returns false'. Refute it at one input. -/
def rootedSortsWrong : ChangeSpec := { name := "rootedSorts", fn := fun _ => fun
  | [d1, d2] => { results := [.lit (.bool false)], args := [d1, d2] }
  | _ => none }
def RootedSortsWrongFalsely : Prop := rootedSortsRow.holds Tryd.pinned (OpenSpec.ofChange rootedSortsWrong)

/-- 'slagheaplaw10.RootedCounts': WHATEVER THE INPUT: true; the input reads as it did. -/
def rootedCountsSpec : ChangeSpec := { name := "rootedCounts", fn := fun _ => fun
  | [d] => { results := [.lit (.bool true)], args := [d] }
  | _ => none }
def rootedCountsRow : OpenClaim := { program := "ytaeainnkhjnlaaadoor", sum := "9f6b84ded96bd2c676f5114f6f98b8d565375ae7f049a072329a9d5d4b6600d7", func := "slagheap/slagheaplaw10.RootedCounts", spec := "rootedCounts", inPlace := ["sync/atomic.AddInt64", "sync/atomic.LoadInt64", "internal/abi.NoEscape", "internal/bytealg.MakeNoZero"], unfollowed := true, recurses := true, named := ["internal/strconv.uint64pow10", "math/bits.deBruijn32tab", "math/bits.deBruijn64tab"], apart := false, laid := [("math/bits.deBruijn32tab", laid_math_bits_deBruijn32tab), ("math/bits.deBruijn64tab", laid_math_bits_deBruijn64tab), ("internal/strconv.uint64pow10", laid_internal_strconv_uint64pow10)] }
def RootedCountsSaid : Prop := rootedCountsRow.holds Tryd.pinned (OpenSpec.ofChange rootedCountsSpec)

/-- ITS FALSE NEIGHBOUR: 'it returns false'. Refute it at one input. -/
def rootedCountsWrong : ChangeSpec := { name := "rootedCounts", fn := fun _ => fun
  | [d] => { results := [.lit (.bool false)], args := [d] }
  | _ => none }
def RootedCountsWrongFalsely : Prop := rootedCountsRow.holds Tryd.pinned (OpenSpec.ofChange rootedCountsWrong)

/-- 'slagheaplaw10.RootedSteps': WHATEVER THE INPUT: true; the input reads as it did. -/
def rootedStepsSpec : ChangeSpec := { name := "rootedSteps", fn := fun _ => fun
  | [d1, d2] => { results := [.lit (.bool true)], args := [d1, d2] }
  | _ => none }
def rootedStepsRow : OpenClaim := { program := "ytaeainnkhjnlaaadoor", sum := "9f6b84ded96bd2c676f5114f6f98b8d565375ae7f049a072329a9d5d4b6600d7", func := "slagheap/slagheaplaw10.RootedSteps", spec := "rootedSteps", inPlace := ["sync/atomic.AddInt64", "sync/atomic.LoadInt64", "internal/abi.NoEscape", "internal/bytealg.MakeNoZero"], unfollowed := true, recurses := true, named := ["internal/strconv.uint64pow10", "math/bits.deBruijn32tab", "math/bits.deBruijn64tab"], apart := false, laid := [("math/bits.deBruijn32tab", laid_math_bits_deBruijn32tab), ("math/bits.deBruijn64tab", laid_math_bits_deBruijn64tab), ("internal/strconv.uint64pow10", laid_internal_strconv_uint64pow10)] }
def RootedStepsSaid : Prop := rootedStepsRow.holds Tryd.pinned (OpenSpec.ofChange rootedStepsSpec)

/-- ITS FALSE NEIGHBOUR: 'it returns false'. Refute it at one input. -/
def rootedStepsWrong : ChangeSpec := { name := "rootedSteps", fn := fun _ => fun
  | [d1, d2] => { results := [.lit (.bool false)], args := [d1, d2] }
  | _ => none }
def RootedStepsWrongFalsely : Prop := rootedStepsRow.holds Tryd.pinned (OpenSpec.ofChange rootedStepsWrong)

/-- 'slagheaplaw10.RootedCommutes': WHATEVER THE INPUT: true; the input reads as it did. -/
def rootedCommutesSpec : ChangeSpec := { name := "rootedCommutes", fn := fun _ => fun
  | [d1, d2, d3] => { results := [.lit (.bool true)], args := [d1, d2, d3] }
  | _ => none }
def rootedCommutesRow : OpenClaim := { program := "ytaeainnkhjnlaaadoor", sum := "9f6b84ded96bd2c676f5114f6f98b8d565375ae7f049a072329a9d5d4b6600d7", func := "slagheap/slagheaplaw10.RootedCommutes", spec := "rootedCommutes", inPlace := ["sync/atomic.AddInt64", "sync/atomic.LoadInt64", "internal/abi.NoEscape", "internal/bytealg.MakeNoZero"], unfollowed := true, recurses := true, named := ["internal/strconv.uint64pow10", "math/bits.deBruijn32tab", "math/bits.deBruijn64tab"], apart := false, laid := [("math/bits.deBruijn32tab", laid_math_bits_deBruijn32tab), ("math/bits.deBruijn64tab", laid_math_bits_deBruijn64tab), ("internal/strconv.uint64pow10", laid_internal_strconv_uint64pow10)] }
def RootedCommutesSaid : Prop := rootedCommutesRow.holds Tryd.pinned (OpenSpec.ofChange rootedCommutesSpec)

/-- ITS FALSE NEIGHBOUR: 'it returns false'. Refute it at one input. -/
def rootedCommutesWrong : ChangeSpec := { name := "rootedCommutes", fn := fun _ => fun
  | [d1, d2, d3] => { results := [.lit (.bool false)], args := [d1, d2, d3] }
  | _ => none }
def RootedCommutesWrongFalsely : Prop := rootedCommutesRow.holds Tryd.pinned (OpenSpec.ofChange rootedCommutesWrong)

/-- 'slagheaplaw10.RootedLeast': WHATEVER THE INPUT: true; the input reads as it did. -/
def rootedLeastSpec : ChangeSpec := { name := "rootedLeast", fn := fun _ => fun
  | [d1, d2, d3] => { results := [.lit (.bool true)], args := [d1, d2, d3] }
  | _ => none }
def rootedLeastRow : OpenClaim := { program := "ytaeainnkhjnlaaadoor", sum := "9f6b84ded96bd2c676f5114f6f98b8d565375ae7f049a072329a9d5d4b6600d7", func := "slagheap/slagheaplaw10.RootedLeast", spec := "rootedLeast", inPlace := ["sync/atomic.AddInt64", "sync/atomic.LoadInt64", "internal/abi.NoEscape", "internal/bytealg.MakeNoZero"], unfollowed := true, recurses := true, named := ["internal/strconv.uint64pow10", "math/bits.deBruijn32tab", "math/bits.deBruijn64tab"], apart := false, laid := [("math/bits.deBruijn32tab", laid_math_bits_deBruijn32tab), ("math/bits.deBruijn64tab", laid_math_bits_deBruijn64tab), ("internal/strconv.uint64pow10", laid_internal_strconv_uint64pow10)] }
def RootedLeastSaid : Prop := rootedLeastRow.holds Tryd.pinned (OpenSpec.ofChange rootedLeastSpec)

/-- ITS FALSE NEIGHBOUR: 'it returns false'. Refute it at one input. -/
def rootedLeastWrong : ChangeSpec := { name := "rootedLeast", fn := fun _ => fun
  | [d1, d2, d3] => { results := [.lit (.bool false)], args := [d1, d2, d3] }
  | _ => none }
def RootedLeastWrongFalsely : Prop := rootedLeastRow.holds Tryd.pinned (OpenSpec.ofChange rootedLeastWrong)

/-- 'slagheaplaw10.RootedStays': WHATEVER THE INPUT: true; the input reads as it did. -/
def rootedStaysSpec : ChangeSpec := { name := "rootedStays", fn := fun _ => fun
  | [d1, d2, d3, d4] => { results := [.lit (.bool true)], args := [d1, d2, d3, d4] }
  | _ => none }
def rootedStaysRow : OpenClaim := { program := "ytaeainnkhjnlaaadoor", sum := "9f6b84ded96bd2c676f5114f6f98b8d565375ae7f049a072329a9d5d4b6600d7", func := "slagheap/slagheaplaw10.RootedStays", spec := "rootedStays", inPlace := ["sync/atomic.AddInt64", "sync/atomic.LoadInt64", "internal/abi.NoEscape", "internal/bytealg.MakeNoZero"], unfollowed := true, recurses := true, named := ["internal/strconv.uint64pow10", "math/bits.deBruijn32tab", "math/bits.deBruijn64tab"], apart := false, laid := [("math/bits.deBruijn32tab", laid_math_bits_deBruijn32tab), ("math/bits.deBruijn64tab", laid_math_bits_deBruijn64tab), ("internal/strconv.uint64pow10", laid_internal_strconv_uint64pow10)] }
def RootedStaysSaid : Prop := rootedStaysRow.holds Tryd.pinned (OpenSpec.ofChange rootedStaysSpec)

/-- ITS FALSE NEIGHBOUR: 'it returns false'. Refute it at one input. -/
def rootedStaysWrong : ChangeSpec := { name := "rootedStays", fn := fun _ => fun
  | [d1, d2, d3, d4] => { results := [.lit (.bool false)], args := [d1, d2, d3, d4] }
  | _ => none }
def RootedStaysWrongFalsely : Prop := rootedStaysRow.holds Tryd.pinned (OpenSpec.ofChange rootedStaysWrong)

/-- 'slagheaplaw10.RootedDoubles': WHATEVER THE INPUT: true; the input reads as it did. -/
def rootedDoublesSpec : ChangeSpec := { name := "rootedDoubles", fn := fun _ => fun
  | [d1, d2] => { results := [.lit (.bool true)], args := [d1, d2] }
  | _ => none }
def rootedDoublesRow : OpenClaim := { program := "ytaeainnkhjnlaaadoor", sum := "9f6b84ded96bd2c676f5114f6f98b8d565375ae7f049a072329a9d5d4b6600d7", func := "slagheap/slagheaplaw10.RootedDoubles", spec := "rootedDoubles", inPlace := ["sync/atomic.AddInt64", "sync/atomic.LoadInt64", "internal/abi.NoEscape", "internal/bytealg.MakeNoZero"], unfollowed := true, recurses := true, named := ["internal/strconv.uint64pow10", "math/bits.deBruijn32tab", "math/bits.deBruijn64tab"], apart := false, laid := [("math/bits.deBruijn32tab", laid_math_bits_deBruijn32tab), ("math/bits.deBruijn64tab", laid_math_bits_deBruijn64tab), ("internal/strconv.uint64pow10", laid_internal_strconv_uint64pow10)] }
def RootedDoublesSaid : Prop := rootedDoublesRow.holds Tryd.pinned (OpenSpec.ofChange rootedDoublesSpec)

/-- ITS FALSE NEIGHBOUR: 'it returns false'. Refute it at one input. -/
def rootedDoublesWrong : ChangeSpec := { name := "rootedDoubles", fn := fun _ => fun
  | [d1, d2] => { results := [.lit (.bool false)], args := [d1, d2] }
  | _ => none }
def RootedDoublesWrongFalsely : Prop := rootedDoublesRow.holds Tryd.pinned (OpenSpec.ofChange rootedDoublesWrong)

/-- 'slagheaplaw10.RootedEnds': WHATEVER THE INPUT: true; the input reads as it did. -/
def rootedEndsSpec : ChangeSpec := { name := "rootedEnds", fn := fun _ => fun
  | [d1, d2, d3] => { results := [.lit (.bool true)], args := [d1, d2, d3] }
  | _ => none }
def rootedEndsRow : OpenClaim := { program := "ytaeainnkhjnlaaadoor", sum := "9f6b84ded96bd2c676f5114f6f98b8d565375ae7f049a072329a9d5d4b6600d7", func := "slagheap/slagheaplaw10.RootedEnds", spec := "rootedEnds", inPlace := ["sync/atomic.AddInt64", "sync/atomic.LoadInt64", "internal/abi.NoEscape", "internal/bytealg.MakeNoZero"], unfollowed := true, recurses := true, named := ["internal/strconv.uint64pow10", "math/bits.deBruijn32tab", "math/bits.deBruijn64tab"], apart := false, laid := [("math/bits.deBruijn32tab", laid_math_bits_deBruijn32tab), ("math/bits.deBruijn64tab", laid_math_bits_deBruijn64tab), ("internal/strconv.uint64pow10", laid_internal_strconv_uint64pow10)] }
def RootedEndsSaid : Prop := rootedEndsRow.holds Tryd.pinned (OpenSpec.ofChange rootedEndsSpec)

/-- ITS FALSE NEIGHBOUR: 'it returns false'. Refute it at one input. -/
def rootedEndsWrong : ChangeSpec := { name := "rootedEnds", fn := fun _ => fun
  | [d1, d2, d3] => { results := [.lit (.bool false)], args := [d1, d2, d3] }
  | _ => none }
def RootedEndsWrongFalsely : Prop := rootedEndsRow.holds Tryd.pinned (OpenSpec.ofChange rootedEndsWrong)

/-- 'slagheaplaw10.RootedFolds': WHATEVER THE INPUT: true; the input reads as it did. -/
def rootedFoldsSpec : ChangeSpec := { name := "rootedFolds", fn := fun _ => fun
  | [d] => { results := [.lit (.bool true)], args := [d] }
  | _ => none }
def rootedFoldsRow : OpenClaim := { program := "ytaeainnkhjnlaaadoor", sum := "9f6b84ded96bd2c676f5114f6f98b8d565375ae7f049a072329a9d5d4b6600d7", func := "slagheap/slagheaplaw10.RootedFolds", spec := "rootedFolds", inPlace := ["sync/atomic.AddInt64", "sync/atomic.LoadInt64", "internal/abi.NoEscape", "internal/bytealg.MakeNoZero"], unfollowed := true, recurses := true, named := ["internal/strconv.uint64pow10", "math/bits.deBruijn32tab", "math/bits.deBruijn64tab"], apart := false, laid := [("math/bits.deBruijn32tab", laid_math_bits_deBruijn32tab), ("math/bits.deBruijn64tab", laid_math_bits_deBruijn64tab), ("internal/strconv.uint64pow10", laid_internal_strconv_uint64pow10)] }
def RootedFoldsSaid : Prop := rootedFoldsRow.holds Tryd.pinned (OpenSpec.ofChange rootedFoldsSpec)

/-- ITS FALSE NEIGHBOUR: 'it returns false'. Refute it at one input. -/
def rootedFoldsWrong : ChangeSpec := { name := "rootedFolds", fn := fun _ => fun
  | [d] => { results := [.lit (.bool false)], args := [d] }
  | _ => none }
def RootedFoldsWrongFalsely : Prop := rootedFoldsRow.holds Tryd.pinned (OpenSpec.ofChange rootedFoldsWrong)

/-- 'slagheaplaw10.RootedAgain': WHATEVER THE INPUT: true; the input reads as it did. -/
def rootedAgainSpec : ChangeSpec := { name := "rootedAgain", fn := fun _ => fun
  | [d1, d2, d3] => { results := [.lit (.bool true)], args := [d1, d2, d3] }
  | _ => none }
def rootedAgainRow : OpenClaim := { program := "ytaeainnkhjnlaaadoor", sum := "9f6b84ded96bd2c676f5114f6f98b8d565375ae7f049a072329a9d5d4b6600d7", func := "slagheap/slagheaplaw10.RootedAgain", spec := "rootedAgain", inPlace := ["sync/atomic.AddInt64", "sync/atomic.LoadInt64", "internal/abi.NoEscape", "internal/bytealg.MakeNoZero"], unfollowed := true, recurses := true, named := ["internal/strconv.uint64pow10", "math/bits.deBruijn32tab", "math/bits.deBruijn64tab"], apart := false, laid := [("math/bits.deBruijn32tab", laid_math_bits_deBruijn32tab), ("math/bits.deBruijn64tab", laid_math_bits_deBruijn64tab), ("internal/strconv.uint64pow10", laid_internal_strconv_uint64pow10)] }
def RootedAgainSaid : Prop := rootedAgainRow.holds Tryd.pinned (OpenSpec.ofChange rootedAgainSpec)

/-- ITS FALSE NEIGHBOUR: 'it returns false'. Refute it at one input. -/
def rootedAgainWrong : ChangeSpec := { name := "rootedAgain", fn := fun _ => fun
  | [d1, d2, d3] => { results := [.lit (.bool false)], args := [d1, d2, d3] }
  | _ => none }
def RootedAgainWrongFalsely : Prop := rootedAgainRow.holds Tryd.pinned (OpenSpec.ofChange rootedAgainWrong)

/- THE SECOND FORM. 'bulk': how many values and letters a reading holds, each counted each time it is reached (what is shared counts as often as it is met; a slice's spare places count too). A statement '..UptoSaid' is the law's where the arguments, and the package variables that the reading takes, are together of bulk at most 1048576: NARROWER than '..Said'. Prove '..Said' where nothing that the law and all that it calls make is longer than what came in: it says more and counts as full. Else prove '..UptoSaid'. A law counts once. -/
mutual
def uptoBulk {H : Type} : DataW H → Nat
  | .lit (.string bytes) => bytes.length + 1
  | .lit _ => 1
  | .nil => 1
  | .ptr d => uptoBulk d + 1
  | .slice elems spare => uptoBulkAll elems + uptoBulkAll spare + 1
  | .agg parts => uptoBulkAll parts + 1
  | .iface _ d => uptoBulk d + 1
  | .map entries => uptoBulkEntries entries + 1
  | .held _ => 1
def uptoBulkAll {H : Type} : List (DataW H) → Nat
  | [] => 0
  | d :: r => uptoBulk d + uptoBulkAll r
def uptoBulkEntries {H : Type} : List (Lit × DataW H) → Nat
  | [] => 0
  | x :: r => uptoBulkEntry x + uptoBulkEntries r
def uptoBulkEntry {H : Type} : Lit × DataW H → Nat
  | (.string bytes, d) => bytes.length + uptoBulk d + 1
  | (_, d) => uptoBulk d + 1
 end
def uptoSmall : (H : Type) → List (DataW H) → Bool := fun _ ds => decide (uptoBulkAll ds ≤ 1048576)
def OpenSpec.upto (s : _root_.Go.ChangeSpec) : _root_.Go.OpenSpec := { _root_.Go.OpenSpec.ofChange s with cond := some uptoSmall }

/-- 'slagheaplaw10.RootedSorts', WHERE WHAT IT READS IS OF BULK AT MOST 1048576: true; the input reads as it did. -/
def rootedSortsUptoRow : OpenClaim := { program := "ytaeainnkhjnlaaadoor", sum := "9f6b84ded96bd2c676f5114f6f98b8d565375ae7f049a072329a9d5d4b6600d7", func := "slagheap/slagheaplaw10.RootedSorts", spec := "rootedSorts", inPlace := ["sync/atomic.AddInt64", "sync/atomic.LoadInt64", "internal/abi.NoEscape", "internal/bytealg.MakeNoZero"], unfollowed := true, recurses := true, named := ["internal/strconv.uint64pow10", "math/bits.deBruijn32tab", "math/bits.deBruijn64tab"], apart := false, laid := [("math/bits.deBruijn32tab", laid_math_bits_deBruijn32tab), ("math/bits.deBruijn64tab", laid_math_bits_deBruijn64tab), ("internal/strconv.uint64pow10", laid_internal_strconv_uint64pow10)], narrowed := true }
def RootedSortsUptoSaid : Prop := rootedSortsUptoRow.holds Tryd.pinned (OpenSpec.upto rootedSortsSpec)

/-- 'slagheaplaw10.RootedCounts', WHERE WHAT IT READS IS OF BULK AT MOST 1048576: true; the input reads as it did. -/
def rootedCountsUptoRow : OpenClaim := { program := "ytaeainnkhjnlaaadoor", sum := "9f6b84ded96bd2c676f5114f6f98b8d565375ae7f049a072329a9d5d4b6600d7", func := "slagheap/slagheaplaw10.RootedCounts", spec := "rootedCounts", inPlace := ["sync/atomic.AddInt64", "sync/atomic.LoadInt64", "internal/abi.NoEscape", "internal/bytealg.MakeNoZero"], unfollowed := true, recurses := true, named := ["internal/strconv.uint64pow10", "math/bits.deBruijn32tab", "math/bits.deBruijn64tab"], apart := false, laid := [("math/bits.deBruijn32tab", laid_math_bits_deBruijn32tab), ("math/bits.deBruijn64tab", laid_math_bits_deBruijn64tab), ("internal/strconv.uint64pow10", laid_internal_strconv_uint64pow10)], narrowed := true }
def RootedCountsUptoSaid : Prop := rootedCountsUptoRow.holds Tryd.pinned (OpenSpec.upto rootedCountsSpec)

/-- 'slagheaplaw10.RootedSteps', WHERE WHAT IT READS IS OF BULK AT MOST 1048576: true; the input reads as it did. -/
def rootedStepsUptoRow : OpenClaim := { program := "ytaeainnkhjnlaaadoor", sum := "9f6b84ded96bd2c676f5114f6f98b8d565375ae7f049a072329a9d5d4b6600d7", func := "slagheap/slagheaplaw10.RootedSteps", spec := "rootedSteps", inPlace := ["sync/atomic.AddInt64", "sync/atomic.LoadInt64", "internal/abi.NoEscape", "internal/bytealg.MakeNoZero"], unfollowed := true, recurses := true, named := ["internal/strconv.uint64pow10", "math/bits.deBruijn32tab", "math/bits.deBruijn64tab"], apart := false, laid := [("math/bits.deBruijn32tab", laid_math_bits_deBruijn32tab), ("math/bits.deBruijn64tab", laid_math_bits_deBruijn64tab), ("internal/strconv.uint64pow10", laid_internal_strconv_uint64pow10)], narrowed := true }
def RootedStepsUptoSaid : Prop := rootedStepsUptoRow.holds Tryd.pinned (OpenSpec.upto rootedStepsSpec)

/-- 'slagheaplaw10.RootedCommutes', WHERE WHAT IT READS IS OF BULK AT MOST 1048576: true; the input reads as it did. -/
def rootedCommutesUptoRow : OpenClaim := { program := "ytaeainnkhjnlaaadoor", sum := "9f6b84ded96bd2c676f5114f6f98b8d565375ae7f049a072329a9d5d4b6600d7", func := "slagheap/slagheaplaw10.RootedCommutes", spec := "rootedCommutes", inPlace := ["sync/atomic.AddInt64", "sync/atomic.LoadInt64", "internal/abi.NoEscape", "internal/bytealg.MakeNoZero"], unfollowed := true, recurses := true, named := ["internal/strconv.uint64pow10", "math/bits.deBruijn32tab", "math/bits.deBruijn64tab"], apart := false, laid := [("math/bits.deBruijn32tab", laid_math_bits_deBruijn32tab), ("math/bits.deBruijn64tab", laid_math_bits_deBruijn64tab), ("internal/strconv.uint64pow10", laid_internal_strconv_uint64pow10)], narrowed := true }
def RootedCommutesUptoSaid : Prop := rootedCommutesUptoRow.holds Tryd.pinned (OpenSpec.upto rootedCommutesSpec)

/-- 'slagheaplaw10.RootedLeast', WHERE WHAT IT READS IS OF BULK AT MOST 1048576: true; the input reads as it did. -/
def rootedLeastUptoRow : OpenClaim := { program := "ytaeainnkhjnlaaadoor", sum := "9f6b84ded96bd2c676f5114f6f98b8d565375ae7f049a072329a9d5d4b6600d7", func := "slagheap/slagheaplaw10.RootedLeast", spec := "rootedLeast", inPlace := ["sync/atomic.AddInt64", "sync/atomic.LoadInt64", "internal/abi.NoEscape", "internal/bytealg.MakeNoZero"], unfollowed := true, recurses := true, named := ["internal/strconv.uint64pow10", "math/bits.deBruijn32tab", "math/bits.deBruijn64tab"], apart := false, laid := [("math/bits.deBruijn32tab", laid_math_bits_deBruijn32tab), ("math/bits.deBruijn64tab", laid_math_bits_deBruijn64tab), ("internal/strconv.uint64pow10", laid_internal_strconv_uint64pow10)], narrowed := true }
def RootedLeastUptoSaid : Prop := rootedLeastUptoRow.holds Tryd.pinned (OpenSpec.upto rootedLeastSpec)

/-- 'slagheaplaw10.RootedStays', WHERE WHAT IT READS IS OF BULK AT MOST 1048576: true; the input reads as it did. -/
def rootedStaysUptoRow : OpenClaim := { program := "ytaeainnkhjnlaaadoor", sum := "9f6b84ded96bd2c676f5114f6f98b8d565375ae7f049a072329a9d5d4b6600d7", func := "slagheap/slagheaplaw10.RootedStays", spec := "rootedStays", inPlace := ["sync/atomic.AddInt64", "sync/atomic.LoadInt64", "internal/abi.NoEscape", "internal/bytealg.MakeNoZero"], unfollowed := true, recurses := true, named := ["internal/strconv.uint64pow10", "math/bits.deBruijn32tab", "math/bits.deBruijn64tab"], apart := false, laid := [("math/bits.deBruijn32tab", laid_math_bits_deBruijn32tab), ("math/bits.deBruijn64tab", laid_math_bits_deBruijn64tab), ("internal/strconv.uint64pow10", laid_internal_strconv_uint64pow10)], narrowed := true }
def RootedStaysUptoSaid : Prop := rootedStaysUptoRow.holds Tryd.pinned (OpenSpec.upto rootedStaysSpec)

/-- 'slagheaplaw10.RootedDoubles', WHERE WHAT IT READS IS OF BULK AT MOST 1048576: true; the input reads as it did. -/
def rootedDoublesUptoRow : OpenClaim := { program := "ytaeainnkhjnlaaadoor", sum := "9f6b84ded96bd2c676f5114f6f98b8d565375ae7f049a072329a9d5d4b6600d7", func := "slagheap/slagheaplaw10.RootedDoubles", spec := "rootedDoubles", inPlace := ["sync/atomic.AddInt64", "sync/atomic.LoadInt64", "internal/abi.NoEscape", "internal/bytealg.MakeNoZero"], unfollowed := true, recurses := true, named := ["internal/strconv.uint64pow10", "math/bits.deBruijn32tab", "math/bits.deBruijn64tab"], apart := false, laid := [("math/bits.deBruijn32tab", laid_math_bits_deBruijn32tab), ("math/bits.deBruijn64tab", laid_math_bits_deBruijn64tab), ("internal/strconv.uint64pow10", laid_internal_strconv_uint64pow10)], narrowed := true }
def RootedDoublesUptoSaid : Prop := rootedDoublesUptoRow.holds Tryd.pinned (OpenSpec.upto rootedDoublesSpec)

/-- 'slagheaplaw10.RootedEnds', WHERE WHAT IT READS IS OF BULK AT MOST 1048576: true; the input reads as it did. -/
def rootedEndsUptoRow : OpenClaim := { program := "ytaeainnkhjnlaaadoor", sum := "9f6b84ded96bd2c676f5114f6f98b8d565375ae7f049a072329a9d5d4b6600d7", func := "slagheap/slagheaplaw10.RootedEnds", spec := "rootedEnds", inPlace := ["sync/atomic.AddInt64", "sync/atomic.LoadInt64", "internal/abi.NoEscape", "internal/bytealg.MakeNoZero"], unfollowed := true, recurses := true, named := ["internal/strconv.uint64pow10", "math/bits.deBruijn32tab", "math/bits.deBruijn64tab"], apart := false, laid := [("math/bits.deBruijn32tab", laid_math_bits_deBruijn32tab), ("math/bits.deBruijn64tab", laid_math_bits_deBruijn64tab), ("internal/strconv.uint64pow10", laid_internal_strconv_uint64pow10)], narrowed := true }
def RootedEndsUptoSaid : Prop := rootedEndsUptoRow.holds Tryd.pinned (OpenSpec.upto rootedEndsSpec)

/-- 'slagheaplaw10.RootedFolds', WHERE WHAT IT READS IS OF BULK AT MOST 1048576: true; the input reads as it did. -/
def rootedFoldsUptoRow : OpenClaim := { program := "ytaeainnkhjnlaaadoor", sum := "9f6b84ded96bd2c676f5114f6f98b8d565375ae7f049a072329a9d5d4b6600d7", func := "slagheap/slagheaplaw10.RootedFolds", spec := "rootedFolds", inPlace := ["sync/atomic.AddInt64", "sync/atomic.LoadInt64", "internal/abi.NoEscape", "internal/bytealg.MakeNoZero"], unfollowed := true, recurses := true, named := ["internal/strconv.uint64pow10", "math/bits.deBruijn32tab", "math/bits.deBruijn64tab"], apart := false, laid := [("math/bits.deBruijn32tab", laid_math_bits_deBruijn32tab), ("math/bits.deBruijn64tab", laid_math_bits_deBruijn64tab), ("internal/strconv.uint64pow10", laid_internal_strconv_uint64pow10)], narrowed := true }
def RootedFoldsUptoSaid : Prop := rootedFoldsUptoRow.holds Tryd.pinned (OpenSpec.upto rootedFoldsSpec)

/-- 'slagheaplaw10.RootedAgain', WHERE WHAT IT READS IS OF BULK AT MOST 1048576: true; the input reads as it did. -/
def rootedAgainUptoRow : OpenClaim := { program := "ytaeainnkhjnlaaadoor", sum := "9f6b84ded96bd2c676f5114f6f98b8d565375ae7f049a072329a9d5d4b6600d7", func := "slagheap/slagheaplaw10.RootedAgain", spec := "rootedAgain", inPlace := ["sync/atomic.AddInt64", "sync/atomic.LoadInt64", "internal/abi.NoEscape", "internal/bytealg.MakeNoZero"], unfollowed := true, recurses := true, named := ["internal/strconv.uint64pow10", "math/bits.deBruijn32tab", "math/bits.deBruijn64tab"], apart := false, laid := [("math/bits.deBruijn32tab", laid_math_bits_deBruijn32tab), ("math/bits.deBruijn64tab", laid_math_bits_deBruijn64tab), ("internal/strconv.uint64pow10", laid_internal_strconv_uint64pow10)], narrowed := true }
def RootedAgainUptoSaid : Prop := rootedAgainUptoRow.holds Tryd.pinned (OpenSpec.upto rootedAgainSpec)

end Rows
end Go.Proofs.YtaeainnkhjnlaaaDoor
