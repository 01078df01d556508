/-
  NARROWER THAN 'FOR EVERY INPUT', by the rows' own cells (each row's printed sentence says how): SkewSorts: laid · SkewCounts: laid · SkewSteps: laid · SkewCommutes: laid · SkewLeast: laid · SkewStays: laid · SkewDoubles: laid · SkewEnds: laid · SkewFolds: laid · SkewAgain: laid.
  DERIVED. THE GIVEN ROWS OF THIS SEAT. 10 by the template 'for every input the law returns true; each argument reads behind the call as it read before'; 0 by the template 'total and deterministic' (their statements: YtlaohkflnkjamaaDoorTotals.lean).
  GIVEN WITH THE SEED: the statements are not yours to turn. If you find one false, say at which input.
  Laid BY PROGRAM, IN A SANDBOX (cutbox-rows.mjs): the forced cells as the released guide's own fill.sh prints them over the translation 914051676389ce66… (all of the seat's roots in one cut). By AI agents, Wed Nov 11 2026. No macro, syntax, notation, axiom, sorry.
-/
import Derived.Test.YtlaohkflnkjamaaDoorChecked
import GoSem.Claim
import GoSem.ClaimJoined
import GoSem.ClaimMapViews
import Derived.JoinedTies
import Derived.KernelRfl
namespace Go.Proofs.YtlaohkflnkjamaaDoor
/- THE CELL 'sum', in the pinned program and in every row, IS THE sha256 OF THE DUMP (.gsa) THAT YtlaohkflnkjamaaDoorProg.lean LOADS. Nothing in Lean hashes anything: it is a label: what it is worth is what the hold of that sum in a sandbox is worth. -/
noncomputable def Tryd.pinned : Pinned := { name := "ytlaohkflnkjamaadoor", sum := "914051676389ce6692b60daed1e8325877119c0a4e3a1aea9a47f2378a367362", checked := Tryd.checked }
namespace Rows
def none {H : Type} : Left H := { results := [], args := [] }

/- WHAT THE LISTED PACKAGE-LEVEL VARIABLES READ AS WHEN THE CALL BEGINS. Each datum BY PROGRAM (the guide's laid-datum.mjs) off the statement by which the dump's own 'gosem.cut.vars' lays the variable. In a bare row this is a premise. The card (YtlaohkflnkjamaaDoorCards.lean) ties it to the program's text. -/
def laid_math_bits_deBruijn32tab {H : Type} : DataW H := .agg [.lit (.int .u8 0), .lit (.int .u8 1), .lit (.int .u8 28), .lit (.int .u8 2), .lit (.int .u8 29), .lit (.int .u8 14), .lit (.int .u8 24), .lit (.int .u8 3), .lit (.int .u8 30), .lit (.int .u8 22), .lit (.int .u8 20), .lit (.int .u8 15), .lit (.int .u8 25), .lit (.int .u8 17), .lit (.int .u8 4), .lit (.int .u8 8), .lit (.int .u8 31), .lit (.int .u8 27), .lit (.int .u8 13), .lit (.int .u8 23), .lit (.int .u8 21), .lit (.int .u8 19), .lit (.int .u8 16), .lit (.int .u8 7), .lit (.int .u8 26), .lit (.int .u8 12), .lit (.int .u8 18), .lit (.int .u8 6), .lit (.int .u8 11), .lit (.int .u8 5), .lit (.int .u8 10), .lit (.int .u8 9)]
def laid_math_bits_deBruijn64tab {H : Type} : DataW H := .agg [.lit (.int .u8 0), .lit (.int .u8 1), .lit (.int .u8 56), .lit (.int .u8 2), .lit (.int .u8 57), .lit (.int .u8 49), .lit (.int .u8 28), .lit (.int .u8 3), .lit (.int .u8 61), .lit (.int .u8 58), .lit (.int .u8 42), .lit (.int .u8 50), .lit (.int .u8 38), .lit (.int .u8 29), .lit (.int .u8 17), .lit (.int .u8 4), .lit (.int .u8 62), .lit (.int .u8 47), .lit (.int .u8 59), .lit (.int .u8 36), .lit (.int .u8 45), .lit (.int .u8 43), .lit (.int .u8 51), .lit (.int .u8 22), .lit (.int .u8 53), .lit (.int .u8 39), .lit (.int .u8 33), .lit (.int .u8 30), .lit (.int .u8 24), .lit (.int .u8 18), .lit (.int .u8 12), .lit (.int .u8 5), .lit (.int .u8 63), .lit (.int .u8 55), .lit (.int .u8 48), .lit (.int .u8 27), .lit (.int .u8 60), .lit (.int .u8 41), .lit (.int .u8 37), .lit (.int .u8 16), .lit (.int .u8 46), .lit (.int .u8 35), .lit (.int .u8 44), .lit (.int .u8 21), .lit (.int .u8 52), .lit (.int .u8 32), .lit (.int .u8 23), .lit (.int .u8 11), .lit (.int .u8 54), .lit (.int .u8 26), .lit (.int .u8 40), .lit (.int .u8 15), .lit (.int .u8 34), .lit (.int .u8 20), .lit (.int .u8 31), .lit (.int .u8 10), .lit (.int .u8 25), .lit (.int .u8 14), .lit (.int .u8 19), .lit (.int .u8 9), .lit (.int .u8 13), .lit (.int .u8 8), .lit (.int .u8 7), .lit (.int .u8 6)]
def laid_internal_strconv_uint64pow10 {H : Type} : DataW H := .agg [.lit (.int .u64 1), .lit (.int .u64 10), .lit (.int .u64 100), .lit (.int .u64 1000), .lit (.int .u64 10000), .lit (.int .u64 100000), .lit (.int .u64 1000000), .lit (.int .u64 10000000), .lit (.int .u64 100000000), .lit (.int .u64 1000000000), .lit (.int .u64 10000000000), .lit (.int .u64 100000000000), .lit (.int .u64 1000000000000), .lit (.int .u64 10000000000000), .lit (.int .u64 100000000000000), .lit (.int .u64 1000000000000000), .lit (.int .u64 10000000000000000), .lit (.int .u64 100000000000000000), .lit (.int .u64 1000000000000000000), .lit (.int .u64 10000000000000000000)]

/-- 'slagheaplaw09.SkewSorts': WHATEVER THE INPUT: true; the input reads as it did. -/
def skewSortsSpec : ChangeSpec := { name := "skewSorts", fn := fun _ => fun
  | [d1, d2] => { results := [.lit (.bool true)], args := [d1, d2] }
  | _ => none }
def skewSortsRow : OpenClaim := { program := "ytlaohkflnkjamaadoor", sum := "914051676389ce6692b60daed1e8325877119c0a4e3a1aea9a47f2378a367362", func := "slagheap/slagheaplaw09.SkewSorts", spec := "skewSorts", inPlace := ["sync/atomic.AddInt64", "sync/atomic.LoadInt64", "internal/abi.NoEscape", "internal/bytealg.MakeNoZero"], unfollowed := true, recurses := true, named := ["internal/strconv.uint64pow10", "math/bits.deBruijn32tab", "math/bits.deBruijn64tab"], apart := false, laid := [("math/bits.deBruijn32tab", laid_math_bits_deBruijn32tab), ("math/bits.deBruijn64tab", laid_math_bits_deBruijn64tab), ("internal/strconv.uint64pow10", laid_internal_strconv_uint64pow10)] }
def SkewSortsSaid : Prop := skewSortsRow.holds Tryd.pinned (OpenSpec.ofChange skewSortsSpec)

/-- ITS FALSE NEIGHBOUR: 'it returns false'. Refute it at one input. -/
def skewSortsWrong : ChangeSpec := { name := "skewSorts", fn := fun _ => fun
  | [d1, d2] => { results := [.lit (.bool false)], args := [d1, d2] }
  | _ => none }
def SkewSortsWrongFalsely : Prop := skewSortsRow.holds Tryd.pinned (OpenSpec.ofChange skewSortsWrong)

/-- 'slagheaplaw09.SkewCounts': WHATEVER THE INPUT: true; the input reads as it did. -/
def skewCountsSpec : ChangeSpec := { name := "skewCounts", fn := fun _ => fun
  | [d] => { results := [.lit (.bool true)], args := [d] }
  | _ => none }
def skewCountsRow : OpenClaim := { program := "ytlaohkflnkjamaadoor", sum := "914051676389ce6692b60daed1e8325877119c0a4e3a1aea9a47f2378a367362", func := "slagheap/slagheaplaw09.SkewCounts", spec := "skewCounts", inPlace := ["sync/atomic.AddInt64", "sync/atomic.LoadInt64", "internal/abi.NoEscape", "internal/bytealg.MakeNoZero"], unfollowed := true, recurses := true, named := ["internal/strconv.uint64pow10", "math/bits.deBruijn32tab", "math/bits.deBruijn64tab"], apart := false, laid := [("math/bits.deBruijn32tab", laid_math_bits_deBruijn32tab), ("math/bits.deBruijn64tab", laid_math_bits_deBruijn64tab), ("internal/strconv.uint64pow10", laid_internal_strconv_uint64pow10)] }
def SkewCountsSaid : Prop := skewCountsRow.holds Tryd.pinned (OpenSpec.ofChange skewCountsSpec)

/-- ITS FALSE NEIGHBOUR: 'it returns false'. Refute it at one input. -/
def skewCountsWrong : ChangeSpec := { name := "skewCounts", fn := fun _ => fun
  | [d] => { results := [.lit (.bool false)], args := [d] }
  | _ => none }
def SkewCountsWrongFalsely : Prop := skewCountsRow.holds Tryd.pinned (OpenSpec.ofChange skewCountsWrong)

/-- 'slagheaplaw09.SkewSteps': WHATEVER THE INPUT: true; the input reads as it did. -/
def skewStepsSpec : ChangeSpec := { name := "skewSteps", fn := fun _ => fun
  | [d1, d2] => { results := [.lit (.bool true)], args := [d1, d2] }
  | _ => none }
def skewStepsRow : OpenClaim := { program := "ytlaohkflnkjamaadoor", sum := "914051676389ce6692b60daed1e8325877119c0a4e3a1aea9a47f2378a367362", func := "slagheap/slagheaplaw09.SkewSteps", spec := "skewSteps", inPlace := ["sync/atomic.AddInt64", "sync/atomic.LoadInt64", "internal/abi.NoEscape", "internal/bytealg.MakeNoZero"], unfollowed := true, recurses := true, named := ["internal/strconv.uint64pow10", "math/bits.deBruijn32tab", "math/bits.deBruijn64tab"], apart := false, laid := [("math/bits.deBruijn32tab", laid_math_bits_deBruijn32tab), ("math/bits.deBruijn64tab", laid_math_bits_deBruijn64tab), ("internal/strconv.uint64pow10", laid_internal_strconv_uint64pow10)] }
def SkewStepsSaid : Prop := skewStepsRow.holds Tryd.pinned (OpenSpec.ofChange skewStepsSpec)

/-- ITS FALSE NEIGHBOUR: 'it returns false'. Refute it at one input. -/
def skewStepsWrong : ChangeSpec := { name := "skewSteps", fn := fun _ => fun
  | [d1, d2] => { results := [.lit (.bool false)], args := [d1, d2] }
  | _ => none }
def SkewStepsWrongFalsely : Prop := skewStepsRow.holds Tryd.pinned (OpenSpec.ofChange skewStepsWrong)

/-- 'slagheaplaw09.SkewCommutes': WHATEVER THE INPUT: true; the input reads as it did. -/
def skewCommutesSpec : ChangeSpec := { name := "skewCommutes", fn := fun _ => fun
  | [d1, d2, d3] => { results := [.lit (.bool true)], args := [d1, d2, d3] }
  | _ => none }
def skewCommutesRow : OpenClaim := { program := "ytlaohkflnkjamaadoor", sum := "914051676389ce6692b60daed1e8325877119c0a4e3a1aea9a47f2378a367362", func := "slagheap/slagheaplaw09.SkewCommutes", spec := "skewCommutes", inPlace := ["sync/atomic.AddInt64", "sync/atomic.LoadInt64", "internal/abi.NoEscape", "internal/bytealg.MakeNoZero"], unfollowed := true, recurses := true, named := ["internal/strconv.uint64pow10", "math/bits.deBruijn32tab", "math/bits.deBruijn64tab"], apart := false, laid := [("math/bits.deBruijn32tab", laid_math_bits_deBruijn32tab), ("math/bits.deBruijn64tab", laid_math_bits_deBruijn64tab), ("internal/strconv.uint64pow10", laid_internal_strconv_uint64pow10)] }
def SkewCommutesSaid : Prop := skewCommutesRow.holds Tryd.pinned (OpenSpec.ofChange skewCommutesSpec)

/-- ITS FALSE NEIGHBOUR: 'it returns false'. Refute it at one input. -/
def skewCommutesWrong : ChangeSpec := { name := "skewCommutes", fn := fun _ => fun
  | [d1, d2, d3] => { results := [.lit (.bool false)], args := [d1, d2, d3] }
  | _ => none }
def SkewCommutesWrongFalsely : Prop := skewCommutesRow.holds Tryd.pinned (OpenSpec.ofChange skewCommutesWrong)

/-- 'slagheaplaw09.SkewLeast': WHATEVER THE INPUT: true; the input reads as it did. -/
def skewLeastSpec : ChangeSpec := { name := "skewLeast", fn := fun _ => fun
  | [d1, d2, d3] => { results := [.lit (.bool true)], args := [d1, d2, d3] }
  | _ => none }
def skewLeastRow : OpenClaim := { program := "ytlaohkflnkjamaadoor", sum := "914051676389ce6692b60daed1e8325877119c0a4e3a1aea9a47f2378a367362", func := "slagheap/slagheaplaw09.SkewLeast", spec := "skewLeast", inPlace := ["sync/atomic.AddInt64", "sync/atomic.LoadInt64", "internal/abi.NoEscape", "internal/bytealg.MakeNoZero"], unfollowed := true, recurses := true, named := ["internal/strconv.uint64pow10", "math/bits.deBruijn32tab", "math/bits.deBruijn64tab"], apart := false, laid := [("math/bits.deBruijn32tab", laid_math_bits_deBruijn32tab), ("math/bits.deBruijn64tab", laid_math_bits_deBruijn64tab), ("internal/strconv.uint64pow10", laid_internal_strconv_uint64pow10)] }
def SkewLeastSaid : Prop := skewLeastRow.holds Tryd.pinned (OpenSpec.ofChange skewLeastSpec)

/-- ITS FALSE NEIGHBOUR: 'it returns false'. Refute it at one input. -/
def skewLeastWrong : ChangeSpec := { name := "skewLeast", fn := fun _ => fun
  | [d1, d2, d3] => { results := [.lit (.bool false)], args := [d1, d2, d3] }
  | _ => none }
def SkewLeastWrongFalsely : Prop := skewLeastRow.holds Tryd.pinned (OpenSpec.ofChange skewLeastWrong)

/-- 'slagheaplaw09.SkewStays': WHATEVER THE INPUT: true; the input reads as it did. -/
def skewStaysSpec : ChangeSpec := { name := "skewStays", fn := fun _ => fun
  | [d1, d2, d3, d4] => { results := [.lit (.bool true)], args := [d1, d2, d3, d4] }
  | _ => none }
def skewStaysRow : OpenClaim := { program := "ytlaohkflnkjamaadoor", sum := "914051676389ce6692b60daed1e8325877119c0a4e3a1aea9a47f2378a367362", func := "slagheap/slagheaplaw09.SkewStays", spec := "skewStays", inPlace := ["sync/atomic.AddInt64", "sync/atomic.LoadInt64", "internal/abi.NoEscape", "internal/bytealg.MakeNoZero"], unfollowed := true, recurses := true, named := ["internal/strconv.uint64pow10", "math/bits.deBruijn32tab", "math/bits.deBruijn64tab"], apart := false, laid := [("math/bits.deBruijn32tab", laid_math_bits_deBruijn32tab), ("math/bits.deBruijn64tab", laid_math_bits_deBruijn64tab), ("internal/strconv.uint64pow10", laid_internal_strconv_uint64pow10)] }
def SkewStaysSaid : Prop := skewStaysRow.holds Tryd.pinned (OpenSpec.ofChange skewStaysSpec)

/-- ITS FALSE NEIGHBOUR: 'it returns false'. Refute it at one input. -/
def skewStaysWrong : ChangeSpec := { name := "skewStays", fn := fun _ => fun
  | [d1, d2, d3, d4] => { results := [.lit (.bool false)], args := [d1, d2, d3, d4] }
  | _ => none }
def SkewStaysWrongFalsely : Prop := skewStaysRow.holds Tryd.pinned (OpenSpec.ofChange skewStaysWrong)

/-- 'slagheaplaw09.SkewDoubles': WHATEVER THE INPUT: true; the input reads as it did. -/
def skewDoublesSpec : ChangeSpec := { name := "skewDoubles", fn := fun _ => fun
  | [d1, d2] => { results := [.lit (.bool true)], args := [d1, d2] }
  | _ => none }
def skewDoublesRow : OpenClaim := { program := "ytlaohkflnkjamaadoor", sum := "914051676389ce6692b60daed1e8325877119c0a4e3a1aea9a47f2378a367362", func := "slagheap/slagheaplaw09.SkewDoubles", spec := "skewDoubles", inPlace := ["sync/atomic.AddInt64", "sync/atomic.LoadInt64", "internal/abi.NoEscape", "internal/bytealg.MakeNoZero"], unfollowed := true, recurses := true, named := ["internal/strconv.uint64pow10", "math/bits.deBruijn32tab", "math/bits.deBruijn64tab"], apart := false, laid := [("math/bits.deBruijn32tab", laid_math_bits_deBruijn32tab), ("math/bits.deBruijn64tab", laid_math_bits_deBruijn64tab), ("internal/strconv.uint64pow10", laid_internal_strconv_uint64pow10)] }
def SkewDoublesSaid : Prop := skewDoublesRow.holds Tryd.pinned (OpenSpec.ofChange skewDoublesSpec)

/-- ITS FALSE NEIGHBOUR: 'it returns false'. Refute it at one input. -/
def skewDoublesWrong : ChangeSpec := { name := "skewDoubles", fn := fun _ => fun
  | [d1, d2] => { results := [.lit (.bool false)], args := [d1, d2] }
  | _ => none }
def SkewDoublesWrongFalsely : Prop := skewDoublesRow.holds Tryd.pinned (OpenSpec.ofChange skewDoublesWrong)

/-- 'slagheaplaw09.SkewEnds': WHATEVER THE INPUT: true; the input reads as it did. -/
def skewEndsSpec : ChangeSpec := { name := "skewEnds", fn := fun _ => fun
  | [d1, d2, d3] => { results := [.lit (.bool true)], args := [d1, d2, d3] }
  | _ => none }
def skewEndsRow : OpenClaim := { program := "ytlaohkflnkjamaadoor", sum := "914051676389ce6692b60daed1e8325877119c0a4e3a1aea9a47f2378a367362", func := "slagheap/slagheaplaw09.SkewEnds", spec := "skewEnds", inPlace := ["sync/atomic.AddInt64", "sync/atomic.LoadInt64", "internal/abi.NoEscape", "internal/bytealg.MakeNoZero"], unfollowed := true, recurses := true, named := ["internal/strconv.uint64pow10", "math/bits.deBruijn32tab", "math/bits.deBruijn64tab"], apart := false, laid := [("math/bits.deBruijn32tab", laid_math_bits_deBruijn32tab), ("math/bits.deBruijn64tab", laid_math_bits_deBruijn64tab), ("internal/strconv.uint64pow10", laid_internal_strconv_uint64pow10)] }
def SkewEndsSaid : Prop := skewEndsRow.holds Tryd.pinned (OpenSpec.ofChange skewEndsSpec)

/-- ITS FALSE NEIGHBOUR: 'it returns false'. Refute it at one input. -/
def skewEndsWrong : ChangeSpec := { name := "skewEnds", fn := fun _ => fun
  | [d1, d2, d3] => { results := [.lit (.bool false)], args := [d1, d2, d3] }
  | _ => none }
def SkewEndsWrongFalsely : Prop := skewEndsRow.holds Tryd.pinned (OpenSpec.ofChange skewEndsWrong)

/-- 'slagheaplaw09.SkewFolds': WHATEVER THE INPUT: true; the input reads as it did. -/
def skewFoldsSpec : ChangeSpec := { name := "skewFolds", fn := fun _ => fun
  | [d] => { results := [.lit (.bool true)], args := [d] }
  | _ => none }
def skewFoldsRow : OpenClaim := { program := "ytlaohkflnkjamaadoor", sum := "914051676389ce6692b60daed1e8325877119c0a4e3a1aea9a47f2378a367362", func := "slagheap/slagheaplaw09.SkewFolds", spec := "skewFolds", inPlace := ["sync/atomic.AddInt64", "sync/atomic.LoadInt64", "internal/abi.NoEscape", "internal/bytealg.MakeNoZero"], unfollowed := true, recurses := true, named := ["internal/strconv.uint64pow10", "math/bits.deBruijn32tab", "math/bits.deBruijn64tab"], apart := false, laid := [("math/bits.deBruijn32tab", laid_math_bits_deBruijn32tab), ("math/bits.deBruijn64tab", laid_math_bits_deBruijn64tab), ("internal/strconv.uint64pow10", laid_internal_strconv_uint64pow10)] }
def SkewFoldsSaid : Prop := skewFoldsRow.holds Tryd.pinned (OpenSpec.ofChange skewFoldsSpec)

/-- ITS FALSE NEIGHBOUR: 'it returns false'. Refute it at one input. -/
def skewFoldsWrong : ChangeSpec := { name := "skewFolds", fn := fun _ => fun
  | [d] => { results := [.lit (.bool false)], args := [d] }
  | _ => none }
def SkewFoldsWrongFalsely : Prop := skewFoldsRow.holds Tryd.pinned (OpenSpec.ofChange skewFoldsWrong)

/-- 'slagheaplaw09.SkewAgain': WHATEVER THE INPUT: true; the input reads as it did. -/
def skewAgainSpec : ChangeSpec := { name := "skewAgain", fn := fun _ => fun
  | [d1, d2, d3] => { results := [.lit (.bool true)], args := [d1, d2, d3] }
  | _ => none }
def skewAgainRow : OpenClaim := { program := "ytlaohkflnkjamaadoor", sum := "914051676389ce6692b60daed1e8325877119c0a4e3a1aea9a47f2378a367362", func := "slagheap/slagheaplaw09.SkewAgain", spec := "skewAgain", inPlace := ["sync/atomic.AddInt64", "sync/atomic.LoadInt64", "internal/abi.NoEscape", "internal/bytealg.MakeNoZero"], unfollowed := true, recurses := true, named := ["internal/strconv.uint64pow10", "math/bits.deBruijn32tab", "math/bits.deBruijn64tab"], apart := false, laid := [("math/bits.deBruijn32tab", laid_math_bits_deBruijn32tab), ("math/bits.deBruijn64tab", laid_math_bits_deBruijn64tab), ("internal/strconv.uint64pow10", laid_internal_strconv_uint64pow10)] }
def SkewAgainSaid : Prop := skewAgainRow.holds Tryd.pinned (OpenSpec.ofChange skewAgainSpec)

/-- ITS FALSE NEIGHBOUR: 'it returns false'. Refute it at one input. -/
def skewAgainWrong : ChangeSpec := { name := "skewAgain", fn := fun _ => fun
  | [d1, d2, d3] => { results := [.lit (.bool false)], args := [d1, d2, d3] }
  | _ => none }
def SkewAgainWrongFalsely : Prop := skewAgainRow.holds Tryd.pinned (OpenSpec.ofChange skewAgainWrong)

/- THE SECOND FORM. 'bulk': how many values and letters a reading holds, each counted each time it is reached (what is shared counts as often as it is met; a slice's spare places count too). A statement '..UptoSaid' is the law's where the arguments, and the package variables that the reading takes, are together of bulk at most 1048576: NARROWER than '..Said'. Prove '..Said' where nothing that the law and all that it calls make is longer than what came in: it says more and counts as full. Else prove '..UptoSaid'. A law counts once. -/
mutual
def uptoBulk {H : Type} : DataW H → Nat
  | .lit (.string bytes) => bytes.length + 1
  | .lit _ => 1
  | .nil => 1
  | .ptr d => uptoBulk d + 1
  | .slice elems spare => uptoBulkAll elems + uptoBulkAll spare + 1
  | .agg parts => uptoBulkAll parts + 1
  | .iface _ d => uptoBulk d + 1
  | .map entries => uptoBulkEntries entries + 1
  | .held _ => 1
def uptoBulkAll {H : Type} : List (DataW H) → Nat
  | [] => 0
  | d :: r => uptoBulk d + uptoBulkAll r
def uptoBulkEntries {H : Type} : List (Lit × DataW H) → Nat
  | [] => 0
  | x :: r => uptoBulkEntry x + uptoBulkEntries r
def uptoBulkEntry {H : Type} : Lit × DataW H → Nat
  | (.string bytes, d) => bytes.length + uptoBulk d + 1
  | (_, d) => uptoBulk d + 1
 end
def uptoSmall : (H : Type) → List (DataW H) → Bool := fun _ ds => decide (uptoBulkAll ds ≤ 1048576)
def OpenSpec.upto (s : _root_.Go.ChangeSpec) : _root_.Go.OpenSpec := { _root_.Go.OpenSpec.ofChange s with cond := some uptoSmall }

/-- 'slagheaplaw09.SkewSorts', WHERE WHAT IT READS IS OF BULK AT MOST 1048576: true; the input reads as it did. -/
def skewSortsUptoRow : OpenClaim := { program := "ytlaohkflnkjamaadoor", sum := "914051676389ce6692b60daed1e8325877119c0a4e3a1aea9a47f2378a367362", func := "slagheap/slagheaplaw09.SkewSorts", spec := "skewSorts", inPlace := ["sync/atomic.AddInt64", "sync/atomic.LoadInt64", "internal/abi.NoEscape", "internal/bytealg.MakeNoZero"], unfollowed := true, recurses := true, named := ["internal/strconv.uint64pow10", "math/bits.deBruijn32tab", "math/bits.deBruijn64tab"], apart := false, laid := [("math/bits.deBruijn32tab", laid_math_bits_deBruijn32tab), ("math/bits.deBruijn64tab", laid_math_bits_deBruijn64tab), ("internal/strconv.uint64pow10", laid_internal_strconv_uint64pow10)], narrowed := true }
def SkewSortsUptoSaid : Prop := skewSortsUptoRow.holds Tryd.pinned (OpenSpec.upto skewSortsSpec)

/-- 'slagheaplaw09.SkewCounts', WHERE WHAT IT READS IS OF BULK AT MOST 1048576: true; the input reads as it did. -/
def skewCountsUptoRow : OpenClaim := { program := "ytlaohkflnkjamaadoor", sum := "914051676389ce6692b60daed1e8325877119c0a4e3a1aea9a47f2378a367362", func := "slagheap/slagheaplaw09.SkewCounts", spec := "skewCounts", inPlace := ["sync/atomic.AddInt64", "sync/atomic.LoadInt64", "internal/abi.NoEscape", "internal/bytealg.MakeNoZero"], unfollowed := true, recurses := true, named := ["internal/strconv.uint64pow10", "math/bits.deBruijn32tab", "math/bits.deBruijn64tab"], apart := false, laid := [("math/bits.deBruijn32tab", laid_math_bits_deBruijn32tab), ("math/bits.deBruijn64tab", laid_math_bits_deBruijn64tab), ("internal/strconv.uint64pow10", laid_internal_strconv_uint64pow10)], narrowed := true }
def SkewCountsUptoSaid : Prop := skewCountsUptoRow.holds Tryd.pinned (OpenSpec.upto skewCountsSpec)

/-- 'slagheaplaw09.SkewSteps', WHERE WHAT IT READS IS OF BULK AT MOST 1048576: true; the input reads as it did. -/
def skewStepsUptoRow : OpenClaim := { program := "ytlaohkflnkjamaadoor", sum := "914051676389ce6692b60daed1e8325877119c0a4e3a1aea9a47f2378a367362", func := "slagheap/slagheaplaw09.SkewSteps", spec := "skewSteps", inPlace := ["sync/atomic.AddInt64", "sync/atomic.LoadInt64", "internal/abi.NoEscape", "internal/bytealg.MakeNoZero"], unfollowed := true, recurses := true, named := ["internal/strconv.uint64pow10", "math/bits.deBruijn32tab", "math/bits.deBruijn64tab"], apart := false, laid := [("math/bits.deBruijn32tab", laid_math_bits_deBruijn32tab), ("math/bits.deBruijn64tab", laid_math_bits_deBruijn64tab), ("internal/strconv.uint64pow10", laid_internal_strconv_uint64pow10)], narrowed := true }
def SkewStepsUptoSaid : Prop := skewStepsUptoRow.holds Tryd.pinned (OpenSpec.upto skewStepsSpec)

/-- 'slagheaplaw09.SkewCommutes', WHERE WHAT IT READS IS OF BULK AT MOST 1048576: true; the input reads as it did. -/
def skewCommutesUptoRow : OpenClaim := { program := "ytlaohkflnkjamaadoor", sum := "914051676389ce6692b60daed1e8325877119c0a4e3a1aea9a47f2378a367362", func := "slagheap/slagheaplaw09.SkewCommutes", spec := "skewCommutes", inPlace := ["sync/atomic.AddInt64", "sync/atomic.LoadInt64", "internal/abi.NoEscape", "internal/bytealg.MakeNoZero"], unfollowed := true, recurses := true, named := ["internal/strconv.uint64pow10", "math/bits.deBruijn32tab", "math/bits.deBruijn64tab"], apart := false, laid := [("math/bits.deBruijn32tab", laid_math_bits_deBruijn32tab), ("math/bits.deBruijn64tab", laid_math_bits_deBruijn64tab), ("internal/strconv.uint64pow10", laid_internal_strconv_uint64pow10)], narrowed := true }
def SkewCommutesUptoSaid : Prop := skewCommutesUptoRow.holds Tryd.pinned (OpenSpec.upto skewCommutesSpec)

/-- 'slagheaplaw09.SkewLeast', WHERE WHAT IT READS IS OF BULK AT MOST 1048576: true; the input reads as it did. -/
def skewLeastUptoRow : OpenClaim := { program := "ytlaohkflnkjamaadoor", sum := "914051676389ce6692b60daed1e8325877119c0a4e3a1aea9a47f2378a367362", func := "slagheap/slagheaplaw09.SkewLeast", spec := "skewLeast", inPlace := ["sync/atomic.AddInt64", "sync/atomic.LoadInt64", "internal/abi.NoEscape", "internal/bytealg.MakeNoZero"], unfollowed := true, recurses := true, named := ["internal/strconv.uint64pow10", "math/bits.deBruijn32tab", "math/bits.deBruijn64tab"], apart := false, laid := [("math/bits.deBruijn32tab", laid_math_bits_deBruijn32tab), ("math/bits.deBruijn64tab", laid_math_bits_deBruijn64tab), ("internal/strconv.uint64pow10", laid_internal_strconv_uint64pow10)], narrowed := true }
def SkewLeastUptoSaid : Prop := skewLeastUptoRow.holds Tryd.pinned (OpenSpec.upto skewLeastSpec)

/-- 'slagheaplaw09.SkewStays', WHERE WHAT IT READS IS OF BULK AT MOST 1048576: true; the input reads as it did. -/
def skewStaysUptoRow : OpenClaim := { program := "ytlaohkflnkjamaadoor", sum := "914051676389ce6692b60daed1e8325877119c0a4e3a1aea9a47f2378a367362", func := "slagheap/slagheaplaw09.SkewStays", spec := "skewStays", inPlace := ["sync/atomic.AddInt64", "sync/atomic.LoadInt64", "internal/abi.NoEscape", "internal/bytealg.MakeNoZero"], unfollowed := true, recurses := true, named := ["internal/strconv.uint64pow10", "math/bits.deBruijn32tab", "math/bits.deBruijn64tab"], apart := false, laid := [("math/bits.deBruijn32tab", laid_math_bits_deBruijn32tab), ("math/bits.deBruijn64tab", laid_math_bits_deBruijn64tab), ("internal/strconv.uint64pow10", laid_internal_strconv_uint64pow10)], narrowed := true }
def SkewStaysUptoSaid : Prop := skewStaysUptoRow.holds Tryd.pinned (OpenSpec.upto skewStaysSpec)

/-- 'slagheaplaw09.SkewDoubles', WHERE WHAT IT READS IS OF BULK AT MOST 1048576: true; the input reads as it did. -/
def skewDoublesUptoRow : OpenClaim := { program := "ytlaohkflnkjamaadoor", sum := "914051676389ce6692b60daed1e8325877119c0a4e3a1aea9a47f2378a367362", func := "slagheap/slagheaplaw09.SkewDoubles", spec := "skewDoubles", inPlace := ["sync/atomic.AddInt64", "sync/atomic.LoadInt64", "internal/abi.NoEscape", "internal/bytealg.MakeNoZero"], unfollowed := true, recurses := true, named := ["internal/strconv.uint64pow10", "math/bits.deBruijn32tab", "math/bits.deBruijn64tab"], apart := false, laid := [("math/bits.deBruijn32tab", laid_math_bits_deBruijn32tab), ("math/bits.deBruijn64tab", laid_math_bits_deBruijn64tab), ("internal/strconv.uint64pow10", laid_internal_strconv_uint64pow10)], narrowed := true }
def SkewDoublesUptoSaid : Prop := skewDoublesUptoRow.holds Tryd.pinned (OpenSpec.upto skewDoublesSpec)

/-- 'slagheaplaw09.SkewEnds', WHERE WHAT IT READS IS OF BULK AT MOST 1048576: true; the input reads as it did. -/
def skewEndsUptoRow : OpenClaim := { program := "ytlaohkflnkjamaadoor", sum := "914051676389ce6692b60daed1e8325877119c0a4e3a1aea9a47f2378a367362", func := "slagheap/slagheaplaw09.SkewEnds", spec := "skewEnds", inPlace := ["sync/atomic.AddInt64", "sync/atomic.LoadInt64", "internal/abi.NoEscape", "internal/bytealg.MakeNoZero"], unfollowed := true, recurses := true, named := ["internal/strconv.uint64pow10", "math/bits.deBruijn32tab", "math/bits.deBruijn64tab"], apart := false, laid := [("math/bits.deBruijn32tab", laid_math_bits_deBruijn32tab), ("math/bits.deBruijn64tab", laid_math_bits_deBruijn64tab), ("internal/strconv.uint64pow10", laid_internal_strconv_uint64pow10)], narrowed := true }
def SkewEndsUptoSaid : Prop := skewEndsUptoRow.holds Tryd.pinned (OpenSpec.upto skewEndsSpec)

/-- 'slagheaplaw09.SkewFolds', WHERE WHAT IT READS IS OF BULK AT MOST 1048576: true; the input reads as it did. -/
def skewFoldsUptoRow : OpenClaim := { program := "ytlaohkflnkjamaadoor", sum := "914051676389ce6692b60daed1e8325877119c0a4e3a1aea9a47f2378a367362", func := "slagheap/slagheaplaw09.SkewFolds", spec := "skewFolds", inPlace := ["sync/atomic.AddInt64", "sync/atomic.LoadInt64", "internal/abi.NoEscape", "internal/bytealg.MakeNoZero"], unfollowed := true, recurses := true, named := ["internal/strconv.uint64pow10", "math/bits.deBruijn32tab", "math/bits.deBruijn64tab"], apart := false, laid := [("math/bits.deBruijn32tab", laid_math_bits_deBruijn32tab), ("math/bits.deBruijn64tab", laid_math_bits_deBruijn64tab), ("internal/strconv.uint64pow10", laid_internal_strconv_uint64pow10)], narrowed := true }
def SkewFoldsUptoSaid : Prop := skewFoldsUptoRow.holds Tryd.pinned (OpenSpec.upto skewFoldsSpec)

/-- 'slagheaplaw09.SkewAgain', WHERE WHAT IT READS IS OF BULK AT MOST 1048576: true; the input reads as it did. -/
def skewAgainUptoRow : OpenClaim := { program := "ytlaohkflnkjamaadoor", sum := "914051676389ce6692b60daed1e8325877119c0a4e3a1aea9a47f2378a367362", func := "slagheap/slagheaplaw09.SkewAgain", spec := "skewAgain", inPlace := ["sync/atomic.AddInt64", "sync/atomic.LoadInt64", "internal/abi.NoEscape", "internal/bytealg.MakeNoZero"], unfollowed := true, recurses := true, named := ["internal/strconv.uint64pow10", "math/bits.deBruijn32tab", "math/bits.deBruijn64tab"], apart := false, laid := [("math/bits.deBruijn32tab", laid_math_bits_deBruijn32tab), ("math/bits.deBruijn64tab", laid_math_bits_deBruijn64tab), ("internal/strconv.uint64pow10", laid_internal_strconv_uint64pow10)], narrowed := true }
def SkewAgainUptoSaid : Prop := skewAgainUptoRow.holds Tryd.pinned (OpenSpec.upto skewAgainSpec)

end Rows
end Go.Proofs.YtlaohkflnkjamaaDoor
