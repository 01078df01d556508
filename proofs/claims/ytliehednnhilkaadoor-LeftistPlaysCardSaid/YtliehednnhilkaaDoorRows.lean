/-
  NARROWER THAN 'FOR EVERY INPUT', by the rows' own cells (each row's printed sentence says how): LeftistPlays: laid · LeftistSorts: laid · LeftistCounts: laid · LeftistRight: laid · LeftistCommutes: laid · LeftistLeast: laid · LeftistStays: laid · LeftistDoubles: laid · LeftistEnds: laid · LeftistFolds: laid · LeftistAgain: laid.
  DERIVED. THE GIVEN ROWS OF THIS SEAT. 11 by the template 'for every input the law returns true; each argument reads behind the call as it read before'; 0 by the template 'total and deterministic' (their statements: YtliehednnhilkaaDoorTotals.lean).
  GIVEN WITH THE SEED: the statements are not yours to turn. If you find one false, say at which input.
  Laid BY PROGRAM, IN A SANDBOX (cutbox-rows.mjs): the forced cells as the released guide's own fill.sh prints them over the translation 0019654a02e46dc2… (all of the seat's roots in one cut). By AI agents, Wed Nov 11 2026. No macro, syntax, notation, axiom, sorry.
-/
import Derived.Test.YtliehednnhilkaaDoorChecked
import GoSem.Claim
import GoSem.ClaimJoined
import GoSem.ClaimMapViews
import Derived.JoinedTies
import Derived.KernelRfl
namespace Go.Proofs.YtliehednnhilkaaDoor
/- THE CELL 'sum', in the pinned program and in every row, IS THE sha256 OF THE DUMP (.gsa) THAT YtliehednnhilkaaDoorProg.lean LOADS. Nothing in Lean hashes anything: it is a label: what it is worth is what the hold of that sum in a sandbox is worth. -/
noncomputable def Tryd.pinned : Pinned := { name := "ytliehednnhilkaadoor", sum := "0019654a02e46dc20de9ada4b430411bfb1c2fb1d71c3234dc14a9b9b53064e6", checked := Tryd.checked }
namespace Rows
def none {H : Type} : Left H := { results := [], args := [] }

/- WHAT THE LISTED PACKAGE-LEVEL VARIABLES READ AS WHEN THE CALL BEGINS. Each datum BY PROGRAM (the guide's laid-datum.mjs) off the statement by which the dump's own 'gosem.cut.vars' lays the variable. In a bare row this is a premise. The card (YtliehednnhilkaaDoorCards.lean) ties it to the program's text. -/
def laid_math_bits_deBruijn32tab {H : Type} : DataW H := .agg [.lit (.int .u8 0), .lit (.int .u8 1), .lit (.int .u8 28), .lit (.int .u8 2), .lit (.int .u8 29), .lit (.int .u8 14), .lit (.int .u8 24), .lit (.int .u8 3), .lit (.int .u8 30), .lit (.int .u8 22), .lit (.int .u8 20), .lit (.int .u8 15), .lit (.int .u8 25), .lit (.int .u8 17), .lit (.int .u8 4), .lit (.int .u8 8), .lit (.int .u8 31), .lit (.int .u8 27), .lit (.int .u8 13), .lit (.int .u8 23), .lit (.int .u8 21), .lit (.int .u8 19), .lit (.int .u8 16), .lit (.int .u8 7), .lit (.int .u8 26), .lit (.int .u8 12), .lit (.int .u8 18), .lit (.int .u8 6), .lit (.int .u8 11), .lit (.int .u8 5), .lit (.int .u8 10), .lit (.int .u8 9)]
def laid_math_bits_deBruijn64tab {H : Type} : DataW H := .agg [.lit (.int .u8 0), .lit (.int .u8 1), .lit (.int .u8 56), .lit (.int .u8 2), .lit (.int .u8 57), .lit (.int .u8 49), .lit (.int .u8 28), .lit (.int .u8 3), .lit (.int .u8 61), .lit (.int .u8 58), .lit (.int .u8 42), .lit (.int .u8 50), .lit (.int .u8 38), .lit (.int .u8 29), .lit (.int .u8 17), .lit (.int .u8 4), .lit (.int .u8 62), .lit (.int .u8 47), .lit (.int .u8 59), .lit (.int .u8 36), .lit (.int .u8 45), .lit (.int .u8 43), .lit (.int .u8 51), .lit (.int .u8 22), .lit (.int .u8 53), .lit (.int .u8 39), .lit (.int .u8 33), .lit (.int .u8 30), .lit (.int .u8 24), .lit (.int .u8 18), .lit (.int .u8 12), .lit (.int .u8 5), .lit (.int .u8 63), .lit (.int .u8 55), .lit (.int .u8 48), .lit (.int .u8 27), .lit (.int .u8 60), .lit (.int .u8 41), .lit (.int .u8 37), .lit (.int .u8 16), .lit (.int .u8 46), .lit (.int .u8 35), .lit (.int .u8 44), .lit (.int .u8 21), .lit (.int .u8 52), .lit (.int .u8 32), .lit (.int .u8 23), .lit (.int .u8 11), .lit (.int .u8 54), .lit (.int .u8 26), .lit (.int .u8 40), .lit (.int .u8 15), .lit (.int .u8 34), .lit (.int .u8 20), .lit (.int .u8 31), .lit (.int .u8 10), .lit (.int .u8 25), .lit (.int .u8 14), .lit (.int .u8 19), .lit (.int .u8 9), .lit (.int .u8 13), .lit (.int .u8 8), .lit (.int .u8 7), .lit (.int .u8 6)]
def laid_internal_strconv_uint64pow10 {H : Type} : DataW H := .agg [.lit (.int .u64 1), .lit (.int .u64 10), .lit (.int .u64 100), .lit (.int .u64 1000), .lit (.int .u64 10000), .lit (.int .u64 100000), .lit (.int .u64 1000000), .lit (.int .u64 10000000), .lit (.int .u64 100000000), .lit (.int .u64 1000000000), .lit (.int .u64 10000000000), .lit (.int .u64 100000000000), .lit (.int .u64 1000000000000), .lit (.int .u64 10000000000000), .lit (.int .u64 100000000000000), .lit (.int .u64 1000000000000000), .lit (.int .u64 10000000000000000), .lit (.int .u64 100000000000000000), .lit (.int .u64 1000000000000000000), .lit (.int .u64 10000000000000000000)]

/-- 'slagheaplaw06.LeftistPlays': WHATEVER THE INPUT: true; the input reads as it did. -/
def leftistPlaysSpec : ChangeSpec := { name := "leftistPlays", fn := fun _ => fun
  | [d] => { results := [.lit (.bool true)], args := [d] }
  | _ => none }
def leftistPlaysRow : OpenClaim := { program := "ytliehednnhilkaadoor", sum := "0019654a02e46dc20de9ada4b430411bfb1c2fb1d71c3234dc14a9b9b53064e6", func := "slagheap/slagheaplaw06.LeftistPlays", spec := "leftistPlays", inPlace := ["sync/atomic.AddInt64", "sync/atomic.LoadInt64", "internal/abi.NoEscape", "internal/bytealg.MakeNoZero"], unfollowed := true, recurses := true, named := ["internal/strconv.uint64pow10", "math/bits.deBruijn32tab", "math/bits.deBruijn64tab"], apart := false, laid := [("math/bits.deBruijn32tab", laid_math_bits_deBruijn32tab), ("math/bits.deBruijn64tab", laid_math_bits_deBruijn64tab), ("internal/strconv.uint64pow10", laid_internal_strconv_uint64pow10)] }
def LeftistPlaysSaid : Prop := leftistPlaysRow.holds Tryd.pinned (OpenSpec.ofChange leftistPlaysSpec)

/-- ITS FALSE NEIGHBOUR: 'it returns false'. Refute it at one input. -/
def leftistPlaysWrong : ChangeSpec := { name := "leftistPlays", fn := fun _ => fun
  | [d] => { results := [.lit (.bool false)], args := [d] }
  | _ => none }
def LeftistPlaysWrongFalsely : Prop := leftistPlaysRow.holds Tryd.pinned (OpenSpec.ofChange leftistPlaysWrong)

/-- 'slagheaplaw06.LeftistSorts': WHATEVER THE INPUT: true; the input reads as it did. -/
def leftistSortsSpec : ChangeSpec := { name := "leftistSorts", fn := fun _ => fun
  | [d1, d2] => { results := [.lit (.bool true)], args := [d1, d2] }
  | _ => none }
def leftistSortsRow : OpenClaim := { program := "ytliehednnhilkaadoor", sum := "0019654a02e46dc20de9ada4b430411bfb1c2fb1d71c3234dc14a9b9b53064e6", func := "slagheap/slagheaplaw06.LeftistSorts", spec := "leftistSorts", inPlace := ["sync/atomic.AddInt64", "sync/atomic.LoadInt64", "internal/abi.NoEscape", "internal/bytealg.MakeNoZero"], unfollowed := true, recurses := true, named := ["internal/strconv.uint64pow10", "math/bits.deBruijn32tab", "math/bits.deBruijn64tab"], apart := false, laid := [("math/bits.deBruijn32tab", laid_math_bits_deBruijn32tab), ("math/bits.deBruijn64tab", laid_math_bits_deBruijn64tab), ("internal/strconv.uint64pow10", laid_internal_strconv_uint64pow10)] }
def LeftistSortsSaid : Prop := leftistSortsRow.holds Tryd.pinned (OpenSpec.ofChange leftistSortsSpec)

/-- ITS FALSE NEIGHBOUR: 'it returns false'. Refute it at one input. -/
def leftistSortsWrong : ChangeSpec := { name := "leftistSorts", fn := fun _ => fun
  | [d1, d2] => { results := [.lit (.bool false)], args := [d1, d2] }
  | _ => none }
def LeftistSortsWrongFalsely : Prop := leftistSortsRow.holds Tryd.pinned (OpenSpec.ofChange leftistSortsWrong)

/-- 'slagheaplaw06.LeftistCounts': WHATEVER THE INPUT: true; the input reads as it did. -/
def leftistCountsSpec : ChangeSpec := { name := "leftistCounts", fn := fun _ => fun
  | [d] => { results := [.lit (.bool true)], args := [d] }
  | _ => none }
def leftistCountsRow : OpenClaim := { program := "ytliehednnhilkaadoor", sum := "0019654a02e46dc20de9ada4b430411bfb1c2fb1d71c3234dc14a9b9b53064e6", func := "slagheap/slagheaplaw06.LeftistCounts", spec := "leftistCounts", inPlace := ["sync/atomic.AddInt64", "sync/atomic.LoadInt64", "internal/abi.NoEscape", "internal/bytealg.MakeNoZero"], unfollowed := true, recurses := true, named := ["internal/strconv.uint64pow10", "math/bits.deBruijn32tab", "math/bits.deBruijn64tab"], apart := false, laid := [("math/bits.deBruijn32tab", laid_math_bits_deBruijn32tab), ("math/bits.deBruijn64tab", laid_math_bits_deBruijn64tab), ("internal/strconv.uint64pow10", laid_internal_strconv_uint64pow10)] }
def LeftistCountsSaid : Prop := leftistCountsRow.holds Tryd.pinned (OpenSpec.ofChange leftistCountsSpec)

/-- ITS FALSE NEIGHBOUR: 'it returns false'. Refute it at one input. -/
def leftistCountsWrong : ChangeSpec := { name := "leftistCounts", fn := fun _ => fun
  | [d] => { results := [.lit (.bool false)], args := [d] }
  | _ => none }
def LeftistCountsWrongFalsely : Prop := leftistCountsRow.holds Tryd.pinned (OpenSpec.ofChange leftistCountsWrong)

/-- 'slagheaplaw06.LeftistRight': WHATEVER THE INPUT: true; the input reads as it did. -/
def leftistRightSpec : ChangeSpec := { name := "leftistRight", fn := fun _ => fun
  | [d1, d2] => { results := [.lit (.bool true)], args := [d1, d2] }
  | _ => none }
def leftistRightRow : OpenClaim := { program := "ytliehednnhilkaadoor", sum := "0019654a02e46dc20de9ada4b430411bfb1c2fb1d71c3234dc14a9b9b53064e6", func := "slagheap/slagheaplaw06.LeftistRight", spec := "leftistRight", inPlace := ["sync/atomic.AddInt64", "sync/atomic.LoadInt64", "internal/abi.NoEscape", "internal/bytealg.MakeNoZero"], unfollowed := true, recurses := true, named := ["internal/strconv.uint64pow10", "math/bits.deBruijn32tab", "math/bits.deBruijn64tab"], apart := false, laid := [("math/bits.deBruijn32tab", laid_math_bits_deBruijn32tab), ("math/bits.deBruijn64tab", laid_math_bits_deBruijn64tab), ("internal/strconv.uint64pow10", laid_internal_strconv_uint64pow10)] }
def LeftistRightSaid : Prop := leftistRightRow.holds Tryd.pinned (OpenSpec.ofChange leftistRightSpec)

/-- ITS FALSE NEIGHBOUR: 'it returns false'. Refute it at one input. -/
def leftistRightWrong : ChangeSpec := { name := "leftistRight", fn := fun _ => fun
  | [d1, d2] => { results := [.lit (.bool false)], args := [d1, d2] }
  | _ => none }
def LeftistRightWrongFalsely : Prop := leftistRightRow.holds Tryd.pinned (OpenSpec.ofChange leftistRightWrong)

/-- 'slagheaplaw06.LeftistCommutes': WHATEVER THE INPUT: true; the input reads as it did. -/
def leftistCommutesSpec : ChangeSpec := { name := "leftistCommutes", fn := fun _ => fun
  | [d1, d2, d3] => { results := [.lit (.bool true)], args := [d1, d2, d3] }
  | _ => none }
def leftistCommutesRow : OpenClaim := { program := "ytliehednnhilkaadoor", sum := "0019654a02e46dc20de9ada4b430411bfb1c2fb1d71c3234dc14a9b9b53064e6", func := "slagheap/slagheaplaw06.LeftistCommutes", spec := "leftistCommutes", inPlace := ["sync/atomic.AddInt64", "sync/atomic.LoadInt64", "internal/abi.NoEscape", "internal/bytealg.MakeNoZero"], unfollowed := true, recurses := true, named := ["internal/strconv.uint64pow10", "math/bits.deBruijn32tab", "math/bits.deBruijn64tab"], apart := false, laid := [("math/bits.deBruijn32tab", laid_math_bits_deBruijn32tab), ("math/bits.deBruijn64tab", laid_math_bits_deBruijn64tab), ("internal/strconv.uint64pow10", laid_internal_strconv_uint64pow10)] }
def LeftistCommutesSaid : Prop := leftistCommutesRow.holds Tryd.pinned (OpenSpec.ofChange leftistCommutesSpec)

/-- ITS FALSE NEIGHBOUR: 'it returns false'. Refute it at one input. -/
def leftistCommutesWrong : ChangeSpec := { name := "leftistCommutes", fn := fun _ => fun
  | [d1, d2, d3] => { results := [.lit (.bool false)], args := [d1, d2, d3] }
  | _ => none }
def LeftistCommutesWrongFalsely : Prop := leftistCommutesRow.holds Tryd.pinned (OpenSpec.ofChange leftistCommutesWrong)

/-- 'slagheaplaw06.LeftistLeast': WHATEVER THE INPUT: true; the input reads as it did. -/
def leftistLeastSpec : ChangeSpec := { name := "leftistLeast", fn := fun _ => fun
  | [d1, d2, d3] => { results := [.lit (.bool true)], args := [d1, d2, d3] }
  | _ => none }
def leftistLeastRow : OpenClaim := { program := "ytliehednnhilkaadoor", sum := "0019654a02e46dc20de9ada4b430411bfb1c2fb1d71c3234dc14a9b9b53064e6", func := "slagheap/slagheaplaw06.LeftistLeast", spec := "leftistLeast", inPlace := ["sync/atomic.AddInt64", "sync/atomic.LoadInt64", "internal/abi.NoEscape", "internal/bytealg.MakeNoZero"], unfollowed := true, recurses := true, named := ["internal/strconv.uint64pow10", "math/bits.deBruijn32tab", "math/bits.deBruijn64tab"], apart := false, laid := [("math/bits.deBruijn32tab", laid_math_bits_deBruijn32tab), ("math/bits.deBruijn64tab", laid_math_bits_deBruijn64tab), ("internal/strconv.uint64pow10", laid_internal_strconv_uint64pow10)] }
def LeftistLeastSaid : Prop := leftistLeastRow.holds Tryd.pinned (OpenSpec.ofChange leftistLeastSpec)

/-- ITS FALSE NEIGHBOUR: 'it returns false'. Refute it at one input. -/
def leftistLeastWrong : ChangeSpec := { name := "leftistLeast", fn := fun _ => fun
  | [d1, d2, d3] => { results := [.lit (.bool false)], args := [d1, d2, d3] }
  | _ => none }
def LeftistLeastWrongFalsely : Prop := leftistLeastRow.holds Tryd.pinned (OpenSpec.ofChange leftistLeastWrong)

/-- 'slagheaplaw06.LeftistStays': WHATEVER THE INPUT: true; the input reads as it did. -/
def leftistStaysSpec : ChangeSpec := { name := "leftistStays", fn := fun _ => fun
  | [d1, d2, d3, d4] => { results := [.lit (.bool true)], args := [d1, d2, d3, d4] }
  | _ => none }
def leftistStaysRow : OpenClaim := { program := "ytliehednnhilkaadoor", sum := "0019654a02e46dc20de9ada4b430411bfb1c2fb1d71c3234dc14a9b9b53064e6", func := "slagheap/slagheaplaw06.LeftistStays", spec := "leftistStays", inPlace := ["sync/atomic.AddInt64", "sync/atomic.LoadInt64", "internal/abi.NoEscape", "internal/bytealg.MakeNoZero"], unfollowed := true, recurses := true, named := ["internal/strconv.uint64pow10", "math/bits.deBruijn32tab", "math/bits.deBruijn64tab"], apart := false, laid := [("math/bits.deBruijn32tab", laid_math_bits_deBruijn32tab), ("math/bits.deBruijn64tab", laid_math_bits_deBruijn64tab), ("internal/strconv.uint64pow10", laid_internal_strconv_uint64pow10)] }
def LeftistStaysSaid : Prop := leftistStaysRow.holds Tryd.pinned (OpenSpec.ofChange leftistStaysSpec)

/-- ITS FALSE NEIGHBOUR: 'it returns false'. Refute it at one input. -/
def leftistStaysWrong : ChangeSpec := { name := "leftistStays", fn := fun _ => fun
  | [d1, d2, d3, d4] => { results := [.lit (.bool false)], args := [d1, d2, d3, d4] }
  | _ => none }
def LeftistStaysWrongFalsely : Prop := leftistStaysRow.holds Tryd.pinned (OpenSpec.ofChange leftistStaysWrong)

/-- 'slagheaplaw06.LeftistDoubles': WHATEVER THE INPUT: true; the input reads as it did. -/
def leftistDoublesSpec : ChangeSpec := { name := "leftistDoubles", fn := fun _ => fun
  | [d1, d2] => { results := [.lit (.bool true)], args := [d1, d2] }
  | _ => none }
def leftistDoublesRow : OpenClaim := { program := "ytliehednnhilkaadoor", sum := "0019654a02e46dc20de9ada4b430411bfb1c2fb1d71c3234dc14a9b9b53064e6", func := "slagheap/slagheaplaw06.LeftistDoubles", spec := "leftistDoubles", inPlace := ["sync/atomic.AddInt64", "sync/atomic.LoadInt64", "internal/abi.NoEscape", "internal/bytealg.MakeNoZero"], unfollowed := true, recurses := true, named := ["internal/strconv.uint64pow10", "math/bits.deBruijn32tab", "math/bits.deBruijn64tab"], apart := false, laid := [("math/bits.deBruijn32tab", laid_math_bits_deBruijn32tab), ("math/bits.deBruijn64tab", laid_math_bits_deBruijn64tab), ("internal/strconv.uint64pow10", laid_internal_strconv_uint64pow10)] }
def LeftistDoublesSaid : Prop := leftistDoublesRow.holds Tryd.pinned (OpenSpec.ofChange leftistDoublesSpec)

/-- ITS FALSE NEIGHBOUR: 'it returns false'. Refute it at one input. -/
def leftistDoublesWrong : ChangeSpec := { name := "leftistDoubles", fn := fun _ => fun
  | [d1, d2] => { results := [.lit (.bool false)], args := [d1, d2] }
  | _ => none }
def LeftistDoublesWrongFalsely : Prop := leftistDoublesRow.holds Tryd.pinned (OpenSpec.ofChange leftistDoublesWrong)

/-- 'slagheaplaw06.LeftistEnds': WHATEVER THE INPUT: true; the input reads as it did. -/
def leftistEndsSpec : ChangeSpec := { name := "leftistEnds", fn := fun _ => fun
  | [d1, d2, d3] => { results := [.lit (.bool true)], args := [d1, d2, d3] }
  | _ => none }
def leftistEndsRow : OpenClaim := { program := "ytliehednnhilkaadoor", sum := "0019654a02e46dc20de9ada4b430411bfb1c2fb1d71c3234dc14a9b9b53064e6", func := "slagheap/slagheaplaw06.LeftistEnds", spec := "leftistEnds", inPlace := ["sync/atomic.AddInt64", "sync/atomic.LoadInt64", "internal/abi.NoEscape", "internal/bytealg.MakeNoZero"], unfollowed := true, recurses := true, named := ["internal/strconv.uint64pow10", "math/bits.deBruijn32tab", "math/bits.deBruijn64tab"], apart := false, laid := [("math/bits.deBruijn32tab", laid_math_bits_deBruijn32tab), ("math/bits.deBruijn64tab", laid_math_bits_deBruijn64tab), ("internal/strconv.uint64pow10", laid_internal_strconv_uint64pow10)] }
def LeftistEndsSaid : Prop := leftistEndsRow.holds Tryd.pinned (OpenSpec.ofChange leftistEndsSpec)

/-- ITS FALSE NEIGHBOUR: 'it returns false'. Refute it at one input. -/
def leftistEndsWrong : ChangeSpec := { name := "leftistEnds", fn := fun _ => fun
  | [d1, d2, d3] => { results := [.lit (.bool false)], args := [d1, d2, d3] }
  | _ => none }
def LeftistEndsWrongFalsely : Prop := leftistEndsRow.holds Tryd.pinned (OpenSpec.ofChange leftistEndsWrong)

/-- 'slagheaplaw06.LeftistFolds': WHATEVER THE INPUT: true; the input reads as it did. -/
def leftistFoldsSpec : ChangeSpec := { name := "leftistFolds", fn := fun _ => fun
  | [d] => { results := [.lit (.bool true)], args := [d] }
  | _ => none }
def leftistFoldsRow : OpenClaim := { program := "ytliehednnhilkaadoor", sum := "0019654a02e46dc20de9ada4b430411bfb1c2fb1d71c3234dc14a9b9b53064e6", func := "slagheap/slagheaplaw06.LeftistFolds", spec := "leftistFolds", inPlace := ["sync/atomic.AddInt64", "sync/atomic.LoadInt64", "internal/abi.NoEscape", "internal/bytealg.MakeNoZero"], unfollowed := true, recurses := true, named := ["internal/strconv.uint64pow10", "math/bits.deBruijn32tab", "math/bits.deBruijn64tab"], apart := false, laid := [("math/bits.deBruijn32tab", laid_math_bits_deBruijn32tab), ("math/bits.deBruijn64tab", laid_math_bits_deBruijn64tab), ("internal/strconv.uint64pow10", laid_internal_strconv_uint64pow10)] }
def LeftistFoldsSaid : Prop := leftistFoldsRow.holds Tryd.pinned (OpenSpec.ofChange leftistFoldsSpec)

/-- ITS FALSE NEIGHBOUR: 'it returns false'. Refute it at one input. -/
def leftistFoldsWrong : ChangeSpec := { name := "leftistFolds", fn := fun _ => fun
  | [d] => { results := [.lit (.bool false)], args := [d] }
  | _ => none }
def LeftistFoldsWrongFalsely : Prop := leftistFoldsRow.holds Tryd.pinned (OpenSpec.ofChange leftistFoldsWrong)

/-- 'slagheaplaw06.LeftistAgain': WHATEVER THE INPUT: true; the input reads as it did. -/
def leftistAgainSpec : ChangeSpec := { name := "leftistAgain", fn := fun _ => fun
  | [d1, d2, d3] => { results := [.lit (.bool true)], args := [d1, d2, d3] }
  | _ => none }
def leftistAgainRow : OpenClaim := { program := "ytliehednnhilkaadoor", sum := "0019654a02e46dc20de9ada4b430411bfb1c2fb1d71c3234dc14a9b9b53064e6", func := "slagheap/slagheaplaw06.LeftistAgain", spec := "leftistAgain", inPlace := ["sync/atomic.AddInt64", "sync/atomic.LoadInt64", "internal/abi.NoEscape", "internal/bytealg.MakeNoZero"], unfollowed := true, recurses := true, named := ["internal/strconv.uint64pow10", "math/bits.deBruijn32tab", "math/bits.deBruijn64tab"], apart := false, laid := [("math/bits.deBruijn32tab", laid_math_bits_deBruijn32tab), ("math/bits.deBruijn64tab", laid_math_bits_deBruijn64tab), ("internal/strconv.uint64pow10", laid_internal_strconv_uint64pow10)] }
def LeftistAgainSaid : Prop := leftistAgainRow.holds Tryd.pinned (OpenSpec.ofChange leftistAgainSpec)

/-- ITS FALSE NEIGHBOUR: 'it returns false'. Refute it at one input. -/
def leftistAgainWrong : ChangeSpec := { name := "leftistAgain", fn := fun _ => fun
  | [d1, d2, d3] => { results := [.lit (.bool false)], args := [d1, d2, d3] }
  | _ => none }
def LeftistAgainWrongFalsely : Prop := leftistAgainRow.holds Tryd.pinned (OpenSpec.ofChange leftistAgainWrong)

/- THE SECOND FORM. 'bulk': how many values and letters a reading holds, each counted each time it is reached (what is shared counts as often as it is met; a slice's spare places count too). A statement '..UptoSaid' is the law's where the arguments, and the package variables that the reading takes, are together of bulk at most 1048576: NARROWER than '..Said'. Prove '..Said' where nothing that the law and all that it calls make is longer than what came in: it says more and counts as full. Else prove '..UptoSaid'. A law counts once. -/
mutual
def uptoBulk {H : Type} : DataW H → Nat
  | .lit (.string bytes) => bytes.length + 1
  | .lit _ => 1
  | .nil => 1
  | .ptr d => uptoBulk d + 1
  | .slice elems spare => uptoBulkAll elems + uptoBulkAll spare + 1
  | .agg parts => uptoBulkAll parts + 1
  | .iface _ d => uptoBulk d + 1
  | .map entries => uptoBulkEntries entries + 1
  | .held _ => 1
def uptoBulkAll {H : Type} : List (DataW H) → Nat
  | [] => 0
  | d :: r => uptoBulk d + uptoBulkAll r
def uptoBulkEntries {H : Type} : List (Lit × DataW H) → Nat
  | [] => 0
  | x :: r => uptoBulkEntry x + uptoBulkEntries r
def uptoBulkEntry {H : Type} : Lit × DataW H → Nat
  | (.string bytes, d) => bytes.length + uptoBulk d + 1
  | (_, d) => uptoBulk d + 1
 end
def uptoSmall : (H : Type) → List (DataW H) → Bool := fun _ ds => decide (uptoBulkAll ds ≤ 1048576)
def OpenSpec.upto (s : _root_.Go.ChangeSpec) : _root_.Go.OpenSpec := { _root_.Go.OpenSpec.ofChange s with cond := some uptoSmall }

/-- 'slagheaplaw06.LeftistPlays', WHERE WHAT IT READS IS OF BULK AT MOST 1048576: true; the input reads as it did. -/
def leftistPlaysUptoRow : OpenClaim := { program := "ytliehednnhilkaadoor", sum := "0019654a02e46dc20de9ada4b430411bfb1c2fb1d71c3234dc14a9b9b53064e6", func := "slagheap/slagheaplaw06.LeftistPlays", spec := "leftistPlays", inPlace := ["sync/atomic.AddInt64", "sync/atomic.LoadInt64", "internal/abi.NoEscape", "internal/bytealg.MakeNoZero"], unfollowed := true, recurses := true, named := ["internal/strconv.uint64pow10", "math/bits.deBruijn32tab", "math/bits.deBruijn64tab"], apart := false, laid := [("math/bits.deBruijn32tab", laid_math_bits_deBruijn32tab), ("math/bits.deBruijn64tab", laid_math_bits_deBruijn64tab), ("internal/strconv.uint64pow10", laid_internal_strconv_uint64pow10)], narrowed := true }
def LeftistPlaysUptoSaid : Prop := leftistPlaysUptoRow.holds Tryd.pinned (OpenSpec.upto leftistPlaysSpec)

/-- 'slagheaplaw06.LeftistSorts', WHERE WHAT IT READS IS OF BULK AT MOST 1048576: true; the input reads as it did. -/
def leftistSortsUptoRow : OpenClaim := { program := "ytliehednnhilkaadoor", sum := "0019654a02e46dc20de9ada4b430411bfb1c2fb1d71c3234dc14a9b9b53064e6", func := "slagheap/slagheaplaw06.LeftistSorts", spec := "leftistSorts", inPlace := ["sync/atomic.AddInt64", "sync/atomic.LoadInt64", "internal/abi.NoEscape", "internal/bytealg.MakeNoZero"], unfollowed := true, recurses := true, named := ["internal/strconv.uint64pow10", "math/bits.deBruijn32tab", "math/bits.deBruijn64tab"], apart := false, laid := [("math/bits.deBruijn32tab", laid_math_bits_deBruijn32tab), ("math/bits.deBruijn64tab", laid_math_bits_deBruijn64tab), ("internal/strconv.uint64pow10", laid_internal_strconv_uint64pow10)], narrowed := true }
def LeftistSortsUptoSaid : Prop := leftistSortsUptoRow.holds Tryd.pinned (OpenSpec.upto leftistSortsSpec)

/-- 'slagheaplaw06.LeftistCounts', WHERE WHAT IT READS IS OF BULK AT MOST 1048576: true; the input reads as it did. -/
def leftistCountsUptoRow : OpenClaim := { program := "ytliehednnhilkaadoor", sum := "0019654a02e46dc20de9ada4b430411bfb1c2fb1d71c3234dc14a9b9b53064e6", func := "slagheap/slagheaplaw06.LeftistCounts", spec := "leftistCounts", inPlace := ["sync/atomic.AddInt64", "sync/atomic.LoadInt64", "internal/abi.NoEscape", "internal/bytealg.MakeNoZero"], unfollowed := true, recurses := true, named := ["internal/strconv.uint64pow10", "math/bits.deBruijn32tab", "math/bits.deBruijn64tab"], apart := false, laid := [("math/bits.deBruijn32tab", laid_math_bits_deBruijn32tab), ("math/bits.deBruijn64tab", laid_math_bits_deBruijn64tab), ("internal/strconv.uint64pow10", laid_internal_strconv_uint64pow10)], narrowed := true }
def LeftistCountsUptoSaid : Prop := leftistCountsUptoRow.holds Tryd.pinned (OpenSpec.upto leftistCountsSpec)

/-- 'slagheaplaw06.LeftistRight', WHERE WHAT IT READS IS OF BULK AT MOST 1048576: true; the input reads as it did. -/
def leftistRightUptoRow : OpenClaim := { program := "ytliehednnhilkaadoor", sum := "0019654a02e46dc20de9ada4b430411bfb1c2fb1d71c3234dc14a9b9b53064e6", func := "slagheap/slagheaplaw06.LeftistRight", spec := "leftistRight", inPlace := ["sync/atomic.AddInt64", "sync/atomic.LoadInt64", "internal/abi.NoEscape", "internal/bytealg.MakeNoZero"], unfollowed := true, recurses := true, named := ["internal/strconv.uint64pow10", "math/bits.deBruijn32tab", "math/bits.deBruijn64tab"], apart := false, laid := [("math/bits.deBruijn32tab", laid_math_bits_deBruijn32tab), ("math/bits.deBruijn64tab", laid_math_bits_deBruijn64tab), ("internal/strconv.uint64pow10", laid_internal_strconv_uint64pow10)], narrowed := true }
def LeftistRightUptoSaid : Prop := leftistRightUptoRow.holds Tryd.pinned (OpenSpec.upto leftistRightSpec)

/-- 'slagheaplaw06.LeftistCommutes', WHERE WHAT IT READS IS OF BULK AT MOST 1048576: true; the input reads as it did. -/
def leftistCommutesUptoRow : OpenClaim := { program := "ytliehednnhilkaadoor", sum := "0019654a02e46dc20de9ada4b430411bfb1c2fb1d71c3234dc14a9b9b53064e6", func := "slagheap/slagheaplaw06.LeftistCommutes", spec := "leftistCommutes", inPlace := ["sync/atomic.AddInt64", "sync/atomic.LoadInt64", "internal/abi.NoEscape", "internal/bytealg.MakeNoZero"], unfollowed := true, recurses := true, named := ["internal/strconv.uint64pow10", "math/bits.deBruijn32tab", "math/bits.deBruijn64tab"], apart := false, laid := [("math/bits.deBruijn32tab", laid_math_bits_deBruijn32tab), ("math/bits.deBruijn64tab", laid_math_bits_deBruijn64tab), ("internal/strconv.uint64pow10", laid_internal_strconv_uint64pow10)], narrowed := true }
def LeftistCommutesUptoSaid : Prop := leftistCommutesUptoRow.holds Tryd.pinned (OpenSpec.upto leftistCommutesSpec)

/-- 'slagheaplaw06.LeftistLeast', WHERE WHAT IT READS IS OF BULK AT MOST 1048576: true; the input reads as it did. -/
def leftistLeastUptoRow : OpenClaim := { program := "ytliehednnhilkaadoor", sum := "0019654a02e46dc20de9ada4b430411bfb1c2fb1d71c3234dc14a9b9b53064e6", func := "slagheap/slagheaplaw06.LeftistLeast", spec := "leftistLeast", inPlace := ["sync/atomic.AddInt64", "sync/atomic.LoadInt64", "internal/abi.NoEscape", "internal/bytealg.MakeNoZero"], unfollowed := true, recurses := true, named := ["internal/strconv.uint64pow10", "math/bits.deBruijn32tab", "math/bits.deBruijn64tab"], apart := false, laid := [("math/bits.deBruijn32tab", laid_math_bits_deBruijn32tab), ("math/bits.deBruijn64tab", laid_math_bits_deBruijn64tab), ("internal/strconv.uint64pow10", laid_internal_strconv_uint64pow10)], narrowed := true }
def LeftistLeastUptoSaid : Prop := leftistLeastUptoRow.holds Tryd.pinned (OpenSpec.upto leftistLeastSpec)

/-- 'slagheaplaw06.LeftistStays', WHERE WHAT IT READS IS OF BULK AT MOST 1048576: true; the input reads as it did. -/
def leftistStaysUptoRow : OpenClaim := { program := "ytliehednnhilkaadoor", sum := "0019654a02e46dc20de9ada4b430411bfb1c2fb1d71c3234dc14a9b9b53064e6", func := "slagheap/slagheaplaw06.LeftistStays", spec := "leftistStays", inPlace := ["sync/atomic.AddInt64", "sync/atomic.LoadInt64", "internal/abi.NoEscape", "internal/bytealg.MakeNoZero"], unfollowed := true, recurses := true, named := ["internal/strconv.uint64pow10", "math/bits.deBruijn32tab", "math/bits.deBruijn64tab"], apart := false, laid := [("math/bits.deBruijn32tab", laid_math_bits_deBruijn32tab), ("math/bits.deBruijn64tab", laid_math_bits_deBruijn64tab), ("internal/strconv.uint64pow10", laid_internal_strconv_uint64pow10)], narrowed := true }
def LeftistStaysUptoSaid : Prop := leftistStaysUptoRow.holds Tryd.pinned (OpenSpec.upto leftistStaysSpec)

/-- 'slagheaplaw06.LeftistDoubles', WHERE WHAT IT READS IS OF BULK AT MOST 1048576: true; the input reads as it did. -/
def leftistDoublesUptoRow : OpenClaim := { program := "ytliehednnhilkaadoor", sum := "0019654a02e46dc20de9ada4b430411bfb1c2fb1d71c3234dc14a9b9b53064e6", func := "slagheap/slagheaplaw06.LeftistDoubles", spec := "leftistDoubles", inPlace := ["sync/atomic.AddInt64", "sync/atomic.LoadInt64", "internal/abi.NoEscape", "internal/bytealg.MakeNoZero"], unfollowed := true, recurses := true, named := ["internal/strconv.uint64pow10", "math/bits.deBruijn32tab", "math/bits.deBruijn64tab"], apart := false, laid := [("math/bits.deBruijn32tab", laid_math_bits_deBruijn32tab), ("math/bits.deBruijn64tab", laid_math_bits_deBruijn64tab), ("internal/strconv.uint64pow10", laid_internal_strconv_uint64pow10)], narrowed := true }
def LeftistDoublesUptoSaid : Prop := leftistDoublesUptoRow.holds Tryd.pinned (OpenSpec.upto leftistDoublesSpec)

/-- 'slagheaplaw06.LeftistEnds', WHERE WHAT IT READS IS OF BULK AT MOST 1048576: true; the input reads as it did. -/
def leftistEndsUptoRow : OpenClaim := { program := "ytliehednnhilkaadoor", sum := "0019654a02e46dc20de9ada4b430411bfb1c2fb1d71c3234dc14a9b9b53064e6", func := "slagheap/slagheaplaw06.LeftistEnds", spec := "leftistEnds", inPlace := ["sync/atomic.AddInt64", "sync/atomic.LoadInt64", "internal/abi.NoEscape", "internal/bytealg.MakeNoZero"], unfollowed := true, recurses := true, named := ["internal/strconv.uint64pow10", "math/bits.deBruijn32tab", "math/bits.deBruijn64tab"], apart := false, laid := [("math/bits.deBruijn32tab", laid_math_bits_deBruijn32tab), ("math/bits.deBruijn64tab", laid_math_bits_deBruijn64tab), ("internal/strconv.uint64pow10", laid_internal_strconv_uint64pow10)], narrowed := true }
def LeftistEndsUptoSaid : Prop := leftistEndsUptoRow.holds Tryd.pinned (OpenSpec.upto leftistEndsSpec)

/-- 'slagheaplaw06.LeftistFolds', WHERE WHAT IT READS IS OF BULK AT MOST 1048576: true; the input reads as it did. -/
def leftistFoldsUptoRow : OpenClaim := { program := "ytliehednnhilkaadoor", sum := "0019654a02e46dc20de9ada4b430411bfb1c2fb1d71c3234dc14a9b9b53064e6", func := "slagheap/slagheaplaw06.LeftistFolds", spec := "leftistFolds", inPlace := ["sync/atomic.AddInt64", "sync/atomic.LoadInt64", "internal/abi.NoEscape", "internal/bytealg.MakeNoZero"], unfollowed := true, recurses := true, named := ["internal/strconv.uint64pow10", "math/bits.deBruijn32tab", "math/bits.deBruijn64tab"], apart := false, laid := [("math/bits.deBruijn32tab", laid_math_bits_deBruijn32tab), ("math/bits.deBruijn64tab", laid_math_bits_deBruijn64tab), ("internal/strconv.uint64pow10", laid_internal_strconv_uint64pow10)], narrowed := true }
def LeftistFoldsUptoSaid : Prop := leftistFoldsUptoRow.holds Tryd.pinned (OpenSpec.upto leftistFoldsSpec)

/-- 'slagheaplaw06.LeftistAgain', WHERE WHAT IT READS IS OF BULK AT MOST 1048576: true; the input reads as it did. -/
def leftistAgainUptoRow : OpenClaim := { program := "ytliehednnhilkaadoor", sum := "0019654a02e46dc20de9ada4b430411bfb1c2fb1d71c3234dc14a9b9b53064e6", func := "slagheap/slagheaplaw06.LeftistAgain", spec := "leftistAgain", inPlace := ["sync/atomic.AddInt64", "sync/atomic.LoadInt64", "internal/abi.NoEscape", "internal/bytealg.MakeNoZero"], unfollowed := true, recurses := true, named := ["internal/strconv.uint64pow10", "math/bits.deBruijn32tab", "math/bits.deBruijn64tab"], apart := false, laid := [("math/bits.deBruijn32tab", laid_math_bits_deBruijn32tab), ("math/bits.deBruijn64tab", laid_math_bits_deBruijn64tab), ("internal/strconv.uint64pow10", laid_internal_strconv_uint64pow10)], narrowed := true }
def LeftistAgainUptoSaid : Prop := leftistAgainUptoRow.holds Tryd.pinned (OpenSpec.upto leftistAgainSpec)

end Rows
end Go.Proofs.YtliehednnhilkaaDoor
