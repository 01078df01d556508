/-
  NARROWER THAN 'FOR EVERY INPUT', by the rows' own cells (each row's printed sentence says how): BinomialPlays: laid · BinomialSorts: laid · BinomialCounts: laid · BinomialBits: laid · BinomialCommutes: laid · BinomialLeast: laid · BinomialStays: laid · BinomialDoubles: laid · BinomialEnds: laid · BinomialFolds: laid · BinomialAgain: laid.
  DERIVED. THE GIVEN ROWS OF THIS SEAT. 11 by the template 'for every input the law returns true; each argument reads behind the call as it read before'; 0 by the template 'total and deterministic' (their statements: YtkilmflcgljgeaaDoorTotals.lean).
  GIVEN WITH THE SEED: the statements are not yours to turn. If you find one false, say at which input.
  Laid BY PROGRAM, IN A SANDBOX (cutbox-rows.mjs): the forced cells as the released guide's own fill.sh prints them over the translation 35b57469f4c1da07… (all of the seat's roots in one cut). By AI agents, Wed Nov 11 2026. No macro, syntax, notation, axiom, sorry.
-/
import Derived.Test.YtkilmflcgljgeaaDoorChecked
import GoSem.Claim
import GoSem.ClaimJoined
import GoSem.ClaimMapViews
import Derived.JoinedTies
import Derived.KernelRfl
namespace Go.Proofs.YtkilmflcgljgeaaDoor
/- THE CELL 'sum', in the pinned program and in every row, IS THE sha256 OF THE DUMP (.gsa) THAT YtkilmflcgljgeaaDoorProg.lean LOADS. Nothing in Lean hashes anything: it is a label: what it is worth is what the hold of that sum in a sandbox is worth. -/
noncomputable def Tryd.pinned : Pinned := { name := "ytkilmflcgljgeaadoor", sum := "35b57469f4c1da07bd2d647314ae80d98aacd1a628bd2574acdb72cb2710efec", checked := Tryd.checked }
namespace Rows
def none {H : Type} : Left H := { results := [], args := [] }

/- WHAT THE LISTED PACKAGE-LEVEL VARIABLES READ AS WHEN THE CALL BEGINS. Each datum BY PROGRAM (the guide's laid-datum.mjs) off the statement by which the dump's own 'gosem.cut.vars' lays the variable. In a bare row this is a premise. The card (YtkilmflcgljgeaaDoorCards.lean) ties it to the program's text. -/
def laid_math_bits_deBruijn32tab {H : Type} : DataW H := .agg [.lit (.int .u8 0), .lit (.int .u8 1), .lit (.int .u8 28), .lit (.int .u8 2), .lit (.int .u8 29), .lit (.int .u8 14), .lit (.int .u8 24), .lit (.int .u8 3), .lit (.int .u8 30), .lit (.int .u8 22), .lit (.int .u8 20), .lit (.int .u8 15), .lit (.int .u8 25), .lit (.int .u8 17), .lit (.int .u8 4), .lit (.int .u8 8), .lit (.int .u8 31), .lit (.int .u8 27), .lit (.int .u8 13), .lit (.int .u8 23), .lit (.int .u8 21), .lit (.int .u8 19), .lit (.int .u8 16), .lit (.int .u8 7), .lit (.int .u8 26), .lit (.int .u8 12), .lit (.int .u8 18), .lit (.int .u8 6), .lit (.int .u8 11), .lit (.int .u8 5), .lit (.int .u8 10), .lit (.int .u8 9)]
def laid_math_bits_deBruijn64tab {H : Type} : DataW H := .agg [.lit (.int .u8 0), .lit (.int .u8 1), .lit (.int .u8 56), .lit (.int .u8 2), .lit (.int .u8 57), .lit (.int .u8 49), .lit (.int .u8 28), .lit (.int .u8 3), .lit (.int .u8 61), .lit (.int .u8 58), .lit (.int .u8 42), .lit (.int .u8 50), .lit (.int .u8 38), .lit (.int .u8 29), .lit (.int .u8 17), .lit (.int .u8 4), .lit (.int .u8 62), .lit (.int .u8 47), .lit (.int .u8 59), .lit (.int .u8 36), .lit (.int .u8 45), .lit (.int .u8 43), .lit (.int .u8 51), .lit (.int .u8 22), .lit (.int .u8 53), .lit (.int .u8 39), .lit (.int .u8 33), .lit (.int .u8 30), .lit (.int .u8 24), .lit (.int .u8 18), .lit (.int .u8 12), .lit (.int .u8 5), .lit (.int .u8 63), .lit (.int .u8 55), .lit (.int .u8 48), .lit (.int .u8 27), .lit (.int .u8 60), .lit (.int .u8 41), .lit (.int .u8 37), .lit (.int .u8 16), .lit (.int .u8 46), .lit (.int .u8 35), .lit (.int .u8 44), .lit (.int .u8 21), .lit (.int .u8 52), .lit (.int .u8 32), .lit (.int .u8 23), .lit (.int .u8 11), .lit (.int .u8 54), .lit (.int .u8 26), .lit (.int .u8 40), .lit (.int .u8 15), .lit (.int .u8 34), .lit (.int .u8 20), .lit (.int .u8 31), .lit (.int .u8 10), .lit (.int .u8 25), .lit (.int .u8 14), .lit (.int .u8 19), .lit (.int .u8 9), .lit (.int .u8 13), .lit (.int .u8 8), .lit (.int .u8 7), .lit (.int .u8 6)]
def laid_internal_strconv_uint64pow10 {H : Type} : DataW H := .agg [.lit (.int .u64 1), .lit (.int .u64 10), .lit (.int .u64 100), .lit (.int .u64 1000), .lit (.int .u64 10000), .lit (.int .u64 100000), .lit (.int .u64 1000000), .lit (.int .u64 10000000), .lit (.int .u64 100000000), .lit (.int .u64 1000000000), .lit (.int .u64 10000000000), .lit (.int .u64 100000000000), .lit (.int .u64 1000000000000), .lit (.int .u64 10000000000000), .lit (.int .u64 100000000000000), .lit (.int .u64 1000000000000000), .lit (.int .u64 10000000000000000), .lit (.int .u64 100000000000000000), .lit (.int .u64 1000000000000000000), .lit (.int .u64 10000000000000000000)]

/-- 'slagheaplaw07.BinomialPlays': WHATEVER THE INPUT: true; the input reads as it did. -/
def binomialPlaysSpec : ChangeSpec := { name := "binomialPlays", fn := fun _ => fun
  | [d] => { results := [.lit (.bool true)], args := [d] }
  | _ => none }
def binomialPlaysRow : OpenClaim := { program := "ytkilmflcgljgeaadoor", sum := "35b57469f4c1da07bd2d647314ae80d98aacd1a628bd2574acdb72cb2710efec", func := "slagheap/slagheaplaw07.BinomialPlays", spec := "binomialPlays", inPlace := ["sync/atomic.AddInt64", "sync/atomic.LoadInt64", "internal/abi.NoEscape", "internal/bytealg.MakeNoZero"], unfollowed := true, recurses := true, named := ["internal/strconv.uint64pow10", "math/bits.deBruijn32tab", "math/bits.deBruijn64tab"], apart := false, laid := [("math/bits.deBruijn32tab", laid_math_bits_deBruijn32tab), ("math/bits.deBruijn64tab", laid_math_bits_deBruijn64tab), ("internal/strconv.uint64pow10", laid_internal_strconv_uint64pow10)] }
def BinomialPlaysSaid : Prop := binomialPlaysRow.holds Tryd.pinned (OpenSpec.ofChange binomialPlaysSpec)

/-- ITS FALSE NEIGHBOUR: 'it returns false'. Refute it at one input. -/
def binomialPlaysWrong : ChangeSpec := { name := "binomialPlays", fn := fun _ => fun
  | [d] => { results := [.lit (.bool false)], args := [d] }
  | _ => none }
def BinomialPlaysWrongFalsely : Prop := binomialPlaysRow.holds Tryd.pinned (OpenSpec.ofChange binomialPlaysWrong)

/-- 'slagheaplaw07.BinomialSorts': WHATEVER THE INPUT: true; the input reads as it did. -/
def binomialSortsSpec : ChangeSpec := { name := "binomialSorts", fn := fun _ => fun
  | [d1, d2] => { results := [.lit (.bool true)], args := [d1, d2] }
  | _ => none }
def binomialSortsRow : OpenClaim := { program := "ytkilmflcgljgeaadoor", sum := "35b57469f4c1da07bd2d647314ae80d98aacd1a628bd2574acdb72cb2710efec", func := "slagheap/slagheaplaw07.BinomialSorts", spec := "binomialSorts", inPlace := ["sync/atomic.AddInt64", "sync/atomic.LoadInt64", "internal/abi.NoEscape", "internal/bytealg.MakeNoZero"], unfollowed := true, recurses := true, named := ["internal/strconv.uint64pow10", "math/bits.deBruijn32tab", "math/bits.deBruijn64tab"], apart := false, laid := [("math/bits.deBruijn32tab", laid_math_bits_deBruijn32tab), ("math/bits.deBruijn64tab", laid_math_bits_deBruijn64tab), ("internal/strconv.uint64pow10", laid_internal_strconv_uint64pow10)] }
def BinomialSortsSaid : Prop := binomialSortsRow.holds Tryd.pinned (OpenSpec.ofChange binomialSortsSpec)

/-- ITS FALSE NEIGHBOUR: 'it returns false'. Refute it at one input. -/
def binomialSortsWrong : ChangeSpec := { name := "binomialSorts", fn := fun _ => fun
  | [d1, d2] => { results := [.lit (.bool false)], args := [d1, d2] }
  | _ => none }
def BinomialSortsWrongFalsely : Prop := binomialSortsRow.holds Tryd.pinned (OpenSpec.ofChange binomialSortsWrong)

/-- 'slagheaplaw07.BinomialCounts': WHATEVER THE INPUT: true; the input reads as it did. -/
def binomialCountsSpec : ChangeSpec := { name := "binomialCounts", fn := fun _ => fun
  | [d] => { results := [.lit (.bool true)], args := [d] }
  | _ => none }
def binomialCountsRow : OpenClaim := { program := "ytkilmflcgljgeaadoor", sum := "35b57469f4c1da07bd2d647314ae80d98aacd1a628bd2574acdb72cb2710efec", func := "slagheap/slagheaplaw07.BinomialCounts", spec := "binomialCounts", inPlace := ["sync/atomic.AddInt64", "sync/atomic.LoadInt64", "internal/abi.NoEscape", "internal/bytealg.MakeNoZero"], unfollowed := true, recurses := true, named := ["internal/strconv.uint64pow10", "math/bits.deBruijn32tab", "math/bits.deBruijn64tab"], apart := false, laid := [("math/bits.deBruijn32tab", laid_math_bits_deBruijn32tab), ("math/bits.deBruijn64tab", laid_math_bits_deBruijn64tab), ("internal/strconv.uint64pow10", laid_internal_strconv_uint64pow10)] }
def BinomialCountsSaid : Prop := binomialCountsRow.holds Tryd.pinned (OpenSpec.ofChange binomialCountsSpec)

/-- ITS FALSE NEIGHBOUR: 'it returns false'. Refute it at one input. -/
def binomialCountsWrong : ChangeSpec := { name := "binomialCounts", fn := fun _ => fun
  | [d] => { results := [.lit (.bool false)], args := [d] }
  | _ => none }
def BinomialCountsWrongFalsely : Prop := binomialCountsRow.holds Tryd.pinned (OpenSpec.ofChange binomialCountsWrong)

/-- 'slagheaplaw07.BinomialBits': WHATEVER THE INPUT: true; the input reads as it did. -/
def binomialBitsSpec : ChangeSpec := { name := "binomialBits", fn := fun _ => fun
  | [d1, d2] => { results := [.lit (.bool true)], args := [d1, d2] }
  | _ => none }
def binomialBitsRow : OpenClaim := { program := "ytkilmflcgljgeaadoor", sum := "35b57469f4c1da07bd2d647314ae80d98aacd1a628bd2574acdb72cb2710efec", func := "slagheap/slagheaplaw07.BinomialBits", spec := "binomialBits", inPlace := ["sync/atomic.AddInt64", "sync/atomic.LoadInt64", "internal/abi.NoEscape", "internal/bytealg.MakeNoZero"], unfollowed := true, recurses := true, named := ["internal/strconv.uint64pow10", "math/bits.deBruijn32tab", "math/bits.deBruijn64tab"], apart := false, laid := [("math/bits.deBruijn32tab", laid_math_bits_deBruijn32tab), ("math/bits.deBruijn64tab", laid_math_bits_deBruijn64tab), ("internal/strconv.uint64pow10", laid_internal_strconv_uint64pow10)] }
def BinomialBitsSaid : Prop := binomialBitsRow.holds Tryd.pinned (OpenSpec.ofChange binomialBitsSpec)

/-- ITS FALSE NEIGHBOUR: 'it returns false'. Refute it at one input. -/
def binomialBitsWrong : ChangeSpec := { name := "binomialBits", fn := fun _ => fun
  | [d1, d2] => { results := [.lit (.bool false)], args := [d1, d2] }
  | _ => none }
def BinomialBitsWrongFalsely : Prop := binomialBitsRow.holds Tryd.pinned (OpenSpec.ofChange binomialBitsWrong)

/-- 'slagheaplaw07.BinomialCommutes': WHATEVER THE INPUT: true; the input reads as it did. -/
def binomialCommutesSpec : ChangeSpec := { name := "binomialCommutes", fn := fun _ => fun
  | [d1, d2, d3] => { results := [.lit (.bool true)], args := [d1, d2, d3] }
  | _ => none }
def binomialCommutesRow : OpenClaim := { program := "ytkilmflcgljgeaadoor", sum := "35b57469f4c1da07bd2d647314ae80d98aacd1a628bd2574acdb72cb2710efec", func := "slagheap/slagheaplaw07.BinomialCommutes", spec := "binomialCommutes", inPlace := ["sync/atomic.AddInt64", "sync/atomic.LoadInt64", "internal/abi.NoEscape", "internal/bytealg.MakeNoZero"], unfollowed := true, recurses := true, named := ["internal/strconv.uint64pow10", "math/bits.deBruijn32tab", "math/bits.deBruijn64tab"], apart := false, laid := [("math/bits.deBruijn32tab", laid_math_bits_deBruijn32tab), ("math/bits.deBruijn64tab", laid_math_bits_deBruijn64tab), ("internal/strconv.uint64pow10", laid_internal_strconv_uint64pow10)] }
def BinomialCommutesSaid : Prop := binomialCommutesRow.holds Tryd.pinned (OpenSpec.ofChange binomialCommutesSpec)

/-- ITS FALSE NEIGHBOUR: 'it returns false'. Refute it at one input. -/
def binomialCommutesWrong : ChangeSpec := { name := "binomialCommutes", fn := fun _ => fun
  | [d1, d2, d3] => { results := [.lit (.bool false)], args := [d1, d2, d3] }
  | _ => none }
def BinomialCommutesWrongFalsely : Prop := binomialCommutesRow.holds Tryd.pinned (OpenSpec.ofChange binomialCommutesWrong)

/-- 'slagheaplaw07.BinomialLeast': WHATEVER THE INPUT: true; the input reads as it did. -/
def binomialLeastSpec : ChangeSpec := { name := "binomialLeast", fn := fun _ => fun
  | [d1, d2, d3] => { results := [.lit (.bool true)], args := [d1, d2, d3] }
  | _ => none }
def binomialLeastRow : OpenClaim := { program := "ytkilmflcgljgeaadoor", sum := "35b57469f4c1da07bd2d647314ae80d98aacd1a628bd2574acdb72cb2710efec", func := "slagheap/slagheaplaw07.BinomialLeast", spec := "binomialLeast", inPlace := ["sync/atomic.AddInt64", "sync/atomic.LoadInt64", "internal/abi.NoEscape", "internal/bytealg.MakeNoZero"], unfollowed := true, recurses := true, named := ["internal/strconv.uint64pow10", "math/bits.deBruijn32tab", "math/bits.deBruijn64tab"], apart := false, laid := [("math/bits.deBruijn32tab", laid_math_bits_deBruijn32tab), ("math/bits.deBruijn64tab", laid_math_bits_deBruijn64tab), ("internal/strconv.uint64pow10", laid_internal_strconv_uint64pow10)] }
def BinomialLeastSaid : Prop := binomialLeastRow.holds Tryd.pinned (OpenSpec.ofChange binomialLeastSpec)

/-- ITS FALSE NEIGHBOUR: 'it returns false'. Refute it at one input. -/
def binomialLeastWrong : ChangeSpec := { name := "binomialLeast", fn := fun _ => fun
  | [d1, d2, d3] => { results := [.lit (.bool false)], args := [d1, d2, d3] }
  | _ => none }
def BinomialLeastWrongFalsely : Prop := binomialLeastRow.holds Tryd.pinned (OpenSpec.ofChange binomialLeastWrong)

/-- 'slagheaplaw07.BinomialStays': WHATEVER THE INPUT: true; the input reads as it did. -/
def binomialStaysSpec : ChangeSpec := { name := "binomialStays", fn := fun _ => fun
  | [d1, d2, d3, d4] => { results := [.lit (.bool true)], args := [d1, d2, d3, d4] }
  | _ => none }
def binomialStaysRow : OpenClaim := { program := "ytkilmflcgljgeaadoor", sum := "35b57469f4c1da07bd2d647314ae80d98aacd1a628bd2574acdb72cb2710efec", func := "slagheap/slagheaplaw07.BinomialStays", spec := "binomialStays", inPlace := ["sync/atomic.AddInt64", "sync/atomic.LoadInt64", "internal/abi.NoEscape", "internal/bytealg.MakeNoZero"], unfollowed := true, recurses := true, named := ["internal/strconv.uint64pow10", "math/bits.deBruijn32tab", "math/bits.deBruijn64tab"], apart := false, laid := [("math/bits.deBruijn32tab", laid_math_bits_deBruijn32tab), ("math/bits.deBruijn64tab", laid_math_bits_deBruijn64tab), ("internal/strconv.uint64pow10", laid_internal_strconv_uint64pow10)] }
def BinomialStaysSaid : Prop := binomialStaysRow.holds Tryd.pinned (OpenSpec.ofChange binomialStaysSpec)

/-- ITS FALSE NEIGHBOUR: 'it returns false'. Refute it at one input. -/
def binomialStaysWrong : ChangeSpec := { name := "binomialStays", fn := fun _ => fun
  | [d1, d2, d3, d4] => { results := [.lit (.bool false)], args := [d1, d2, d3, d4] }
  | _ => none }
def BinomialStaysWrongFalsely : Prop := binomialStaysRow.holds Tryd.pinned (OpenSpec.ofChange binomialStaysWrong)

/-- 'slagheaplaw07.BinomialDoubles': WHATEVER THE INPUT: true; the input reads as it did. -/
def binomialDoublesSpec : ChangeSpec := { name := "binomialDoubles", fn := fun _ => fun
  | [d1, d2] => { results := [.lit (.bool true)], args := [d1, d2] }
  | _ => none }
def binomialDoublesRow : OpenClaim := { program := "ytkilmflcgljgeaadoor", sum := "35b57469f4c1da07bd2d647314ae80d98aacd1a628bd2574acdb72cb2710efec", func := "slagheap/slagheaplaw07.BinomialDoubles", spec := "binomialDoubles", inPlace := ["sync/atomic.AddInt64", "sync/atomic.LoadInt64", "internal/abi.NoEscape", "internal/bytealg.MakeNoZero"], unfollowed := true, recurses := true, named := ["internal/strconv.uint64pow10", "math/bits.deBruijn32tab", "math/bits.deBruijn64tab"], apart := false, laid := [("math/bits.deBruijn32tab", laid_math_bits_deBruijn32tab), ("math/bits.deBruijn64tab", laid_math_bits_deBruijn64tab), ("internal/strconv.uint64pow10", laid_internal_strconv_uint64pow10)] }
def BinomialDoublesSaid : Prop := binomialDoublesRow.holds Tryd.pinned (OpenSpec.ofChange binomialDoublesSpec)

/-- ITS FALSE NEIGHBOUR: 'it returns false'. Refute it at one input. -/
def binomialDoublesWrong : ChangeSpec := { name := "binomialDoubles", fn := fun _ => fun
  | [d1, d2] => { results := [.lit (.bool false)], args := [d1, d2] }
  | _ => none }
def BinomialDoublesWrongFalsely : Prop := binomialDoublesRow.holds Tryd.pinned (OpenSpec.ofChange binomialDoublesWrong)

/-- 'slagheaplaw07.BinomialEnds': WHATEVER THE INPUT: true; the input reads as it did. -/
def binomialEndsSpec : ChangeSpec := { name := "binomialEnds", fn := fun _ => fun
  | [d1, d2, d3] => { results := [.lit (.bool true)], args := [d1, d2, d3] }
  | _ => none }
def binomialEndsRow : OpenClaim := { program := "ytkilmflcgljgeaadoor", sum := "35b57469f4c1da07bd2d647314ae80d98aacd1a628bd2574acdb72cb2710efec", func := "slagheap/slagheaplaw07.BinomialEnds", spec := "binomialEnds", inPlace := ["sync/atomic.AddInt64", "sync/atomic.LoadInt64", "internal/abi.NoEscape", "internal/bytealg.MakeNoZero"], unfollowed := true, recurses := true, named := ["internal/strconv.uint64pow10", "math/bits.deBruijn32tab", "math/bits.deBruijn64tab"], apart := false, laid := [("math/bits.deBruijn32tab", laid_math_bits_deBruijn32tab), ("math/bits.deBruijn64tab", laid_math_bits_deBruijn64tab), ("internal/strconv.uint64pow10", laid_internal_strconv_uint64pow10)] }
def BinomialEndsSaid : Prop := binomialEndsRow.holds Tryd.pinned (OpenSpec.ofChange binomialEndsSpec)

/-- ITS FALSE NEIGHBOUR: 'it returns false'. Refute it at one input. -/
def binomialEndsWrong : ChangeSpec := { name := "binomialEnds", fn := fun _ => fun
  | [d1, d2, d3] => { results := [.lit (.bool false)], args := [d1, d2, d3] }
  | _ => none }
def BinomialEndsWrongFalsely : Prop := binomialEndsRow.holds Tryd.pinned (OpenSpec.ofChange binomialEndsWrong)

/-- 'slagheaplaw07.BinomialFolds': WHATEVER THE INPUT: true; the input reads as it did. -/
def binomialFoldsSpec : ChangeSpec := { name := "binomialFolds", fn := fun _ => fun
  | [d] => { results := [.lit (.bool true)], args := [d] }
  | _ => none }
def binomialFoldsRow : OpenClaim := { program := "ytkilmflcgljgeaadoor", sum := "35b57469f4c1da07bd2d647314ae80d98aacd1a628bd2574acdb72cb2710efec", func := "slagheap/slagheaplaw07.BinomialFolds", spec := "binomialFolds", inPlace := ["sync/atomic.AddInt64", "sync/atomic.LoadInt64", "internal/abi.NoEscape", "internal/bytealg.MakeNoZero"], unfollowed := true, recurses := true, named := ["internal/strconv.uint64pow10", "math/bits.deBruijn32tab", "math/bits.deBruijn64tab"], apart := false, laid := [("math/bits.deBruijn32tab", laid_math_bits_deBruijn32tab), ("math/bits.deBruijn64tab", laid_math_bits_deBruijn64tab), ("internal/strconv.uint64pow10", laid_internal_strconv_uint64pow10)] }
def BinomialFoldsSaid : Prop := binomialFoldsRow.holds Tryd.pinned (OpenSpec.ofChange binomialFoldsSpec)

/-- ITS FALSE NEIGHBOUR: 'it returns false'. Refute it at one input. -/
def binomialFoldsWrong : ChangeSpec := { name := "binomialFolds", fn := fun _ => fun
  | [d] => { results := [.lit (.bool false)], args := [d] }
  | _ => none }
def BinomialFoldsWrongFalsely : Prop := binomialFoldsRow.holds Tryd.pinned (OpenSpec.ofChange binomialFoldsWrong)

/-- 'slagheaplaw07.BinomialAgain': WHATEVER THE INPUT: true; the input reads as it did. -/
def binomialAgainSpec : ChangeSpec := { name := "binomialAgain", fn := fun _ => fun
  | [d1, d2, d3] => { results := [.lit (.bool true)], args := [d1, d2, d3] }
  | _ => none }
def binomialAgainRow : OpenClaim := { program := "ytkilmflcgljgeaadoor", sum := "35b57469f4c1da07bd2d647314ae80d98aacd1a628bd2574acdb72cb2710efec", func := "slagheap/slagheaplaw07.BinomialAgain", spec := "binomialAgain", inPlace := ["sync/atomic.AddInt64", "sync/atomic.LoadInt64", "internal/abi.NoEscape", "internal/bytealg.MakeNoZero"], unfollowed := true, recurses := true, named := ["internal/strconv.uint64pow10", "math/bits.deBruijn32tab", "math/bits.deBruijn64tab"], apart := false, laid := [("math/bits.deBruijn32tab", laid_math_bits_deBruijn32tab), ("math/bits.deBruijn64tab", laid_math_bits_deBruijn64tab), ("internal/strconv.uint64pow10", laid_internal_strconv_uint64pow10)] }
def BinomialAgainSaid : Prop := binomialAgainRow.holds Tryd.pinned (OpenSpec.ofChange binomialAgainSpec)

/-- ITS FALSE NEIGHBOUR: 'it returns false'. Refute it at one input. -/
def binomialAgainWrong : ChangeSpec := { name := "binomialAgain", fn := fun _ => fun
  | [d1, d2, d3] => { results := [.lit (.bool false)], args := [d1, d2, d3] }
  | _ => none }
def BinomialAgainWrongFalsely : Prop := binomialAgainRow.holds Tryd.pinned (OpenSpec.ofChange binomialAgainWrong)

/- THE SECOND FORM. 'bulk': how many values and letters a reading holds, each counted each time it is reached (what is shared counts as often as it is met; a slice's spare places count too). A statement '..UptoSaid' is the law's where the arguments, and the package variables that the reading takes, are together of bulk at most 1048576: NARROWER than '..Said'. Prove '..Said' where nothing that the law and all that it calls make is longer than what came in: it says more and counts as full. Else prove '..UptoSaid'. A law counts once. -/
mutual
def uptoBulk {H : Type} : DataW H → Nat
  | .lit (.string bytes) => bytes.length + 1
  | .lit _ => 1
  | .nil => 1
  | .ptr d => uptoBulk d + 1
  | .slice elems spare => uptoBulkAll elems + uptoBulkAll spare + 1
  | .agg parts => uptoBulkAll parts + 1
  | .iface _ d => uptoBulk d + 1
  | .map entries => uptoBulkEntries entries + 1
  | .held _ => 1
def uptoBulkAll {H : Type} : List (DataW H) → Nat
  | [] => 0
  | d :: r => uptoBulk d + uptoBulkAll r
def uptoBulkEntries {H : Type} : List (Lit × DataW H) → Nat
  | [] => 0
  | x :: r => uptoBulkEntry x + uptoBulkEntries r
def uptoBulkEntry {H : Type} : Lit × DataW H → Nat
  | (.string bytes, d) => bytes.length + uptoBulk d + 1
  | (_, d) => uptoBulk d + 1
 end
def uptoSmall : (H : Type) → List (DataW H) → Bool := fun _ ds => decide (uptoBulkAll ds ≤ 1048576)
def OpenSpec.upto (s : _root_.Go.ChangeSpec) : _root_.Go.OpenSpec := { _root_.Go.OpenSpec.ofChange s with cond := some uptoSmall }

/-- 'slagheaplaw07.BinomialPlays', WHERE WHAT IT READS IS OF BULK AT MOST 1048576: true; the input reads as it did. -/
def binomialPlaysUptoRow : OpenClaim := { program := "ytkilmflcgljgeaadoor", sum := "35b57469f4c1da07bd2d647314ae80d98aacd1a628bd2574acdb72cb2710efec", func := "slagheap/slagheaplaw07.BinomialPlays", spec := "binomialPlays", inPlace := ["sync/atomic.AddInt64", "sync/atomic.LoadInt64", "internal/abi.NoEscape", "internal/bytealg.MakeNoZero"], unfollowed := true, recurses := true, named := ["internal/strconv.uint64pow10", "math/bits.deBruijn32tab", "math/bits.deBruijn64tab"], apart := false, laid := [("math/bits.deBruijn32tab", laid_math_bits_deBruijn32tab), ("math/bits.deBruijn64tab", laid_math_bits_deBruijn64tab), ("internal/strconv.uint64pow10", laid_internal_strconv_uint64pow10)], narrowed := true }
def BinomialPlaysUptoSaid : Prop := binomialPlaysUptoRow.holds Tryd.pinned (OpenSpec.upto binomialPlaysSpec)

/-- 'slagheaplaw07.BinomialSorts', WHERE WHAT IT READS IS OF BULK AT MOST 1048576: true; the input reads as it did. -/
def binomialSortsUptoRow : OpenClaim := { program := "ytkilmflcgljgeaadoor", sum := "35b57469f4c1da07bd2d647314ae80d98aacd1a628bd2574acdb72cb2710efec", func := "slagheap/slagheaplaw07.BinomialSorts", spec := "binomialSorts", inPlace := ["sync/atomic.AddInt64", "sync/atomic.LoadInt64", "internal/abi.NoEscape", "internal/bytealg.MakeNoZero"], unfollowed := true, recurses := true, named := ["internal/strconv.uint64pow10", "math/bits.deBruijn32tab", "math/bits.deBruijn64tab"], apart := false, laid := [("math/bits.deBruijn32tab", laid_math_bits_deBruijn32tab), ("math/bits.deBruijn64tab", laid_math_bits_deBruijn64tab), ("internal/strconv.uint64pow10", laid_internal_strconv_uint64pow10)], narrowed := true }
def BinomialSortsUptoSaid : Prop := binomialSortsUptoRow.holds Tryd.pinned (OpenSpec.upto binomialSortsSpec)

/-- 'slagheaplaw07.BinomialCounts', WHERE WHAT IT READS IS OF BULK AT MOST 1048576: true; the input reads as it did. -/
def binomialCountsUptoRow : OpenClaim := { program := "ytkilmflcgljgeaadoor", sum := "35b57469f4c1da07bd2d647314ae80d98aacd1a628bd2574acdb72cb2710efec", func := "slagheap/slagheaplaw07.BinomialCounts", spec := "binomialCounts", inPlace := ["sync/atomic.AddInt64", "sync/atomic.LoadInt64", "internal/abi.NoEscape", "internal/bytealg.MakeNoZero"], unfollowed := true, recurses := true, named := ["internal/strconv.uint64pow10", "math/bits.deBruijn32tab", "math/bits.deBruijn64tab"], apart := false, laid := [("math/bits.deBruijn32tab", laid_math_bits_deBruijn32tab), ("math/bits.deBruijn64tab", laid_math_bits_deBruijn64tab), ("internal/strconv.uint64pow10", laid_internal_strconv_uint64pow10)], narrowed := true }
def BinomialCountsUptoSaid : Prop := binomialCountsUptoRow.holds Tryd.pinned (OpenSpec.upto binomialCountsSpec)

/-- 'slagheaplaw07.BinomialBits', WHERE WHAT IT READS IS OF BULK AT MOST 1048576: true; the input reads as it did. -/
def binomialBitsUptoRow : OpenClaim := { program := "ytkilmflcgljgeaadoor", sum := "35b57469f4c1da07bd2d647314ae80d98aacd1a628bd2574acdb72cb2710efec", func := "slagheap/slagheaplaw07.BinomialBits", spec := "binomialBits", inPlace := ["sync/atomic.AddInt64", "sync/atomic.LoadInt64", "internal/abi.NoEscape", "internal/bytealg.MakeNoZero"], unfollowed := true, recurses := true, named := ["internal/strconv.uint64pow10", "math/bits.deBruijn32tab", "math/bits.deBruijn64tab"], apart := false, laid := [("math/bits.deBruijn32tab", laid_math_bits_deBruijn32tab), ("math/bits.deBruijn64tab", laid_math_bits_deBruijn64tab), ("internal/strconv.uint64pow10", laid_internal_strconv_uint64pow10)], narrowed := true }
def BinomialBitsUptoSaid : Prop := binomialBitsUptoRow.holds Tryd.pinned (OpenSpec.upto binomialBitsSpec)

/-- 'slagheaplaw07.BinomialCommutes', WHERE WHAT IT READS IS OF BULK AT MOST 1048576: true; the input reads as it did. -/
def binomialCommutesUptoRow : OpenClaim := { program := "ytkilmflcgljgeaadoor", sum := "35b57469f4c1da07bd2d647314ae80d98aacd1a628bd2574acdb72cb2710efec", func := "slagheap/slagheaplaw07.BinomialCommutes", spec := "binomialCommutes", inPlace := ["sync/atomic.AddInt64", "sync/atomic.LoadInt64", "internal/abi.NoEscape", "internal/bytealg.MakeNoZero"], unfollowed := true, recurses := true, named := ["internal/strconv.uint64pow10", "math/bits.deBruijn32tab", "math/bits.deBruijn64tab"], apart := false, laid := [("math/bits.deBruijn32tab", laid_math_bits_deBruijn32tab), ("math/bits.deBruijn64tab", laid_math_bits_deBruijn64tab), ("internal/strconv.uint64pow10", laid_internal_strconv_uint64pow10)], narrowed := true }
def BinomialCommutesUptoSaid : Prop := binomialCommutesUptoRow.holds Tryd.pinned (OpenSpec.upto binomialCommutesSpec)

/-- 'slagheaplaw07.BinomialLeast', WHERE WHAT IT READS IS OF BULK AT MOST 1048576: true; the input reads as it did. -/
def binomialLeastUptoRow : OpenClaim := { program := "ytkilmflcgljgeaadoor", sum := "35b57469f4c1da07bd2d647314ae80d98aacd1a628bd2574acdb72cb2710efec", func := "slagheap/slagheaplaw07.BinomialLeast", spec := "binomialLeast", inPlace := ["sync/atomic.AddInt64", "sync/atomic.LoadInt64", "internal/abi.NoEscape", "internal/bytealg.MakeNoZero"], unfollowed := true, recurses := true, named := ["internal/strconv.uint64pow10", "math/bits.deBruijn32tab", "math/bits.deBruijn64tab"], apart := false, laid := [("math/bits.deBruijn32tab", laid_math_bits_deBruijn32tab), ("math/bits.deBruijn64tab", laid_math_bits_deBruijn64tab), ("internal/strconv.uint64pow10", laid_internal_strconv_uint64pow10)], narrowed := true }
def BinomialLeastUptoSaid : Prop := binomialLeastUptoRow.holds Tryd.pinned (OpenSpec.upto binomialLeastSpec)

/-- 'slagheaplaw07.BinomialStays', WHERE WHAT IT READS IS OF BULK AT MOST 1048576: true; the input reads as it did. -/
def binomialStaysUptoRow : OpenClaim := { program := "ytkilmflcgljgeaadoor", sum := "35b57469f4c1da07bd2d647314ae80d98aacd1a628bd2574acdb72cb2710efec", func := "slagheap/slagheaplaw07.BinomialStays", spec := "binomialStays", inPlace := ["sync/atomic.AddInt64", "sync/atomic.LoadInt64", "internal/abi.NoEscape", "internal/bytealg.MakeNoZero"], unfollowed := true, recurses := true, named := ["internal/strconv.uint64pow10", "math/bits.deBruijn32tab", "math/bits.deBruijn64tab"], apart := false, laid := [("math/bits.deBruijn32tab", laid_math_bits_deBruijn32tab), ("math/bits.deBruijn64tab", laid_math_bits_deBruijn64tab), ("internal/strconv.uint64pow10", laid_internal_strconv_uint64pow10)], narrowed := true }
def BinomialStaysUptoSaid : Prop := binomialStaysUptoRow.holds Tryd.pinned (OpenSpec.upto binomialStaysSpec)

/-- 'slagheaplaw07.BinomialDoubles', WHERE WHAT IT READS IS OF BULK AT MOST 1048576: true; the input reads as it did. -/
def binomialDoublesUptoRow : OpenClaim := { program := "ytkilmflcgljgeaadoor", sum := "35b57469f4c1da07bd2d647314ae80d98aacd1a628bd2574acdb72cb2710efec", func := "slagheap/slagheaplaw07.BinomialDoubles", spec := "binomialDoubles", inPlace := ["sync/atomic.AddInt64", "sync/atomic.LoadInt64", "internal/abi.NoEscape", "internal/bytealg.MakeNoZero"], unfollowed := true, recurses := true, named := ["internal/strconv.uint64pow10", "math/bits.deBruijn32tab", "math/bits.deBruijn64tab"], apart := false, laid := [("math/bits.deBruijn32tab", laid_math_bits_deBruijn32tab), ("math/bits.deBruijn64tab", laid_math_bits_deBruijn64tab), ("internal/strconv.uint64pow10", laid_internal_strconv_uint64pow10)], narrowed := true }
def BinomialDoublesUptoSaid : Prop := binomialDoublesUptoRow.holds Tryd.pinned (OpenSpec.upto binomialDoublesSpec)

/-- 'slagheaplaw07.BinomialEnds', WHERE WHAT IT READS IS OF BULK AT MOST 1048576: true; the input reads as it did. -/
def binomialEndsUptoRow : OpenClaim := { program := "ytkilmflcgljgeaadoor", sum := "35b57469f4c1da07bd2d647314ae80d98aacd1a628bd2574acdb72cb2710efec", func := "slagheap/slagheaplaw07.BinomialEnds", spec := "binomialEnds", inPlace := ["sync/atomic.AddInt64", "sync/atomic.LoadInt64", "internal/abi.NoEscape", "internal/bytealg.MakeNoZero"], unfollowed := true, recurses := true, named := ["internal/strconv.uint64pow10", "math/bits.deBruijn32tab", "math/bits.deBruijn64tab"], apart := false, laid := [("math/bits.deBruijn32tab", laid_math_bits_deBruijn32tab), ("math/bits.deBruijn64tab", laid_math_bits_deBruijn64tab), ("internal/strconv.uint64pow10", laid_internal_strconv_uint64pow10)], narrowed := true }
def BinomialEndsUptoSaid : Prop := binomialEndsUptoRow.holds Tryd.pinned (OpenSpec.upto binomialEndsSpec)

/-- 'slagheaplaw07.BinomialFolds', WHERE WHAT IT READS IS OF BULK AT MOST 1048576: true; the input reads as it did. -/
def binomialFoldsUptoRow : OpenClaim := { program := "ytkilmflcgljgeaadoor", sum := "35b57469f4c1da07bd2d647314ae80d98aacd1a628bd2574acdb72cb2710efec", func := "slagheap/slagheaplaw07.BinomialFolds", spec := "binomialFolds", inPlace := ["sync/atomic.AddInt64", "sync/atomic.LoadInt64", "internal/abi.NoEscape", "internal/bytealg.MakeNoZero"], unfollowed := true, recurses := true, named := ["internal/strconv.uint64pow10", "math/bits.deBruijn32tab", "math/bits.deBruijn64tab"], apart := false, laid := [("math/bits.deBruijn32tab", laid_math_bits_deBruijn32tab), ("math/bits.deBruijn64tab", laid_math_bits_deBruijn64tab), ("internal/strconv.uint64pow10", laid_internal_strconv_uint64pow10)], narrowed := true }
def BinomialFoldsUptoSaid : Prop := binomialFoldsUptoRow.holds Tryd.pinned (OpenSpec.upto binomialFoldsSpec)

/-- 'slagheaplaw07.BinomialAgain', WHERE WHAT IT READS IS OF BULK AT MOST 1048576: true; the input reads as it did. -/
def binomialAgainUptoRow : OpenClaim := { program := "ytkilmflcgljgeaadoor", sum := "35b57469f4c1da07bd2d647314ae80d98aacd1a628bd2574acdb72cb2710efec", func := "slagheap/slagheaplaw07.BinomialAgain", spec := "binomialAgain", inPlace := ["sync/atomic.AddInt64", "sync/atomic.LoadInt64", "internal/abi.NoEscape", "internal/bytealg.MakeNoZero"], unfollowed := true, recurses := true, named := ["internal/strconv.uint64pow10", "math/bits.deBruijn32tab", "math/bits.deBruijn64tab"], apart := false, laid := [("math/bits.deBruijn32tab", laid_math_bits_deBruijn32tab), ("math/bits.deBruijn64tab", laid_math_bits_deBruijn64tab), ("internal/strconv.uint64pow10", laid_internal_strconv_uint64pow10)], narrowed := true }
def BinomialAgainUptoSaid : Prop := binomialAgainUptoRow.holds Tryd.pinned (OpenSpec.upto binomialAgainSpec)

end Rows
end Go.Proofs.YtkilmflcgljgeaaDoor
