/-
  NARROWER THAN 'FOR EVERY INPUT', by the rows' own cells (each row's printed sentence says how): BootPlays: laid · BootSorts: laid · BootCounts: laid · BootCommutes: laid · BootLeast: laid · BootStays: laid · BootDoubles: laid · BootEnds: laid · BootFolds: laid · BootAgain: laid.
  DERIVED. THE GIVEN ROWS OF THIS SEAT. 10 by the template 'for every input the law returns true; each argument reads behind the call as it read before'; 0 by the template 'total and deterministic' (their statements: YtlmokendajgbdaaGreatDoorTotals.lean).
  GIVEN WITH THE SEED: the statements are not yours to turn. If you find one false, say at which input.
  Laid BY PROGRAM, IN A SANDBOX (cutbox-rows.mjs): the forced cells as the released guide's own fill.sh prints them over the translation 0c77895141810dfd… (all of the seat's roots in one cut). By AI agents, Wed Nov 11 2026. No macro, syntax, notation, axiom, sorry.
-/
import Derived.Test.YtlmokendajgbdaaGreatDoorChecked
import GoSem.Claim
import GoSem.ClaimJoined
import GoSem.ClaimMapViews
import Derived.JoinedTies
import Derived.KernelRfl
namespace Go.Proofs.YtlmokendajgbdaaGreatDoor
/- THE CELL 'sum', in the pinned program and in every row, IS THE sha256 OF THE DUMP (.gsa) THAT YtlmokendajgbdaaGreatDoorProg.lean LOADS. Nothing in Lean hashes anything: it is a label: what it is worth is what the hold of that sum in a sandbox is worth. -/
noncomputable def Tryz.pinned : Pinned := { name := "ytlmokendajgbdaagreatdoor", sum := "0c77895141810dfdd7ce541e34d25204f88eb956260baf89b1d33aa47e74b3bb", checked := Tryz.checked }
namespace Rows
def none {H : Type} : Left H := { results := [], args := [] }

/- WHAT THE LISTED PACKAGE-LEVEL VARIABLES READ AS WHEN THE CALL BEGINS. Each datum BY PROGRAM (the guide's laid-datum.mjs) off the statement by which the dump's own 'gosem.cut.vars' lays the variable. In a bare row this is a premise. The card (YtlmokendajgbdaaGreatDoorCards.lean) ties it to the program's text. -/
def laid_math_bits_deBruijn32tab {H : Type} : DataW H := .agg [.lit (.int .u8 0), .lit (.int .u8 1), .lit (.int .u8 28), .lit (.int .u8 2), .lit (.int .u8 29), .lit (.int .u8 14), .lit (.int .u8 24), .lit (.int .u8 3), .lit (.int .u8 30), .lit (.int .u8 22), .lit (.int .u8 20), .lit (.int .u8 15), .lit (.int .u8 25), .lit (.int .u8 17), .lit (.int .u8 4), .lit (.int .u8 8), .lit (.int .u8 31), .lit (.int .u8 27), .lit (.int .u8 13), .lit (.int .u8 23), .lit (.int .u8 21), .lit (.int .u8 19), .lit (.int .u8 16), .lit (.int .u8 7), .lit (.int .u8 26), .lit (.int .u8 12), .lit (.int .u8 18), .lit (.int .u8 6), .lit (.int .u8 11), .lit (.int .u8 5), .lit (.int .u8 10), .lit (.int .u8 9)]
def laid_math_bits_deBruijn64tab {H : Type} : DataW H := .agg [.lit (.int .u8 0), .lit (.int .u8 1), .lit (.int .u8 56), .lit (.int .u8 2), .lit (.int .u8 57), .lit (.int .u8 49), .lit (.int .u8 28), .lit (.int .u8 3), .lit (.int .u8 61), .lit (.int .u8 58), .lit (.int .u8 42), .lit (.int .u8 50), .lit (.int .u8 38), .lit (.int .u8 29), .lit (.int .u8 17), .lit (.int .u8 4), .lit (.int .u8 62), .lit (.int .u8 47), .lit (.int .u8 59), .lit (.int .u8 36), .lit (.int .u8 45), .lit (.int .u8 43), .lit (.int .u8 51), .lit (.int .u8 22), .lit (.int .u8 53), .lit (.int .u8 39), .lit (.int .u8 33), .lit (.int .u8 30), .lit (.int .u8 24), .lit (.int .u8 18), .lit (.int .u8 12), .lit (.int .u8 5), .lit (.int .u8 63), .lit (.int .u8 55), .lit (.int .u8 48), .lit (.int .u8 27), .lit (.int .u8 60), .lit (.int .u8 41), .lit (.int .u8 37), .lit (.int .u8 16), .lit (.int .u8 46), .lit (.int .u8 35), .lit (.int .u8 44), .lit (.int .u8 21), .lit (.int .u8 52), .lit (.int .u8 32), .lit (.int .u8 23), .lit (.int .u8 11), .lit (.int .u8 54), .lit (.int .u8 26), .lit (.int .u8 40), .lit (.int .u8 15), .lit (.int .u8 34), .lit (.int .u8 20), .lit (.int .u8 31), .lit (.int .u8 10), .lit (.int .u8 25), .lit (.int .u8 14), .lit (.int .u8 19), .lit (.int .u8 9), .lit (.int .u8 13), .lit (.int .u8 8), .lit (.int .u8 7), .lit (.int .u8 6)]
def laid_internal_strconv_uint64pow10 {H : Type} : DataW H := .agg [.lit (.int .u64 1), .lit (.int .u64 10), .lit (.int .u64 100), .lit (.int .u64 1000), .lit (.int .u64 10000), .lit (.int .u64 100000), .lit (.int .u64 1000000), .lit (.int .u64 10000000), .lit (.int .u64 100000000), .lit (.int .u64 1000000000), .lit (.int .u64 10000000000), .lit (.int .u64 100000000000), .lit (.int .u64 1000000000000), .lit (.int .u64 10000000000000), .lit (.int .u64 100000000000000), .lit (.int .u64 1000000000000000), .lit (.int .u64 10000000000000000), .lit (.int .u64 100000000000000000), .lit (.int .u64 1000000000000000000), .lit (.int .u64 10000000000000000000)]

/-- 'slagheaplaw11.BootPlays': WHATEVER THE INPUT: true; the input reads as it did. -/
def bootPlaysSpec : ChangeSpec := { name := "bootPlays", fn := fun _ => fun
  | [d] => { results := [.lit (.bool true)], args := [d] }
  | _ => none }
def bootPlaysRow : OpenClaim := { program := "ytlmokendajgbdaagreatdoor", sum := "0c77895141810dfdd7ce541e34d25204f88eb956260baf89b1d33aa47e74b3bb", func := "slagheap/slagheaplaw11.BootPlays", spec := "bootPlays", inPlace := ["sync/atomic.AddInt64", "sync/atomic.LoadInt64", "internal/abi.NoEscape", "internal/bytealg.MakeNoZero"], unfollowed := true, recurses := true, named := ["internal/strconv.uint64pow10", "math/bits.deBruijn32tab", "math/bits.deBruijn64tab"], apart := false, laid := [("math/bits.deBruijn32tab", laid_math_bits_deBruijn32tab), ("math/bits.deBruijn64tab", laid_math_bits_deBruijn64tab), ("internal/strconv.uint64pow10", laid_internal_strconv_uint64pow10)] }
def BootPlaysSaid : Prop := bootPlaysRow.holds Tryz.pinned (OpenSpec.ofChange bootPlaysSpec)

/-- ITS FALSE NEIGHBOUR: 'it returns false'. Refute it at one input. -/
def bootPlaysWrong : ChangeSpec := { name := "bootPlays", fn := fun _ => fun
  | [d] => { results := [.lit (.bool false)], args := [d] }
  | _ => none }
def BootPlaysWrongFalsely : Prop := bootPlaysRow.holds Tryz.pinned (OpenSpec.ofChange bootPlaysWrong)

/-- 'slagheaplaw11.BootSorts': WHATEVER THE INPUT: true; the input reads as it did. -/
def bootSortsSpec : ChangeSpec := { name := "bootSorts", fn := fun _ => fun
  | [d1, d2] => { results := [.lit (.bool true)], args := [d1, d2] }
  | _ => none }
def bootSortsRow : OpenClaim := { program := "ytlmokendajgbdaagreatdoor", sum := "0c77895141810dfdd7ce541e34d25204f88eb956260baf89b1d33aa47e74b3bb", func := "slagheap/slagheaplaw11.BootSorts", spec := "bootSorts", inPlace := ["sync/atomic.AddInt64", "sync/atomic.LoadInt64", "internal/abi.NoEscape", "internal/bytealg.MakeNoZero"], unfollowed := true, recurses := true, named := ["internal/strconv.uint64pow10", "math/bits.deBruijn32tab", "math/bits.deBruijn64tab"], apart := false, laid := [("math/bits.deBruijn32tab", laid_math_bits_deBruijn32tab), ("math/bits.deBruijn64tab", laid_math_bits_deBruijn64tab), ("internal/strconv.uint64pow10", laid_internal_strconv_uint64pow10)] }
def BootSortsSaid : Prop := bootSortsRow.holds Tryz.pinned (OpenSpec.ofChange bootSortsSpec)

/-- ITS FALSE NEIGHBOUR: 'it returns false'. Refute it at one input. -/
def bootSortsWrong : ChangeSpec := { name := "bootSorts", fn := fun _ => fun
  | [d1, d2] => { results := [.lit (.bool false)], args := [d1, d2] }
  | _ => none }
def BootSortsWrongFalsely : Prop := bootSortsRow.holds Tryz.pinned (OpenSpec.ofChange bootSortsWrong)

/-- 'slagheaplaw11.BootCounts': WHATEVER THE INPUT: true; the input reads as it did. -/
def bootCountsSpec : ChangeSpec := { name := "bootCounts", fn := fun _ => fun
  | [d] => { results := [.lit (.bool true)], args := [d] }
  | _ => none }
def bootCountsRow : OpenClaim := { program := "ytlmokendajgbdaagreatdoor", sum := "0c77895141810dfdd7ce541e34d25204f88eb956260baf89b1d33aa47e74b3bb", func := "slagheap/slagheaplaw11.BootCounts", spec := "bootCounts", inPlace := ["sync/atomic.AddInt64", "sync/atomic.LoadInt64", "internal/abi.NoEscape", "internal/bytealg.MakeNoZero"], unfollowed := true, recurses := true, named := ["internal/strconv.uint64pow10", "math/bits.deBruijn32tab", "math/bits.deBruijn64tab"], apart := false, laid := [("math/bits.deBruijn32tab", laid_math_bits_deBruijn32tab), ("math/bits.deBruijn64tab", laid_math_bits_deBruijn64tab), ("internal/strconv.uint64pow10", laid_internal_strconv_uint64pow10)] }
def BootCountsSaid : Prop := bootCountsRow.holds Tryz.pinned (OpenSpec.ofChange bootCountsSpec)

/-- ITS FALSE NEIGHBOUR: 'it returns false'. Refute it at one input. -/
def bootCountsWrong : ChangeSpec := { name := "bootCounts", fn := fun _ => fun
  | [d] => { results := [.lit (.bool false)], args := [d] }
  | _ => none }
def BootCountsWrongFalsely : Prop := bootCountsRow.holds Tryz.pinned (OpenSpec.ofChange bootCountsWrong)

/-- 'slagheaplaw11.BootCommutes': WHATEVER THE INPUT: true; the input reads as it did. -/
def bootCommutesSpec : ChangeSpec := { name := "bootCommutes", fn := fun _ => fun
  | [d1, d2, d3] => { results := [.lit (.bool true)], args := [d1, d2, d3] }
  | _ => none }
def bootCommutesRow : OpenClaim := { program := "ytlmokendajgbdaagreatdoor", sum := "0c77895141810dfdd7ce541e34d25204f88eb956260baf89b1d33aa47e74b3bb", func := "slagheap/slagheaplaw11.BootCommutes", spec := "bootCommutes", inPlace := ["sync/atomic.AddInt64", "sync/atomic.LoadInt64", "internal/abi.NoEscape", "internal/bytealg.MakeNoZero"], unfollowed := true, recurses := true, named := ["internal/strconv.uint64pow10", "math/bits.deBruijn32tab", "math/bits.deBruijn64tab"], apart := false, laid := [("math/bits.deBruijn32tab", laid_math_bits_deBruijn32tab), ("math/bits.deBruijn64tab", laid_math_bits_deBruijn64tab), ("internal/strconv.uint64pow10", laid_internal_strconv_uint64pow10)] }
def BootCommutesSaid : Prop := bootCommutesRow.holds Tryz.pinned (OpenSpec.ofChange bootCommutesSpec)

/-- ITS FALSE NEIGHBOUR: 'it returns false'. Refute it at one input. -/
def bootCommutesWrong : ChangeSpec := { name := "bootCommutes", fn := fun _ => fun
  | [d1, d2, d3] => { results := [.lit (.bool false)], args := [d1, d2, d3] }
  | _ => none }
def BootCommutesWrongFalsely : Prop := bootCommutesRow.holds Tryz.pinned (OpenSpec.ofChange bootCommutesWrong)

/-- 'slagheaplaw11.BootLeast': WHATEVER THE INPUT: true; the input reads as it did. -/
def bootLeastSpec : ChangeSpec := { name := "bootLeast", fn := fun _ => fun
  | [d1, d2, d3] => { results := [.lit (.bool true)], args := [d1, d2, d3] }
  | _ => none }
def bootLeastRow : OpenClaim := { program := "ytlmokendajgbdaagreatdoor", sum := "0c77895141810dfdd7ce541e34d25204f88eb956260baf89b1d33aa47e74b3bb", func := "slagheap/slagheaplaw11.BootLeast", spec := "bootLeast", inPlace := ["sync/atomic.AddInt64", "sync/atomic.LoadInt64", "internal/abi.NoEscape", "internal/bytealg.MakeNoZero"], unfollowed := true, recurses := true, named := ["internal/strconv.uint64pow10", "math/bits.deBruijn32tab", "math/bits.deBruijn64tab"], apart := false, laid := [("math/bits.deBruijn32tab", laid_math_bits_deBruijn32tab), ("math/bits.deBruijn64tab", laid_math_bits_deBruijn64tab), ("internal/strconv.uint64pow10", laid_internal_strconv_uint64pow10)] }
def BootLeastSaid : Prop := bootLeastRow.holds Tryz.pinned (OpenSpec.ofChange bootLeastSpec)

/-- ITS FALSE NEIGHBOUR: 'it returns false'. Refute it at one input. -/
def bootLeastWrong : ChangeSpec := { name := "bootLeast", fn := fun _ => fun
  | [d1, d2, d3] => { results := [.lit (.bool false)], args := [d1, d2, d3] }
  | _ => none }
def BootLeastWrongFalsely : Prop := bootLeastRow.holds Tryz.pinned (OpenSpec.ofChange bootLeastWrong)

/-- 'slagheaplaw11.BootStays': WHATEVER THE INPUT: true; the input reads as it did. -/
def bootStaysSpec : ChangeSpec := { name := "bootStays", fn := fun _ => fun
  | [d1, d2, d3, d4] => { results := [.lit (.bool true)], args := [d1, d2, d3, d4] }
  | _ => none }
def bootStaysRow : OpenClaim := { program := "ytlmokendajgbdaagreatdoor", sum := "0c77895141810dfdd7ce541e34d25204f88eb956260baf89b1d33aa47e74b3bb", func := "slagheap/slagheaplaw11.BootStays", spec := "bootStays", inPlace := ["sync/atomic.AddInt64", "sync/atomic.LoadInt64", "internal/abi.NoEscape", "internal/bytealg.MakeNoZero"], unfollowed := true, recurses := true, named := ["internal/strconv.uint64pow10", "math/bits.deBruijn32tab", "math/bits.deBruijn64tab"], apart := false, laid := [("math/bits.deBruijn32tab", laid_math_bits_deBruijn32tab), ("math/bits.deBruijn64tab", laid_math_bits_deBruijn64tab), ("internal/strconv.uint64pow10", laid_internal_strconv_uint64pow10)] }
def BootStaysSaid : Prop := bootStaysRow.holds Tryz.pinned (OpenSpec.ofChange bootStaysSpec)

/-- ITS FALSE NEIGHBOUR: 'it returns false'. Refute it at one input. -/
def bootStaysWrong : ChangeSpec := { name := "bootStays", fn := fun _ => fun
  | [d1, d2, d3, d4] => { results := [.lit (.bool false)], args := [d1, d2, d3, d4] }
  | _ => none }
def BootStaysWrongFalsely : Prop := bootStaysRow.holds Tryz.pinned (OpenSpec.ofChange bootStaysWrong)

/-- 'slagheaplaw11.BootDoubles': WHATEVER THE INPUT: true; the input reads as it did. -/
def bootDoublesSpec : ChangeSpec := { name := "bootDoubles", fn := fun _ => fun
  | [d1, d2] => { results := [.lit (.bool true)], args := [d1, d2] }
  | _ => none }
def bootDoublesRow : OpenClaim := { program := "ytlmokendajgbdaagreatdoor", sum := "0c77895141810dfdd7ce541e34d25204f88eb956260baf89b1d33aa47e74b3bb", func := "slagheap/slagheaplaw11.BootDoubles", spec := "bootDoubles", inPlace := ["sync/atomic.AddInt64", "sync/atomic.LoadInt64", "internal/abi.NoEscape", "internal/bytealg.MakeNoZero"], unfollowed := true, recurses := true, named := ["internal/strconv.uint64pow10", "math/bits.deBruijn32tab", "math/bits.deBruijn64tab"], apart := false, laid := [("math/bits.deBruijn32tab", laid_math_bits_deBruijn32tab), ("math/bits.deBruijn64tab", laid_math_bits_deBruijn64tab), ("internal/strconv.uint64pow10", laid_internal_strconv_uint64pow10)] }
def BootDoublesSaid : Prop := bootDoublesRow.holds Tryz.pinned (OpenSpec.ofChange bootDoublesSpec)

/-- ITS FALSE NEIGHBOUR: 'it returns false'. Refute it at one input. -/
def bootDoublesWrong : ChangeSpec := { name := "bootDoubles", fn := fun _ => fun
  | [d1, d2] => { results := [.lit (.bool false)], args := [d1, d2] }
  | _ => none }
def BootDoublesWrongFalsely : Prop := bootDoublesRow.holds Tryz.pinned (OpenSpec.ofChange bootDoublesWrong)

/-- 'slagheaplaw11.BootEnds': WHATEVER THE INPUT: true; the input reads as it did. -/
def bootEndsSpec : ChangeSpec := { name := "bootEnds", fn := fun _ => fun
  | [d1, d2, d3] => { results := [.lit (.bool true)], args := [d1, d2, d3] }
  | _ => none }
def bootEndsRow : OpenClaim := { program := "ytlmokendajgbdaagreatdoor", sum := "0c77895141810dfdd7ce541e34d25204f88eb956260baf89b1d33aa47e74b3bb", func := "slagheap/slagheaplaw11.BootEnds", spec := "bootEnds", inPlace := ["sync/atomic.AddInt64", "sync/atomic.LoadInt64", "internal/abi.NoEscape", "internal/bytealg.MakeNoZero"], unfollowed := true, recurses := true, named := ["internal/strconv.uint64pow10", "math/bits.deBruijn32tab", "math/bits.deBruijn64tab"], apart := false, laid := [("math/bits.deBruijn32tab", laid_math_bits_deBruijn32tab), ("math/bits.deBruijn64tab", laid_math_bits_deBruijn64tab), ("internal/strconv.uint64pow10", laid_internal_strconv_uint64pow10)] }
def BootEndsSaid : Prop := bootEndsRow.holds Tryz.pinned (OpenSpec.ofChange bootEndsSpec)

/-- ITS FALSE NEIGHBOUR: 'it returns false'. Refute it at one input. -/
def bootEndsWrong : ChangeSpec := { name := "bootEnds", fn := fun _ => fun
  | [d1, d2, d3] => { results := [.lit (.bool false)], args := [d1, d2, d3] }
  | _ => none }
def BootEndsWrongFalsely : Prop := bootEndsRow.holds Tryz.pinned (OpenSpec.ofChange bootEndsWrong)

/-- 'slagheaplaw11.BootFolds': WHATEVER THE INPUT: true; the input reads as it did. -/
def bootFoldsSpec : ChangeSpec := { name := "bootFolds", fn := fun _ => fun
  | [d] => { results := [.lit (.bool true)], args := [d] }
  | _ => none }
def bootFoldsRow : OpenClaim := { program := "ytlmokendajgbdaagreatdoor", sum := "0c77895141810dfdd7ce541e34d25204f88eb956260baf89b1d33aa47e74b3bb", func := "slagheap/slagheaplaw11.BootFolds", spec := "bootFolds", inPlace := ["sync/atomic.AddInt64", "sync/atomic.LoadInt64", "internal/abi.NoEscape", "internal/bytealg.MakeNoZero"], unfollowed := true, recurses := true, named := ["internal/strconv.uint64pow10", "math/bits.deBruijn32tab", "math/bits.deBruijn64tab"], apart := false, laid := [("math/bits.deBruijn32tab", laid_math_bits_deBruijn32tab), ("math/bits.deBruijn64tab", laid_math_bits_deBruijn64tab), ("internal/strconv.uint64pow10", laid_internal_strconv_uint64pow10)] }
def BootFoldsSaid : Prop := bootFoldsRow.holds Tryz.pinned (OpenSpec.ofChange bootFoldsSpec)

/-- ITS FALSE NEIGHBOUR: 'it returns false'. Refute it at one input. -/
def bootFoldsWrong : ChangeSpec := { name := "bootFolds", fn := fun _ => fun
  | [d] => { results := [.lit (.bool false)], args := [d] }
  | _ => none }
def BootFoldsWrongFalsely : Prop := bootFoldsRow.holds Tryz.pinned (OpenSpec.ofChange bootFoldsWrong)

/-- 'slagheaplaw11.BootAgain': WHATEVER THE INPUT: true; the input reads as it did. -/
def bootAgainSpec : ChangeSpec := { name := "bootAgain", fn := fun _ => fun
  | [d1, d2, d3] => { results := [.lit (.bool true)], args := [d1, d2, d3] }
  | _ => none }
def bootAgainRow : OpenClaim := { program := "ytlmokendajgbdaagreatdoor", sum := "0c77895141810dfdd7ce541e34d25204f88eb956260baf89b1d33aa47e74b3bb", func := "slagheap/slagheaplaw11.BootAgain", spec := "bootAgain", inPlace := ["sync/atomic.AddInt64", "sync/atomic.LoadInt64", "internal/abi.NoEscape", "internal/bytealg.MakeNoZero"], unfollowed := true, recurses := true, named := ["internal/strconv.uint64pow10", "math/bits.deBruijn32tab", "math/bits.deBruijn64tab"], apart := false, laid := [("math/bits.deBruijn32tab", laid_math_bits_deBruijn32tab), ("math/bits.deBruijn64tab", laid_math_bits_deBruijn64tab), ("internal/strconv.uint64pow10", laid_internal_strconv_uint64pow10)] }
def BootAgainSaid : Prop := bootAgainRow.holds Tryz.pinned (OpenSpec.ofChange bootAgainSpec)

/-- ITS FALSE NEIGHBOUR: 'it returns false'. Refute it at one input. -/
def bootAgainWrong : ChangeSpec := { name := "bootAgain", fn := fun _ => fun
  | [d1, d2, d3] => { results := [.lit (.bool false)], args := [d1, d2, d3] }
  | _ => none }
def BootAgainWrongFalsely : Prop := bootAgainRow.holds Tryz.pinned (OpenSpec.ofChange bootAgainWrong)

/- THE SECOND FORM. 'bulk': how many values and letters a reading holds, each counted each time it is reached (what is shared counts as often as it is met; a slice's spare places count too). A statement '..UptoSaid' is the law's where the arguments, and the package variables that the reading takes, are together of bulk at most 1048576: NARROWER than '..Said'. Prove '..Said' where nothing that the law and all that it calls make is longer than what came in: it says more and counts as full. Else prove '..UptoSaid'. A law counts once. -/
mutual
def uptoBulk {H : Type} : DataW H → Nat
  | .lit (.string bytes) => bytes.length + 1
  | .lit _ => 1
  | .nil => 1
  | .ptr d => uptoBulk d + 1
  | .slice elems spare => uptoBulkAll elems + uptoBulkAll spare + 1
  | .agg parts => uptoBulkAll parts + 1
  | .iface _ d => uptoBulk d + 1
  | .map entries => uptoBulkEntries entries + 1
  | .held _ => 1
def uptoBulkAll {H : Type} : List (DataW H) → Nat
  | [] => 0
  | d :: r => uptoBulk d + uptoBulkAll r
def uptoBulkEntries {H : Type} : List (Lit × DataW H) → Nat
  | [] => 0
  | x :: r => uptoBulkEntry x + uptoBulkEntries r
def uptoBulkEntry {H : Type} : Lit × DataW H → Nat
  | (.string bytes, d) => bytes.length + uptoBulk d + 1
  | (_, d) => uptoBulk d + 1
 end
def uptoSmall : (H : Type) → List (DataW H) → Bool := fun _ ds => decide (uptoBulkAll ds ≤ 1048576)
def OpenSpec.upto (s : _root_.Go.ChangeSpec) : _root_.Go.OpenSpec := { _root_.Go.OpenSpec.ofChange s with cond := some uptoSmall }

/-- 'slagheaplaw11.BootPlays', WHERE WHAT IT READS IS OF BULK AT MOST 1048576: true; the input reads as it did. -/
def bootPlaysUptoRow : OpenClaim := { program := "ytlmokendajgbdaagreatdoor", sum := "0c77895141810dfdd7ce541e34d25204f88eb956260baf89b1d33aa47e74b3bb", func := "slagheap/slagheaplaw11.BootPlays", spec := "bootPlays", inPlace := ["sync/atomic.AddInt64", "sync/atomic.LoadInt64", "internal/abi.NoEscape", "internal/bytealg.MakeNoZero"], unfollowed := true, recurses := true, named := ["internal/strconv.uint64pow10", "math/bits.deBruijn32tab", "math/bits.deBruijn64tab"], apart := false, laid := [("math/bits.deBruijn32tab", laid_math_bits_deBruijn32tab), ("math/bits.deBruijn64tab", laid_math_bits_deBruijn64tab), ("internal/strconv.uint64pow10", laid_internal_strconv_uint64pow10)], narrowed := true }
def BootPlaysUptoSaid : Prop := bootPlaysUptoRow.holds Tryz.pinned (OpenSpec.upto bootPlaysSpec)

/-- 'slagheaplaw11.BootSorts', WHERE WHAT IT READS IS OF BULK AT MOST 1048576: true; the input reads as it did. -/
def bootSortsUptoRow : OpenClaim := { program := "ytlmokendajgbdaagreatdoor", sum := "0c77895141810dfdd7ce541e34d25204f88eb956260baf89b1d33aa47e74b3bb", func := "slagheap/slagheaplaw11.BootSorts", spec := "bootSorts", inPlace := ["sync/atomic.AddInt64", "sync/atomic.LoadInt64", "internal/abi.NoEscape", "internal/bytealg.MakeNoZero"], unfollowed := true, recurses := true, named := ["internal/strconv.uint64pow10", "math/bits.deBruijn32tab", "math/bits.deBruijn64tab"], apart := false, laid := [("math/bits.deBruijn32tab", laid_math_bits_deBruijn32tab), ("math/bits.deBruijn64tab", laid_math_bits_deBruijn64tab), ("internal/strconv.uint64pow10", laid_internal_strconv_uint64pow10)], narrowed := true }
def BootSortsUptoSaid : Prop := bootSortsUptoRow.holds Tryz.pinned (OpenSpec.upto bootSortsSpec)

/-- 'slagheaplaw11.BootCounts', WHERE WHAT IT READS IS OF BULK AT MOST 1048576: true; the input reads as it did. -/
def bootCountsUptoRow : OpenClaim := { program := "ytlmokendajgbdaagreatdoor", sum := "0c77895141810dfdd7ce541e34d25204f88eb956260baf89b1d33aa47e74b3bb", func := "slagheap/slagheaplaw11.BootCounts", spec := "bootCounts", inPlace := ["sync/atomic.AddInt64", "sync/atomic.LoadInt64", "internal/abi.NoEscape", "internal/bytealg.MakeNoZero"], unfollowed := true, recurses := true, named := ["internal/strconv.uint64pow10", "math/bits.deBruijn32tab", "math/bits.deBruijn64tab"], apart := false, laid := [("math/bits.deBruijn32tab", laid_math_bits_deBruijn32tab), ("math/bits.deBruijn64tab", laid_math_bits_deBruijn64tab), ("internal/strconv.uint64pow10", laid_internal_strconv_uint64pow10)], narrowed := true }
def BootCountsUptoSaid : Prop := bootCountsUptoRow.holds Tryz.pinned (OpenSpec.upto bootCountsSpec)

/-- 'slagheaplaw11.BootCommutes', WHERE WHAT IT READS IS OF BULK AT MOST 1048576: true; the input reads as it did. -/
def bootCommutesUptoRow : OpenClaim := { program := "ytlmokendajgbdaagreatdoor", sum := "0c77895141810dfdd7ce541e34d25204f88eb956260baf89b1d33aa47e74b3bb", func := "slagheap/slagheaplaw11.BootCommutes", spec := "bootCommutes", inPlace := ["sync/atomic.AddInt64", "sync/atomic.LoadInt64", "internal/abi.NoEscape", "internal/bytealg.MakeNoZero"], unfollowed := true, recurses := true, named := ["internal/strconv.uint64pow10", "math/bits.deBruijn32tab", "math/bits.deBruijn64tab"], apart := false, laid := [("math/bits.deBruijn32tab", laid_math_bits_deBruijn32tab), ("math/bits.deBruijn64tab", laid_math_bits_deBruijn64tab), ("internal/strconv.uint64pow10", laid_internal_strconv_uint64pow10)], narrowed := true }
def BootCommutesUptoSaid : Prop := bootCommutesUptoRow.holds Tryz.pinned (OpenSpec.upto bootCommutesSpec)

/-- 'slagheaplaw11.BootLeast', WHERE WHAT IT READS IS OF BULK AT MOST 1048576: true; the input reads as it did. -/
def bootLeastUptoRow : OpenClaim := { program := "ytlmokendajgbdaagreatdoor", sum := "0c77895141810dfdd7ce541e34d25204f88eb956260baf89b1d33aa47e74b3bb", func := "slagheap/slagheaplaw11.BootLeast", spec := "bootLeast", inPlace := ["sync/atomic.AddInt64", "sync/atomic.LoadInt64", "internal/abi.NoEscape", "internal/bytealg.MakeNoZero"], unfollowed := true, recurses := true, named := ["internal/strconv.uint64pow10", "math/bits.deBruijn32tab", "math/bits.deBruijn64tab"], apart := false, laid := [("math/bits.deBruijn32tab", laid_math_bits_deBruijn32tab), ("math/bits.deBruijn64tab", laid_math_bits_deBruijn64tab), ("internal/strconv.uint64pow10", laid_internal_strconv_uint64pow10)], narrowed := true }
def BootLeastUptoSaid : Prop := bootLeastUptoRow.holds Tryz.pinned (OpenSpec.upto bootLeastSpec)

/-- 'slagheaplaw11.BootStays', WHERE WHAT IT READS IS OF BULK AT MOST 1048576: true; the input reads as it did. -/
def bootStaysUptoRow : OpenClaim := { program := "ytlmokendajgbdaagreatdoor", sum := "0c77895141810dfdd7ce541e34d25204f88eb956260baf89b1d33aa47e74b3bb", func := "slagheap/slagheaplaw11.BootStays", spec := "bootStays", inPlace := ["sync/atomic.AddInt64", "sync/atomic.LoadInt64", "internal/abi.NoEscape", "internal/bytealg.MakeNoZero"], unfollowed := true, recurses := true, named := ["internal/strconv.uint64pow10", "math/bits.deBruijn32tab", "math/bits.deBruijn64tab"], apart := false, laid := [("math/bits.deBruijn32tab", laid_math_bits_deBruijn32tab), ("math/bits.deBruijn64tab", laid_math_bits_deBruijn64tab), ("internal/strconv.uint64pow10", laid_internal_strconv_uint64pow10)], narrowed := true }
def BootStaysUptoSaid : Prop := bootStaysUptoRow.holds Tryz.pinned (OpenSpec.upto bootStaysSpec)

/-- 'slagheaplaw11.BootDoubles', WHERE WHAT IT READS IS OF BULK AT MOST 1048576: true; the input reads as it did. -/
def bootDoublesUptoRow : OpenClaim := { program := "ytlmokendajgbdaagreatdoor", sum := "0c77895141810dfdd7ce541e34d25204f88eb956260baf89b1d33aa47e74b3bb", func := "slagheap/slagheaplaw11.BootDoubles", spec := "bootDoubles", inPlace := ["sync/atomic.AddInt64", "sync/atomic.LoadInt64", "internal/abi.NoEscape", "internal/bytealg.MakeNoZero"], unfollowed := true, recurses := true, named := ["internal/strconv.uint64pow10", "math/bits.deBruijn32tab", "math/bits.deBruijn64tab"], apart := false, laid := [("math/bits.deBruijn32tab", laid_math_bits_deBruijn32tab), ("math/bits.deBruijn64tab", laid_math_bits_deBruijn64tab), ("internal/strconv.uint64pow10", laid_internal_strconv_uint64pow10)], narrowed := true }
def BootDoublesUptoSaid : Prop := bootDoublesUptoRow.holds Tryz.pinned (OpenSpec.upto bootDoublesSpec)

/-- 'slagheaplaw11.BootEnds', WHERE WHAT IT READS IS OF BULK AT MOST 1048576: true; the input reads as it did. -/
def bootEndsUptoRow : OpenClaim := { program := "ytlmokendajgbdaagreatdoor", sum := "0c77895141810dfdd7ce541e34d25204f88eb956260baf89b1d33aa47e74b3bb", func := "slagheap/slagheaplaw11.BootEnds", spec := "bootEnds", inPlace := ["sync/atomic.AddInt64", "sync/atomic.LoadInt64", "internal/abi.NoEscape", "internal/bytealg.MakeNoZero"], unfollowed := true, recurses := true, named := ["internal/strconv.uint64pow10", "math/bits.deBruijn32tab", "math/bits.deBruijn64tab"], apart := false, laid := [("math/bits.deBruijn32tab", laid_math_bits_deBruijn32tab), ("math/bits.deBruijn64tab", laid_math_bits_deBruijn64tab), ("internal/strconv.uint64pow10", laid_internal_strconv_uint64pow10)], narrowed := true }
def BootEndsUptoSaid : Prop := bootEndsUptoRow.holds Tryz.pinned (OpenSpec.upto bootEndsSpec)

/-- 'slagheaplaw11.BootFolds', WHERE WHAT IT READS IS OF BULK AT MOST 1048576: true; the input reads as it did. -/
def bootFoldsUptoRow : OpenClaim := { program := "ytlmokendajgbdaagreatdoor", sum := "0c77895141810dfdd7ce541e34d25204f88eb956260baf89b1d33aa47e74b3bb", func := "slagheap/slagheaplaw11.BootFolds", spec := "bootFolds", inPlace := ["sync/atomic.AddInt64", "sync/atomic.LoadInt64", "internal/abi.NoEscape", "internal/bytealg.MakeNoZero"], unfollowed := true, recurses := true, named := ["internal/strconv.uint64pow10", "math/bits.deBruijn32tab", "math/bits.deBruijn64tab"], apart := false, laid := [("math/bits.deBruijn32tab", laid_math_bits_deBruijn32tab), ("math/bits.deBruijn64tab", laid_math_bits_deBruijn64tab), ("internal/strconv.uint64pow10", laid_internal_strconv_uint64pow10)], narrowed := true }
def BootFoldsUptoSaid : Prop := bootFoldsUptoRow.holds Tryz.pinned (OpenSpec.upto bootFoldsSpec)

/-- 'slagheaplaw11.BootAgain', WHERE WHAT IT READS IS OF BULK AT MOST 1048576: true; the input reads as it did. -/
def bootAgainUptoRow : OpenClaim := { program := "ytlmokendajgbdaagreatdoor", sum := "0c77895141810dfdd7ce541e34d25204f88eb956260baf89b1d33aa47e74b3bb", func := "slagheap/slagheaplaw11.BootAgain", spec := "bootAgain", inPlace := ["sync/atomic.AddInt64", "sync/atomic.LoadInt64", "internal/abi.NoEscape", "internal/bytealg.MakeNoZero"], unfollowed := true, recurses := true, named := ["internal/strconv.uint64pow10", "math/bits.deBruijn32tab", "math/bits.deBruijn64tab"], apart := false, laid := [("math/bits.deBruijn32tab", laid_math_bits_deBruijn32tab), ("math/bits.deBruijn64tab", laid_math_bits_deBruijn64tab), ("internal/strconv.uint64pow10", laid_internal_strconv_uint64pow10)], narrowed := true }
def BootAgainUptoSaid : Prop := bootAgainUptoRow.holds Tryz.pinned (OpenSpec.upto bootAgainSpec)

end Rows
end Go.Proofs.YtlmokendajgbdaaGreatDoor
