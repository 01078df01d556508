/-
  NARROWER THAN 'FOR EVERY INPUT', by the rows' own cells (each row's printed sentence says how): PairingPlays: laid · PairingSorts: laid · PairingCounts: laid · PairingCheap: laid · PairingCommutes: laid · PairingLeast: laid · PairingStays: laid · PairingDoubles: laid · PairingEnds: laid · PairingFolds: laid · PairingAgain: laid.
  DERIVED. THE GIVEN ROWS OF THIS SEAT. 11 by the template 'for every input the law returns true; each argument reads behind the call as it read before'; 0 by the template 'total and deterministic' (their statements: YtpclafbolppgcaaDoorTotals.lean).
  GIVEN WITH THE SEED: the statements are not yours to turn. If you find one false, say at which input.
  Laid BY PROGRAM, IN A SANDBOX (cutbox-rows.mjs): the forced cells as the released guide's own fill.sh prints them over the translation 01936d8291332a21… (all of the seat's roots in one cut). By AI agents, Wed Nov 11 2026. No macro, syntax, notation, axiom, sorry.
-/
import Derived.Test.YtpclafbolppgcaaDoorChecked
import GoSem.Claim
import GoSem.ClaimJoined
import GoSem.ClaimMapViews
import Derived.JoinedTies
import Derived.KernelRfl
namespace Go.Proofs.YtpclafbolppgcaaDoor
/- THE CELL 'sum', in the pinned program and in every row, IS THE sha256 OF THE DUMP (.gsa) THAT YtpclafbolppgcaaDoorProg.lean LOADS. Nothing in Lean hashes anything: it is a label: what it is worth is what the hold of that sum in a sandbox is worth. -/
noncomputable def Tryd.pinned : Pinned := { name := "ytpclafbolppgcaadoor", sum := "01936d8291332a2108398e9690f6eb774f0a2bdc78b6fea2e8723174fda1d9ec", checked := Tryd.checked }
namespace Rows
def none {H : Type} : Left H := { results := [], args := [] }

/- WHAT THE LISTED PACKAGE-LEVEL VARIABLES READ AS WHEN THE CALL BEGINS. Each datum BY PROGRAM (the guide's laid-datum.mjs) off the statement by which the dump's own 'gosem.cut.vars' lays the variable. In a bare row this is a premise. The card (YtpclafbolppgcaaDoorCards.lean) ties it to the program's text. -/
def laid_math_bits_deBruijn32tab {H : Type} : DataW H := .agg [.lit (.int .u8 0), .lit (.int .u8 1), .lit (.int .u8 28), .lit (.int .u8 2), .lit (.int .u8 29), .lit (.int .u8 14), .lit (.int .u8 24), .lit (.int .u8 3), .lit (.int .u8 30), .lit (.int .u8 22), .lit (.int .u8 20), .lit (.int .u8 15), .lit (.int .u8 25), .lit (.int .u8 17), .lit (.int .u8 4), .lit (.int .u8 8), .lit (.int .u8 31), .lit (.int .u8 27), .lit (.int .u8 13), .lit (.int .u8 23), .lit (.int .u8 21), .lit (.int .u8 19), .lit (.int .u8 16), .lit (.int .u8 7), .lit (.int .u8 26), .lit (.int .u8 12), .lit (.int .u8 18), .lit (.int .u8 6), .lit (.int .u8 11), .lit (.int .u8 5), .lit (.int .u8 10), .lit (.int .u8 9)]
def laid_math_bits_deBruijn64tab {H : Type} : DataW H := .agg [.lit (.int .u8 0), .lit (.int .u8 1), .lit (.int .u8 56), .lit (.int .u8 2), .lit (.int .u8 57), .lit (.int .u8 49), .lit (.int .u8 28), .lit (.int .u8 3), .lit (.int .u8 61), .lit (.int .u8 58), .lit (.int .u8 42), .lit (.int .u8 50), .lit (.int .u8 38), .lit (.int .u8 29), .lit (.int .u8 17), .lit (.int .u8 4), .lit (.int .u8 62), .lit (.int .u8 47), .lit (.int .u8 59), .lit (.int .u8 36), .lit (.int .u8 45), .lit (.int .u8 43), .lit (.int .u8 51), .lit (.int .u8 22), .lit (.int .u8 53), .lit (.int .u8 39), .lit (.int .u8 33), .lit (.int .u8 30), .lit (.int .u8 24), .lit (.int .u8 18), .lit (.int .u8 12), .lit (.int .u8 5), .lit (.int .u8 63), .lit (.int .u8 55), .lit (.int .u8 48), .lit (.int .u8 27), .lit (.int .u8 60), .lit (.int .u8 41), .lit (.int .u8 37), .lit (.int .u8 16), .lit (.int .u8 46), .lit (.int .u8 35), .lit (.int .u8 44), .lit (.int .u8 21), .lit (.int .u8 52), .lit (.int .u8 32), .lit (.int .u8 23), .lit (.int .u8 11), .lit (.int .u8 54), .lit (.int .u8 26), .lit (.int .u8 40), .lit (.int .u8 15), .lit (.int .u8 34), .lit (.int .u8 20), .lit (.int .u8 31), .lit (.int .u8 10), .lit (.int .u8 25), .lit (.int .u8 14), .lit (.int .u8 19), .lit (.int .u8 9), .lit (.int .u8 13), .lit (.int .u8 8), .lit (.int .u8 7), .lit (.int .u8 6)]
def laid_internal_strconv_uint64pow10 {H : Type} : DataW H := .agg [.lit (.int .u64 1), .lit (.int .u64 10), .lit (.int .u64 100), .lit (.int .u64 1000), .lit (.int .u64 10000), .lit (.int .u64 100000), .lit (.int .u64 1000000), .lit (.int .u64 10000000), .lit (.int .u64 100000000), .lit (.int .u64 1000000000), .lit (.int .u64 10000000000), .lit (.int .u64 100000000000), .lit (.int .u64 1000000000000), .lit (.int .u64 10000000000000), .lit (.int .u64 100000000000000), .lit (.int .u64 1000000000000000), .lit (.int .u64 10000000000000000), .lit (.int .u64 100000000000000000), .lit (.int .u64 1000000000000000000), .lit (.int .u64 10000000000000000000)]

/-- 'slagheaplaw08.PairingPlays': WHATEVER THE INPUT: true; the input reads as it did. -/
def pairingPlaysSpec : ChangeSpec := { name := "pairingPlays", fn := fun _ => fun
  | [d] => { results := [.lit (.bool true)], args := [d] }
  | _ => none }
def pairingPlaysRow : OpenClaim := { program := "ytpclafbolppgcaadoor", sum := "01936d8291332a2108398e9690f6eb774f0a2bdc78b6fea2e8723174fda1d9ec", func := "slagheap/slagheaplaw08.PairingPlays", spec := "pairingPlays", inPlace := ["sync/atomic.AddInt64", "sync/atomic.LoadInt64", "internal/abi.NoEscape"], unfollowed := true, recurses := true, named := ["internal/strconv.uint64pow10", "math/bits.deBruijn32tab", "math/bits.deBruijn64tab"], apart := false, laid := [("math/bits.deBruijn32tab", laid_math_bits_deBruijn32tab), ("math/bits.deBruijn64tab", laid_math_bits_deBruijn64tab), ("internal/strconv.uint64pow10", laid_internal_strconv_uint64pow10)] }
def PairingPlaysSaid : Prop := pairingPlaysRow.holds Tryd.pinned (OpenSpec.ofChange pairingPlaysSpec)

/-- ITS FALSE NEIGHBOUR: 'it returns false'. Refute it at one input. -/
def pairingPlaysWrong : ChangeSpec := { name := "pairingPlays", fn := fun _ => fun
  | [d] => { results := [.lit (.bool false)], args := [d] }
  | _ => none }
def PairingPlaysWrongFalsely : Prop := pairingPlaysRow.holds Tryd.pinned (OpenSpec.ofChange pairingPlaysWrong)

/-- 'slagheaplaw08.PairingSorts': WHATEVER THE INPUT: true; the input reads as it did. -/
def pairingSortsSpec : ChangeSpec := { name := "pairingSorts", fn := fun _ => fun
  | [d1, d2] => { results := [.lit (.bool true)], args := [d1, d2] }
  | _ => none }
def pairingSortsRow : OpenClaim := { program := "ytpclafbolppgcaadoor", sum := "01936d8291332a2108398e9690f6eb774f0a2bdc78b6fea2e8723174fda1d9ec", func := "slagheap/slagheaplaw08.PairingSorts", spec := "pairingSorts", inPlace := ["sync/atomic.AddInt64", "sync/atomic.LoadInt64", "internal/abi.NoEscape"], unfollowed := true, recurses := true, named := ["internal/strconv.uint64pow10", "math/bits.deBruijn32tab", "math/bits.deBruijn64tab"], apart := false, laid := [("math/bits.deBruijn32tab", laid_math_bits_deBruijn32tab), ("math/bits.deBruijn64tab", laid_math_bits_deBruijn64tab), ("internal/strconv.uint64pow10", laid_internal_strconv_uint64pow10)] }
def PairingSortsSaid : Prop := pairingSortsRow.holds Tryd.pinned (OpenSpec.ofChange pairingSortsSpec)

/-- ITS FALSE NEIGHBOUR: 'it returns false'. Refute it at one input. -/
def pairingSortsWrong : ChangeSpec := { name := "pairingSorts", fn := fun _ => fun
  | [d1, d2] => { results := [.lit (.bool false)], args := [d1, d2] }
  | _ => none }
def PairingSortsWrongFalsely : Prop := pairingSortsRow.holds Tryd.pinned (OpenSpec.ofChange pairingSortsWrong)

/-- 'slagheaplaw08.PairingCounts': WHATEVER THE INPUT: true; the input reads as it did. -/
def pairingCountsSpec : ChangeSpec := { name := "pairingCounts", fn := fun _ => fun
  | [d] => { results := [.lit (.bool true)], args := [d] }
  | _ => none }
def pairingCountsRow : OpenClaim := { program := "ytpclafbolppgcaadoor", sum := "01936d8291332a2108398e9690f6eb774f0a2bdc78b6fea2e8723174fda1d9ec", func := "slagheap/slagheaplaw08.PairingCounts", spec := "pairingCounts", inPlace := ["sync/atomic.AddInt64", "sync/atomic.LoadInt64", "internal/abi.NoEscape"], unfollowed := true, recurses := true, named := ["internal/strconv.uint64pow10", "math/bits.deBruijn32tab", "math/bits.deBruijn64tab"], apart := false, laid := [("math/bits.deBruijn32tab", laid_math_bits_deBruijn32tab), ("math/bits.deBruijn64tab", laid_math_bits_deBruijn64tab), ("internal/strconv.uint64pow10", laid_internal_strconv_uint64pow10)] }
def PairingCountsSaid : Prop := pairingCountsRow.holds Tryd.pinned (OpenSpec.ofChange pairingCountsSpec)

/-- ITS FALSE NEIGHBOUR: 'it returns false'. Refute it at one input. -/
def pairingCountsWrong : ChangeSpec := { name := "pairingCounts", fn := fun _ => fun
  | [d] => { results := [.lit (.bool false)], args := [d] }
  | _ => none }
def PairingCountsWrongFalsely : Prop := pairingCountsRow.holds Tryd.pinned (OpenSpec.ofChange pairingCountsWrong)

/-- 'slagheaplaw08.PairingCheap': WHATEVER THE INPUT: true; the input reads as it did. -/
def pairingCheapSpec : ChangeSpec := { name := "pairingCheap", fn := fun _ => fun
  | [d1, d2, d3] => { results := [.lit (.bool true)], args := [d1, d2, d3] }
  | _ => none }
def pairingCheapRow : OpenClaim := { program := "ytpclafbolppgcaadoor", sum := "01936d8291332a2108398e9690f6eb774f0a2bdc78b6fea2e8723174fda1d9ec", func := "slagheap/slagheaplaw08.PairingCheap", spec := "pairingCheap", inPlace := ["sync/atomic.AddInt64", "sync/atomic.LoadInt64", "internal/abi.NoEscape"], unfollowed := true, recurses := true, named := ["internal/strconv.uint64pow10", "math/bits.deBruijn32tab", "math/bits.deBruijn64tab"], apart := false, laid := [("math/bits.deBruijn32tab", laid_math_bits_deBruijn32tab), ("math/bits.deBruijn64tab", laid_math_bits_deBruijn64tab), ("internal/strconv.uint64pow10", laid_internal_strconv_uint64pow10)] }
def PairingCheapSaid : Prop := pairingCheapRow.holds Tryd.pinned (OpenSpec.ofChange pairingCheapSpec)

/-- ITS FALSE NEIGHBOUR: 'it returns false'. Refute it at one input. -/
def pairingCheapWrong : ChangeSpec := { name := "pairingCheap", fn := fun _ => fun
  | [d1, d2, d3] => { results := [.lit (.bool false)], args := [d1, d2, d3] }
  | _ => none }
def PairingCheapWrongFalsely : Prop := pairingCheapRow.holds Tryd.pinned (OpenSpec.ofChange pairingCheapWrong)

/-- 'slagheaplaw08.PairingCommutes': WHATEVER THE INPUT: true; the input reads as it did. -/
def pairingCommutesSpec : ChangeSpec := { name := "pairingCommutes", fn := fun _ => fun
  | [d1, d2, d3] => { results := [.lit (.bool true)], args := [d1, d2, d3] }
  | _ => none }
def pairingCommutesRow : OpenClaim := { program := "ytpclafbolppgcaadoor", sum := "01936d8291332a2108398e9690f6eb774f0a2bdc78b6fea2e8723174fda1d9ec", func := "slagheap/slagheaplaw08.PairingCommutes", spec := "pairingCommutes", inPlace := ["sync/atomic.AddInt64", "sync/atomic.LoadInt64", "internal/abi.NoEscape"], unfollowed := true, recurses := true, named := ["internal/strconv.uint64pow10", "math/bits.deBruijn32tab", "math/bits.deBruijn64tab"], apart := false, laid := [("math/bits.deBruijn32tab", laid_math_bits_deBruijn32tab), ("math/bits.deBruijn64tab", laid_math_bits_deBruijn64tab), ("internal/strconv.uint64pow10", laid_internal_strconv_uint64pow10)] }
def PairingCommutesSaid : Prop := pairingCommutesRow.holds Tryd.pinned (OpenSpec.ofChange pairingCommutesSpec)

/-- ITS FALSE NEIGHBOUR: 'it returns false'. Refute it at one input. -/
def pairingCommutesWrong : ChangeSpec := { name := "pairingCommutes", fn := fun _ => fun
  | [d1, d2, d3] => { results := [.lit (.bool false)], args := [d1, d2, d3] }
  | _ => none }
def PairingCommutesWrongFalsely : Prop := pairingCommutesRow.holds Tryd.pinned (OpenSpec.ofChange pairingCommutesWrong)

/-- 'slagheaplaw08.PairingLeast': WHATEVER THE INPUT: true; the input reads as it did. -/
def pairingLeastSpec : ChangeSpec := { name := "pairingLeast", fn := fun _ => fun
  | [d1, d2, d3] => { results := [.lit (.bool true)], args := [d1, d2, d3] }
  | _ => none }
def pairingLeastRow : OpenClaim := { program := "ytpclafbolppgcaadoor", sum := "01936d8291332a2108398e9690f6eb774f0a2bdc78b6fea2e8723174fda1d9ec", func := "slagheap/slagheaplaw08.PairingLeast", spec := "pairingLeast", inPlace := ["sync/atomic.AddInt64", "sync/atomic.LoadInt64", "internal/abi.NoEscape"], unfollowed := true, recurses := true, named := ["internal/strconv.uint64pow10", "math/bits.deBruijn32tab", "math/bits.deBruijn64tab"], apart := false, laid := [("math/bits.deBruijn32tab", laid_math_bits_deBruijn32tab), ("math/bits.deBruijn64tab", laid_math_bits_deBruijn64tab), ("internal/strconv.uint64pow10", laid_internal_strconv_uint64pow10)] }
def PairingLeastSaid : Prop := pairingLeastRow.holds Tryd.pinned (OpenSpec.ofChange pairingLeastSpec)

/-- ITS FALSE NEIGHBOUR: 'it returns false'. Refute it at one input. -/
def pairingLeastWrong : ChangeSpec := { name := "pairingLeast", fn := fun _ => fun
  | [d1, d2, d3] => { results := [.lit (.bool false)], args := [d1, d2, d3] }
  | _ => none }
def PairingLeastWrongFalsely : Prop := pairingLeastRow.holds Tryd.pinned (OpenSpec.ofChange pairingLeastWrong)

/-- 'slagheaplaw08.PairingStays': WHATEVER THE INPUT: true; the input reads as it did. -/
def pairingStaysSpec : ChangeSpec := { name := "pairingStays", fn := fun _ => fun
  | [d1, d2, d3, d4] => { results := [.lit (.bool true)], args := [d1, d2, d3, d4] }
  | _ => none }
def pairingStaysRow : OpenClaim := { program := "ytpclafbolppgcaadoor", sum := "01936d8291332a2108398e9690f6eb774f0a2bdc78b6fea2e8723174fda1d9ec", func := "slagheap/slagheaplaw08.PairingStays", spec := "pairingStays", inPlace := ["sync/atomic.AddInt64", "sync/atomic.LoadInt64", "internal/abi.NoEscape"], unfollowed := true, recurses := true, named := ["internal/strconv.uint64pow10", "math/bits.deBruijn32tab", "math/bits.deBruijn64tab"], apart := false, laid := [("math/bits.deBruijn32tab", laid_math_bits_deBruijn32tab), ("math/bits.deBruijn64tab", laid_math_bits_deBruijn64tab), ("internal/strconv.uint64pow10", laid_internal_strconv_uint64pow10)] }
def PairingStaysSaid : Prop := pairingStaysRow.holds Tryd.pinned (OpenSpec.ofChange pairingStaysSpec)

/-- ITS FALSE NEIGHBOUR: 'it returns false'. Refute it at one input. -/
def pairingStaysWrong : ChangeSpec := { name := "pairingStays", fn := fun _ => fun
  | [d1, d2, d3, d4] => { results := [.lit (.bool false)], args := [d1, d2, d3, d4] }
  | _ => none }
def PairingStaysWrongFalsely : Prop := pairingStaysRow.holds Tryd.pinned (OpenSpec.ofChange pairingStaysWrong)

/-- 'slagheaplaw08.PairingDoubles': WHATEVER THE INPUT: true; the input reads as it did. -/
def pairingDoublesSpec : ChangeSpec := { name := "pairingDoubles", fn := fun _ => fun
  | [d1, d2] => { results := [.lit (.bool true)], args := [d1, d2] }
  | _ => none }
def pairingDoublesRow : OpenClaim := { program := "ytpclafbolppgcaadoor", sum := "01936d8291332a2108398e9690f6eb774f0a2bdc78b6fea2e8723174fda1d9ec", func := "slagheap/slagheaplaw08.PairingDoubles", spec := "pairingDoubles", inPlace := ["sync/atomic.AddInt64", "sync/atomic.LoadInt64", "internal/abi.NoEscape"], unfollowed := true, recurses := true, named := ["internal/strconv.uint64pow10", "math/bits.deBruijn32tab", "math/bits.deBruijn64tab"], apart := false, laid := [("math/bits.deBruijn32tab", laid_math_bits_deBruijn32tab), ("math/bits.deBruijn64tab", laid_math_bits_deBruijn64tab), ("internal/strconv.uint64pow10", laid_internal_strconv_uint64pow10)] }
def PairingDoublesSaid : Prop := pairingDoublesRow.holds Tryd.pinned (OpenSpec.ofChange pairingDoublesSpec)

/-- ITS FALSE NEIGHBOUR: 'it returns false'. Refute it at one input. -/
def pairingDoublesWrong : ChangeSpec := { name := "pairingDoubles", fn := fun _ => fun
  | [d1, d2] => { results := [.lit (.bool false)], args := [d1, d2] }
  | _ => none }
def PairingDoublesWrongFalsely : Prop := pairingDoublesRow.holds Tryd.pinned (OpenSpec.ofChange pairingDoublesWrong)

/-- 'slagheaplaw08.PairingEnds': WHATEVER THE INPUT: true; the input reads as it did. -/
def pairingEndsSpec : ChangeSpec := { name := "pairingEnds", fn := fun _ => fun
  | [d1, d2, d3] => { results := [.lit (.bool true)], args := [d1, d2, d3] }
  | _ => none }
def pairingEndsRow : OpenClaim := { program := "ytpclafbolppgcaadoor", sum := "01936d8291332a2108398e9690f6eb774f0a2bdc78b6fea2e8723174fda1d9ec", func := "slagheap/slagheaplaw08.PairingEnds", spec := "pairingEnds", inPlace := ["sync/atomic.AddInt64", "sync/atomic.LoadInt64", "internal/abi.NoEscape"], unfollowed := true, recurses := true, named := ["internal/strconv.uint64pow10", "math/bits.deBruijn32tab", "math/bits.deBruijn64tab"], apart := false, laid := [("math/bits.deBruijn32tab", laid_math_bits_deBruijn32tab), ("math/bits.deBruijn64tab", laid_math_bits_deBruijn64tab), ("internal/strconv.uint64pow10", laid_internal_strconv_uint64pow10)] }
def PairingEndsSaid : Prop := pairingEndsRow.holds Tryd.pinned (OpenSpec.ofChange pairingEndsSpec)

/-- ITS FALSE NEIGHBOUR: 'it returns false'. Refute it at one input. -/
def pairingEndsWrong : ChangeSpec := { name := "pairingEnds", fn := fun _ => fun
  | [d1, d2, d3] => { results := [.lit (.bool false)], args := [d1, d2, d3] }
  | _ => none }
def PairingEndsWrongFalsely : Prop := pairingEndsRow.holds Tryd.pinned (OpenSpec.ofChange pairingEndsWrong)

/-- 'slagheaplaw08.PairingFolds': WHATEVER THE INPUT: true; the input reads as it did. -/
def pairingFoldsSpec : ChangeSpec := { name := "pairingFolds", fn := fun _ => fun
  | [d] => { results := [.lit (.bool true)], args := [d] }
  | _ => none }
def pairingFoldsRow : OpenClaim := { program := "ytpclafbolppgcaadoor", sum := "01936d8291332a2108398e9690f6eb774f0a2bdc78b6fea2e8723174fda1d9ec", func := "slagheap/slagheaplaw08.PairingFolds", spec := "pairingFolds", inPlace := ["sync/atomic.AddInt64", "sync/atomic.LoadInt64", "internal/abi.NoEscape"], unfollowed := true, recurses := true, named := ["internal/strconv.uint64pow10", "math/bits.deBruijn32tab", "math/bits.deBruijn64tab"], apart := false, laid := [("math/bits.deBruijn32tab", laid_math_bits_deBruijn32tab), ("math/bits.deBruijn64tab", laid_math_bits_deBruijn64tab), ("internal/strconv.uint64pow10", laid_internal_strconv_uint64pow10)] }
def PairingFoldsSaid : Prop := pairingFoldsRow.holds Tryd.pinned (OpenSpec.ofChange pairingFoldsSpec)

/-- ITS FALSE NEIGHBOUR: 'it returns false'. Refute it at one input. -/
def pairingFoldsWrong : ChangeSpec := { name := "pairingFolds", fn := fun _ => fun
  | [d] => { results := [.lit (.bool false)], args := [d] }
  | _ => none }
def PairingFoldsWrongFalsely : Prop := pairingFoldsRow.holds Tryd.pinned (OpenSpec.ofChange pairingFoldsWrong)

/-- 'slagheaplaw08.PairingAgain': WHATEVER THE INPUT: true; the input reads as it did. -/
def pairingAgainSpec : ChangeSpec := { name := "pairingAgain", fn := fun _ => fun
  | [d1, d2, d3] => { results := [.lit (.bool true)], args := [d1, d2, d3] }
  | _ => none }
def pairingAgainRow : OpenClaim := { program := "ytpclafbolppgcaadoor", sum := "01936d8291332a2108398e9690f6eb774f0a2bdc78b6fea2e8723174fda1d9ec", func := "slagheap/slagheaplaw08.PairingAgain", spec := "pairingAgain", inPlace := ["sync/atomic.AddInt64", "sync/atomic.LoadInt64", "internal/abi.NoEscape"], unfollowed := true, recurses := true, named := ["internal/strconv.uint64pow10", "math/bits.deBruijn32tab", "math/bits.deBruijn64tab"], apart := false, laid := [("math/bits.deBruijn32tab", laid_math_bits_deBruijn32tab), ("math/bits.deBruijn64tab", laid_math_bits_deBruijn64tab), ("internal/strconv.uint64pow10", laid_internal_strconv_uint64pow10)] }
def PairingAgainSaid : Prop := pairingAgainRow.holds Tryd.pinned (OpenSpec.ofChange pairingAgainSpec)

/-- ITS FALSE NEIGHBOUR: 'it returns false'. Refute it at one input. -/
def pairingAgainWrong : ChangeSpec := { name := "pairingAgain", fn := fun _ => fun
  | [d1, d2, d3] => { results := [.lit (.bool false)], args := [d1, d2, d3] }
  | _ => none }
def PairingAgainWrongFalsely : Prop := pairingAgainRow.holds Tryd.pinned (OpenSpec.ofChange pairingAgainWrong)

/- THE SECOND FORM. 'bulk': how many values and letters a reading holds, each counted each time it is reached (what is shared counts as often as it is met; a slice's spare places count too). A statement '..UptoSaid' is the law's where the arguments, and the package variables that the reading takes, are together of bulk at most 1048576: NARROWER than '..Said'. Prove '..Said' where nothing that the law and all that it calls make is longer than what came in: it says more and counts as full. Else prove '..UptoSaid'. A law counts once. -/
mutual
def uptoBulk {H : Type} : DataW H → Nat
  | .lit (.string bytes) => bytes.length + 1
  | .lit _ => 1
  | .nil => 1
  | .ptr d => uptoBulk d + 1
  | .slice elems spare => uptoBulkAll elems + uptoBulkAll spare + 1
  | .agg parts => uptoBulkAll parts + 1
  | .iface _ d => uptoBulk d + 1
  | .map entries => uptoBulkEntries entries + 1
  | .held _ => 1
def uptoBulkAll {H : Type} : List (DataW H) → Nat
  | [] => 0
  | d :: r => uptoBulk d + uptoBulkAll r
def uptoBulkEntries {H : Type} : List (Lit × DataW H) → Nat
  | [] => 0
  | x :: r => uptoBulkEntry x + uptoBulkEntries r
def uptoBulkEntry {H : Type} : Lit × DataW H → Nat
  | (.string bytes, d) => bytes.length + uptoBulk d + 1
  | (_, d) => uptoBulk d + 1
 end
def uptoSmall : (H : Type) → List (DataW H) → Bool := fun _ ds => decide (uptoBulkAll ds ≤ 1048576)
def OpenSpec.upto (s : _root_.Go.ChangeSpec) : _root_.Go.OpenSpec := { _root_.Go.OpenSpec.ofChange s with cond := some uptoSmall }

/-- 'slagheaplaw08.PairingPlays', WHERE WHAT IT READS IS OF BULK AT MOST 1048576: true; the input reads as it did. -/
def pairingPlaysUptoRow : OpenClaim := { program := "ytpclafbolppgcaadoor", sum := "01936d8291332a2108398e9690f6eb774f0a2bdc78b6fea2e8723174fda1d9ec", func := "slagheap/slagheaplaw08.PairingPlays", spec := "pairingPlays", inPlace := ["sync/atomic.AddInt64", "sync/atomic.LoadInt64", "internal/abi.NoEscape"], unfollowed := true, recurses := true, named := ["internal/strconv.uint64pow10", "math/bits.deBruijn32tab", "math/bits.deBruijn64tab"], apart := false, laid := [("math/bits.deBruijn32tab", laid_math_bits_deBruijn32tab), ("math/bits.deBruijn64tab", laid_math_bits_deBruijn64tab), ("internal/strconv.uint64pow10", laid_internal_strconv_uint64pow10)], narrowed := true }
def PairingPlaysUptoSaid : Prop := pairingPlaysUptoRow.holds Tryd.pinned (OpenSpec.upto pairingPlaysSpec)

/-- 'slagheaplaw08.PairingSorts', WHERE WHAT IT READS IS OF BULK AT MOST 1048576: true; the input reads as it did. -/
def pairingSortsUptoRow : OpenClaim := { program := "ytpclafbolppgcaadoor", sum := "01936d8291332a2108398e9690f6eb774f0a2bdc78b6fea2e8723174fda1d9ec", func := "slagheap/slagheaplaw08.PairingSorts", spec := "pairingSorts", inPlace := ["sync/atomic.AddInt64", "sync/atomic.LoadInt64", "internal/abi.NoEscape"], unfollowed := true, recurses := true, named := ["internal/strconv.uint64pow10", "math/bits.deBruijn32tab", "math/bits.deBruijn64tab"], apart := false, laid := [("math/bits.deBruijn32tab", laid_math_bits_deBruijn32tab), ("math/bits.deBruijn64tab", laid_math_bits_deBruijn64tab), ("internal/strconv.uint64pow10", laid_internal_strconv_uint64pow10)], narrowed := true }
def PairingSortsUptoSaid : Prop := pairingSortsUptoRow.holds Tryd.pinned (OpenSpec.upto pairingSortsSpec)

/-- 'slagheaplaw08.PairingCounts', WHERE WHAT IT READS IS OF BULK AT MOST 1048576: true; the input reads as it did. -/
def pairingCountsUptoRow : OpenClaim := { program := "ytpclafbolppgcaadoor", sum := "01936d8291332a2108398e9690f6eb774f0a2bdc78b6fea2e8723174fda1d9ec", func := "slagheap/slagheaplaw08.PairingCounts", spec := "pairingCounts", inPlace := ["sync/atomic.AddInt64", "sync/atomic.LoadInt64", "internal/abi.NoEscape"], unfollowed := true, recurses := true, named := ["internal/strconv.uint64pow10", "math/bits.deBruijn32tab", "math/bits.deBruijn64tab"], apart := false, laid := [("math/bits.deBruijn32tab", laid_math_bits_deBruijn32tab), ("math/bits.deBruijn64tab", laid_math_bits_deBruijn64tab), ("internal/strconv.uint64pow10", laid_internal_strconv_uint64pow10)], narrowed := true }
def PairingCountsUptoSaid : Prop := pairingCountsUptoRow.holds Tryd.pinned (OpenSpec.upto pairingCountsSpec)

/-- 'slagheaplaw08.PairingCheap', WHERE WHAT IT READS IS OF BULK AT MOST 1048576: true; the input reads as it did. -/
def pairingCheapUptoRow : OpenClaim := { program := "ytpclafbolppgcaadoor", sum := "01936d8291332a2108398e9690f6eb774f0a2bdc78b6fea2e8723174fda1d9ec", func := "slagheap/slagheaplaw08.PairingCheap", spec := "pairingCheap", inPlace := ["sync/atomic.AddInt64", "sync/atomic.LoadInt64", "internal/abi.NoEscape"], unfollowed := true, recurses := true, named := ["internal/strconv.uint64pow10", "math/bits.deBruijn32tab", "math/bits.deBruijn64tab"], apart := false, laid := [("math/bits.deBruijn32tab", laid_math_bits_deBruijn32tab), ("math/bits.deBruijn64tab", laid_math_bits_deBruijn64tab), ("internal/strconv.uint64pow10", laid_internal_strconv_uint64pow10)], narrowed := true }
def PairingCheapUptoSaid : Prop := pairingCheapUptoRow.holds Tryd.pinned (OpenSpec.upto pairingCheapSpec)

/-- 'slagheaplaw08.PairingCommutes', WHERE WHAT IT READS IS OF BULK AT MOST 1048576: true; the input reads as it did. -/
def pairingCommutesUptoRow : OpenClaim := { program := "ytpclafbolppgcaadoor", sum := "01936d8291332a2108398e9690f6eb774f0a2bdc78b6fea2e8723174fda1d9ec", func := "slagheap/slagheaplaw08.PairingCommutes", spec := "pairingCommutes", inPlace := ["sync/atomic.AddInt64", "sync/atomic.LoadInt64", "internal/abi.NoEscape"], unfollowed := true, recurses := true, named := ["internal/strconv.uint64pow10", "math/bits.deBruijn32tab", "math/bits.deBruijn64tab"], apart := false, laid := [("math/bits.deBruijn32tab", laid_math_bits_deBruijn32tab), ("math/bits.deBruijn64tab", laid_math_bits_deBruijn64tab), ("internal/strconv.uint64pow10", laid_internal_strconv_uint64pow10)], narrowed := true }
def PairingCommutesUptoSaid : Prop := pairingCommutesUptoRow.holds Tryd.pinned (OpenSpec.upto pairingCommutesSpec)

/-- 'slagheaplaw08.PairingLeast', WHERE WHAT IT READS IS OF BULK AT MOST 1048576: true; the input reads as it did. -/
def pairingLeastUptoRow : OpenClaim := { program := "ytpclafbolppgcaadoor", sum := "01936d8291332a2108398e9690f6eb774f0a2bdc78b6fea2e8723174fda1d9ec", func := "slagheap/slagheaplaw08.PairingLeast", spec := "pairingLeast", inPlace := ["sync/atomic.AddInt64", "sync/atomic.LoadInt64", "internal/abi.NoEscape"], unfollowed := true, recurses := true, named := ["internal/strconv.uint64pow10", "math/bits.deBruijn32tab", "math/bits.deBruijn64tab"], apart := false, laid := [("math/bits.deBruijn32tab", laid_math_bits_deBruijn32tab), ("math/bits.deBruijn64tab", laid_math_bits_deBruijn64tab), ("internal/strconv.uint64pow10", laid_internal_strconv_uint64pow10)], narrowed := true }
def PairingLeastUptoSaid : Prop := pairingLeastUptoRow.holds Tryd.pinned (OpenSpec.upto pairingLeastSpec)

/-- 'slagheaplaw08.PairingStays', WHERE WHAT IT READS IS OF BULK AT MOST 1048576: true; the input reads as it did. -/
def pairingStaysUptoRow : OpenClaim := { program := "ytpclafbolppgcaadoor", sum := "01936d8291332a2108398e9690f6eb774f0a2bdc78b6fea2e8723174fda1d9ec", func := "slagheap/slagheaplaw08.PairingStays", spec := "pairingStays", inPlace := ["sync/atomic.AddInt64", "sync/atomic.LoadInt64", "internal/abi.NoEscape"], unfollowed := true, recurses := true, named := ["internal/strconv.uint64pow10", "math/bits.deBruijn32tab", "math/bits.deBruijn64tab"], apart := false, laid := [("math/bits.deBruijn32tab", laid_math_bits_deBruijn32tab), ("math/bits.deBruijn64tab", laid_math_bits_deBruijn64tab), ("internal/strconv.uint64pow10", laid_internal_strconv_uint64pow10)], narrowed := true }
def PairingStaysUptoSaid : Prop := pairingStaysUptoRow.holds Tryd.pinned (OpenSpec.upto pairingStaysSpec)

/-- 'slagheaplaw08.PairingDoubles', WHERE WHAT IT READS IS OF BULK AT MOST 1048576: true; the input reads as it did. -/
def pairingDoublesUptoRow : OpenClaim := { program := "ytpclafbolppgcaadoor", sum := "01936d8291332a2108398e9690f6eb774f0a2bdc78b6fea2e8723174fda1d9ec", func := "slagheap/slagheaplaw08.PairingDoubles", spec := "pairingDoubles", inPlace := ["sync/atomic.AddInt64", "sync/atomic.LoadInt64", "internal/abi.NoEscape"], unfollowed := true, recurses := true, named := ["internal/strconv.uint64pow10", "math/bits.deBruijn32tab", "math/bits.deBruijn64tab"], apart := false, laid := [("math/bits.deBruijn32tab", laid_math_bits_deBruijn32tab), ("math/bits.deBruijn64tab", laid_math_bits_deBruijn64tab), ("internal/strconv.uint64pow10", laid_internal_strconv_uint64pow10)], narrowed := true }
def PairingDoublesUptoSaid : Prop := pairingDoublesUptoRow.holds Tryd.pinned (OpenSpec.upto pairingDoublesSpec)

/-- 'slagheaplaw08.PairingEnds', WHERE WHAT IT READS IS OF BULK AT MOST 1048576: true; the input reads as it did. -/
def pairingEndsUptoRow : OpenClaim := { program := "ytpclafbolppgcaadoor", sum := "01936d8291332a2108398e9690f6eb774f0a2bdc78b6fea2e8723174fda1d9ec", func := "slagheap/slagheaplaw08.PairingEnds", spec := "pairingEnds", inPlace := ["sync/atomic.AddInt64", "sync/atomic.LoadInt64", "internal/abi.NoEscape"], unfollowed := true, recurses := true, named := ["internal/strconv.uint64pow10", "math/bits.deBruijn32tab", "math/bits.deBruijn64tab"], apart := false, laid := [("math/bits.deBruijn32tab", laid_math_bits_deBruijn32tab), ("math/bits.deBruijn64tab", laid_math_bits_deBruijn64tab), ("internal/strconv.uint64pow10", laid_internal_strconv_uint64pow10)], narrowed := true }
def PairingEndsUptoSaid : Prop := pairingEndsUptoRow.holds Tryd.pinned (OpenSpec.upto pairingEndsSpec)

/-- 'slagheaplaw08.PairingFolds', WHERE WHAT IT READS IS OF BULK AT MOST 1048576: true; the input reads as it did. -/
def pairingFoldsUptoRow : OpenClaim := { program := "ytpclafbolppgcaadoor", sum := "01936d8291332a2108398e9690f6eb774f0a2bdc78b6fea2e8723174fda1d9ec", func := "slagheap/slagheaplaw08.PairingFolds", spec := "pairingFolds", inPlace := ["sync/atomic.AddInt64", "sync/atomic.LoadInt64", "internal/abi.NoEscape"], unfollowed := true, recurses := true, named := ["internal/strconv.uint64pow10", "math/bits.deBruijn32tab", "math/bits.deBruijn64tab"], apart := false, laid := [("math/bits.deBruijn32tab", laid_math_bits_deBruijn32tab), ("math/bits.deBruijn64tab", laid_math_bits_deBruijn64tab), ("internal/strconv.uint64pow10", laid_internal_strconv_uint64pow10)], narrowed := true }
def PairingFoldsUptoSaid : Prop := pairingFoldsUptoRow.holds Tryd.pinned (OpenSpec.upto pairingFoldsSpec)

/-- 'slagheaplaw08.PairingAgain', WHERE WHAT IT READS IS OF BULK AT MOST 1048576: true; the input reads as it did. -/
def pairingAgainUptoRow : OpenClaim := { program := "ytpclafbolppgcaadoor", sum := "01936d8291332a2108398e9690f6eb774f0a2bdc78b6fea2e8723174fda1d9ec", func := "slagheap/slagheaplaw08.PairingAgain", spec := "pairingAgain", inPlace := ["sync/atomic.AddInt64", "sync/atomic.LoadInt64", "internal/abi.NoEscape"], unfollowed := true, recurses := true, named := ["internal/strconv.uint64pow10", "math/bits.deBruijn32tab", "math/bits.deBruijn64tab"], apart := false, laid := [("math/bits.deBruijn32tab", laid_math_bits_deBruijn32tab), ("math/bits.deBruijn64tab", laid_math_bits_deBruijn64tab), ("internal/strconv.uint64pow10", laid_internal_strconv_uint64pow10)], narrowed := true }
def PairingAgainUptoSaid : Prop := pairingAgainUptoRow.holds Tryd.pinned (OpenSpec.upto pairingAgainSpec)

end Rows
end Go.Proofs.YtpclafbolppgcaaDoor
