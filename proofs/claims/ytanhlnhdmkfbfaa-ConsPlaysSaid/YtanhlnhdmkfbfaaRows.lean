/-
  No cell of these rows narrows 'for every input' (looked for: loops, veiled, ifaces, maps, wideKeys, modest, calm, conditions, laid).
  DERIVED. THE GIVEN ROWS OF THIS SEAT. 3 by the template 'for every input the law returns true; each argument reads behind the call as it read before'; 0 by the template 'total and deterministic' (their statements: YtanhlnhdmkfbfaaTotals.lean).
  GIVEN WITH THE SEED: the statements are not yours to turn. If you find one false, say at which input.
  Laid BY PROGRAM, IN A SANDBOX (cutbox-rows.mjs): the forced cells as the released guide's own fill.sh prints them over the translation e4c55cc215e3683c… (all of the seat's roots in one cut). By AI agents, Wed Nov 11 2026. No macro, syntax, notation, axiom, sorry.
-/
import Derived.Test.YtanhlnhdmkfbfaaChecked
import GoSem.Claim
import GoSem.ClaimJoined
import GoSem.ClaimMapViews
import Derived.JoinedTies
import Derived.KernelRfl
namespace Go.Proofs.Ytanhlnhdmkfbfaa
/- THE CELL 'sum', in the pinned program and in every row, IS THE sha256 OF THE DUMP (.gsa) THAT YtanhlnhdmkfbfaaProg.lean LOADS. Nothing in Lean hashes anything: it is a label: what it is worth is what the hold of that sum in a sandbox is worth. -/
noncomputable def Try.pinned : Pinned := { name := "ytanhlnhdmkfbfaa", sum := "e4c55cc215e3683c5715e80cdaf95dd3692b83978c4b0d23bdee23ba57308b09", checked := Try.checked }
namespace Rows
def none {H : Type} : Left H := { results := [], args := [] }

/-- 'slagheaplaw03.ConsPlays': WHATEVER THE INPUT: true; the input reads as it did. -/
def consPlaysSpec : ChangeSpec := { name := "consPlays", fn := fun _ => fun
  | [d1, d2] => { results := [.lit (.bool true)], args := [d1, d2] }
  | _ => none }
def consPlaysRow : OpenClaim := { program := "ytanhlnhdmkfbfaa", sum := "e4c55cc215e3683c5715e80cdaf95dd3692b83978c4b0d23bdee23ba57308b09", func := "slagheap/slagheaplaw03.ConsPlays", spec := "consPlays", unfollowed := true, recurses := true, apart := false }
def ConsPlaysSaid : Prop := consPlaysRow.holds Try.pinned (OpenSpec.ofChange consPlaysSpec)

/-- ITS FALSE NEIGHBOUR: 'it returns false'. Refute it at one input. -/
def consPlaysWrong : ChangeSpec := { name := "consPlays", fn := fun _ => fun
  | [d1, d2] => { results := [.lit (.bool false)], args := [d1, d2] }
  | _ => none }
def ConsPlaysWrongFalsely : Prop := consPlaysRow.holds Try.pinned (OpenSpec.ofChange consPlaysWrong)

/-- 'slagheaplaw03.ConsTurns': WHATEVER THE INPUT: true; the input reads as it did. -/
def consTurnsSpec : ChangeSpec := { name := "consTurns", fn := fun _ => fun
  | [d1, d2, d3] => { results := [.lit (.bool true)], args := [d1, d2, d3] }
  | _ => none }
def consTurnsRow : OpenClaim := { program := "ytanhlnhdmkfbfaa", sum := "e4c55cc215e3683c5715e80cdaf95dd3692b83978c4b0d23bdee23ba57308b09", func := "slagheap/slagheaplaw03.ConsTurns", spec := "consTurns", unfollowed := true, recurses := true, apart := false }
def ConsTurnsSaid : Prop := consTurnsRow.holds Try.pinned (OpenSpec.ofChange consTurnsSpec)

/-- ITS FALSE NEIGHBOUR: 'it returns false'. Refute it at one input. -/
def consTurnsWrong : ChangeSpec := { name := "consTurns", fn := fun _ => fun
  | [d1, d2, d3] => { results := [.lit (.bool false)], args := [d1, d2, d3] }
  | _ => none }
def ConsTurnsWrongFalsely : Prop := consTurnsRow.holds Try.pinned (OpenSpec.ofChange consTurnsWrong)

/-- 'slagheaplaw03.ConsDrops': WHATEVER THE INPUT: true; the input reads as it did. -/
def consDropsSpec : ChangeSpec := { name := "consDrops", fn := fun _ => fun
  | [d1, d2] => { results := [.lit (.bool true)], args := [d1, d2] }
  | _ => none }
def consDropsRow : OpenClaim := { program := "ytanhlnhdmkfbfaa", sum := "e4c55cc215e3683c5715e80cdaf95dd3692b83978c4b0d23bdee23ba57308b09", func := "slagheap/slagheaplaw03.ConsDrops", spec := "consDrops", unfollowed := true, recurses := true, apart := false }
def ConsDropsSaid : Prop := consDropsRow.holds Try.pinned (OpenSpec.ofChange consDropsSpec)

/-- ITS FALSE NEIGHBOUR: 'it returns false'. Refute it at one input. -/
def consDropsWrong : ChangeSpec := { name := "consDrops", fn := fun _ => fun
  | [d1, d2] => { results := [.lit (.bool false)], args := [d1, d2] }
  | _ => none }
def ConsDropsWrongFalsely : Prop := consDropsRow.holds Try.pinned (OpenSpec.ofChange consDropsWrong)

/- THE SECOND FORM. 'bulk': how many values and letters a reading holds, each counted each time it is reached (what is shared counts as often as it is met; a slice's spare places count too). A statement '..UptoSaid' is the law's where the arguments, and the package variables that the reading takes, are together of bulk at most 1048576: NARROWER than '..Said'. Prove '..Said' where nothing that the law and all that it calls make is longer than what came in: it says more and counts as full. Else prove '..UptoSaid'. A law counts once. -/
mutual
def uptoBulk {H : Type} : DataW H → Nat
  | .lit (.string bytes) => bytes.length + 1
  | .lit _ => 1
  | .nil => 1
  | .ptr d => uptoBulk d + 1
  | .slice elems spare => uptoBulkAll elems + uptoBulkAll spare + 1
  | .agg parts => uptoBulkAll parts + 1
  | .iface _ d => uptoBulk d + 1
  | .map entries => uptoBulkEntries entries + 1
  | .held _ => 1
def uptoBulkAll {H : Type} : List (DataW H) → Nat
  | [] => 0
  | d :: r => uptoBulk d + uptoBulkAll r
def uptoBulkEntries {H : Type} : List (Lit × DataW H) → Nat
  | [] => 0
  | x :: r => uptoBulkEntry x + uptoBulkEntries r
def uptoBulkEntry {H : Type} : Lit × DataW H → Nat
  | (.string bytes, d) => bytes.length + uptoBulk d + 1
  | (_, d) => uptoBulk d + 1
 end
def uptoSmall : (H : Type) → List (DataW H) → Bool := fun _ ds => decide (uptoBulkAll ds ≤ 1048576)
def OpenSpec.upto (s : _root_.Go.ChangeSpec) : _root_.Go.OpenSpec := { _root_.Go.OpenSpec.ofChange s with cond := some uptoSmall }

/-- 'slagheaplaw03.ConsPlays', WHERE WHAT IT READS IS OF BULK AT MOST 1048576: true; the input reads as it did. -/
def consPlaysUptoRow : OpenClaim := { program := "ytanhlnhdmkfbfaa", sum := "e4c55cc215e3683c5715e80cdaf95dd3692b83978c4b0d23bdee23ba57308b09", func := "slagheap/slagheaplaw03.ConsPlays", spec := "consPlays", unfollowed := true, recurses := true, apart := false, narrowed := true }
def ConsPlaysUptoSaid : Prop := consPlaysUptoRow.holds Try.pinned (OpenSpec.upto consPlaysSpec)

/-- 'slagheaplaw03.ConsTurns', WHERE WHAT IT READS IS OF BULK AT MOST 1048576: true; the input reads as it did. -/
def consTurnsUptoRow : OpenClaim := { program := "ytanhlnhdmkfbfaa", sum := "e4c55cc215e3683c5715e80cdaf95dd3692b83978c4b0d23bdee23ba57308b09", func := "slagheap/slagheaplaw03.ConsTurns", spec := "consTurns", unfollowed := true, recurses := true, apart := false, narrowed := true }
def ConsTurnsUptoSaid : Prop := consTurnsUptoRow.holds Try.pinned (OpenSpec.upto consTurnsSpec)

/-- 'slagheaplaw03.ConsDrops', WHERE WHAT IT READS IS OF BULK AT MOST 1048576: true; the input reads as it did. -/
def consDropsUptoRow : OpenClaim := { program := "ytanhlnhdmkfbfaa", sum := "e4c55cc215e3683c5715e80cdaf95dd3692b83978c4b0d23bdee23ba57308b09", func := "slagheap/slagheaplaw03.ConsDrops", spec := "consDrops", unfollowed := true, recurses := true, apart := false, narrowed := true }
def ConsDropsUptoSaid : Prop := consDropsUptoRow.holds Try.pinned (OpenSpec.upto consDropsSpec)

end Rows
end Go.Proofs.Ytanhlnhdmkfbfaa
