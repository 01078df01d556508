/-
  What lies below the first new block stays where one row of the call's own has grown: of no program, no conditions beyond what it says.
-/
import Derived.Below
import Derived.Laws.OwnMore
import Derived.WalkKit
namespace Go.Proofs.YtfjjfljkdflpcaaDoor
open Go.RowKit

/-- What lies below the first new block stays. -/
theorem below_grown {B : Nat} {w0 w w' : World} {row : Option Nat} (hb : Below B w0 w) (hg : w.grownBy w' row) (hB : B ≤ w.heap.size) (hr : ∀ g, row = some g → B ≤ g) : Below B w0 w' :=
  hb.trans ⟨hg.os, hg.tape, hg.output, hg.size, fun k hk => hg.block k (by omega) (fun e => by have := hr k e.symm; omega)⟩

end Go.Proofs.YtfjjfljkdflpcaaDoor
