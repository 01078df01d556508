/-
  From what layer 18's rows list of package-level variables to what the walks ask of memory; a world in which the listed variable holds what its initialiser lays. No conditions beyond what each theorem says.
-/
import Derived.Test.YtfjjfljkdflpcaaDoorCards
import Derived.Test.YtfjjfljkdflpcaaDoorTie
import Derived.Test.YtfjjfljkdflpcaaDoorOp2
import Derived.Test.YtfjjfljkdflpcaaDoorArgs0
import Derived.WalkKit
import Derived.ProofKit
import Derived.OpenShut
import Derived.Deep.DeepHandedRow
import Derived.Lib.LaidTab
import Derived.Lib.SmallJoins
import Derived.LaidLaws
import Derived.Stop.LaidErr
namespace Go.Proofs.YtfjjfljkdflpcaaDoor
open Go.ChangeShapes Go.WideShapes Go.ChangeAt Go.RowKit Go.Joins

theorem gToldType : (Tryd.prog.globals[0]?).map (·.type) = some 52 := by kernel_rfl
theorem cellsTold : Tryd.prog.cellsOf 52 = 23 := by kernel_rfl
theorem cellsInt : Tryd.prog.cellsOf 3 = 1 := by kernel_rfl

/-- What the rows of this seat list. -/
def listed : List (String × DataW Unit) := Rows.opcodeTellsRow.laid

theorem env_of_laid {W : World} (h : laidMetH Tryd.prog listed W) : Env W := by
  have hL : laidMet Tryd.prog listed W := h
  exact ⟨Lib.tabIs_of_head gTold gToldType Tryd.underlying52 Tryd.underlying3 cellsInt cellsTold hL⟩

/-- A list of numbers as cells. -/
def tabCells (k : IntKind) (zs : List Int) : Array Value := (zs.map fun z => Value.int k z).toArray
/-- The cells of one block written. -/
def put (cs : Array Value) : Obj → Obj
  | .cells _ t frozen => .cells cs t frozen
  | o => o
/-- A world for the witness: the settled one, and the listed variable as its initialiser lays it. -/
noncomputable def laidWorld (os : Os) : World :=
  let w0 := World.holding Tryd.prog os ⟨#[], #[], []⟩
  { w0 with heap := w0.heap.modify 0 (put (tabCells .i64 toldL)) }

theorem laidWorld_met (os : Os) (args : Array Value) : laidMet Tryd.prog listed ((laidWorld os).forCall (fun _ _ => 0) ⟨#[], args, []⟩).memory :=
  laidMet_of_run' 70 (by kernel_rfl) (by kernel_rfl)

end Go.Proofs.YtfjjfljkdflpcaaDoor
