/-
  From what layer 11's rows list of package-level variables to what the walks ask of memory; a world in which the listed variables hold what their initialisers lay. No conditions beyond what each theorem says.
-/
import Derived.Test.YtlmokendajgbdaaGreatDoorCards
import Derived.Test.YtlmokendajgbdaaGreatDoorTie
import Derived.Test.YtlmokendajgbdaaGreatDoorMc
import Derived.Test.YtlmokendajgbdaaGreatDoorMd
import Derived.WalkKit
import Derived.ProofKit
import Derived.OpenShut
import Derived.Deep.DeepHandedRow
import Derived.Lib.LaidTab
import Derived.Lib.SmallJoins
import Derived.LaidLaws
import Derived.Stop.LaidErr
namespace Go.Proofs.YtlmokendajgbdaaGreatDoor
open Go.ChangeShapes Go.WideShapes Go.ChangeAt Go.RowKit Go.Joins

theorem gPow : Tryz.prog.globalNamed "internal/strconv.uint64pow10" = some 0 := by kernel_rfl
theorem gPowType : (Tryz.prog.globals[0]?).map (·.type) = some 191 := by kernel_rfl
theorem cellsPow : Tryz.prog.cellsOf 191 = 20 := by kernel_rfl
theorem cellsU64 : Tryz.prog.cellsOf 174 = 1 := by kernel_rfl

/-- What the rows of this seat list. -/
def listed : List (String × DataW Unit) := Rows.bootSortsRow.laid

theorem env_of_laid {W : World} (h : laidMetH Tryz.prog listed W) : Env W := by
  have hL : laidMet Tryz.prog listed W := h
  exact ⟨Lib.tabIs_of_head gPow gPowType Tryz.underlying191 Tryz.underlying174 cellsU64 cellsPow hL.tail.tail⟩

/-- A list of numbers as cells. -/
def tabCells (k : IntKind) (zs : List Int) : Array Value := (zs.map fun z => Value.int k z).toArray
def tab32 : List Int := [0, 1, 28, 2, 29, 14, 24, 3, 30, 22, 20, 15, 25, 17, 4, 8, 31, 27, 13, 23, 21, 19, 16, 7, 26, 12, 18, 6, 11, 5, 10, 9]
def tab64 : List Int := [0, 1, 56, 2, 57, 49, 28, 3, 61, 58, 42, 50, 38, 29, 17, 4, 62, 47, 59, 36, 45, 43, 51, 22, 53, 39, 33, 30, 24, 18, 12, 5, 63, 55, 48, 27, 60, 41, 37, 16, 46, 35, 44, 21, 52, 32, 23, 11, 54, 26, 40, 15, 34, 20, 31, 10, 25, 14, 19, 9, 13, 8, 7, 6]
/-- The cells of one block written. -/
def put (cs : Array Value) : Obj → Obj
  | .cells _ t frozen => .cells cs t frozen
  | o => o
/-- A world for the witness: the settled one, and the listed variables as their initialisers lay them. -/
noncomputable def laidWorld (os : Os) : World :=
  let w0 := World.holding Tryz.prog os ⟨#[], #[], []⟩
  { w0 with heap := ((w0.heap.modify 0 (put (tabCells .u64 Lib.pow10Tab))).modify 2 (put (tabCells .u8 tab32))).modify 3 (put (tabCells .u8 tab64)) }

theorem laidWorld_met (os : Os) (args : Array Value) : laidMet Tryz.prog listed ((laidWorld os).forCall (fun _ _ => 0) ⟨#[], args, []⟩).memory :=
  laidMet_of_run' 70 (by kernel_rfl) (by kernel_rfl)

end Go.Proofs.YtlmokendajgbdaaGreatDoor
