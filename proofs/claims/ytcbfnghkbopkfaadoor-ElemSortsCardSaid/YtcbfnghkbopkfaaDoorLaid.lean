/-
  From what a row lists of package-level variables to what the walks ask of memory; a world in which the listed variables hold what their initialisers lay; an element argument opened to its two numbers. No conditions beyond what each theorem says.
-/
import Derived.Test.YtcbfnghkbopkfaaDoorCards
import Derived.Test.YtcbfnghkbopkfaaDoorTie
import Derived.Test.YtcbfnghkbopkfaaDoorEnv
import Derived.WalkKit
import Derived.ProofKit
import Derived.OpenShut
import Derived.Deep.DeepHandedRow
import Derived.Lib.LaidTab
import Derived.Lib.SmallJoins
import Derived.Stop.LaidErr
import Derived.LaidLaws
namespace Go.Proofs.YtcbfnghkbopkfaaDoor
open Go.ChangeShapes Go.WideShapes Go.ChangeAt Go.RowKit Go.Joins

theorem own : ownKnob Tryd.prog.godebug = none := by kernel_rfl
theorem laidOut : laidOutB Tryd.prog = true := by kernel_rfl
theorem gPow : Tryd.prog.globalNamed "internal/strconv.uint64pow10" = some 1 := by kernel_rfl
theorem gPowType : (Tryd.prog.globals[1]?).map (·.type) = some 91 := by kernel_rfl
theorem gSyn : Tryd.prog.globalNamed "strconv.ErrSyntax" = some 2 := by kernel_rfl
theorem gSynType : (Tryd.prog.globals[2]?).map (·.type) = some 54 := by kernel_rfl
theorem gRng : Tryd.prog.globalNamed "strconv.ErrRange" = some 3 := by kernel_rfl
theorem gRngType : (Tryd.prog.globals[3]?).map (·.type) = some 54 := by kernel_rfl
theorem cellsPow : Tryd.prog.cellsOf 91 = 20 := by kernel_rfl
theorem cellsU64 : Tryd.prog.cellsOf 68 = 1 := by kernel_rfl
theorem cellsStr : Tryd.prog.cellsOf 9 = 1 := by kernel_rfl
theorem cellsErrStr : Tryd.prog.cellsOf 108 = 1 := by kernel_rfl
theorem cellsElem : Tryd.prog.cellsOf 23 = 2 := by kernel_rfl
theorem starName : "*" ++ "errors.errorString" = "*errors.errorString" := by decide
theorem rowErr (u : TypeId) (h : Tryd.prog.typeName? 3 u = some "*errors.errorString") : u = 106 :=
  typeName_ptr_named (nm := "errors.errorString") (by rw [starName]; kernel_rfl) (by kernel_rfl) (by decide) u (by rw [starName]; exact h)

/-- What the rows of this seat list. -/
def listed : List (String × DataW Unit) := Rows.elemTotalRow.laid

theorem env_of_laid {W : World} (h : laidMetH Tryd.prog listed W) (hsh : W.ShapedOpen Tryd.prog) : Env W := by
  have hL : laidMet Tryd.prog listed W := h
  refine ⟨?_, ?_, ?_, Tryd.laysM145.s1_3 W hsh⟩
  · exact Lib.tabIs_of_head gPow gPowType Tryd.underlying91 Tryd.underlying68 cellsU64 cellsPow hL.tail.tail
  · obtain ⟨a, s, hv, -, -, -⟩ := laid_sentinel hL.tail.tail.tail.tail gSyn gSynType Tryd.underlying54 rowErr Tryd.underlying106 Tryd.underlying108 rfl rfl Tryd.underlying9 cellsErrStr cellsStr
    exact ⟨_, _, hv⟩
  · obtain ⟨a, s, hv, -, -, -⟩ := laid_sentinel hL.tail.tail.tail gRng gRngType Tryd.underlying54 rowErr Tryd.underlying106 Tryd.underlying108 rfl rfl Tryd.underlying9 cellsErrStr cellsStr
    exact ⟨_, _, hv⟩

/-- A list of numbers as cells. -/
def tabCells (k : IntKind) (zs : List Int) : Array Value := (zs.map fun z => Value.int k z).toArray
def tab32 : List Int := [0, 1, 28, 2, 29, 14, 24, 3, 30, 22, 20, 15, 25, 17, 4, 8, 31, 27, 13, 23, 21, 19, 16, 7, 26, 12, 18, 6, 11, 5, 10, 9]
def tab64 : List Int := [0, 1, 56, 2, 57, 49, 28, 3, 61, 58, 42, 50, 38, 29, 17, 4, 62, 47, 59, 36, 45, 43, 51, 22, 53, 39, 33, 30, 24, 18, 12, 5, 63, 55, 48, 27, 60, 41, 37, 16, 46, 35, 44, 21, 52, 32, 23, 11, 54, 26, 40, 15, 34, 20, 31, 10, 25, 14, 19, 9, 13, 8, 7, 6]
/-- So many blocks has the settled world. -/
noncomputable def low : Nat := (World.holding Tryd.prog default ⟨#[], #[], []⟩).heap.size
/-- The cells of one block written. -/
def put (cs : Array Value) : Obj → Obj
  | .cells _ t frozen => .cells cs t frozen
  | o => o
/-- A world for the witness: the settled one, two errors more, and the listed variables as their initialisers lay them. -/
noncomputable def laidWorld (os : Os) : World :=
  let w0 := World.holding Tryd.prog os ⟨#[.cells #[.string ⟨#[105, 110, 118, 97, 108, 105, 100, 32, 115, 121, 110, 116, 97, 120]⟩] 108, .cells #[.string ⟨#[118, 97, 108, 117, 101, 32, 111, 117, 116, 32, 111, 102, 32, 114, 97, 110, 103, 101]⟩] 108], #[], []⟩
  { w0 with heap := ((((w0.heap.modify 1 (put (tabCells .u64 Lib.pow10Tab))).modify 2 (put #[.iface 106 (.pointer (some ⟨low, 0, none⟩))])).modify 3 (put #[.iface 106 (.pointer (some ⟨low + 1, 0, none⟩))])).modify 4 (put (tabCells .u8 tab32))).modify 5 (put (tabCells .u8 tab64)) }

theorem laidWorld_met (os : Os) (args : Array Value) : laidMet Tryd.prog listed ((laidWorld os).forCall (fun _ _ => 0) ⟨#[], args, []⟩).memory :=
  laidMet_of_run' 70 (by kernel_rfl) (by kernel_rfl)

theorem in_of_wf {n : Int} (h : (Lit.int .i64 n).wf = true) : -9223372036854775808 ≤ n ∧ n ≤ 9223372036854775807 := by
  have e1 : IntKind.i64.min = -9223372036854775808 := rfl
  have e2 : IntKind.i64.max = 9223372036854775807 := rfl
  simp [Lit.wf, e1, e2] at h
  omega
section
variable {H : Type} {enc : TypeId × Value → H} {w : World} {base : Nat} {spare : Nat → Bool} {held : Bool}
set_option maxRecDepth 100000 in
/-- An element by value. -/
theorem open_elem {r : Reach} {b0 : Nat} {v : Value} {d : DataW H} {p : List MemPlace} (hv : Value.okWide Tryd.prog w r b0 23 v) (h : DataW.Trod enc Tryd.prog w base spare held 23 v d p) :
    ∃ a b : Int, v = .agg #[.int .i64 a, .int .i64 b] ∧ (-9223372036854775808 ≤ a ∧ a ≤ 9223372036854775807) ∧ (-9223372036854775808 ≤ b ∧ b ≤ 9223372036854775807) := by
  have hs := Tryd.underlying23
  have h2 := open_agg2 (enc := enc) (w := w) (base := base) (spare := spare) (held := held) hs (by kernel_rfl) cellsElem hv h
  obtain ⟨v0, v1, y0, y1, n, rfl, -, -, h0, h1⟩ := h2
  obtain ⟨a, e0, -, w0⟩ := DataW.trod_int Tryd.underlying2 h0
  obtain ⟨b, e1, -, w1⟩ := DataW.trod_int Tryd.underlying2 h1
  injection e0 with e0
  injection e1 with e1
  subst e0
  subst e1
  exact ⟨a, b, rfl, in_of_wf w0, in_of_wf w1⟩
end

end Go.Proofs.YtcbfnghkbopkfaaDoor
