/-
  Arguments opened to what they hold: an element to its two numbers. No conditions.
-/
import Derived.Test.YtliehednnhilkaaDoorArgs0
namespace Go.Proofs.YtliehednnhilkaaDoor
open Go.ChangeShapes Go.WideShapes Go.ChangeAt Go.RowKit Go.Joins

theorem cellsElem : Tryd.prog.cellsOf 32 = 2 := by kernel_rfl
section
variable {H : Type} {enc : TypeId × Value → H} {w : World} {base : Nat} {spare : Nat → Bool} {held : Bool}
set_option maxRecDepth 100000 in
/-- An element by value. -/
theorem open_elem {r : Reach} {b0 : Nat} {v : Value} {d : DataW H} {p : List MemPlace} (hv : Value.okWide Tryd.prog w r b0 32 v) (h : DataW.Trod enc Tryd.prog w base spare held 32 v d p) :
    ∃ a b : Int, v = .agg #[.int .i64 a, .int .i64 b] ∧ (-9223372036854775808 ≤ a ∧ a ≤ 9223372036854775807) ∧ (-9223372036854775808 ≤ b ∧ b ≤ 9223372036854775807) := by
  have hs := Tryd.underlying32
  have h2 := open_agg2 (enc := enc) (w := w) (base := base) (spare := spare) (held := held) hs (by kernel_rfl) cellsElem hv h
  obtain ⟨v0, v1, y0, y1, n, rfl, -, -, h0, h1⟩ := h2
  obtain ⟨a, e0, -, w0⟩ := DataW.trod_int Tryd.underlying2 h0
  obtain ⟨b, e1, -, w1⟩ := DataW.trod_int Tryd.underlying2 h1
  injection e0 with e0
  injection e1 with e1
  subst e0
  subst e1
  exact ⟨a, b, rfl, in_of_wf w0, in_of_wf w1⟩
end

end Go.Proofs.YtliehednnhilkaaDoor
