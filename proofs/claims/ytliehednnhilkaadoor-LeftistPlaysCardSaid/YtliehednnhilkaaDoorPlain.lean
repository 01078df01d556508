/-
  Plain facts, of no program: the order of pairs of numbers (by the first, of one first by the second): that it is total and handed on. No conditions.
-/
import Derived.Sort.Grow
import Derived.Below
namespace Go.Proofs.YtliehednnhilkaaDoor
open Go.Sort Go.RowKit

/-- Does the pair (p, q) stand ahead of (r, s)? -/
def ltI (p q r s : Int) : Bool := if p = r then decide (q < s) else decide (p < r)
/-- How two pairs stand: -1, 0, 1. -/
def cmpI (p q r s : Int) : Int := if p = r ∧ q = s then 0 else if ltI p q r s then -1 else 1

theorem ltI_iff (p q r s : Int) : ltI p q r s = true ↔ (p < r ∨ (p = r ∧ q < s)) := by
  unfold ltI; split <;> simp <;> omega
theorem ltI_not (p q r s : Int) : ltI p q r s = false ↔ (r < p ∨ (p = r ∧ s ≤ q)) := by
  unfold ltI; split <;> simp <;> omega

end Go.Proofs.YtliehednnhilkaaDoor
