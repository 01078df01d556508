/-
  Contracts of elem.Less and of the reference's Less: for any numbers, in any world: what they return; nothing that was there has changed. No conditions.
-/
import Derived.Test.YtliehednnhilkaaDoorProg
import Derived.Test.YtliehednnhilkaaDoorPlain
import Derived.Test.YtliehednnhilkaaDoorMem
import Derived.WalkKit
import Derived.WalkLawsBesides
import Derived.Outline
import Derived.Deep.QuietTactic
import Derived.BigQuiet
import Derived.Lib.Hide
namespace Go.Proofs.YtliehednnhilkaaDoor
open Go.Sort Go.RowKit

set_option maxHeartbeats 400000 in
theorem less_any (p q r s : Int) (w : World) : Calls Tryd.prog 49 #[.agg #[.int .i64 p, .int .i64 q], .agg #[.int .i64 r, .int .i64 s]] w fun e w' =>
    e = .returned (.bool (ltI p q r s)) ∧ ∃ k os, w' = grow (w.drewN k) os := by
  by_cases h : p = r
  · subst h
    have hv : ltI p q p s = decide (q < s) := by simp [ltI]
    rw [hv]; clear hv
    go_enter Tryd.func49, Tryd.ntmps49
    go_wp2
    go_ret
    exact ⟨rfl, 0, _, by rw [alloc_eq_grow, alloc_eq_grow, grow_grow]; rfl⟩
  · have hv : ltI p q r s = decide (p < r) := by simp [ltI, h]
    rw [hv]; clear hv
    have h1 : (p != r) = true := by simpa using h
    clear h
    go_enter Tryd.func49, Tryd.ntmps49
    go_wp2
    go_ret
    exact ⟨rfl, 0, _, by rw [alloc_eq_grow, alloc_eq_grow, grow_grow]; rfl⟩

set_option maxHeartbeats 400000 in
theorem refLess_any (p q r s : Int) (w : World) : Calls Tryd.prog 37 #[.agg #[.int .i64 p, .int .i64 q], .agg #[.int .i64 r, .int .i64 s]] w fun e w' =>
    e = .returned (.bool (ltI p q r s)) ∧ ∃ k os, w' = grow (w.drewN k) os := by
  by_cases h : p = r
  · subst h
    have hv : ltI p q p s = decide (q < s) := by simp [ltI]
    rw [hv]; clear hv
    have h1 : decide (p < p) = false := by simp
    go_enter Tryd.func37, Tryd.ntmps37
    go_wp2
    go_ret
    exact ⟨rfl, 0, _, by rw [alloc_eq_grow, alloc_eq_grow, grow_grow]; rfl⟩
  · have hv : ltI p q r s = decide (p < r) := by simp [ltI, h]
    rw [hv]; clear hv
    have h1 : (p == r) = false := by simpa using h
    clear h
    by_cases h2 : p < r
    · have h3 : decide (p < r) = true := by simpa using h2
      rw [h3]
      go_enter Tryd.func37, Tryd.ntmps37
      go_wp2
      go_ret
      exact ⟨rfl, 0, _, by rw [alloc_eq_grow, alloc_eq_grow, grow_grow]; rfl⟩
    · have h3 : decide (p < r) = false := by simpa using h2
      rw [h3]
      go_enter Tryd.func37, Tryd.ntmps37
      go_wp2
      go_ret
      exact ⟨rfl, 0, _, by rw [alloc_eq_grow, alloc_eq_grow, grow_grow]; rfl⟩

/-- The same with what was there unchanged. -/
theorem less_below (p q r s : Int) (w : World) : Calls Tryd.prog 49 #[.agg #[.int .i64 p, .int .i64 q], .agg #[.int .i64 r, .int .i64 s]] w fun e w' =>
    e = .returned (.bool (ltI p q r s)) ∧ Below w.heap.size w w' := (less_any p q r s w).mono fun _ _ ⟨a, k, os, b⟩ => ⟨a, by rw [b]; exact below_grow w k os⟩
theorem refLess_below (p q r s : Int) (w : World) : Calls Tryd.prog 37 #[.agg #[.int .i64 p, .int .i64 q], .agg #[.int .i64 r, .int .i64 s]] w fun e w' =>
    e = .returned (.bool (ltI p q r s)) ∧ Below w.heap.size w w' := (refLess_any p q r s w).mono fun _ _ ⟨a, k, os, b⟩ => ⟨a, by rw [b]; exact below_grow w k os⟩

end Go.Proofs.YtliehednnhilkaaDoor
