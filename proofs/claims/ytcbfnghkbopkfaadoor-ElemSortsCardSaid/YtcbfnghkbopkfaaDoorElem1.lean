/-
  Contracts of elem.Less, elem.Compare and of the reference's Less and Compare: for any numbers, in any world: what they return; nothing that was there has changed. No conditions.
-/
import Derived.Test.YtcbfnghkbopkfaaDoorProg
import Derived.Test.YtcbfnghkbopkfaaDoorPlain
import Derived.Test.YtcbfnghkbopkfaaDoorEnv
import Derived.WalkKit
import Derived.WalkLawsBesides
import Derived.Outline
import Derived.Deep.QuietTactic
import Derived.BigQuiet
import Derived.Lib.Hide
namespace Go.Proofs.YtcbfnghkbopkfaaDoor
open Go.Sort Go.RowKit

set_option maxHeartbeats 400000 in
theorem less_any (p q r s : Int) (w : World) : Calls Tryd.prog 14 #[.agg #[.int .i64 p, .int .i64 q], .agg #[.int .i64 r, .int .i64 s]] w fun e w' =>
    e = .returned (.bool (ltI p q r s)) ∧ ∃ k os, w' = grow (w.drewN k) os := by
  by_cases h : p = r
  · subst h
    have hv : ltI p q p s = decide (q < s) := by simp [ltI]
    rw [hv]; clear hv
    go_enter Tryd.func14, Tryd.ntmps14
    go_wp2
    go_ret
    exact ⟨rfl, 0, _, by rw [alloc_eq_grow, alloc_eq_grow, grow_grow]; rfl⟩
  · have hv : ltI p q r s = decide (p < r) := by simp [ltI, h]
    rw [hv]; clear hv
    have h1 : (p != r) = true := by simpa using h
    clear h
    go_enter Tryd.func14, Tryd.ntmps14
    go_wp2
    go_ret
    exact ⟨rfl, 0, _, by rw [alloc_eq_grow, alloc_eq_grow, grow_grow]; rfl⟩

/-- Two blocks laid, then what a callee laid. -/
theorem grow2 (w : World) (o1 o2 : Obj) (k : Nat) (os : Array Obj) : ∃ k' os', grow (((w.alloc o1).alloc o2).drewN k) os = grow (w.drewN k') os' := by
  refine ⟨k, #[o1] ++ (#[o2] ++ os), ?_⟩
  rw [alloc_eq_grow, alloc_eq_grow]
  show grow (grow (grow (w.drewN k) #[o1]) #[o2]) os = _
  rw [grow_grow, grow_grow]

set_option maxHeartbeats 400000 in
theorem compare_ne (p q r s : Int) (w : World) (h : (p = r → ¬ q = s)) : Calls Tryd.prog 16 #[.agg #[.int .i64 p, .int .i64 q], .agg #[.int .i64 r, .int .i64 s]] w fun e w' =>
    e = .returned (.int .i64 (if ltI p q r s then -1 else 1)) ∧ ∃ k os, w' = grow (w.drewN k) os := by
  cases hb : ltI p q r s
  all_goals
    have HB := Lib.hid hb
    clear hb
    by_cases h1 : p = r
    · subst h1
      have h2 : ¬ q = s := h rfl
      clear h
      go_enter Tryd.func16, Tryd.ntmps16
      go_wp2_with (go_at_call 14; ((with_reducible refine (less_any _ _ _ _ _).mono ?_); rintro e w' ⟨rfl, k, os, rfl⟩; rw [HB.out]))
      go_ret
      exact ⟨rfl, grow2 _ _ _ _ _⟩
    · clear h
      go_enter Tryd.func16, Tryd.ntmps16
      go_wp2_with (go_at_call 14; ((with_reducible refine (less_any _ _ _ _ _).mono ?_); rintro e w' ⟨rfl, k, os, rfl⟩; rw [HB.out]))
      go_ret
      exact ⟨rfl, grow2 _ _ _ _ _⟩

set_option maxHeartbeats 400000 in
theorem compare_any (p q r s : Int) (w : World) : Calls Tryd.prog 16 #[.agg #[.int .i64 p, .int .i64 q], .agg #[.int .i64 r, .int .i64 s]] w fun e w' =>
    e = .returned (.int .i64 (cmpI p q r s)) ∧ ∃ k os, w' = grow (w.drewN k) os := by
  by_cases h : p = r ∧ q = s
  · obtain ⟨rfl, rfl⟩ := h
    have hv : cmpI p q p q = 0 := by simp [cmpI]
    rw [hv]; clear hv
    go_enter Tryd.func16, Tryd.ntmps16
    go_wp2_with fail
    go_ret
    exact ⟨rfl, 0, _, by rw [alloc_eq_grow, alloc_eq_grow, grow_grow]; rfl⟩
  · have hv : cmpI p q r s = if ltI p q r s then -1 else 1 := by simp [cmpI, h]
    rw [hv]
    exact compare_ne p q r s w (fun h1 h2 => h ⟨h1, h2⟩)

set_option maxHeartbeats 400000 in
theorem refLess_any (p q r s : Int) (w : World) : Calls Tryd.prog 15 #[.agg #[.int .i64 p, .int .i64 q], .agg #[.int .i64 r, .int .i64 s]] w fun e w' =>
    e = .returned (.bool (ltI p q r s)) ∧ ∃ k os, w' = grow (w.drewN k) os := by
  by_cases h : p = r
  · subst h
    have hv : ltI p q p s = decide (q < s) := by simp [ltI]
    rw [hv]; clear hv
    have h1 : decide (p < p) = false := by simp
    go_enter Tryd.func15, Tryd.ntmps15
    go_wp2
    go_ret
    exact ⟨rfl, 0, _, by rw [alloc_eq_grow, alloc_eq_grow, grow_grow]; rfl⟩
  · have hv : ltI p q r s = decide (p < r) := by simp [ltI, h]
    rw [hv]; clear hv
    have h1 : (p == r) = false := by simpa using h
    clear h
    by_cases h2 : p < r
    · have h3 : decide (p < r) = true := by simpa using h2
      rw [h3]
      go_enter Tryd.func15, Tryd.ntmps15
      go_wp2
      go_ret
      exact ⟨rfl, 0, _, by rw [alloc_eq_grow, alloc_eq_grow, grow_grow]; rfl⟩
    · have h3 : decide (p < r) = false := by simpa using h2
      rw [h3]
      go_enter Tryd.func15, Tryd.ntmps15
      go_wp2
      go_ret
      exact ⟨rfl, 0, _, by rw [alloc_eq_grow, alloc_eq_grow, grow_grow]; rfl⟩

/-- The same with what was there unchanged. -/
theorem less_below (p q r s : Int) (w : World) : Calls Tryd.prog 14 #[.agg #[.int .i64 p, .int .i64 q], .agg #[.int .i64 r, .int .i64 s]] w fun e w' =>
    e = .returned (.bool (ltI p q r s)) ∧ Below w.heap.size w w' := (less_any p q r s w).mono fun _ _ ⟨a, k, os, b⟩ => ⟨a, by rw [b]; exact below_grow w k os⟩
theorem compare_below (p q r s : Int) (w : World) : Calls Tryd.prog 16 #[.agg #[.int .i64 p, .int .i64 q], .agg #[.int .i64 r, .int .i64 s]] w fun e w' =>
    e = .returned (.int .i64 (cmpI p q r s)) ∧ Below w.heap.size w w' := (compare_any p q r s w).mono fun _ _ ⟨a, k, os, b⟩ => ⟨a, by rw [b]; exact below_grow w k os⟩
theorem refLess_below (p q r s : Int) (w : World) : Calls Tryd.prog 15 #[.agg #[.int .i64 p, .int .i64 q], .agg #[.int .i64 r, .int .i64 s]] w fun e w' =>
    e = .returned (.bool (ltI p q r s)) ∧ Below w.heap.size w w' := (refLess_any p q r s w).mono fun _ _ ⟨a, k, os, b⟩ => ⟨a, by rw [b]; exact below_grow w k os⟩

end Go.Proofs.YtcbfnghkbopkfaaDoor
