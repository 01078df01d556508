/-
  Contract of elem.Compare: for any numbers, in any world: what it returns; nothing that was there has changed. No conditions.
-/
import Derived.Test.YtimffepggbaaaaaLess
namespace Go.Proofs.Ytimffepggbaaaaa
open Go.Sort Go.RowKit

/-- Two blocks laid, then what a callee laid. -/
theorem grow2 (w : World) (o1 o2 : Obj) (k : Nat) (os : Array Obj) : ∃ k' os', grow (((w.alloc o1).alloc o2).drewN k) os = grow (w.drewN k') os' := by
  refine ⟨k, #[o1] ++ (#[o2] ++ os), ?_⟩
  rw [alloc_eq_grow, alloc_eq_grow]
  show grow (grow (grow (w.drewN k) #[o1]) #[o2]) os = _
  rw [grow_grow, grow_grow]

set_option maxHeartbeats 400000 in
theorem compare_ne (p q r s : Int) (w : World) (h : (p = r → ¬ q = s)) : Calls Try.prog 31 #[.agg #[.int .i64 p, .int .i64 q], .agg #[.int .i64 r, .int .i64 s]] w fun e w' =>
    e = .returned (.int .i64 (if ltI p q r s then -1 else 1)) ∧ ∃ k os, w' = grow (w.drewN k) os := by
  cases hb : ltI p q r s
  all_goals
    have HB := Lib.hid hb
    clear hb
    by_cases h1 : p = r
    · subst h1
      have h2 : ¬ q = s := h rfl
      clear h
      go_enter Try.func31, Try.ntmps31
      go_wp2_with (go_at_call 39; ((with_reducible refine (less_any _ _ _ _ _).mono ?_); rintro e w' ⟨rfl, k, os, rfl⟩; rw [HB.out]))
      go_ret
      exact ⟨rfl, grow2 _ _ _ _ _⟩
    · clear h
      go_enter Try.func31, Try.ntmps31
      go_wp2_with (go_at_call 39; ((with_reducible refine (less_any _ _ _ _ _).mono ?_); rintro e w' ⟨rfl, k, os, rfl⟩; rw [HB.out]))
      go_ret
      exact ⟨rfl, grow2 _ _ _ _ _⟩

set_option maxHeartbeats 400000 in
theorem compare_any (p q r s : Int) (w : World) : Calls Try.prog 31 #[.agg #[.int .i64 p, .int .i64 q], .agg #[.int .i64 r, .int .i64 s]] w fun e w' =>
    e = .returned (.int .i64 (cmpI p q r s)) ∧ ∃ k os, w' = grow (w.drewN k) os := by
  by_cases h : p = r ∧ q = s
  · obtain ⟨rfl, rfl⟩ := h
    have hv : cmpI p q p q = 0 := by simp [cmpI]
    rw [hv]; clear hv
    go_enter Try.func31, Try.ntmps31
    go_wp2_with fail
    go_ret
    exact ⟨rfl, 0, _, by rw [alloc_eq_grow, alloc_eq_grow, grow_grow]; rfl⟩
  · have hv : cmpI p q r s = if ltI p q r s then -1 else 1 := by simp [cmpI, h]
    rw [hv]
    exact compare_ne p q r s w (fun h1 h2 => h ⟨h1, h2⟩)

theorem compare_below (p q r s : Int) (w : World) : Calls Try.prog 31 #[.agg #[.int .i64 p, .int .i64 q], .agg #[.int .i64 r, .int .i64 s]] w fun e w' =>
    e = .returned (.int .i64 (cmpI p q r s)) ∧ Below w.heap.size w w' := (compare_any p q r s w).mono fun _ _ ⟨a, k, os, b⟩ => ⟨a, by rw [b]; exact below_grow w k os⟩

end Go.Proofs.Ytimffepggbaaaaa
