/-
  Contracts of the reference's Args, and of what is wrong with an operation, in the program and in the reference: for every operation. No conditions but that the program's table holds what its text lays.
-/
import Derived.Test.YtfjjfljkdflpcaaDoorOp2
namespace Go.Proofs.YtfjjfljkdflpcaaDoor
open Go.Sort Go.RowKit

set_option maxRecDepth 100000 in
set_option maxHeartbeats 4000000 in
theorem rargs_no (c : Int) (h : c < 1 ∨ 22 < c) (w : World) :
    Calls Tryd.prog 10 #[.int .i64 c] w fun e w' => e = .returned (.int .i64 (-1)) ∧ w' = w := by
  have e10 : (c == 10) = false := by rw [beq_eq_false_iff_ne]; omega
  have e1 : (c == 1) = false := by rw [beq_eq_false_iff_ne]; omega
  have e4 : (c == 4) = false := by rw [beq_eq_false_iff_ne]; omega
  have e5 : (c == 5) = false := by rw [beq_eq_false_iff_ne]; omega
  have e6 : (c == 6) = false := by rw [beq_eq_false_iff_ne]; omega
  have e7 : (c == 7) = false := by rw [beq_eq_false_iff_ne]; omega
  have e14 : (c == 14) = false := by rw [beq_eq_false_iff_ne]; omega
  have e15 : (c == 15) = false := by rw [beq_eq_false_iff_ne]; omega
  have e19 : (c == 19) = false := by rw [beq_eq_false_iff_ne]; omega
  have e21 : (c == 21) = false := by rw [beq_eq_false_iff_ne]; omega
  have e3 : (c == 3) = false := by rw [beq_eq_false_iff_ne]; omega
  have e8 : (c == 8) = false := by rw [beq_eq_false_iff_ne]; omega
  have e9 : (c == 9) = false := by rw [beq_eq_false_iff_ne]; omega
  have e12 : (c == 12) = false := by rw [beq_eq_false_iff_ne]; omega
  have e16 : (c == 16) = false := by rw [beq_eq_false_iff_ne]; omega
  have e17 : (c == 17) = false := by rw [beq_eq_false_iff_ne]; omega
  have e18 : (c == 18) = false := by rw [beq_eq_false_iff_ne]; omega
  have e22 : (c == 22) = false := by rw [beq_eq_false_iff_ne]; omega
  have e2 : (c == 2) = false := by rw [beq_eq_false_iff_ne]; omega
  have e11 : (c == 11) = false := by rw [beq_eq_false_iff_ne]; omega
  have e13 : (c == 13) = false := by rw [beq_eq_false_iff_ne]; omega
  have e20 : (c == 20) = false := by rw [beq_eq_false_iff_ne]; omega
  clear h
  go_enter Tryd.func10, Tryd.ntmps10
  go_wp2_with fail
  go_ret
  exact ⟨rfl, rfl⟩

set_option maxRecDepth 100000 in
set_option maxHeartbeats 8000000 in
theorem rargs_yes (c : Int) (h : 1 ≤ c ∧ c ≤ 22) (w : World) :
    Calls Tryd.prog 10 #[.int .i64 c] w fun e w' => e = .returned (.int .i64 (toldN c)) ∧ w' = w := by
  obtain ⟨k, rfl⟩ : ∃ k : Nat, c = k := ⟨c.toNat, by omega⟩
  have hk : k = 1 ∨ k = 2 ∨ k = 3 ∨ k = 4 ∨ k = 5 ∨ k = 6 ∨ k = 7 ∨ k = 8 ∨ k = 9 ∨ k = 10 ∨ k = 11 ∨ k = 12 ∨ k = 13 ∨ k = 14 ∨ k = 15 ∨ k = 16 ∨ k = 17 ∨ k = 18 ∨ k = 19 ∨ k = 20 ∨ k = 21 ∨ k = 22 := by omega
  clear h
  rcases hk with rfl | rfl | rfl | rfl | rfl | rfl | rfl | rfl | rfl | rfl | rfl | rfl | rfl | rfl | rfl | rfl | rfl | rfl | rfl | rfl | rfl | rfl
  all_goals
    go_enter Tryd.func10, Tryd.ntmps10
    go_wp2_with fail
    go_ret
    exact ⟨rfl, rfl⟩

theorem rargs_any (c : Int) (w : World) :
    Calls Tryd.prog 10 #[.int .i64 c] w fun e w' => e = .returned (.int .i64 (toldN c)) ∧ w' = w := by
  by_cases h : 1 ≤ c ∧ c ≤ 22
  · exact rargs_yes c h w
  · rw [toldN_out c (by omega)]
    exact rargs_no c (by omega) w

theorem rightN_op {c : Int} {n : Nat} (h : toldN c < 0) : rightN c n = 20 := by unfold rightN; rw [if_pos h]
theorem rightN_ok {c : Int} {n : Nat} (h : toldN c = n) : rightN c n = 0 := by unfold rightN; rw [if_neg (by omega), if_pos h]
theorem rightN_form {c : Int} {n : Nat} (h : 0 ≤ toldN c) (h1 : ¬ toldN c = n) : rightN c n = 10 := by unfold rightN; rw [if_neg (by omega), if_neg h1]

set_option maxRecDepth 100000 in
set_option maxHeartbeats 2000000 in
theorem right_any (c : Int) (A : Option Addr) (n m : Nat) (w : World) (he : Env w) :
    Calls Tryd.prog 15 #[.agg #[.int .i64 c, .slice A n m]] w fun e w' => e = .returned (.int .i64 (rightN c n)) ∧ Below w.heap.size w w' := by
  have hb := Below.refl w.heap.size w
  have HE := Lib.hid (fun o => he.below (hb.alloc (Nat.le_refl _) o))
  have HB := Lib.hid (fun o => hb.alloc (Nat.le_refl _) o)
  clear hb he
  rcases Int.lt_or_le (toldN c) 0 with h | h
  · have HR := Lib.hid (rightN_op (n := n) h)
    have d1 : decide (0 ≤ toldN c) = false := by simpa using h
    clear h
    go_enter Tryd.func15, Tryd.ntmps15
    go_wp2_with fail
    ((with_reducible refine (args_any c _ (HE.out _)).mono ?_); rintro e w1 ⟨rfl, rfl⟩)
    go_wp2_with fail
    go_ret
    exact ⟨(congrArg (fun z => Ending.returned (.int .i64 z)) HR.out).symm, HB.out _⟩
  · have d1 : decide (0 ≤ toldN c) = true := by simpa using h
    have hv : toldV c = toldN c := by unfold toldV; rw [if_neg (by omega)]
    by_cases h1 : toldN c = n
    · have HR := Lib.hid (rightN_ok h1)
      rw [h1] at hv
      have HV := Lib.hid hv
      have d2 : ((n : Int) != (n : Int)) = false := by simp
      clear h h1 hv
      go_enter Tryd.func15, Tryd.ntmps15
      go_wp2_with fail
      ((with_reducible refine (args_any c _ (HE.out _)).mono ?_); rintro e w1 ⟨rfl, rfl⟩)
      rw [HV.out]
      go_wp2_with fail
      go_ret
      exact ⟨(congrArg (fun z => Ending.returned (.int .i64 z)) HR.out).symm, HB.out _⟩
    · have HR := Lib.hid (rightN_form (n := n) h h1)
      have HV := Lib.hid hv
      have d2 : ((n : Int) != toldN c) = true := by rw [bne_iff_ne]; omega
      clear h h1 hv
      go_enter Tryd.func15, Tryd.ntmps15
      go_wp2_with fail
      ((with_reducible refine (args_any c _ (HE.out _)).mono ?_); rintro e w1 ⟨rfl, rfl⟩)
      rw [HV.out]
      go_wp2_with fail
      go_ret
      exact ⟨(congrArg (fun z => Ending.returned (.int .i64 z)) HR.out).symm, HB.out _⟩

set_option maxRecDepth 100000 in
set_option maxHeartbeats 2000000 in
theorem rright_any (c : Int) (A : Option Addr) (n m : Nat) (w : World) :
    Calls Tryd.prog 16 #[.agg #[.int .i64 c, .slice A n m]] w fun e w' => e = .returned (.int .i64 (rightN c n)) ∧ Below w.heap.size w w' := by
  have hb := Below.refl w.heap.size w
  have HB := Lib.hid (fun o => hb.alloc (Nat.le_refl _) o)
  clear hb
  rcases Int.lt_or_le (toldN c) 0 with h | h
  · have HR := Lib.hid (rightN_op (n := n) h)
    go_enter Tryd.func16, Tryd.ntmps16
    go_wp2_with fail
    ((with_reducible refine (rargs_any c _).mono ?_); rintro e w1 ⟨rfl, rfl⟩)
    have d1 : decide (toldN c < 0) = true := by simpa using h
    clear h
    go_wp2_with fail
    go_ret
    exact ⟨(congrArg (fun z => Ending.returned (.int .i64 z)) HR.out).symm, HB.out _⟩
  · by_cases h1 : toldN c = n
    · have HR := Lib.hid (rightN_ok h1)
      go_enter Tryd.func16, Tryd.ntmps16
      go_wp2_with fail
      ((with_reducible refine (rargs_any c _).mono ?_); rintro e w1 ⟨rfl, rfl⟩)
      rw [h1]
      clear h h1
      have d1 : decide ((n : Int) < 0) = false := by simp
      have d2 : ((n : Int) != (n : Int)) = false := by simp
      go_wp2_with fail
      go_ret
      exact ⟨(congrArg (fun z => Ending.returned (.int .i64 z)) HR.out).symm, HB.out _⟩
    · have HR := Lib.hid (rightN_form (n := n) h h1)
      go_enter Tryd.func16, Tryd.ntmps16
      go_wp2_with fail
      ((with_reducible refine (rargs_any c _).mono ?_); rintro e w1 ⟨rfl, rfl⟩)
      have d1 : decide (toldN c < 0) = false := by simpa using h
      have d2 : (toldN c != (n : Int)) = true := by rw [bne_iff_ne]; exact h1
      clear h h1
      go_wp2_with fail
      go_ret
      exact ⟨(congrArg (fun z => Ending.returned (.int .i64 z)) HR.out).symm, HB.out _⟩

end Go.Proofs.YtfjjfljkdflpcaaDoor
