/-
  Contracts of the reference's Compare and Same: for any elements and any two rows (of fewer than 2^31 elements): what they return; nothing that was there has changed.
-/
import Derived.Test.YtliehednnhilkaaDoorLess
import Derived.Test.YtliehednnhilkaaDoorRow
import Derived.Test.YtliehednnhilkaaDoorKit
namespace Go.Proofs.YtliehednnhilkaaDoor
open Go.Sort Go.RowKit

/-- What holds at each round's head. -/
def SameRel (xs ys : List (Int × Int)) (w : World) (i : Value) (wr : World) : Prop :=
  ∃ k : Nat, k ≤ xs.length ∧ i = .int .i64 k ∧ xs.take k = ys.take k ∧ ∃ p : Regrown, wr = grow (redrawn w p.d) p.os

set_option maxHeartbeats 1000000 in
theorem same_unlike (A B : Option Addr) (na nb ca cb : Nat) (w : World) (h : na ≠ nb) :
    Calls Tryd.prog 34 #[.slice A na ca, .slice B nb cb] w fun e w' => e = .returned (.bool false) ∧ Below w.heap.size w w' := by
  have h1 : ((na : Int) != (nb : Int)) = true := by rw [bne_iff_ne]; omega
  go_enter Tryd.func34, Tryd.ntmps34
  go_wp2_with fail
  go_ret
  exact ⟨rfl, Below.refl _ _⟩

set_option maxHeartbeats 1000000 in
theorem same_none (A B : Option Addr) (ca cb : Nat) (w : World) :
    Calls Tryd.prog 34 #[.slice A 0 ca, .slice B 0 cb] w fun e w' => e = .returned (.bool true) ∧ Below w.heap.size w w' := by
  go_enter Tryd.func34, Tryd.ntmps34
  go_wp2_with fail
  refine wp_loop_rounds 1 ?_
  rw [rounds_succ]
  go_wp2_with fail
  go_ret
  exact ⟨rfl, Below.refl _ _⟩

theorem take_more {xs ys : List (Int × Int)} {k : Nat} (h : xs.take k = ys.take k) (h1 : k < xs.length) (h2 : k < ys.length) (e : xs[k] = ys[k]) : xs.take (k + 1) = ys.take (k + 1) := by
  rw [List.take_succ_eq_append_getElem h1, List.take_succ_eq_append_getElem h2, h, e]

set_option maxHeartbeats 1000000 in
set_option maxRecDepth 100000 in
theorem same_some (b1 o1 b2 o2 : Nat) (xs ys : List (Int × Int)) (n ca cb : Nat) (w : World) (hx : n = xs.length) (hy : n = ys.length) (hn : n < 2147483648)
    (hA : ∀ j v, (cellsE xs)[j]? = some v → w.cell? ⟨b1, o1 + j, none⟩ = some v) (hB : ∀ j v, (cellsE ys)[j]? = some v → w.cell? ⟨b2, o2 + j, none⟩ = some v) :
    Calls Tryd.prog 34 #[.slice (some ⟨b1, o1, none⟩) n ca, .slice (some ⟨b2, o2, none⟩) n cb] w fun e w' => e = .returned (.bool (decide (xs = ys))) ∧ Below w.heap.size w w' := by
  have HA := Lib.hid hA
  have HB := Lib.hid hB
  have HX := Lib.hid hx
  have HY := Lib.hid hy
  clear hA hB hx hy
  go_enter Tryd.func34, Tryd.ntmps34
  go_wp2_with fail
  go_loopw [5] (fun i wr => SameRel xs ys w i wr) (fun i _ => n - (intOf i).toNat)
  case atStart => exact ⟨0, Nat.zero_le _, rfl, rfl, ⟨w.drawn, #[]⟩, world_self w⟩
  case round =>
    obtain ⟨k, hkk, rfl, ht, ⟨d, os⟩, rfl⟩ := hrel
    have hx := HX.out
    have hy := HY.out
    by_cases hlt : k < n
    · have hk1 : k < xs.length := by omega
      have hk2 : k < ys.length := by omega
      have e1 := row_at HA.out k hk1
      have e2 := row_at HB.out k hk2
      have hmore := fun (e : xs[k] = ys[k]) => take_more ht hk1 hk2 e
      have hstop : ¬ xs[k] = ys[k] → decide (xs = ys) = false := fun hne => by
        rw [decide_eq_false_iff_not]
        intro e
        subst e
        exact hne rfl
      generalize xs[k] = x at *
      generalize ys[k] = y at *
      have kx0 := fun d os => cell_regrown e1.1 d os
      have kx1 := fun d os => cell_regrown e1.2 d os
      have ky0 := fun d os => cell_regrown e2.1 d os
      have ky1 := fun d os => cell_regrown e2.2 d os
      have HM := Lib.hid hmore
      have HS := Lib.hid hstop
      have HK := Lib.hid (And.intro hkk hx)
      clear e1 e2 hmore hstop ht hx hy hkk hk1 hk2
      obtain ⟨x1, x2⟩ := x
      obtain ⟨y1, y2⟩ := y
      simp only at kx0 kx1 ky0 ky1
      by_cases ee : x1 = y1 ∧ x2 = y2
      · obtain ⟨rfl, rfl⟩ := ee
        have HT := Lib.hid (HM.out rfl)
        clear HM HS
        go_wp2_with fail
        refine wp_region_class (by kernel_rfl) (by kernel_rfl) ?_
        repeat (go_big_quiet_step (fail))
        refine wpQuiet_nil ?_
        intro _ hw'
        obtain ⟨⟨dq, osq⟩, hw''⟩ := hw'
        subst hw''
        go_wp2_with fail
        go_roundw
        case rel => exact ⟨k + 1, by have := HK.out; omega, by go_num, HT.out, ⟨dq, osq⟩, rfl⟩
        case measure => simp [intOf]; omega
      · have hf := HS.out (fun e => ee (by injection e with a b; exact ⟨a, b⟩))
        have HF := Lib.hid hf
        clear hf
        by_cases e1 : x1 = y1
        · have e2 : ¬ x2 = y2 := fun h => ee ⟨e1, h⟩
          subst e1
          clear ee HS HM
          go_wp2_with fail
          refine wp_region_class (by kernel_rfl) (by kernel_rfl) ?_
          repeat (go_big_quiet_step (fail))
          refine wpQuiet_nil ?_
          intro _ hw'
          obtain ⟨⟨dq, osq⟩, hw''⟩ := hw'
          subst hw''
          go_wp2_with fail
          go_ret
          exact ⟨(congrArg (fun b => Ending.returned (.bool b)) HF.out).symm, below_regrown w _ _⟩
        · clear ee HS HM
          go_wp2_with fail
          refine wp_region_class (by kernel_rfl) (by kernel_rfl) ?_
          repeat (go_big_quiet_step (fail))
          refine wpQuiet_nil ?_
          intro _ hw'
          obtain ⟨⟨dq, osq⟩, hw''⟩ := hw'
          subst hw''
          go_wp2_with fail
          go_ret
          exact ⟨(congrArg (fun b => Ending.returned (.bool b)) HF.out).symm, below_regrown w _ _⟩
    · have hk2 : k = xs.length := by omega
      have hxy : decide (xs = ys) = true := by
        rw [decide_eq_true_eq]
        rw [hk2, List.take_length, List.take_of_length_le (by omega)] at ht
        exact ht
      have HF := Lib.hid hxy
      clear ht hxy hx hy hkk hk2
      go_wp2_with fail
      go_ret
      exact ⟨(congrArg (fun b => Ending.returned (.bool b)) HF.out).symm, below_regrown w _ _⟩

theorem same_any (A B : Option Addr) (xs ys : List (Int × Int)) (ca cb : Nat) (w : World) (hx : xs.length < 2147483648) (hA : Row w A xs) (hB : Row w B ys) :
    Calls Tryd.prog 34 #[.slice A xs.length ca, .slice B ys.length cb] w fun e w' => e = .returned (.bool (decide (xs = ys))) ∧ Below w.heap.size w w' := by
  by_cases hl : xs.length = ys.length
  · by_cases h0 : xs.length = 0
    · have ex : xs = [] := List.eq_nil_of_length_eq_zero h0
      have ey : ys = [] := List.eq_nil_of_length_eq_zero (by omega)
      subst ex
      subst ey
      exact same_none A B ca cb w
    · obtain ⟨b1, o1, rfl, h1⟩ := hA (by omega)
      obtain ⟨b2, o2, rfl, h2⟩ := hB (by omega)
      have h := same_some b1 o1 b2 o2 xs ys xs.length ca cb w rfl hl hx h1 h2
      rw [← hl]
      exact h
  · have hf : decide (xs = ys) = false := by
      rw [decide_eq_false_iff_not]; intro e; exact hl (by rw [e])
    rw [hf]
    exact same_unlike A B _ _ ca cb w hl

end Go.Proofs.YtliehednnhilkaaDoor
