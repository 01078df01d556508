/-
  The walk of the statement MeterAdds: for any three bytes it returns true, and nothing that was there has changed, in any world.
-/
import Derived.Test.YthjhcdlikokgpaaMawake
namespace Go.Proofs.Ythjhcdlikokgpaa
open Go.Sort Go.RowKit

/-- What stands at the head of each round: so many comparisons were counted as rounds were made. -/
def AddsRel (n : Nat) (W : World) (b : Nat) (i : Value) (wr : World) : Prop := ∃ k : Nat, k ≤ n ∧ i = .int .i64 k ∧ Meted W wr b k 0

set_option maxHeartbeats 2000000 in
set_option maxRecDepth 100000 in
theorem adds_any (n k j : Nat) (hn : n < 256) (hk : k < 256) (hj : j < 256) (w : World) : Calls Try.prog 5 #[.int .u8 n, .int .u8 k, .int .u8 j] w fun e w' =>
    e = .returned (.bool true) ∧ Below w.heap.size w w' := by
  go_enter Try.func5, Try.ntmps5
  go_wp2_with fail
  ((with_reducible refine (awake_any _).mono ?_); rintro e w1 ⟨rfl, hb1⟩)
  have HB1 := Lib.hid hb1
  clear hb1
  go_wp2_with fail
  ((with_reducible refine (new_any _).mono ?_); rintro e w2 ⟨rfl, hw2⟩)
  have M2 := Lib.hid (Meted.fresh HB1.out hw2)
  clear hw2 HB1
  generalize w1.heap.size = b at *
  go_wp2_with fail
  go_loopw [9] (fun i wr => AddsRel n w b i wr) (fun i _ => n - (intOf i).toNat)
  case atStart => exact ⟨0, Nat.zero_le _, rfl, M2.out⟩
  case round =>
    obtain ⟨x, hx, rfl, hm⟩ := hrel
    have HM := Lib.hid hm
    clear hm M2
    by_cases hlt : x < n
    · go_wp2_with fail
      ((with_reducible refine (mless_any _ _ _ _ _ _ _ _ HM.out.pair (by omega) (by omega)).mono ?_); rintro e w3 ⟨rfl, hp3, hb3⟩)
      have M3 := Lib.hid (HM.out.turn hp3 hb3)
      clear hp3 hb3 HM
      go_wp2_with fail
      go_roundw
      case rel => exact ⟨x + 1, by omega, by go_num, by simpa using M3.out⟩
      case measure => simp [intOf]; omega
    · obtain rfl : x = n := by omega
      go_wp2_with fail
      ((with_reducible refine (steps_any _ _ _ _ HM.out.pair (by omega) (by omega)).mono ?_); rintro e w3 ⟨rfl, hb3⟩)
      have M3 := Lib.hid (HM.out.stay hb3)
      clear hb3 HM
      simp only [Int.add_zero]
      go_wp2_with fail
      ((with_reducible refine (made_any _ _ _ (k : Int) _ M3.out.pair (by omega) (by omega)).mono ?_); rintro e w4 ⟨rfl, hp4, hb4⟩)
      rw [show (0 : Int) + max (k : Int) 0 = k by omega] at hp4
      have M4 := Lib.hid (M3.out.turn hp4 hb4)
      clear hp4 hb4 M3
      go_wp2_with fail
      ((with_reducible refine (made_any _ _ _ (-(j : Int)) _ M4.out.pair (by omega) (by omega)).mono ?_); rintro e w5 ⟨rfl, hp5, hb5⟩)
      rw [show (k : Int) + max (-(j : Int)) 0 = k by omega] at hp5
      have M5 := Lib.hid (M4.out.turn hp5 hb5)
      clear hp5 hb5 M4
      go_wp2_with fail
      ((with_reducible refine (split_any _ _ _ _ M5.out.pair).mono ?_); rintro e w6 ⟨rfl, hb6⟩)
      have M6 := Lib.hid (M5.out.stay hb6)
      clear hb6 M5
      go_wp2_with fail
      ((with_reducible refine (steps_any _ _ _ _ M6.out.pair (by omega) (by omega)).mono ?_); rintro e w7 ⟨rfl, hb7⟩)
      have M7 := Lib.hid (M6.out.stay hb7)
      clear hb7 M6
      go_wp2_with fail
      ((with_reducible refine (since_any _ _ _ _ _ M7.out.pair (by omega) (by omega) (by omega) (by omega)).mono ?_); rintro e w8 ⟨rfl, hb8⟩)
      have M8 := Lib.hid (M7.out.stay hb8)
      clear hb8 M7
      rw [show (x : Int) + k - x = k by omega]
      go_wp2_with fail
      ((with_reducible refine (since_any _ _ _ _ _ M8.out.pair (by omega) (by omega) (by omega) (by omega)).mono ?_); rintro e w9 ⟨rfl, hb9⟩)
      have M9 := Lib.hid (M8.out.stay hb9)
      clear hb9 M8
      rw [Int.sub_zero]
      go_wp2_with fail
      ((with_reducible refine (steps_any _ _ _ _ M9.out.pair (by omega) (by omega)).mono ?_); rintro e w10 ⟨rfl, hb10⟩)
      have M10 := Lib.hid (M9.out.stay hb10)
      clear hb10 M9
      go_wp2
      go_ret
      exact ⟨rfl, M10.out.below⟩

end Go.Proofs.Ythjhcdlikokgpaa
