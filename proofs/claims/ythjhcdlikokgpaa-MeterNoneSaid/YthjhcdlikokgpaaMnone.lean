/-
  The walk of the statement MeterNone: for any two elements and any two numbers it returns true, and nothing that was there has changed, in any world.
-/
import Derived.Test.YthjhcdlikokgpaaMawake
namespace Go.Proofs.Ythjhcdlikokgpaa
open Go.Sort Go.RowKit

set_option maxHeartbeats 2000000 in
set_option maxRecDepth 100000 in
theorem none_any (p q r s n k : Int) (w : World) : Calls Try.prog 4 #[.agg #[.int .i64 p, .int .i64 q], .agg #[.int .i64 r, .int .i64 s], .int .i64 n, .int .i64 k] w fun e w' =>
    e = .returned (.bool true) ∧ Below w.heap.size w w' := by
  have A1 := Lib.hid (fun w => mless_none p q r s w)
  have A2 := Lib.hid (fun w b c m h h0 h1 => mless_any b c m p q r s w h h0 h1)
  have A3 := Lib.hid (fun w => refLess_below p q r s w)
  generalize ltI p q r s = v at A1 A2 A3
  cases v
  all_goals
    go_enter Try.func4, Try.ntmps4
    go_wp2_with fail
    ((with_reducible refine (awake_any _).mono ?_); rintro e w1 ⟨rfl, hb1⟩)
    obtain ⟨pa, pb, hw1⟩ := duo hb1
    have PA1 := Lib.hid pa
    have PB1 := Lib.hid pb
    have HW1 := Lib.hid hw1
    obtain ⟨a0, a1, -, -, -⟩ := pa
    obtain ⟨b0, b1, -, -, -⟩ := pb
    clear hb1 hw1
    go_wp2_with fail
    ((with_reducible refine (made_none _ _).mono ?_); rintro e w2 ⟨rfl, rfl⟩)
    go_wp2_with fail
    ((with_reducible refine (A1.out _).mono ?_); rintro e w3 ⟨rfl, hb3⟩)
    have PA3 := Lib.hid (PA1.out.below hb3 PA1.out.lt)
    have PB3 := Lib.hid (PB1.out.below hb3 PB1.out.lt)
    have HW3 := Lib.hid (HW1.out.trans (hb3.mono HW1.out.size))
    clear hb3 PA1 PB1 HW1 a0 a1 b0 b1
    go_wp2_with fail
    ((with_reducible refine (split_none _).mono ?_); rintro e w4 ⟨rfl, rfl⟩)
    go_wp2_with fail
    ((with_reducible refine (new_any _).mono ?_); rintro e w5 ⟨rfl, hw5⟩)
    have MP5 := Lib.hid (Meted.fresh HW3.out hw5)
    have PA5 := Lib.hid (show PairAt w5 w.heap.size p q from by rw [hw5]; exact PA3.out.alloc _)
    have PB5 := Lib.hid (show PairAt w5 (w.heap.size + 1) r s from by rw [hw5]; exact PB3.out.alloc _)
    have NA := Lib.hid (show w.heap.size ≠ w4.heap.size from by have := PA3.out.lt; omega)
    have NB := Lib.hid (show w.heap.size + 1 ≠ w4.heap.size from by have := PB3.out.lt; omega)
    clear hw5 PA3 PB3 HW3
    go_wp2_with fail
    ((with_reducible refine (new_any _).mono ?_); rintro e w6 ⟨rfl, hw6⟩)
    have hb6 : Below w5.heap.size w5 w6 := by rw [hw6]; exact (Below.refl _ _).alloc (Nat.le_refl _) _
    have MQ6 := Lib.hid (Meted.fresh MP5.out.below hw6)
    have MP6 := Lib.hid (MP5.out.stay hb6)
    have PA6 := Lib.hid (PA5.out.below hb6 PA5.out.lt)
    have PB6 := Lib.hid (PB5.out.below hb6 PB5.out.lt)
    have NQ := Lib.hid (show w5.heap.size ≠ w4.heap.size from by have := MP5.out.pair.lt; omega)
    clear hw6 hb6 PA5 PB5 MP5
    have a0 := PA6.out.c0
    have a1 := PA6.out.c1
    have b0 := PB6.out.c0
    have b1 := PB6.out.c1
    go_wp2_with fail
    ((with_reducible refine (A2.out _ _ _ _ MP6.out.pair (by omega) (by omega)).mono ?_); rintro e w7 ⟨rfl, hp7, hb7⟩)
    clear a0 a1 b0 b1
    have MP7 := Lib.hid (MP6.out.turn hp7 hb7)
    have MQ7 := Lib.hid (hb7.pair MQ6.out.pair NQ.out)
    have a0 := (hb7.pair PA6.out NA.out).c0
    have a1 := (hb7.pair PA6.out NA.out).c1
    have b0 := (hb7.pair PB6.out NB.out).c0
    have b1 := (hb7.pair PB6.out NB.out).c1
    clear hp7 hb7 MP6 MQ6 PA6 PB6 NA NB NQ
    go_wp2_with fail
    ((with_reducible refine (A3.out _).mono ?_); rintro e w8 ⟨rfl, hb8⟩)
    have MP8 := Lib.hid (MP7.out.stay hb8)
    have MQ8 := Lib.hid (MQ7.out.below hb8 MQ7.out.lt)
    clear hb8 MP7 MQ7 a0 a1 b0 b1
    go_wp2_with fail
    ((with_reducible refine (steps_none _).mono ?_); rintro e w9 ⟨rfl, rfl⟩)
    go_wp2_with fail
    ((with_reducible refine (since_none _ _).mono ?_); rintro e w10 ⟨rfl, rfl⟩)
    go_wp2_with fail
    ((with_reducible refine (steps_any _ _ _ _ MP8.out.pair (by omega) (by omega)).mono ?_); rintro e w11 ⟨rfl, hb11⟩)
    have MP11 := Lib.hid (MP8.out.stay hb11)
    have MQ11 := Lib.hid (MQ8.out.below hb11 MQ8.out.lt)
    clear hb11 MP8 MQ8
    go_wp2_with fail
    ((with_reducible refine (steps_any _ _ _ _ MQ11.out (by omega) (by omega)).mono ?_); rintro e w12 ⟨rfl, hb12⟩)
    have MP12 := Lib.hid (MP11.out.stay hb12)
    clear hb12 MP11 MQ11
    go_wp2
    go_ret
    exact ⟨rfl, MP12.out.below⟩

end Go.Proofs.Ythjhcdlikokgpaa
