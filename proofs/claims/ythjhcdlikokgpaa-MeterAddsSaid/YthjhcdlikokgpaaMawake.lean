/-
  The document's example of layer 2 holds: awake returns true, and nothing that was there has changed, in any world.
-/
import Derived.Test.YthjhcdlikokgpaaMeter
namespace Go.Proofs.Ythjhcdlikokgpaa
open Go.Sort Go.RowKit

set_option maxHeartbeats 1000000 in
set_option maxRecDepth 100000 in
theorem awake_any (w : World) : Calls Try.prog 6 #[] w fun e w' => e = .returned (.bool true) ∧ Below w.heap.size w w' := by
  go_enter Try.func6, Try.ntmps6
  go_wp2_with fail
  ((with_reducible refine (new_any _).mono ?_); rintro e w1 ⟨rfl, hw1⟩)
  have M1 := Lib.hid (Meted.fresh (Below.refl w.heap.size w) hw1)
  clear hw1
  go_wp2_with fail
  ((with_reducible refine (mless_any _ 0 0 1 0 2 0 _ M1.out.pair (by omega) (by omega)).mono ?_); rintro e w2 ⟨rfl, hp2, hb2⟩)
  have M2 := Lib.hid (M1.out.turn hp2 hb2)
  clear hp2 hb2 M1
  rw [show ltI 1 0 2 0 = true from by decide]
  go_wp2_with fail
  ((with_reducible refine (mless_any _ _ _ 1 0 1 0 _ M2.out.pair (by omega) (by omega)).mono ?_); rintro e w3 ⟨rfl, hp3, hb3⟩)
  have M3 := Lib.hid (M2.out.turn hp3 hb3)
  clear hp3 hb3 M2
  rw [show ltI 1 0 1 0 = false from by decide]
  go_wp2_with fail
  ((with_reducible refine (made_any _ _ _ 3 _ M3.out.pair (by omega) (by omega)).mono ?_); rintro e w4 ⟨rfl, hp4, hb4⟩)
  have M4 := Lib.hid (show Meted w w4 w.heap.size 2 3 from M3.out.turn hp4 hb4)
  clear hp4 hb4 M3
  go_wp2_with fail
  ((with_reducible refine (split_any _ _ _ _ M4.out.pair).mono ?_); rintro e w5 ⟨rfl, hb5⟩)
  have M5 := Lib.hid (M4.out.stay hb5)
  clear hb5 M4
  go_wp2_with fail
  ((with_reducible refine (steps_any _ _ _ _ M5.out.pair (by omega) (by omega)).mono ?_); rintro e w6 ⟨rfl, hb6⟩)
  have M6 := Lib.hid (M5.out.stay hb6)
  clear hb6 M5
  go_wp2_with fail
  ((with_reducible refine (since_any _ _ _ 4 _ M6.out.pair (by omega) (by omega) (by omega) (by omega)).mono ?_); rintro e w7 ⟨rfl, hb7⟩)
  have M7 := Lib.hid (M6.out.stay hb7)
  clear hb7 M6
  go_wp2
  go_ret
  exact ⟨rfl, M7.out.below⟩

end Go.Proofs.Ythjhcdlikokgpaa
