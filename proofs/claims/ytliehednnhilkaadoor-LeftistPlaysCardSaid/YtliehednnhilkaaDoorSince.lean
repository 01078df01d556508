/-
  Contract of meter.Since, for a meter at a block and for none (nil). Conditions: the counts stay in 64 bits.
-/
import Derived.Test.YtliehednnhilkaaDoorMeter
namespace Go.Proofs.YtliehednnhilkaaDoor
open Go.Sort Go.RowKit

set_option maxHeartbeats 1000000 in
/-- Since: Steps, less so many. -/
theorem since_any (b : Nat) (c m n : Int) (w : World) (h : PairAt w b c m) (h0 : -9223372036854775808 ≤ c + m) (h1 : c + m < 9223372036854775808) (h2 : -9223372036854775808 ≤ c + m - n) (h3 : c + m - n < 9223372036854775808) : Calls Tryd.prog 31 #[at0 b, .int .i64 n] w fun e w' =>
    e = .returned (.int .i64 (c + m - n)) ∧ Below w.heap.size w w' := by
  have H := Lib.hid (steps_any b c m w h h0 h1)
  clear h h0 h1
  go_enter Tryd.func31, Tryd.ntmps31
  go_wp2_with fail
  ((with_reducible refine H.out.mono ?_); rintro e w1 ⟨rfl, hb1⟩)
  have HB := Lib.hid hb1
  clear hb1
  go_wp2
  go_ret
  exact ⟨rfl, HB.out⟩

theorem since_none (n : Int) (w : World) : Calls Tryd.prog 31 #[.pointer none, .int .i64 n] w fun e w' => e = .returned (.int .i64 0) ∧ w' = w := by
  go_enter Tryd.func31, Tryd.ntmps31
  go_wp2_with fail
  go_ret
  exact ⟨rfl, rfl⟩

end Go.Proofs.YtliehednnhilkaaDoor
