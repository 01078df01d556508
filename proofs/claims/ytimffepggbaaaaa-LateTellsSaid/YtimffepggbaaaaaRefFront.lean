/-
  Contract of the reference's Front: for any row of fewer than 2^30 elements and any number: the first ones of it in order; nothing that was there has changed.
-/
import Derived.Test.YtimffepggbaaaaaRefSort
import Derived.Test.YtimffepggbaaaaaLate4
namespace Go.Proofs.Ytimffepggbaaaaa
open Go.Sort Go.RowKit

theorem refSort_cap_n (A : Option Addr) (l : List (Int × Int)) (n c : Nat) (w : World) (hn : n = l.length) (hsz : n < 1073741823) (hr : Row w A l) :
    Calls Try.prog 10 #[.slice A n c] w fun e w' => ∃ A c, e = .returned (.slice A n c) ∧ Row w' A (srt l) ∧ Below w.heap.size w w' ∧ n ≤ c ∧ c ≤ 9223372036854775807 := by
  subst hn; exact refSort_cap A l c w hsz hr

/-- What the reference's Front hands back. -/
def RefFront (k : Nat) (xs : List (Int × Int)) (w : World) (e : Ending) (w' : World) : Prop :=
  ∃ A c, e = .returned (.slice A k c) ∧ Row w' A xs ∧ Below w.heap.size w w'

set_option maxHeartbeats 1000000 in
theorem refFront_any (A : Option Addr) (l : List (Int × Int)) (n c : Nat) (z : Int) (k : Nat) (w : World) (hn : n = l.length) (hsz : n < 1073741823) (hr : Row w A l) (hk : (min (max z 0) (n : Int)).toNat = k) :
    Calls Try.prog 12 #[.slice A n c, .int .i64 z] w (RefFront k ((srt l).take k) w) := by
  have HS := Lib.hid (refSort_cap_n A l n c w hn hsz hr)
  have HK := Lib.hid hk
  clear hn hr hk
  by_cases hz : z < 0
  all_goals
    go_enter Try.func12, Try.ntmps12
    go_wp2_with fail
    ((with_reducible refine HS.out.mono ?_); rintro e w1 ⟨A1, c1, rfl, hr1, hb1, hc1, hc2⟩)
    have HR := Lib.hid hr1
    have HB := Lib.hid hb1
    clear hr1 hb1
    go_wp2_with fail
    go_ret
    exact ⟨A1, c1, congrArg (fun k => Ending.returned (.slice A1 k c1)) (by have := HK.out; omega), Row.take HR.out k, HB.out⟩

end Go.Proofs.Ytimffepggbaaaaa
