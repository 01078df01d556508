/-
  The reference of layer 3, Same: of two rows that read as one list it says true, and nothing that was there has changed. Condition: fewer than 2 to the 31st numbers.
-/
import Derived.Test.YtanhlnhdmkfbfaaCons1
import Derived.Test.YtanhlnhdmkfbfaaRow1
namespace Go.Proofs.Ytanhlnhdmkfbfaa
open Go.Sort Go.RowKit

/-- What stands at the head of each round. -/
def SameRel (w : World) (n : Nat) (v : Value) (W : World) : Prop := ∃ k : Nat, v = .int .i64 k ∧ k ≤ n ∧ Below w.heap.size w W

set_option maxHeartbeats 2000000 in
set_option maxRecDepth 100000 in
theorem same_true (A B : Option Addr) (xs : List El) (n c d : Nat) (w : World) (hn : n = xs.length) (ha : Row1 one w A xs) (hb : Row1 one w B xs) (h2 : n < 2147483648) :
    Calls Try.prog 19 #[.slice A n c, .slice B n d] w fun e w' => e = .returned (.bool true) ∧ Below w.heap.size w w' := by
  have HA := Lib.hid ha
  have HB := Lib.hid hb
  have HN := Lib.hid hn
  clear ha hb hn
  go_enter Try.func19, Try.ntmps19
  go_wp2_with fail
  go_loopw [5] (fun v wr => SameRel w n v wr) (fun v _ => n - (intOf v).toNat)
  case atStart => exact ⟨0, rfl, Nat.zero_le _, Below.refl _ _⟩
  case round =>
    obtain ⟨k, rfl, hk, hw⟩ := hrel
    by_cases hlt : k < n
    · obtain ⟨b, o, rfl, hc⟩ := HA.out (by have := HN.out; omega)
      obtain ⟨b', o', rfl, hc'⟩ := HB.out (by have := HN.out; omega)
      have hx := hc k (by have := HN.out; omega)
      have hy := hc' k (by have := HN.out; omega)
      rw [← hw.cell (p := ⟨b, o + k, none⟩) (lt_of_cell hx)] at hx
      rw [← hw.cell (p := ⟨b', o' + k, none⟩) (lt_of_cell hy)] at hy
      clear hc hc'
      generalize xs[k]'(by have := HN.out; omega) = x at hx hy
      have HW := Lib.hid hw
      clear hw
      go_wp2_with fail
      go_region
      all_goals go_wp2_with fail
      all_goals exact ⟨⟨k + 1, by simp, hlt, HW.out.drew⟩, by simp [intOf]; omega⟩
    · obtain rfl : k = n := by omega
      have HW := Lib.hid hw
      clear hw
      go_wp2
      go_ret
      exact ⟨rfl, HW.out⟩

theorem same_two {A B : Option Addr} {xs : List El} {n m c d : Nat} {w : World} (hn : n = xs.length) (hm : m = xs.length) (ha : Row1 one w A xs) (hb : Row1 one w B xs) (h2 : n < 2147483648) :
    Calls Try.prog 19 #[.slice A n c, .slice B m d] w fun e w' => e = .returned (.bool true) ∧ Below w.heap.size w w' := by
  obtain rfl : m = n := by omega
  exact same_true A B xs m c d w hn ha hb h2

end Go.Proofs.Ytanhlnhdmkfbfaa
