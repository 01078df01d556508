/-
  Contract of rank.Skew, of a thing and two trees, one, or none. Conditions: fewer than 2 to the 28th things each, counts below 2 to the 60th.
-/
import Derived.Test.YtlkpmafgokoaiaaDoorTr5
namespace Go.Proofs.YtlkpmafgokoaiaaDoor
open Go.Sort Go.RowKit

/-- How many comparisons Skew makes beside those of Link. -/
def skwN : Option Tre → Option Tre → Nat
  | none, none => 0
  | _, _ => 1

/-- Skew of a thing and two trees, one, or none. -/
theorem skew_any (mo : Option Nat) (c m : Int) (y : Int × Int) (p q : Option Addr) (ta tb : Option Tre) (w : World) (hm : MAt w mo c m) (h0 : 0 ≤ c) (h1 : c < 1152921504606846976) (h2 : 0 ≤ m) (h3 : m < 1152921504606846976)
    (ha : TAt w p ta) (hb : TAt w q tb) (ka : osize ta < 268435456) (kb : osize tb < 268435456) :
    Calls Tryd.prog 14 #[mAddr mo, el y, .pointer p, .pointer q] w (Gave mo (c + lnkN ta tb + skwN ta tb) (m + lnkN ta tb + 1) (oskw y ta tb) w) := by
  cases hl : olnk ta tb with
  | none =>
    have hn : ta = none ∧ tb = none := by cases ta <;> cases tb <;> simp_all [olnk]
    obtain ⟨rfl, rfl⟩ := hn
    obtain rfl := ha
    obtain rfl := hb
    have := skew_none mo c m y w hm h2 h3
    simpa [lnkN, skwN, oskw, olnk] using this
  | some t =>
    have hn : (skwN ta tb : Int) = 1 := by cases ta <;> cases tb <;> simp_all [olnk, skwN]
    rw [hn]
    obtain ⟨⟨x1, x2⟩, bs, ks⟩ := t
    obtain ⟨y1, y2⟩ := y
    unfold oskw
    rw [hl]
    show Calls Tryd.prog 14 _ w (Gave mo _ _ (some (skw (y1, y2) ⟨(x1, x2), bs, ks⟩)) w)
    cases hv : ltE (x1, x2) (y1, y2) with
    | true =>
      rw [show skw (y1, y2) ⟨(x1, x2), bs, ks⟩ = ⟨(x1, x2), (y1, y2) :: bs, ks⟩ from by unfold skw; simp only [hv, if_true]]
      exact skew_true mo c m y1 y2 p q ta tb x1 x2 bs ks hl w hm h0 h1 h2 h3 ha hb ka kb hv
    | false =>
      rw [show skw (y1, y2) ⟨(x1, x2), bs, ks⟩ = ⟨(y1, y2), (x1, x2) :: bs, ks⟩ from by unfold skw; simp [hv]]
      exact skew_false mo c m y1 y2 p q ta tb x1 x2 bs ks hl w hm h0 h1 h2 h3 ha hb ka kb hv

end Go.Proofs.YtlkpmafgokoaiaaDoor
