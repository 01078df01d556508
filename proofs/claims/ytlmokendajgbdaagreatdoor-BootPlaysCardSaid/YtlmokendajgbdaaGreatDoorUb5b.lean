/-
  Contract of rank.Skew, of a thing and two trees, one, or none. Conditions: fewer than 2 to the 28th things each, counts below 2 to the 60th.
-/
import Derived.Test.YtlmokendajgbdaaGreatDoorUb5
namespace Go.Proofs.YtlmokendajgbdaaGreatDoor
open Go.Sort Go.RowKit Go.Proofs.YtlmokendajgbdaaGreatDoor.Gn

/-- How many comparisons Skew makes beside those of Link. -/
def skwN : Option Tre → Option Tre → Nat
  | none, none => 0
  | _, _ => 1

/-- Skew of a thing and two trees, one, or none. -/
theorem skew_any (mo : Option Nat) (c m : Int) (y : Thing) (p q : Option Addr) (ta tb : Option Tre) (w : World) (hy : KeyC w y) (hm : MAt w mo c m) (h0 : 0 ≤ c) (h1 : c < 1152921504606846976) (h2 : 0 ≤ m) (h3 : m < 1152921504606846976)
    (ha : TAt w p ta) (hb : TAt w q tb) (ka : osize ta < 268435456) (kb : osize tb < 268435456) :
    Calls Tryz.prog 66 #[mAddr mo, hv y, .pointer p, .pointer q] w (Gave mo (c + lnkN ta tb + skwN ta tb) (m + lnkN ta tb + 1) (oskw y ta tb) w) := by
  cases hl : olnk ta tb with
  | none =>
    have hn : ta = none ∧ tb = none := by cases ta <;> cases tb <;> simp_all [olnk]
    obtain ⟨rfl, rfl⟩ := hn
    obtain rfl := ha
    obtain rfl := hb
    have := skew_none mo c m y w hy hm h2 h3
    simpa [lnkN, skwN, oskw, olnk] using this
  | some t =>
    have hn : (skwN ta tb : Int) = 1 := by cases ta <;> cases tb <;> simp_all [olnk, skwN]
    rw [hn]
    obtain ⟨x, bs, ks⟩ := t
    unfold oskw
    rw [hl]
    show Calls Tryz.prog 66 _ w (Gave mo _ _ (some (skw y ⟨x, bs, ks⟩)) w)
    cases hv : ltE x.key y.key with
    | true =>
      rw [show skw y ⟨x, bs, ks⟩ = ⟨x, y :: bs, ks⟩ from skw_lt hv]
      exact skew_true mo c m y p q ta tb x bs ks hl w hy hm h0 h1 h2 h3 ha hb ka kb hv
    | false =>
      rw [show skw y ⟨x, bs, ks⟩ = ⟨y, x :: bs, ks⟩ from skw_ge hv]
      exact skew_false mo c m y p q ta tb x bs ks hl w hy hm h0 h1 h2 h3 ha hb ka kb hv

end Go.Proofs.YtlmokendajgbdaaGreatDoor
