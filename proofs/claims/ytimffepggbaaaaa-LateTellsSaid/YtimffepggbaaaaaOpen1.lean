/-
  Arguments opened to what they hold: a slice of numbers, a slice of texts. No conditions.
-/
import Derived.Test.YtimffepggbaaaaaFlat
import Derived.Test.YtimffepggbaaaaaRow1
namespace Go.Proofs.Ytimffepggbaaaaa
open Go.ChangeShapes Go.WideShapes Go.ChangeAt Go.RowKit Go.Deep Go.Joins

/-- Of what there is at each place below n, a list. -/
theorem choose_list {α β : Type} {n : Nat} {V : Nat → β} {R : α → β} (h : ∀ i, i < n → ∃ a, V i = R a) : ∃ X : List α, X.length = n ∧ ∀ (j : Nat) (hj : j < X.length), V j = R X[j] := by
  induction n with
  | zero => exact ⟨[], rfl, fun j hj => by simp at hj⟩
  | succ n ih =>
    obtain ⟨X, hl, hX⟩ := ih (fun i hi => h i (by omega))
    obtain ⟨a, ha⟩ := h n (by omega)
    refine ⟨X ++ [a], by simp [hl], fun j hj => ?_⟩
    by_cases hj2 : j < X.length
    · rw [List.getElem_append_left hj2]; exact hX j hj2
    · have : j = n := by simp at hj; omega
      subst this
      rw [List.getElem_append_right (by omega)]
      simpa using ha

section
variable {H : Type} {enc : TypeId × Value → H} {w : World} {base : Nat} {held : Bool}

set_option maxRecDepth 100000 in
/-- A slice of things of one cell, opened to a list. -/
theorem open_row1 {α : Type} (one : α → Value) {r : Reach} {b0 : Nat} {t e : TypeId} {v : Value} {d : DataW H} {p : List MemPlace} (ht : Try.prog.underlying t = some (.slice e)) (ce : Try.prog.cellsOf e = 1)
    (hg : ∀ (fuel : Nat) (cs : List Value) (x : DataW H × List MemPlace), cs.length = 1 → DataW.trod enc Try.prog w base (fun _ => true) held fuel e cs = some x → ∃ a, cs = [one a])
    (hv : Value.okWide Try.prog w r b0 t v) (h : DataW.Trod enc Try.prog w base (fun _ => true) held t v d p) :
    ∃ (A : Option Addr) (n c : Nat) (xs : List α), v = .slice A n c ∧ n = xs.length ∧ Row1 one w A xs ∧ n ≤ c ∧ c ≤ 9223372036854775807 ∧ (A = none → c = 0) := by
  obtain ⟨A, n, c, V, rfl, hr, hc, hm, hA, hgo⟩ := open_flat 1 (by omega) ht ce (fun cs => ∃ a, cs = [one a]) hg hv h
  obtain ⟨X, hX⟩ := choose_list (R := fun a => [one a]) hgo
  refine ⟨A, n, c, X, rfl, hX.1.symm, fun hpos => ?_, hc, hm, hA⟩
  obtain ⟨b, o, e, hcell⟩ := hr (by rw [← hX.1]; exact hpos)
  refine ⟨b, o, e, fun j hj => ?_⟩
  have h1 := (hcell j (by rw [← hX.1]; exact hj)).2 0 (one X[j]) (by rw [hX.2 j hj]; rfl)
  simpa using h1
end

end Go.Proofs.Ytimffepggbaaaaa
