/-
  A slice of things of one cell each that reads as a list, of no program: what keeps it, a part of it, and that it is the row of a slice that a call made. No conditions beyond what each theorem says.
-/
import Derived.Test.YtfjjfljkdflpcaaDoorChain
import Derived.Maps.AppendAt
import Derived.Laws.AppendOwnNone
import Derived.Laws.OwnMore
import Derived.Test.YtfjjfljkdflpcaaDoorGrown
namespace Go.Proofs.YtfjjfljkdflpcaaDoor
open Go.Sort Go.RowKit

theorem add_flat (b o j : Nat) : (⟨b, o, none⟩ : Addr).add j = ⟨b, o + j, none⟩ := by
  unfold Addr.add; split <;> simp_all
theorem lt_of_cell {w : World} {a : Addr} {v : Value} (h : w.cell? a = some v) : a.block < w.heap.size := by
  unfold World.cell? at h
  cases hh : w.heap[a.block]? with
  | none => rw [hh] at h; cases h
  | some o => exact (Array.getElem?_eq_some_iff.1 hh).1

/-- At A lie these things, one cell each. -/
def Row1 {α : Type} (one : α → Value) (w : World) (A : Option Addr) (xs : List α) : Prop :=
  0 < xs.length → ∃ b o, A = some ⟨b, o, none⟩ ∧ ∀ (j : Nat) (hj : j < xs.length), w.cell? ⟨b, o + j, none⟩ = some (one xs[j])

section
variable {α : Type} {one : α → Value}

theorem Row1.nil (w : World) (A : Option Addr) : Row1 one w A ([] : List α) := fun h => by simp at h
theorem Row1.stay {w w' : World} {A : Option Addr} {xs : List α} (h : Row1 one w A xs) (hb : Below w.heap.size w w') : Row1 one w' A xs := fun h0 => by
  obtain ⟨b, o, e, hc⟩ := h h0
  have hlt := lt_of_cell (hc 0 h0)
  exact ⟨b, o, e, fun j hj => (hb.cell (p := ⟨b, o + j, none⟩) hlt).trans (hc j hj)⟩
/-- In a world where blocks below B are as they were, a row below B. -/
theorem Row1.below {w w' : World} {B : Nat} {b o : Nat} {xs : List α} (h : Row1 one w (some ⟨b, o, none⟩) xs) (hb : Below B w w') (hB : b < B) : Row1 one w' (some ⟨b, o, none⟩) xs := fun h0 => by
  obtain ⟨b', o', e, hc⟩ := h h0
  injection e with e
  injection e with e1 e2
  subst e1; subst e2
  exact ⟨b, o, rfl, fun j hj => (hb.cell (p := ⟨b, o + j, none⟩) hB).trans (hc j hj)⟩

/-- The slice v reads as xs. -/
def Reads (one : α → Value) (w : World) (v : Value) (xs : List α) : Prop :=
  ∃ A c, v = .slice A xs.length c ∧ Row1 one w A xs ∧ xs.length ≤ c ∧ c ≤ 9223372036854775807 ∧ (A = none → c = 0)

theorem Reads.stay {w w' : World} {v : Value} {xs : List α} (h : Reads one w v xs) (hb : Below w.heap.size w w') : Reads one w' v xs := by
  obtain ⟨A, c, e, hr, h1, h2, h3⟩ := h
  exact ⟨A, c, e, hr.stay hb, h1, h2, h3⟩

/-- A slice of the call's own. -/
def Mine (one : α → Value) (e : TypeId) (w : World) (base : Nat) (v : Value) (xs : List α) : Prop := w.ownsRow base e 1 v xs.length (xs.map one)

theorem Mine.none (e : TypeId) (w : World) (base : Nat) : Mine one e w base (.slice Option.none 0 0) ([] : List α) := World.ownsRow_nil w base _ _

theorem Mine.form {e : TypeId} {w : World} {base : Nat} {v : Value} {xs : List α} (h : Mine one e w base v xs) : Reads one w v xs := by
  have h0 := h
  rcases h.2 with ⟨rfl, hn⟩ | ⟨g, cap, cur, rfl, hb, hg, hc, hm, _⟩
  · obtain rfl : xs = [] := List.eq_nil_of_length_eq_zero hn
    exact ⟨Option.none, 0, rfl, Row1.nil _ _, Nat.le_refl _, by omega, fun _ => rfl⟩
  · refine ⟨_, cap, rfl, fun _ => ⟨g, 0, rfl, fun j hj => ?_⟩, hc, by unfold maxLen at hm; omega, fun e => by cases e⟩
    have := h0.cells (g := g) rfl j (one xs[j]) (by simp [hj])
    rwa [add_flat] at this
theorem Mine.block {e : TypeId} {w : World} {base : Nat} {v : Value} {xs : List α} (h : Mine one e w base v xs) : ∀ g, v.ownBlock = some g → base ≤ g := fun g hg => (World.ownsRow.lt h g hg).1
theorem Mine.stay {e : TypeId} {w w' : World} {base : Nat} {v : Value} {xs : List α} (h : Mine one e w base v xs) (hb : Below w.heap.size w w') : Mine one e w' base v xs := by
  refine World.ownsRow.kept h (row := Option.none) ⟨hb.os, hb.tape, hb.output, hb.size, fun k hk _ => hb.block k hk⟩ ?_
  cases v.ownBlock <;> simp
end

end Go.Proofs.YtfjjfljkdflpcaaDoor
