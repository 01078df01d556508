/-
  An argument that is a slice of structs of k cells each, opened: where each element's cells lie, and what is known of them. No conditions.
-/
import Derived.Test.YtfjjfljkdflpcaaDoorArgs0
import Derived.Deep.Slices
import Derived.Deep.Strs
import Derived.ChangeSame
namespace Go.Proofs.YtfjjfljkdflpcaaDoor
open Go.ChangeShapes Go.WideShapes Go.ChangeAt Go.RowKit Go.Deep Go.Joins

theorem flat_plain {w : World} {a : Addr} {v : Value} (h : w.cell? a = some v) : a = ⟨a.block, a.off, none⟩ := by
  obtain ⟨b, o, s⟩ := a
  cases s with
  | none => rfl
  | some x =>
    unfold World.cell? at h
    split at h
    · simp at h
    · cases h
theorem flat_add (b o j : Nat) : (⟨b, o, none⟩ : Addr).add j = ⟨b, o + j, none⟩ := by
  unfold Addr.add; split <;> simp_all

/-- The slice at A has n elements, of k cells each: V i those of the i-th. -/
def FlatRow (w : World) (A : Option Addr) (n k : Nat) (V : Nat → List Value) : Prop :=
  0 < n → ∃ b o, A = some ⟨b, o, none⟩ ∧ ∀ i, i < n → (V i).length = k ∧ ∀ j v, (V i)[j]? = some v → w.cell? ⟨b, o + i * k + j, none⟩ = some v

section
variable {H : Type} {enc : TypeId × Value → H} {P : Program} {w : World} {base : Nat} {held : Bool}
theorem open_flat {r : Reach} {b0 : Nat} {t e : TypeId} {v : Value} {d : DataW H} {p : List MemPlace} (k : Nat) (hk : 0 < k) (ht : P.underlying t = some (.slice e)) (ce : P.cellsOf e = k) (Good : List Value → Prop)
    (hg : ∀ (fuel : Nat) (cs : List Value) (x : DataW H × List MemPlace), cs.length = k → DataW.trod enc P w base (fun _ => true) held fuel e cs = some x → Good cs)
    (hv : Value.okWide P w r b0 t v) (h : DataW.Trod enc P w base (fun _ => true) held t v d p) :
    ∃ (A : Option Addr) (n c : Nat) (V : Nat → List Value), v = .slice A n c ∧ FlatRow w A n k V ∧ n ≤ c ∧ c ≤ 9223372036854775807 ∧ (A = none → c = 0) ∧ ∀ i, i < n → Good (V i) := by
  obtain ⟨fuel, hf⟩ := h
  obtain ⟨a0, l0, c0, rfl⟩ := okWide_slice ht hv
  rcases open_slice ht hf with ⟨hcs, -⟩ | ⟨a, len, cap, m, n, D, Pl, hcs, -, hlc, hcm, hm, -, hall⟩
  · have e1 : Value.slice a0 l0 c0 = .slice none 0 0 := by simpa [Value.cells] using hcs
    rw [e1]
    exact ⟨none, 0, 0, fun _ => [], rfl, fun h => by omega, Nat.le_refl _, by omega, fun _ => rfl, fun i hi => by omega⟩
  · have e1 : Value.slice a0 l0 c0 = .slice (some a) len cap := by simpa [Value.cells] using hcs
    rw [e1]
    have hlm : len ≤ m := by rw [hm]; simp; exact hlc
    have each : ∀ i, i < len → ∃ cs, cs.length = k ∧ Good cs ∧ ∀ j, j < k → w.cell? ((a.add (i * k)).add j) = cs[j]? := by
      intro i hi
      obtain ⟨cs, h1, h2⟩ := hall i (by omega)
      rw [ce] at h1
      obtain ⟨-, hl, hc⟩ := World.cells?_some h1
      exact ⟨cs, hl, hg _ _ _ hl h2, hc⟩
    obtain ⟨V, hV⟩ := choose_lt each
    refine ⟨some a, len, cap, V, rfl, fun hpos => ?_, hlc, by unfold maxLen at hcm; omega, (fun e => by cases e), fun i hi => (hV i hi).2.1⟩
    obtain ⟨l0, -, c0⟩ := hV 0 hpos
    have q0 := c0 0 hk
    rw [List.getElem?_eq_getElem (by omega)] at q0
    have ea : (a.add (0 * k)).add 0 = a := by unfold Addr.add; simp
    rw [ea] at q0
    have ha := flat_plain q0
    refine ⟨a.block, a.off, by rw [← ha], fun i hi => ⟨(hV i hi).1, fun j v hj => ?_⟩⟩
    have hjk : j < k := by
      have := (List.getElem?_eq_some_iff.1 hj).1
      have := (hV i hi).1
      omega
    have := (hV i hi).2.2 j hjk
    rw [ha, flat_add, flat_add, hj] at this
    exact this
end

end Go.Proofs.YtfjjfljkdflpcaaDoor
