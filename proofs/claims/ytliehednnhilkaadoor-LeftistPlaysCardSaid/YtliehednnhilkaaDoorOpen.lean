/-
  An argument that is a slice of elements, opened: a row that reads as a list of pairs of 64-bit numbers; its capacity. No conditions.
-/
import Derived.Test.YtliehednnhilkaaDoorArgs
import Derived.Test.YtliehednnhilkaaDoorRow
import Derived.Deep.SlicePairs
namespace Go.Proofs.YtliehednnhilkaaDoor
open Go.ChangeShapes Go.WideShapes Go.ChangeAt Go.RowKit Go.Deep

/-- A cell's number. -/
def numV : Value → Int
  | .int _ n => n
  | _ => 0

theorem plain_of_cell {w : World} {a : Addr} {v : Value} (h : w.cell? a = some v) : a = ⟨a.block, a.off, none⟩ := by
  obtain ⟨b, o, s⟩ := a
  cases s with
  | none => rfl
  | some x =>
    unfold World.cell? at h
    split at h
    · simp at h
    · cases h

section
variable {H : Type} {enc : TypeId × Value → H} {w : World} {base : Nat} {held : Bool}
set_option maxRecDepth 100000 in
theorem open_rows {r : Reach} {b0 : Nat} {v : Value} {d : DataW H} {p : List MemPlace} (hv : Value.okWide Tryd.prog w r b0 36 v) (h : DataW.Trod enc Tryd.prog w base (fun _ => true) held 36 v d p) :
    ∃ (A : Option Addr) (xs : List (Int × Int)) (c : Nat), v = .slice A xs.length c ∧ Row w A xs ∧ xs.length ≤ c ∧ c ≤ 9223372036854775807 ∧ (A = none → c = 0) ∧
      ∀ e ∈ xs, (-9223372036854775808 ≤ e.1 ∧ e.1 ≤ 9223372036854775807) ∧ (-9223372036854775808 ≤ e.2 ∧ e.2 ≤ 9223372036854775807) := by
  obtain ⟨fuel, hf⟩ := h
  obtain ⟨a0, l0, c0, rfl⟩ := okWide_slice Tryd.underlying36 hv
  have hs := Tryd.underlying32
  rcases open_slice_pairs (enc := enc) (w := w) (base := base) (held := held) Tryd.underlying36 hs cellsElem (by kernel_rfl) (by kernel_rfl) (by kernel_rfl) (by kernel_rfl) hf with ⟨hcs, -⟩ | ⟨a, len, cap, m, n, V0, V1, D0, D1, P0, P1, hcs, -, hlc, hcm, hm, -, hall⟩
  · have e1 : Value.slice a0 l0 c0 = .slice none 0 0 := by simpa [Value.cells] using hcs
    rw [e1]
    exact ⟨none, [], 0, rfl, Row.nil _ _, Nat.le_refl _, by omega, fun _ => rfl, by simp⟩
  · have e1 : Value.slice a0 l0 c0 = .slice (some a) len cap := by simpa [Value.cells] using hcs
    rw [e1]
    have hlm : len ≤ m := by rw [hm]; simp; exact hlc
    have hel : ∀ i, i < len → V0 i = .int .i64 (numV (V0 i)) ∧ V1 i = .int .i64 (numV (V1 i)) ∧ (-9223372036854775808 ≤ numV (V0 i) ∧ numV (V0 i) ≤ 9223372036854775807) ∧ (-9223372036854775808 ≤ numV (V1 i) ∧ numV (V1 i) ≤ 9223372036854775807) := by
      intro i hi
      obtain ⟨-, -, t0, t1⟩ := hall i (by omega)
      obtain ⟨x, ex, -, wx⟩ := DataW.trod_int Tryd.underlying2 t0
      obtain ⟨y, ey, -, wy⟩ := DataW.trod_int Tryd.underlying2 t1
      injection ex with ex
      injection ey with ey
      rw [ex, ey]
      exact ⟨rfl, rfl, in_of_wf wx, in_of_wf wy⟩
    refine ⟨some a, (List.range len).map fun i => (numV (V0 i), numV (V1 i)), cap, by simp, ?_, by simpa using hlc, by unfold maxLen at hcm; omega, (fun e => by cases e), ?_⟩
    · intro hpos
      have hpos' : 0 < len := by simpa using hpos
      have h0 := (hall 0 (by omega)).1
      have ea : a.add (0 * 2) = a := by unfold Addr.add; simp
      rw [ea] at h0
      have ha := plain_of_cell h0
      refine ⟨a.block, a.off, by rw [← ha], fun j v hj => ?_⟩
      have hjl : j < len * 2 := by
        have h1 := (List.getElem?_eq_some_iff.1 hj).1
        rw [cellsE_length] at h1
        simpa using h1
      have hi : j / 2 < len := by omega
      have hc := cellsE_at ((List.range len).map fun i => (numV (V0 i), numV (V1 i))) (j / 2) (by simpa using hi)
      obtain ⟨q0, q1, -, -⟩ := hall (j / 2) (by omega)
      obtain ⟨n0, n1, -, -⟩ := hel (j / 2) hi
      rw [ha, add_plain] at q0 q1
      simp only [List.getElem_map, List.getElem_range] at hc
      rcases Nat.mod_two_eq_zero_or_one j with hz | hz
      · have ej : j / 2 * 2 = j := by omega
        rw [ej] at hc q0
        have := hc.1.symm.trans hj
        injection this with this
        rw [← this, ← n0]
        exact q0
      · have ej : j / 2 * 2 + 1 = j := by omega
        rw [ej] at hc q1
        have := hc.2.symm.trans hj
        injection this with this
        rw [← this, ← n1]
        exact q1
    · intro e he
      simp only [List.mem_map, List.mem_range] at he
      obtain ⟨i, hi, rfl⟩ := he
      exact ⟨(hel i hi).2.2.1, (hel i hi).2.2.2⟩
end

end Go.Proofs.YtliehednnhilkaaDoor
