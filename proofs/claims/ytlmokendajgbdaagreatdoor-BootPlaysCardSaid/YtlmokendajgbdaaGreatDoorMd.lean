/-
  What every row asks of the program, and the range of a 64-bit number. No conditions.
  Arguments opened to what they hold: an element to its two numbers. No conditions.
  An argument that is a slice of elements, opened: a row that reads as a list of pairs of 64-bit numbers; its capacity. No conditions.
  An argument that is a slice of structs of k cells each, opened: where each element's cells lie, and what is known of them. No conditions.
-/
import Derived.Test.YtlmokendajgbdaaGreatDoorRows
import Derived.WalkKit
import Derived.ProofKit
import Derived.OpenShut
import Derived.Carry
import Derived.Lib.SmallJoins
import Derived.Test.YtlmokendajgbdaaGreatDoorMa
import Derived.Deep.SlicePairs
import Derived.Deep.Slices
import Derived.Deep.Strs
import Derived.ChangeSame
namespace Go.Proofs.YtlmokendajgbdaaGreatDoor
open Go.ChangeShapes Go.WideShapes Go.ChangeAt Go.RowKit Go.Joins

theorem own : ownKnob Tryz.prog.godebug = none := by kernel_rfl
theorem laidOut : laidOutB Tryz.prog = true := by kernel_rfl
theorem in_of_wf {n : Int} (h : (Lit.int .i64 n).wf = true) : -9223372036854775808 ≤ n ∧ n ≤ 9223372036854775807 := by
  have e1 : IntKind.i64.min = -9223372036854775808 := rfl
  have e2 : IntKind.i64.max = 9223372036854775807 := rfl
  simp [Lit.wf, e1, e2] at h
  omega
theorem byte_of_wf {n : Int} (h : (Lit.int .u8 n).wf = true) : ∃ m : Nat, n = m ∧ m < 256 := by
  have e1 : IntKind.u8.min = 0 := rfl
  have e2 : IntKind.u8.max = 255 := rfl
  simp [Lit.wf, e1, e2] at h
  exact ⟨n.toNat, by omega, by omega⟩

end Go.Proofs.YtlmokendajgbdaaGreatDoor
namespace Go.Proofs.YtlmokendajgbdaaGreatDoor
open Go.ChangeShapes Go.WideShapes Go.ChangeAt Go.RowKit Go.Joins

theorem cellsElem : Tryz.prog.cellsOf 32 = 2 := by kernel_rfl
section
variable {H : Type} {enc : TypeId × Value → H} {w : World} {base : Nat} {spare : Nat → Bool} {held : Bool}
set_option maxRecDepth 100000 in
/-- An element by value. -/
theorem open_elem {r : Reach} {b0 : Nat} {v : Value} {d : DataW H} {p : List MemPlace} (hv : Value.okWide Tryz.prog w r b0 32 v) (h : DataW.Trod enc Tryz.prog w base spare held 32 v d p) :
    ∃ a b : Int, v = .agg #[.int .i64 a, .int .i64 b] ∧ (-9223372036854775808 ≤ a ∧ a ≤ 9223372036854775807) ∧ (-9223372036854775808 ≤ b ∧ b ≤ 9223372036854775807) := by
  have hs := Tryz.underlying32
  have h2 := open_agg2 (enc := enc) (w := w) (base := base) (spare := spare) (held := held) hs (by kernel_rfl) cellsElem hv h
  obtain ⟨v0, v1, y0, y1, n, rfl, -, -, h0, h1⟩ := h2
  obtain ⟨a, e0, -, w0⟩ := DataW.trod_int Tryz.underlying2 h0
  obtain ⟨b, e1, -, w1⟩ := DataW.trod_int Tryz.underlying2 h1
  injection e0 with e0
  injection e1 with e1
  subst e0
  subst e1
  exact ⟨a, b, rfl, in_of_wf w0, in_of_wf w1⟩
end

end Go.Proofs.YtlmokendajgbdaaGreatDoor
namespace Go.Proofs.YtlmokendajgbdaaGreatDoor
open Go.ChangeShapes Go.WideShapes Go.ChangeAt Go.RowKit Go.Deep

/-- A cell's number. -/
def numV : Value → Int
  | .int _ n => n
  | _ => 0

theorem plain_of_cell {w : World} {a : Addr} {v : Value} (h : w.cell? a = some v) : a = ⟨a.block, a.off, none⟩ := by
  obtain ⟨b, o, s⟩ := a
  cases s with
  | none => rfl
  | some x =>
    unfold World.cell? at h
    split at h
    · simp at h
    · cases h

section
variable {H : Type} {enc : TypeId × Value → H} {w : World} {base : Nat} {held : Bool}
set_option maxRecDepth 100000 in
theorem open_rows {r : Reach} {b0 : Nat} {v : Value} {d : DataW H} {p : List MemPlace} (hv : Value.okWide Tryz.prog w r b0 37 v) (h : DataW.Trod enc Tryz.prog w base (fun _ => true) held 37 v d p) :
    ∃ (A : Option Addr) (xs : List (Int × Int)) (c : Nat), v = .slice A xs.length c ∧ Row w A xs ∧ xs.length ≤ c ∧ c ≤ 9223372036854775807 ∧ (A = none → c = 0) ∧
      ∀ e ∈ xs, (-9223372036854775808 ≤ e.1 ∧ e.1 ≤ 9223372036854775807) ∧ (-9223372036854775808 ≤ e.2 ∧ e.2 ≤ 9223372036854775807) := by
  obtain ⟨fuel, hf⟩ := h
  obtain ⟨a0, l0, c0, rfl⟩ := okWide_slice Tryz.underlying37 hv
  have hs := Tryz.underlying32
  rcases open_slice_pairs (enc := enc) (w := w) (base := base) (held := held) Tryz.underlying37 hs cellsElem (by kernel_rfl) (by kernel_rfl) (by kernel_rfl) (by kernel_rfl) hf with ⟨hcs, -⟩ | ⟨a, len, cap, m, n, V0, V1, D0, D1, P0, P1, hcs, -, hlc, hcm, hm, -, hall⟩
  · have e1 : Value.slice a0 l0 c0 = .slice none 0 0 := by simpa [Value.cells] using hcs
    rw [e1]
    exact ⟨none, [], 0, rfl, Row.nil _ _, Nat.le_refl _, by omega, fun _ => rfl, by simp⟩
  · have e1 : Value.slice a0 l0 c0 = .slice (some a) len cap := by simpa [Value.cells] using hcs
    rw [e1]
    have hlm : len ≤ m := by rw [hm]; simp; exact hlc
    have hel : ∀ i, i < len → V0 i = .int .i64 (numV (V0 i)) ∧ V1 i = .int .i64 (numV (V1 i)) ∧ (-9223372036854775808 ≤ numV (V0 i) ∧ numV (V0 i) ≤ 9223372036854775807) ∧ (-9223372036854775808 ≤ numV (V1 i) ∧ numV (V1 i) ≤ 9223372036854775807) := by
      intro i hi
      obtain ⟨-, -, t0, t1⟩ := hall i (by omega)
      obtain ⟨x, ex, -, wx⟩ := DataW.trod_int Tryz.underlying2 t0
      obtain ⟨y, ey, -, wy⟩ := DataW.trod_int Tryz.underlying2 t1
      injection ex with ex
      injection ey with ey
      rw [ex, ey]
      exact ⟨rfl, rfl, in_of_wf wx, in_of_wf wy⟩
    refine ⟨some a, (List.range len).map fun i => (numV (V0 i), numV (V1 i)), cap, by simp, ?_, by simpa using hlc, by unfold maxLen at hcm; omega, (fun e => by cases e), ?_⟩
    · intro hpos
      have hpos' : 0 < len := by simpa using hpos
      have h0 := (hall 0 (by omega)).1
      have ea : a.add (0 * 2) = a := by unfold Addr.add; simp
      rw [ea] at h0
      have ha := plain_of_cell h0
      refine ⟨a.block, a.off, by rw [← ha], fun j v hj => ?_⟩
      have hjl : j < len * 2 := by
        have h1 := (List.getElem?_eq_some_iff.1 hj).1
        rw [cellsE_length] at h1
        simpa using h1
      have hi : j / 2 < len := by omega
      have hc := cellsE_at ((List.range len).map fun i => (numV (V0 i), numV (V1 i))) (j / 2) (by simpa using hi)
      obtain ⟨q0, q1, -, -⟩ := hall (j / 2) (by omega)
      obtain ⟨n0, n1, -, -⟩ := hel (j / 2) hi
      rw [ha, add_plain] at q0 q1
      simp only [List.getElem_map, List.getElem_range] at hc
      rcases Nat.mod_two_eq_zero_or_one j with hz | hz
      · have ej : j / 2 * 2 = j := by omega
        rw [ej] at hc q0
        have := hc.1.symm.trans hj
        injection this with this
        rw [← this, ← n0]
        exact q0
      · have ej : j / 2 * 2 + 1 = j := by omega
        rw [ej] at hc q1
        have := hc.2.symm.trans hj
        injection this with this
        rw [← this, ← n1]
        exact q1
    · intro e he
      simp only [List.mem_map, List.mem_range] at he
      obtain ⟨i, hi, rfl⟩ := he
      exact ⟨(hel i hi).2.2.1, (hel i hi).2.2.2⟩
end

end Go.Proofs.YtlmokendajgbdaaGreatDoor
namespace Go.Proofs.YtlmokendajgbdaaGreatDoor
open Go.ChangeShapes Go.WideShapes Go.ChangeAt Go.RowKit Go.Deep Go.Joins

theorem flat_plain {w : World} {a : Addr} {v : Value} (h : w.cell? a = some v) : a = ⟨a.block, a.off, none⟩ := by
  obtain ⟨b, o, s⟩ := a
  cases s with
  | none => rfl
  | some x =>
    unfold World.cell? at h
    split at h
    · simp at h
    · cases h
theorem flat_add (b o j : Nat) : (⟨b, o, none⟩ : Addr).add j = ⟨b, o + j, none⟩ := by
  unfold Addr.add; split <;> simp_all

/-- The slice at A has n elements, of k cells each: V i those of the i-th. -/
def FlatRow (w : World) (A : Option Addr) (n k : Nat) (V : Nat → List Value) : Prop :=
  0 < n → ∃ b o, A = some ⟨b, o, none⟩ ∧ ∀ i, i < n → (V i).length = k ∧ ∀ j v, (V i)[j]? = some v → w.cell? ⟨b, o + i * k + j, none⟩ = some v

section
variable {H : Type} {enc : TypeId × Value → H} {P : Program} {w : World} {base : Nat} {held : Bool}
theorem open_flat {r : Reach} {b0 : Nat} {t e : TypeId} {v : Value} {d : DataW H} {p : List MemPlace} (k : Nat) (hk : 0 < k) (ht : P.underlying t = some (.slice e)) (ce : P.cellsOf e = k) (Good : List Value → Prop)
    (hg : ∀ (fuel : Nat) (cs : List Value) (x : DataW H × List MemPlace), cs.length = k → DataW.trod enc P w base (fun _ => true) held fuel e cs = some x → Good cs)
    (hv : Value.okWide P w r b0 t v) (h : DataW.Trod enc P w base (fun _ => true) held t v d p) :
    ∃ (A : Option Addr) (n c : Nat) (V : Nat → List Value), v = .slice A n c ∧ FlatRow w A n k V ∧ n ≤ c ∧ c ≤ 9223372036854775807 ∧ (A = none → c = 0) ∧ ∀ i, i < n → Good (V i) := by
  obtain ⟨fuel, hf⟩ := h
  obtain ⟨a0, l0, c0, rfl⟩ := okWide_slice ht hv
  rcases open_slice ht hf with ⟨hcs, -⟩ | ⟨a, len, cap, m, n, D, Pl, hcs, -, hlc, hcm, hm, -, hall⟩
  · have e1 : Value.slice a0 l0 c0 = .slice none 0 0 := by simpa [Value.cells] using hcs
    rw [e1]
    exact ⟨none, 0, 0, fun _ => [], rfl, fun h => by omega, Nat.le_refl _, by omega, fun _ => rfl, fun i hi => by omega⟩
  · have e1 : Value.slice a0 l0 c0 = .slice (some a) len cap := by simpa [Value.cells] using hcs
    rw [e1]
    have hlm : len ≤ m := by rw [hm]; simp; exact hlc
    have each : ∀ i, i < len → ∃ cs, cs.length = k ∧ Good cs ∧ ∀ j, j < k → w.cell? ((a.add (i * k)).add j) = cs[j]? := by
      intro i hi
      obtain ⟨cs, h1, h2⟩ := hall i (by omega)
      rw [ce] at h1
      obtain ⟨-, hl, hc⟩ := World.cells?_some h1
      exact ⟨cs, hl, hg _ _ _ hl h2, hc⟩
    obtain ⟨V, hV⟩ := choose_lt each
    refine ⟨some a, len, cap, V, rfl, fun hpos => ?_, hlc, by unfold maxLen at hcm; omega, (fun e => by cases e), fun i hi => (hV i hi).2.1⟩
    obtain ⟨l0, -, c0⟩ := hV 0 hpos
    have q0 := c0 0 hk
    rw [List.getElem?_eq_getElem (by omega)] at q0
    have ea : (a.add (0 * k)).add 0 = a := by unfold Addr.add; simp
    rw [ea] at q0
    have ha := flat_plain q0
    refine ⟨a.block, a.off, by rw [← ha], fun i hi => ⟨(hV i hi).1, fun j v hj => ?_⟩⟩
    have hjk : j < k := by
      have := (List.getElem?_eq_some_iff.1 hj).1
      have := (hV i hi).1
      omega
    have := (hV i hi).2.2 j hjk
    rw [ha, flat_add, flat_add, hj] at this
    exact this
end

end Go.Proofs.YtlmokendajgbdaaGreatDoor
