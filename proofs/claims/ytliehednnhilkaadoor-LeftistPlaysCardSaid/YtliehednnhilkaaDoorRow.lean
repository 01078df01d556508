/-
  Rows of elements in memory: a slice that reads as a list of pairs of numbers; that it stays where nothing below has changed; the built-in copy over such a row. No conditions beyond what each theorem says.
-/
import Derived.Test.YtliehednnhilkaaDoorOrd
import Derived.Test.YtliehednnhilkaaDoorMem
import Derived.Laws.CopyRow
import Derived.Laws.Rows
import Derived.Laws.MakeOwn
namespace Go.Proofs.YtliehednnhilkaaDoor
open Go.Sort Go.RowKit

/-- An element's two cells. -/
def encE (x : Int × Int) : List Value := [.int .i64 x.1, .int .i64 x.2]
/-- A row's cells. -/
def cellsE (xs : List (Int × Int)) : List Value := xs.flatMap encE

theorem cellsE_length (xs : List (Int × Int)) : (cellsE xs).length = xs.length * 2 := by
  induction xs with
  | nil => rfl
  | cons x r ih => simp only [cellsE, List.flatMap_cons, List.length_append, List.length_cons] at *; rw [ih]; simp [encE]; omega
theorem cellsE_append (xs ys : List (Int × Int)) : cellsE (xs ++ ys) = cellsE xs ++ cellsE ys := by simp [cellsE]
theorem cellsE_at : ∀ (xs : List (Int × Int)) (i : Nat) (h : i < xs.length), (cellsE xs)[i * 2]? = some (.int .i64 xs[i].1) ∧ (cellsE xs)[i * 2 + 1]? = some (.int .i64 xs[i].2)
  | [], i, h => by simp at h
  | x :: r, 0, _ => by simp [cellsE, encE]
  | x :: r, i + 1, h => by
    have ih := cellsE_at r i (by simpa using h)
    have e : cellsE (x :: r) = .int .i64 x.1 :: .int .i64 x.2 :: cellsE r := rfl
    rw [e, show (i + 1) * 2 = i * 2 + 1 + 1 by omega, show i * 2 + 1 + 1 + 1 = (i * 2 + 1) + 1 + 1 by omega]
    simpa using ih
theorem cellsE_one (xs : List (Int × Int)) : ∀ v ∈ cellsE xs, v.oneCell' = true := by
  intro v hv
  simp only [cellsE, List.mem_flatMap, encE] at hv
  obtain ⟨x, _, hx⟩ := hv
  simp at hx
  rcases hx with rfl | rfl <;> rfl

/-- The slice at A reads as xs. -/
def Row (w : World) (A : Option Addr) (xs : List (Int × Int)) : Prop :=
  0 < xs.length → ∃ b o, A = some ⟨b, o, none⟩ ∧ ∀ j v, (cellsE xs)[j]? = some v → w.cell? ⟨b, o + j, none⟩ = some v

theorem Row.below {w w' : World} {A : Option Addr} {xs : List (Int × Int)} (h : Row w A xs) (hb : Below w.heap.size w w') : Row w' A xs := fun hn => by
  obtain ⟨b, o, e, hc⟩ := h hn
  exact ⟨b, o, e, fun j v hv => by have := hc j v hv; rw [hb.cell (block_lt_of_cell this)]; exact this⟩
theorem Row.nil (w : World) (A : Option Addr) : Row w A [] := fun h => by simp at h
/-- One element's two cells. -/
theorem row_at {w : World} {b o : Nat} {xs : List (Int × Int)} (hc : ∀ j v, (cellsE xs)[j]? = some v → w.cell? ⟨b, o + j, none⟩ = some v) (i : Nat) (h : i < xs.length) :
    w.cell? ⟨b, o + i * 2, none⟩ = some (.int .i64 xs[i].1) ∧ w.cell? ⟨b, o + i * 2 + 1, none⟩ = some (.int .i64 xs[i].2) := by
  have e := cellsE_at xs i h
  exact ⟨hc _ _ e.1, hc _ _ e.2⟩

theorem add_plain (b o j : Nat) : (⟨b, o, none⟩ : Addr).add j = ⟨b, o + j, none⟩ := by
  unfold Addr.add; split <;> simp_all

/-- copy over a row of the same length, elements of k cells. -/
theorem run_copy_all {P : Program} (w : World) (dT sT ty elem : TypeId) (g n k c1 c2 : Nat) (A : Option Addr) (cur : Array Value) (t : TypeId) (cs : List Value)
    (hu : P.underlying dT = some (.slice elem)) (hs : (P.info? elem).map (·.size) = some k) (hg : w.heap[g]? = some (.cells cur t (0, 0))) (hl : cs.length = n * k) (hcur : cur.size = n * k)
    (hsrc : 0 < n → ∃ b o, A = some ⟨b, o, none⟩ ∧ ∀ j v, cs[j]? = some v → w.cell? ⟨b, o + j, none⟩ = some v) (h1 : ∀ v ∈ cs, v.oneCell' = true) :
    (Builtin.copy_ #[dT, sT] ty #[.slice (some ⟨g, 0, none⟩) n c1, .slice A n c2]).run P w = .ok (goInt n) (w.setRow g cs.toArray) := by
  cases hq : P.info? elem with
  | none => simp [hq] at hs
  | some i =>
    have hi : i.size = k := by simpa [hq] using hs
    have hst := run_storeCells_at P g 0 t cs 0 cur w hg (by omega) h1
    have e1 : (cur.toList.take (0 + 0) ++ cs ++ cur.toList.drop (0 + 0 + cs.length)).toArray = cs.toArray := by
      rw [List.drop_of_length_le (by rw [Array.length_toList]; omega)]; simp
    rw [e1] at hst
    by_cases h0 : n = 0
    · subst h0
      obtain rfl : cs = [] := List.eq_nil_of_length_eq_zero (by omega)
      have hcur0 : cur = #[] := Array.eq_empty_of_size_eq_zero (by omega)
      subst hcur0
      have hself := setRow_self w g #[] t (0, 0) hg
      cases A with
      | none => simp [Builtin.copy_, run_underlying hu, Builtin.lenOf, Builtin.firstCells, sizeOf, typeInfo, hq, storeCells]; exact hself.symm
      | some a => simp [Builtin.copy_, run_underlying hu, Builtin.lenOf, Builtin.firstCells, sizeOf, typeInfo, hq, loadCells, loadCellsFrom, storeCells]; exact hself.symm
    · obtain ⟨b, o, rfl, hc⟩ := hsrc (by omega)
      have hld := run_loadCells_list (P := P) w ⟨b, o, none⟩ cs (fun j v hv => by rw [add_plain]; exact hc j v hv)
      rw [hl] at hld
      simp [Builtin.copy_, run_underlying hu, Builtin.lenOf, Builtin.firstCells, sizeOf, typeInfo, hq, hi, hld, hst]

/-- A row that was just laid. -/
theorem row_new (w : World) (xs : List (Int × Int)) (t : TypeId) : Row (w.alloc (.cells (cellsE xs).toArray t)) (some ⟨w.heap.size, 0, none⟩) xs := fun _ =>
  ⟨w.heap.size, 0, rfl, fun j v hv => by
    have e : (w.alloc (.cells (cellsE xs).toArray t)).heap[w.heap.size]? = some (.cells (cellsE xs).toArray t (0, 0)) := heap_alloc_new w _
    rw [Nat.zero_add, cell_of_row _ _ j _ _ _ e]
    simpa using hv⟩

end Go.Proofs.YtliehednnhilkaaDoor
