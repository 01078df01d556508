/-
  The walk of the statement ElemLeast: for any two rows of elements it returns true, and nothing that was there has changed, in any world where the library's own variables hold what they were laid as.
-/
import Derived.Test.YtcbfnghkbopkfaaDoorAwake
import Derived.Test.YtcbfnghkbopkfaaDoorAppend
import Derived.Test.YtcbfnghkbopkfaaDoorTotal
namespace Go.Proofs.YtcbfnghkbopkfaaDoor
open Go.Sort Go.RowKit

/-- The least of a row; of none the zero element. -/
def minOf : List (Int × Int) → Int × Int
  | [] => (0, 0)
  | x :: xs => leastFrom x xs

theorem leastFrom_spec (x : Int × Int) (xs : List (Int × Int)) : leastFrom x xs ∈ x :: xs ∧ ∀ e ∈ x :: xs, ltE e (leastFrom x xs) = false := by
  induction xs generalizing x with
  | nil => exact ⟨by simp [leastFrom], fun e he => by simp [leastFrom] at he ⊢; rw [he]; exact swoE.irrefl x⟩
  | cons y ys ih =>
    have e : leastFrom x (y :: ys) = leastFrom (if ltE y x then y else x) ys := rfl
    rw [e]
    have h := ih (if ltE y x then y else x)
    generalize leastFrom (if ltE y x then y else x) ys = m at h
    obtain ⟨h1, h2⟩ := h
    have hm := h2 (if ltE y x then y else x) (by simp)
    have hx : ltE x m = false ∧ ltE y m = false := by
      cases hl : ltE y x with
      | true =>
        rw [hl] at hm
        simp only [if_true] at hm
        refine ⟨?_, hm⟩
        rw [ltE_not] at *; rw [ltE_iff] at hl; omega
      | false =>
        rw [hl] at hm
        simp only [Bool.false_eq_true, if_false] at hm
        refine ⟨hm, ?_⟩
        rw [ltE_not] at *; omega
    refine ⟨?_, fun e he => ?_⟩
    · rcases List.mem_cons.1 h1 with h | h
      · rw [h]; split <;> simp
      · simp [h]
    · rcases List.mem_cons.1 he with rfl | he
      · exact hx.1
      · rcases List.mem_cons.1 he with rfl | he
        · exact hx.2
        · exact h2 e (by simp [he])
theorem minOf_mem {l : List (Int × Int)} (h : l ≠ []) : minOf l ∈ l := by
  cases l with
  | nil => exact absurd rfl h
  | cons x xs => exact (leastFrom_spec x xs).1
theorem minOf_le {l : List (Int × Int)} : ∀ e ∈ l, ltE e (minOf l) = false := by
  cases l with
  | nil => intro e he; simp at he
  | cons x xs => exact (leastFrom_spec x xs).2
theorem minOf_eq {l : List (Int × Int)} {m : Int × Int} (h1 : m ∈ l) (h2 : ∀ e ∈ l, ltE e m = false) : minOf l = m :=
  have hne : l ≠ [] := fun e => by rw [e] at h1; simp at h1
  ltE_total _ _ (h2 _ (minOf_mem hne)) (minOf_le _ h1)
/-- Of two rows together the least one is the lesser of both. -/
theorem minOf_append {a b : List (Int × Int)} (ha : a ≠ []) (hb : b ≠ []) : minOf (a ++ b) = if ltE (minOf b) (minOf a) then minOf b else minOf a := by
  have h1 := minOf_mem ha
  have h2 := minOf_mem hb
  have h3 := @minOf_le a
  have h4 := @minOf_le b
  generalize minOf a = x at *
  generalize minOf b = y at *
  cases hl : ltE y x with
  | true =>
    rw [if_pos rfl]
    refine minOf_eq (by simp [h2]) fun e he => ?_
    rcases List.mem_append.1 he with he | he
    · have := h3 e he; rw [ltE_not] at *; rw [ltE_iff] at hl; omega
    · exact h4 e he
  | false =>
    rw [if_neg (by simp)]
    refine minOf_eq (by simp [h1]) fun e he => ?_
    rcases List.mem_append.1 he with he | he
    · exact h3 e he
    · have := h4 e he; rw [ltE_not] at *; omega
theorem leastV_eq (l : List (Int × Int)) : leastV l = .tuple #[.agg #[.int .i64 (minOf l).1, .int .i64 (minOf l).2], .bool (decide (0 < l.length))] := by
  cases l <;> simp [leastV, minOf]

/-- Has the least one been met among the first k? -/
def metB (l : List (Int × Int)) (z : Int × Int) (k : Nat) : Bool := decide (l.length = 0) || (l.take k).any fun e => decide (e = z)
theorem metB_succ (l : List (Int × Int)) (z : Int × Int) (k : Nat) (h : k < l.length) : metB l z (k + 1) = (metB l z k || decide (l[k] = z)) := by
  unfold metB
  rw [List.take_succ_eq_append_getElem h, List.any_append]
  simp [Bool.or_assoc]
theorem metB_end (l : List (Int × Int)) (z : Int × Int) (h : l ≠ [] → z ∈ l) : metB l z l.length = true := by
  unfold metB
  rw [List.take_length]
  by_cases h0 : l = []
  · simp [h0]
  · have := h h0
    simp [this]

end Go.Proofs.YtcbfnghkbopkfaaDoor
