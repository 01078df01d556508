/-
  Plain facts, of no program: elements put one by one where they belong are all of them in order. No conditions.
-/
import Derived.Test.YtliehednnhilkaaDoorOrd
namespace Go.Proofs.YtliehednnhilkaaDoor
open Go.Sort Go.RowKit

/-- How many elements at a row's front stand ahead of x. -/
def aheadOf (l : List (Int × Int)) (x : Int × Int) : Nat := (l.takeWhile fun e => ltE e x).length
/-- A row with x where it belongs. -/
def putL (l : List (Int × Int)) (x : Int × Int) : List (Int × Int) := l.take (aheadOf l x) ++ x :: l.drop (aheadOf l x)

theorem aheadOf_le (l : List (Int × Int)) (x : Int × Int) : aheadOf l x ≤ l.length := by
  unfold aheadOf
  induction l with
  | nil => simp
  | cons y r ih =>
    rw [List.takeWhile_cons]
    split
    · simp only [List.length_cons]; omega
    · simp
/-- Where the search stops. -/
theorem aheadOf_eq (l : List (Int × Int)) (x : Int × Int) (k : Nat) (h1 : ∀ j (h : j < l.length), j < k → ltE l[j] x = true) (hk : k ≤ l.length) (h2 : ∀ h : k < l.length, ltE l[k] x = false) : aheadOf l x = k := by
  unfold aheadOf
  induction l generalizing k with
  | nil => simp at hk; simp [hk]
  | cons y r ih =>
    cases k with
    | zero =>
      have := h2 (by simp)
      rw [List.takeWhile_cons]
      simp at this
      simp [this]
    | succ k =>
      have h0 := h1 0 (by simp) (by omega)
      simp at h0
      rw [List.takeWhile_cons, h0]
      simp only [if_true, List.length_cons]
      rw [ih k (fun j h hj => by have := h1 (j + 1) (by simpa using h) (by omega); simpa using this) (by simpa using hk) (fun h => by have := h2 (by simpa using h); simpa using this)]

theorem putL_perm (l : List (Int × Int)) (x : Int × Int) : (putL l x).Perm (x :: l) := by
  unfold putL
  refine List.perm_middle.trans ?_
  rw [List.take_append_drop]

/-- In order: none stands ahead of one before it. -/
def ordered (l : List (Int × Int)) : Prop := l.Pairwise fun x y => (!ltE y x) = true

theorem putL_ordered (l : List (Int × Int)) (x : Int × Int) (h : ordered l) : ordered (putL l x) := by
  unfold ordered putL aheadOf at *
  induction l with
  | nil => simp
  | cons y r ih =>
    rw [List.pairwise_cons] at h
    rw [List.takeWhile_cons]
    cases hy : ltE y x with
    | true =>
      simp only [if_true, List.length_cons, List.take_succ_cons, List.drop_succ_cons, List.cons_append]
      rw [List.pairwise_cons]
      refine ⟨fun e he => ?_, ih h.2⟩
      have hm : e ∈ x :: r := (putL_perm r x).subset he
      rcases List.mem_cons.1 hm with rfl | hm
      · have : ltE e y = false := by rw [ltE_not]; rw [ltE_iff] at hy; omega
        simp [this]
      · exact h.1 e hm
    | false =>
      simp only [Bool.false_eq_true, if_false, List.length_nil, List.take_zero, List.drop_zero, List.nil_append]
      rw [List.pairwise_cons]
      refine ⟨fun e he => ?_, List.pairwise_cons.2 h⟩
      rcases List.mem_cons.1 he with rfl | he
      · simp [hy]
      · have h1 := h.1 e he
        simp only [Bool.not_eq_true'] at h1 ⊢
        rw [ltE_not] at *; omega

/-- All of the first k, put one by one. -/
def sortTo (l : List (Int × Int)) (k : Nat) : List (Int × Int) := (l.take k).foldl putL []
theorem sortTo_succ (l : List (Int × Int)) (k : Nat) (h : k < l.length) : sortTo l (k + 1) = putL (sortTo l k) l[k] := by
  unfold sortTo
  rw [List.take_succ_eq_append_getElem h, List.foldl_append]
  rfl
theorem fold_spec (l acc : List (Int × Int)) (h : ordered acc) : ordered (l.foldl putL acc) ∧ (l.foldl putL acc).Perm (l ++ acc) := by
  induction l generalizing acc with
  | nil => exact ⟨h, List.Perm.refl _⟩
  | cons x r ih =>
    obtain ⟨h1, h2⟩ := ih (putL acc x) (putL_ordered acc x h)
    refine ⟨h1, h2.trans ?_⟩
    refine ((putL_perm acc x).append_left r).trans ?_
    simp
theorem sortTo_end (l : List (Int × Int)) : sortTo l l.length = srt l := by
  unfold sortTo
  rw [List.take_length]
  obtain ⟨h1, h2⟩ := fold_spec l [] (by unfold ordered; simp)
  exact (srt_eq l _ (by simpa using h2) h1).symm
theorem sortTo_length (l : List (Int × Int)) (k : Nat) (h : k ≤ l.length) : (sortTo l k).length = k := by
  have := (fold_spec (l.take k) [] (by unfold ordered; simp)).2.length_eq
  unfold sortTo
  rw [this]
  simp [h]
theorem putL_length (l : List (Int × Int)) (x : Int × Int) : (putL l x).length = l.length + 1 := by
  have := (putL_perm l x).length_eq
  simpa using this

end Go.Proofs.YtliehednnhilkaaDoor
