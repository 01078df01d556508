/-
  Plain facts, of no program: a row turned by some places has the same elements; sorted once more a row is the same; how often an element is there. No conditions beyond what each theorem says.
-/
import Derived.Test.YtcbfnghkbopkfaaDoorOrder
namespace Go.Proofs.YtcbfnghkbopkfaaDoor
open Go.Sort Go.RowKit

/-- The first k of a row turned by y places. -/
def rotTo (l : List (Int × Int)) (y k : Nat) : List (Int × Int) := (List.range k).map fun i => l.getD ((i + y) % l.length) (0, 0)

theorem rotTo_length (l : List (Int × Int)) (y k : Nat) : (rotTo l y k).length = k := by simp [rotTo]
theorem rotTo_succ (l : List (Int × Int)) (y k : Nat) (h : (k + y) % l.length < l.length) : rotTo l y (k + 1) = rotTo l y k ++ [l[(k + y) % l.length]] := by
  unfold rotTo
  rw [List.range_succ, List.map_append]
  simp [List.getD, List.getElem?_eq_getElem h]

theorem rot_eq (l : List (Int × Int)) (y : Nat) : rotTo l y l.length = l.drop (y % l.length) ++ l.take (y % l.length) := by
  by_cases h0 : l.length = 0
  · have e : l = [] := List.eq_nil_of_length_eq_zero h0
    subst e
    simp [rotTo]
  · have hr : y % l.length < l.length := Nat.mod_lt _ (by omega)
    apply List.ext_getElem
    · rw [rotTo_length, List.length_append, List.length_drop, List.length_take]; omega
    · intro i h1 h2
      rw [rotTo_length] at h1
      have hm : (i + y) % l.length = (i + y % l.length) % l.length := by simp
      have hlt : (i + y) % l.length < l.length := Nat.mod_lt _ (by omega)
      have hg : (rotTo l y l.length)[i]'(by rw [rotTo_length]; exact h1) = l[(i + y) % l.length] := by
        unfold rotTo
        simp [List.getD, List.getElem?_eq_getElem hlt]
      rw [hg]
      by_cases hi : i < l.length - y % l.length
      · rw [List.getElem_append_left (by rw [List.length_drop]; exact hi), List.getElem_drop]
        congr 1
        rw [hm, Nat.mod_eq_of_lt (by omega)]
        omega
      · rw [List.getElem_append_right (by rw [List.length_drop]; omega), List.getElem_take]
        congr 1
        rw [hm, List.length_drop]
        have e : i + y % l.length = (i + y % l.length - l.length) + l.length := by omega
        rw [e, Nat.add_mod_right, Nat.mod_eq_of_lt (by omega)]
        omega
theorem rot_perm (l : List (Int × Int)) (y : Nat) : (rotTo l y l.length).Perm l := by
  rw [rot_eq]
  refine List.perm_append_comm.trans ?_
  rw [List.take_append_drop]

theorem srt_of_perm {a b : List (Int × Int)} (h : a.Perm b) : srt a = srt b :=
  srt_eq a (srt b) ((srt_perm b).trans h.symm) (srt_ordered b)
theorem srt_srt (l : List (Int × Int)) : srt (srt l) = srt l := srt_of_perm (srt_perm l)

/-- Of two neighbours in a sorted row the later one doesn't stand ahead. -/
theorem srt_next (l : List (Int × Int)) (k : Nat) (h0 : 0 < k) (h : k < (srt l).length) : ltE (srt l)[k] (srt l)[k - 1] = false := by
  have ho := srt_ordered l
  unfold ordered at ho
  rw [List.pairwise_iff_getElem] at ho
  simpa using ho (k - 1) k (by omega) h (by omega)

/-- How much oftener e is among the first k of l than of s. -/
def diffTo (l s : List (Int × Int)) (e : Int × Int) (k : Nat) : Int := ((l.take k).count e : Int) - ((s.take k).count e : Int)
theorem diffTo_succ (l s : List (Int × Int)) (e : Int × Int) (k : Nat) (h1 : k < l.length) (h2 : k < s.length) :
    diffTo l s e (k + 1) = diffTo l s e k + (if l[k] = e then 1 else 0) - (if s[k] = e then 1 else 0) := by
  unfold diffTo
  rw [List.take_succ_eq_append_getElem h1, List.take_succ_eq_append_getElem h2, List.count_append, List.count_append, List.count_singleton, List.count_singleton]
  by_cases a : l[k] = e <;> by_cases b : s[k] = e <;> simp [a, b] <;> omega
theorem diffTo_bound (l s : List (Int × Int)) (e : Int × Int) (k : Nat) : -(k : Int) ≤ diffTo l s e k ∧ diffTo l s e k ≤ k := by
  unfold diffTo
  have h1 : (l.take k).count e ≤ k := Nat.le_trans List.count_le_length (by rw [List.length_take]; omega)
  have h2 : (s.take k).count e ≤ k := Nat.le_trans List.count_le_length (by rw [List.length_take]; omega)
  omega
theorem diffTo_end (l : List (Int × Int)) (e : Int × Int) (k : Nat) (h : k = l.length) : diffTo l (srt l) e k = 0 := by
  unfold diffTo
  rw [h, List.take_length, List.take_of_length_le (by rw [srt_length]; exact Nat.le_refl _), (srt_perm l).count_eq e]
  omega

end Go.Proofs.YtcbfnghkbopkfaaDoor
