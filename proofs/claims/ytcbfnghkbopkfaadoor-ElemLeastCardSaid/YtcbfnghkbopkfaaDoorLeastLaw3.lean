/-
  The statement ElemLeast's call: for any two rows of elements it returns true, and nothing that was there has changed, in any world where the library's own variables hold what they were laid as.
-/
import Derived.Test.YtcbfnghkbopkfaaDoorLeastLaw2
namespace Go.Proofs.YtcbfnghkbopkfaaDoor
open Go.Sort Go.RowKit

theorem leastLaw_any (A B : Option Addr) (a b : List (Int × Int)) (ca cb : Nat) (w : World) (he : Env w) (hA : Row w A a) (hB : Row w B b) (hA0 : A = none → ca = 0) (hB0 : B = none → cb = 0)
    (hca : a.length ≤ ca ∧ ca ≤ 9223372036854775807) (hcb : b.length ≤ cb ∧ cb ≤ 9223372036854775807) :
    Calls Tryd.prog 7 #[.slice A a.length ca, .slice B b.length cb] w fun e w' => e = .returned (.bool true) ∧ Below w.heap.size w w' := by
  by_cases h60 : 60 < a.length ∨ (a.length ≤ 60 ∧ 60 < b.length)
  · exact leastLaw_long A B _ _ ca cb w he h60 (by omega) (by omega)
  · have ha : a.length ≤ 60 := by omega
    have hb : b.length ≤ 60 := by omega
    have hl : (a ++ b).length = a.length + b.length := List.length_append
    by_cases h0 : (a ++ b).length = 0
    · have ea : a = [] := List.eq_nil_of_length_eq_zero (by omega)
      have eb : b = [] := List.eq_nil_of_length_eq_zero (by omega)
      subst ea
      subst eb
      exact leastLaw_none A B [] [] 0 0 0 ca cb false false false (0, 0) (0, 0) (0, 0) w he rfl rfl rfl (by omega) (by omega) hA hB hA0 hB0 hca hcb rfl rfl rfl (fun h => absurd rfl h) (by simp) ⟨rfl, rfl, rfl, rfl, rfl, rfl⟩
    · have hne : a ++ b ≠ [] := fun e => h0 (by rw [e]; rfl)
      refine leastLaw_core A B a b a.length b.length (a ++ b).length ca cb (decide (0 < a.length)) (decide (0 < b.length)) (decide (0 < (a ++ b).length)) (minOf a) (minOf b) (minOf (a ++ b)) w he rfl rfl rfl ha hb hA hB hA0 hB0 hca hcb (leastV_eq a) (leastV_eq b) (leastV_eq (a ++ b)) (fun h => minOf_mem h) (fun e h => minOf_le e h) (by omega) ?_ ?_
      · by_cases h1 : a.length = 0
        · exact Or.inl ⟨h1, by omega, by simp [h1], by simp; omega, by simp; omega⟩
        · by_cases h2 : b.length = 0
          · exact Or.inr (Or.inl ⟨by omega, h2, by simp; omega, by simp [h2], by simp; omega⟩)
          · exact Or.inr (Or.inr ⟨by omega, by omega, by simp; omega, by simp; omega, by simp; omega⟩)
      · intro h1 h2
        have h := minOf_append (a := a) (b := b) (fun e => by rw [e] at h1; simp at h1) (fun e => by rw [e] at h2; simp at h2)
        cases hl2 : ltE (minOf b) (minOf a) with
        | true => rw [hl2] at h; exact Or.inl ⟨hl2, by simpa using h⟩
        | false => rw [hl2] at h; exact Or.inr ⟨hl2, by simpa using h⟩

end Go.Proofs.YtcbfnghkbopkfaaDoor
