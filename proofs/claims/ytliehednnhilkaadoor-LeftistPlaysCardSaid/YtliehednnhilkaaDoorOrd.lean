/-
  Plain facts, of no program: pairs of numbers in order: the order as a strict weak order; all of a row in order, and that a row in order with the same elements is that. No conditions.
-/
import Derived.Test.YtliehednnhilkaaDoorPlain
import Derived.Sort.Statements
namespace Go.Proofs.YtliehednnhilkaaDoor
open Go.Sort Go.RowKit

/-- Ahead, of pairs. -/
def ltE (x y : Int × Int) : Bool := ltI x.1 x.2 y.1 y.2
def cmpE (x y : Int × Int) : Int := cmpI x.1 x.2 y.1 y.2
theorem ltE_iff (x y : Int × Int) : ltE x y = true ↔ (x.1 < y.1 ∨ (x.1 = y.1 ∧ x.2 < y.2)) := ltI_iff _ _ _ _
theorem ltE_not (x y : Int × Int) : ltE x y = false ↔ (y.1 < x.1 ∨ (x.1 = y.1 ∧ y.2 ≤ x.2)) := ltI_not _ _ _ _
theorem swoE : SWO ltE where
  irrefl x := by rw [ltE_not]; omega
  trans x y z h1 h2 := by rw [ltE_iff] at *; omega
  ntrans x y z h1 h2 := by rw [ltE_not] at *; omega
theorem ltE_total (x y : Int × Int) (h1 : ltE x y = false) (h2 : ltE y x = false) : x = y := by
  rw [ltE_not] at h1 h2
  apply Prod.ext <;> omega

/-- All of a row in order. -/
def srt (xs : List (Int × Int)) : List (Int × Int) := xs.mergeSort fun x y => !ltE y x

/-- A row in order that has the same elements is the sorted one. -/
theorem srt_eq (xs ys : List (Int × Int)) (hp : ys.Perm xs) (hs : ys.Pairwise fun x y => (!ltE y x) = true) : srt xs = ys := by
  unfold srt
  have ht : ∀ a b c : Int × Int, (!ltE b a) = true → (!ltE c b) = true → (!ltE c a) = true := by
    intro a b c h1 h2
    simp only [Bool.not_eq_true'] at *
    exact swoE.ntrans c b a h2 h1
  have hT : ∀ a b : Int × Int, ((!ltE b a) || (!ltE a b)) = true := by
    intro a b
    cases h : ltE b a with
    | false => simp
    | true =>
      have : ltE a b = false := by rw [ltE_not]; rw [ltE_iff] at h; omega
      simp [this]
  refine List.Perm.eq_of_pairwise (le := fun x y => (!ltE y x) = true) ?_ (List.pairwise_mergeSort ht hT xs) hs ((List.mergeSort_perm _ _).trans hp.symm)
  intro a b _ _ h1 h2
  simp only [Bool.not_eq_true'] at h1 h2
  exact ltE_total a b h2 h1

end Go.Proofs.YtliehednnhilkaaDoor
