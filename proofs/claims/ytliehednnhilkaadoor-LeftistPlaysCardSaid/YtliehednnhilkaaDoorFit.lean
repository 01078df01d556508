/-
  Plain facts, of no program: elements of two 64-bit numbers, how long their texts are; all of a row in order: of rows with the same elements, of a row with one more, of two rows' sum. No conditions.
-/
import Derived.Test.YtliehednnhilkaaDoorPutPlain
import Derived.Test.YtliehednnhilkaaDoorText0
namespace Go.Proofs.YtliehednnhilkaaDoor
open Go.Sort Go.RowKit

/-- All things are pairs of 64-bit numbers. -/
def fits (l : List (Int × Int)) : Prop := ∀ e ∈ l, in64 e.1 ∧ in64 e.2
theorem fits.append {a b : List (Int × Int)} (h : fits (a ++ b)) : fits a ∧ fits b := ⟨fun e he => h e (by simp [he]), fun e he => h e (by simp [he])⟩
theorem fits.join {a b : List (Int × Int)} (h : fits a) (k : fits b) : fits (a ++ b) := fun e he => by rcases List.mem_append.1 he with he | he; exact h e he; exact k e he
theorem fits.cons {x : Int × Int} {b : List (Int × Int)} (h : fits (x :: b)) : (in64 x.1 ∧ in64 x.2) ∧ fits b := ⟨h x (by simp), fun e he => h e (by simp [he])⟩
theorem fits.more {x : Int × Int} {b : List (Int × Int)} (h : in64 x.1 ∧ in64 x.2) (k : fits b) : fits (x :: b) := fun e he => by rcases List.mem_cons.1 he with rfl | he; exact h; exact k e he
theorem fits.perm {a b : List (Int × Int)} (h : fits a) (p : a.Perm b) : fits b := fun e he => h e (p.symm.subset he)
theorem fits.nil : fits [] := fun _ h => by cases h
theorem textOf_length (p q : Int) (hp : in64 p) (hq : in64 q) : (textOf p q).length ≤ 43 := by
  have h1 := Lib.itoa_length_le p hp.1 hp.2
  have h2 := Lib.itoa_length_le q hq.1 hq.2
  simp only [textOf, List.length_append, List.length_cons]
  omega
theorem textE_any (x : Int × Int) (h : in64 x.1 ∧ in64 x.2) (w : World) (he : Env w) : Calls Tryd.prog 52 #[.agg #[.int .i64 x.1, .int .i64 x.2]] w fun e w' => e = .returned (.string ⟨(textOf x.1 x.2).toArray⟩) ∧ Below w.heap.size w w' := text_any x.1 x.2 h.1 h.2 w he

theorem srt_spec (xs : List (Int × Int)) : ordered (srt xs) ∧ (srt xs).Perm xs := by
  obtain ⟨h1, h2⟩ := fold_spec xs [] (by unfold ordered; simp)
  have h3 : (xs.foldl putL []).Perm xs := by simpa using h2
  rw [srt_eq xs _ h3 h1]
  exact ⟨h1, h3⟩
theorem srt_length (xs : List (Int × Int)) : (srt xs).length = xs.length := (srt_spec xs).2.length_eq
theorem srt_perm {xs ys : List (Int × Int)} (h : xs.Perm ys) : srt xs = srt ys := srt_eq xs _ ((srt_spec ys).2.trans h.symm) (srt_spec ys).1
theorem srt_srt (xs : List (Int × Int)) : srt (srt xs) = srt xs := srt_perm (srt_spec xs).2
theorem srt_ordered {xs : List (Int × Int)} (h : ordered xs) : srt xs = xs := srt_eq xs xs (List.Perm.refl _) h
theorem srt_nil : srt [] = [] := srt_ordered (by unfold ordered; simp)
theorem putL_srt (xs : List (Int × Int)) (x : Int × Int) : putL (srt xs) x = srt (x :: xs) :=
  (srt_eq _ _ ((putL_perm _ _).trans ((srt_spec xs).2.cons x)) (putL_ordered _ _ (srt_spec xs).1)).symm
/-- The least one, and the others. -/
theorem srt_cons {x : Int × Int} {xs : List (Int × Int)} (h : ∀ e ∈ xs, ltE e x = false) : srt (x :: xs) = x :: srt xs := by
  refine srt_eq _ _ ((srt_spec xs).2.cons x) ?_
  rw [List.pairwise_cons]
  exact ⟨fun e he => by rw [h e ((srt_spec xs).2.subset he)]; rfl, (srt_spec xs).1⟩
theorem srt_mem {e : Int × Int} {xs : List (Int × Int)} : e ∈ srt xs ↔ e ∈ xs := (srt_spec xs).2.mem_iff
/-- The sum of two rows in order. -/
theorem sum_srt (xs ys : List (Int × Int)) : (srt ys).foldl putL (srt xs) = srt (xs ++ ys) := by
  obtain ⟨h1, h2⟩ := fold_spec (srt ys) (srt xs) (srt_spec xs).1
  refine (srt_eq _ _ (h2.trans ?_) h1).symm
  exact ((srt_spec ys).2.append (srt_spec xs).2).trans List.perm_append_comm

end Go.Proofs.YtliehednnhilkaaDoor
