/-
  Plain facts on pairing heaps: how short right ways are, in bits; what is least with an element more. No conditions.
-/
import Derived.Test.YtpclafbolppgcaaDoorPd7
namespace Go.Proofs.YtpclafbolppgcaaDoor
open Go.Sort Go.RowKit

/-- With an element more the least one is that, if it stands ahead of the least one or there is none. -/
theorem min_first {t : Lh} {x : Int × Int} (h : t.min.2 = false ∨ ltE x t.min.1 = true) : (t.insert x).min = (x, true) := by
  cases t with
  | nil => show (meld (.one x) .nil).min = _; rw [meld_right]; rfl
  | node o ks =>
    have hx : ltE x o = true := by
      rcases h with h | h
      · cases h
      · exact h
    have hv : ltE o x = false := by rw [ltE_not]; rw [ltE_iff] at hx; omega
    show (meld (.node x .nil) (.node o ks)).min = _
    rw [meld_ge hv]; rfl
/-- .. else the least one. -/
theorem min_other {t : Lh} {x : Int × Int} (h1 : t.min.2 = true) (h2 : ltE x t.min.1 = false) : (t.insert x).min = (t.min.1, true) := by
  cases t with
  | nil => cases h1
  | node o ks =>
    have hx : ltE x o = false := h2
    show (meld (.node x .nil) (.node o ks)).min = (o, true)
    cases hv : ltE o x with
    | true =>
      rw [meld_lt hv]; rfl
    | false =>
      rw [meld_ge hv]
      have := ltE_total x o hx hv
      subst this
      rfl
theorem min_le {t : Lh} (h : t.ok) : ∀ e ∈ t.all, ltE e t.min.1 = false := by
  intro e he
  cases t with
  | nil => cases he
  | node x ks =>
    rcases List.mem_cons.1 he with rfl | he
    · exact swoE.irrefl _
    · exact h.1 e he
/-- What is left without the least one. -/
theorem left_first {t : Lh} (h : t.ok) {x : Int × Int} (hx : t.min.2 = false ∨ ltE x t.min.1 = true) : srt (t.insert x).pop.all = srt t.all := by
  rw [srt_pop (insert_ok x h), srt_insert, srt_cons]
  · rfl
  · intro e he
    cases t with
    | nil => cases he
    | node o ks =>
      rcases hx with hx | hx
      · cases hx
      · have h1 := min_le h e he
        rw [ltE_not] at h1 ⊢
        rw [ltE_iff] at hx
        omega
theorem left_other {t : Lh} (h : t.ok) {x : Int × Int} (h1 : t.min.2 = true) (h2 : ltE x t.min.1 = false) : srt (t.insert x).pop.all = putL (srt t.all).tail x := by
  rw [srt_pop (insert_ok x h), srt_insert]
  cases t with
  | nil => cases h1
  | node o ks =>
    have e1 : srt (x :: (Lh.node o ks).all) = o :: srt (x :: ks.all) := by
      rw [show srt (x :: (Lh.node o ks).all) = srt (o :: (x :: ks.all)) from srt_perm (List.Perm.swap _ _ _)]
      refine srt_cons (fun e he => ?_)
      rcases List.mem_cons.1 he with rfl | he
      · exact h2
      · exact h.1 e he
    have e2 : srt (Lh.node o ks).all = o :: srt ks.all := srt_cons h.1
    rw [e1, e2, List.tail_cons, List.tail_cons, putL_srt]

/-- A row that is not empty, and what is behind its first one. -/
theorem Rw.rest {W : World} {v : Value} {xs : List (Int × Int)} (h : Rw W v xs) (hx : xs ≠ []) : ∃ (b o c : Nat), v = .slice (some ⟨b, o, Option.none⟩) xs.length c ∧ xs.length ≤ c ∧ c ≤ 9223372036854775807 ∧
    ∀ W', Below W.heap.size W W' → Rw W' (.slice (some ⟨b, o, Option.none⟩) 0 0) [] ∧ Rw W' (.slice (some ⟨b, o + 1 * 2, Option.none⟩) (xs.length - 1) (c - 1)) xs.tail := by
  rcases h with ⟨-, rfl⟩ | ⟨b, o, c, cs, rfl, h1, h2, h3, h4⟩
  · exact absurd rfl hx
  · refine ⟨b, o, c, rfl, h1, h2, fun W' hb => ⟨.inr ⟨b, o, 0, cs, rfl, Nat.le_refl _, by omega, (hb.block b (lt_of_heap h3)).trans h3, fun j u hu => by simp [cellsE] at hu⟩, .inr ⟨b, o + 1 * 2, c - 1, cs, by rw [List.length_tail], by rw [List.length_tail]; omega, by omega, (hb.block b (lt_of_heap h3)).trans h3, fun j u hu => ?_⟩⟩⟩
    have e1 : xs.tail = xs.drop 1 := by cases xs <;> rfl
    rw [e1, cellsE_drop, List.getElem?_drop] at hu
    rw [Nat.add_assoc]
    exact h4 _ u hu

end Go.Proofs.YtpclafbolppgcaaDoor
