/-
  Plain facts on leftist heaps: how short right ways are, in bits; what is least with an element more. No conditions.
-/
import Derived.Test.YtliehednnhilkaaDoorLw
namespace Go.Proofs.YtliehednnhilkaaDoor
open Go.Sort Go.RowKit

theorem rank_bits {t : Lh} (h : t.lft) {q : Nat} (hq : t.size + 1 < 2 ^ (q + 1)) : t.rank ≤ q := by
  have h1 := rank_pow t h
  have h2 : 2 ^ t.rank < 2 ^ (q + 1) := Nat.lt_of_le_of_lt h1 hq
  have := (Nat.pow_lt_pow_iff_right (by decide : 1 < 2)).1 h2
  omega
theorem pop_bits {t : Lh} (h : t.lft) {q : Nat} (hq : t.size + 1 < 2 ^ (q + 1)) : t.popN ≤ 2 * q := by
  cases t with
  | nil => simp [Lh.popN]
  | node x l r =>
    simp only [Lh.size] at hq
    have h1 := rank_bits h.2.1 (q := q) (by omega)
    have h2 := rank_bits h.2.2 (q := q) (by omega)
    have h3 := meldN_le l r
    simp only [Lh.popN]
    omega
theorem half_step {N v q : Nat} (h : N < (v + 1) * 2 ^ q) : N < (v / 2 + 1) * 2 ^ (q + 1) := by
  have h1 : (v / 2 + 1) * 2 ^ (q + 1) = (2 * (v / 2) + 2) * 2 ^ q := by rw [Nat.pow_succ, Nat.mul_comm (2 ^ q) 2, ← Nat.mul_assoc]; congr 1; omega
  rw [h1]
  exact Nat.lt_of_lt_of_le h (Nat.mul_le_mul_right _ (by omega))
theorem half_end {N v q : Nat} (h : N < (v + 1) * 2 ^ q) (hv : v ≤ 1) : N < 2 ^ (q + 1) := by
  have h1 : 2 ^ (q + 1) = 2 * 2 ^ q := by rw [Nat.pow_succ, Nat.mul_comm]
  rw [h1]
  exact Nat.lt_of_lt_of_le h (Nat.mul_le_mul_right _ (by omega))
theorem some_pos (t : Lh) : t.some = decide (0 < t.size) := by
  cases t with
  | nil => rfl
  | node x l r => simp only [Lh.some, Lh.size]; exact (decide_eq_true (by omega)).symm
theorem min_two (t : Lh) : t.min.2 = decide (0 < t.size) := by rw [min_some, some_pos]
/-- With an element more the least one is that, if it stands ahead of the least one or there is none. -/
theorem min_first {t : Lh} {x : Int × Int} (h : t.min.2 = false ∨ ltE x t.min.1 = true) : (t.insert x).min = (x, true) := by
  cases t with
  | nil => show (meld (.one x) .nil).min = _; rw [meld_right]; rfl
  | node o l r =>
    have hx : ltE x o = true := by
      rcases h with h | h
      · cases h
      · exact h
    have hv : ltE o x = false := by rw [ltE_not]; rw [ltE_iff] at hx; omega
    show (meld (.node x .nil .nil) (.node o l r)).min = _
    rw [meld_ge hv]
    unfold mkH; split <;> rfl
/-- .. else the least one. -/
theorem min_other {t : Lh} {x : Int × Int} (h1 : t.min.2 = true) (h2 : ltE x t.min.1 = false) : (t.insert x).min = (t.min.1, true) := by
  cases t with
  | nil => cases h1
  | node o l r =>
    have hx : ltE x o = false := h2
    show (meld (.node x .nil .nil) (.node o l r)).min = (o, true)
    cases hv : ltE o x with
    | true =>
      rw [meld_lt hv]
      unfold mkH; split <;> rfl
    | false =>
      rw [meld_ge hv]
      have := ltE_total x o hx hv
      subst this
      unfold mkH; split <;> rfl
theorem min_le {t : Lh} (h : t.ok) : ∀ e ∈ t.all, ltE e t.min.1 = false := by
  intro e he
  cases t with
  | nil => cases he
  | node x l r =>
    rcases List.mem_cons.1 he with rfl | he
    · exact swoE.irrefl _
    · exact h.1 e he
/-- What is left without the least one. -/
theorem left_first {t : Lh} (h : t.ok) {x : Int × Int} (hx : t.min.2 = false ∨ ltE x t.min.1 = true) : srt (t.insert x).pop.all = srt t.all := by
  rw [srt_pop (insert_ok x h), srt_insert, srt_cons]
  · rfl
  · intro e he
    cases t with
    | nil => cases he
    | node o l r =>
      rcases hx with hx | hx
      · cases hx
      · have h1 := min_le h e he
        rw [ltE_not] at h1 ⊢
        rw [ltE_iff] at hx
        omega
theorem left_other {t : Lh} (h : t.ok) {x : Int × Int} (h1 : t.min.2 = true) (h2 : ltE x t.min.1 = false) : srt (t.insert x).pop.all = putL (srt t.all).tail x := by
  rw [srt_pop (insert_ok x h), srt_insert]
  cases t with
  | nil => cases h1
  | node o l r =>
    have e1 : srt (x :: (Lh.node o l r).all) = o :: srt (x :: (l.all ++ r.all)) := by
      rw [show srt (x :: (Lh.node o l r).all) = srt (o :: (x :: (l.all ++ r.all))) from srt_perm (List.Perm.swap _ _ _)]
      refine srt_cons (fun e he => ?_)
      rcases List.mem_cons.1 he with rfl | he
      · exact h2
      · exact h.1 e he
    have e2 : srt (Lh.node o l r).all = o :: srt (l.all ++ r.all) := srt_cons h.1
    rw [e1, e2, List.tail_cons, List.tail_cons, putL_srt]

/-- A row that is not empty, and what is behind its first one. -/
theorem Rw.rest {W : World} {v : Value} {xs : List (Int × Int)} (h : Rw W v xs) (hx : xs ≠ []) : ∃ (b o c : Nat), v = .slice (some ⟨b, o, Option.none⟩) xs.length c ∧ xs.length ≤ c ∧ c ≤ 9223372036854775807 ∧
    ∀ W', Below W.heap.size W W' → Rw W' (.slice (some ⟨b, o, Option.none⟩) 0 0) [] ∧ Rw W' (.slice (some ⟨b, o + 1 * 2, Option.none⟩) (xs.length - 1) (c - 1)) xs.tail := by
  rcases h with ⟨-, rfl⟩ | ⟨b, o, c, cs, rfl, h1, h2, h3, h4⟩
  · exact absurd rfl hx
  · refine ⟨b, o, c, rfl, h1, h2, fun W' hb => ⟨.inr ⟨b, o, 0, cs, rfl, Nat.le_refl _, by omega, (hb.block b (lt_of_heap h3)).trans h3, fun j u hu => by simp [cellsE] at hu⟩, .inr ⟨b, o + 1 * 2, c - 1, cs, by rw [List.length_tail], by rw [List.length_tail]; omega, by omega, (hb.block b (lt_of_heap h3)).trans h3, fun j u hu => ?_⟩⟩⟩
    have e1 : xs.tail = xs.drop 1 := by cases xs <;> rfl
    rw [e1, cellsE_drop, List.getElem?_drop] at hu
    rw [Nat.add_assoc]
    exact h4 _ u hu

end Go.Proofs.YtliehednnhilkaaDoor
