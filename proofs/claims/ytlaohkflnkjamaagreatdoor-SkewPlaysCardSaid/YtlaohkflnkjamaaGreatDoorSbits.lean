/-
  Plain facts on skew binomial heaps: what is least with an element more, what is left without the least one; halves and bits; a row's rest. No conditions beyond what each theorem says.
-/
import Derived.Test.YtlaohkflnkjamaaGreatDoorSw
namespace Go.Proofs.YtlaohkflnkjamaaGreatDoor.Hp
open Go.Sort Go.RowKit

theorem half_step {N v q : Nat} (h : N < (v + 1) * 2 ^ q) : N < (v / 2 + 1) * 2 ^ (q + 1) := by
  have h1 : (v / 2 + 1) * 2 ^ (q + 1) = (2 * (v / 2) + 2) * 2 ^ q := by rw [Nat.pow_succ, Nat.mul_comm (2 ^ q) 2, ← Nat.mul_assoc]; congr 1; omega
  rw [h1]
  exact Nat.lt_of_lt_of_le h (Nat.mul_le_mul_right _ (by omega))
theorem size_0 {t : Lh} (h : t.min.2 = false) : t.all = [] := by
  have h1 := min_two t
  rw [h] at h1
  have h2 : t.size = 0 := by simpa using h1.symm
  exact List.eq_nil_of_length_eq_zero (by rw [Lh.all_length]; exact h2)
theorem one_pop (x : Int × Int) : Lh.pop (.one x) = .nil := by
  have h : (Lh.pop (.one x)).ts = [] := by
    show ([] : List (Int × Int)).foldl sIns (bmeld [] []) = []
    rw [bmeld_nil]; rfl
  exact congrArg Lh.mk h
theorem min_le {t : Lh} (h : t.ok) : ∀ e ∈ t.all, ltE e t.min.1 = false := by
  intro e he
  cases hm : t.min.2 with
  | false => rw [size_0 hm] at he; cases he
  | true =>
    have h1 := ok_srt h hm
    have h2 := (srt_spec t.all).1
    have h3 := srt_mem.2 he
    rw [h1] at h2 h3
    rcases List.mem_cons.1 h3 with rfl | h4
    · exact swoE.irrefl _
    · have := (List.pairwise_cons.1 h2).1 e h4
      simpa using this
theorem below_all {t : Lh} (h : t.ok) {x : Int × Int} (hx : t.min.2 = false ∨ ltE x t.min.1 = true) : ∀ e ∈ t.all, ltE e x = false := by
  intro e he
  rcases hx with hx | hx
  · rw [size_0 hx] at he; cases he
  · have h1 := min_le h e he
    rw [ltE_not] at h1 ⊢
    rw [ltE_iff] at hx
    omega
theorem ins_some (t : Lh) (x : Int × Int) : (t.insert x).min.2 = true := by rw [min_two, insert_size]; simp
/-- With an element more the least one is that, if it stands ahead of the least one or there is none. -/
theorem min_first {t : Lh} (h : t.ok) {x : Int × Int} (hx : t.min.2 = false ∨ ltE x t.min.1 = true) : (t.insert x).min = (x, true) := by
  have h1 := ok_srt (insert_ok x h) (ins_some t x)
  rw [srt_insert, srt_cons (below_all h hx)] at h1
  have h2 : x = (t.insert x).min.1 := (List.cons.inj h1).1
  exact Prod.ext h2.symm (ins_some t x)
/-- A heap's elements: the least one, and the others. -/
theorem srt_more {t : Lh} (h : t.ok) {x : Int × Int} (h1 : t.min.2 = true) (h2 : ltE x t.min.1 = false) : srt (x :: t.all) = t.min.1 :: srt (x :: t.pop.all) := by
  have e1 : (x :: t.all).Perm (t.min.1 :: x :: t.pop.all) := by
    have e2 : t.all.Perm (t.min.1 :: t.pop.all) := by
      have h3 := ok_srt h h1
      exact ((srt_spec t.all).2.symm.trans (h3 ▸ List.Perm.refl _)).trans ((srt_spec t.pop.all).2.cons _)
    exact (e2.cons x).trans (List.Perm.swap _ _ _)
  rw [srt_perm e1]
  refine srt_cons (fun e he => ?_)
  rcases List.mem_cons.1 he with rfl | he
  · exact h2
  · refine min_le h e ?_
    have h3 := ok_srt h h1
    exact srt_mem.1 (h3 ▸ List.mem_cons_of_mem _ (srt_mem.2 he))
/-- .. else the least one. -/
theorem min_other {t : Lh} (h : t.ok) {x : Int × Int} (h1 : t.min.2 = true) (h2 : ltE x t.min.1 = false) : (t.insert x).min = (t.min.1, true) := by
  have h3 := ok_srt (insert_ok x h) (ins_some t x)
  rw [srt_insert, srt_more h h1 h2] at h3
  exact Prod.ext (List.cons.inj h3).1.symm (ins_some t x)
/-- What is left without the least one. -/
theorem left_first {t : Lh} (h : t.ok) {x : Int × Int} (hx : t.min.2 = false ∨ ltE x t.min.1 = true) : srt (t.insert x).pop.all = srt t.all := by
  rw [srt_pop (insert_ok x h), srt_insert, srt_cons (below_all h hx)]
  rfl
theorem left_other {t : Lh} (h : t.ok) {x : Int × Int} (h1 : t.min.2 = true) (h2 : ltE x t.min.1 = false) : srt (t.insert x).pop.all = putL (srt t.all).tail x := by
  rw [srt_pop (insert_ok x h), srt_insert, srt_more h h1 h2, ok_srt h h1, List.tail_cons, List.tail_cons, putL_srt]

/-- A row that is not empty, and what is behind its first one. -/
theorem _root_.Go.Proofs.YtlaohkflnkjamaaGreatDoor.Rw.rest {W : World} {v : Value} {xs : List (Int × Int)} (h : Rw W v xs) (hx : xs ≠ []) : ∃ (b o c : Nat), v = .slice (some ⟨b, o, Option.none⟩) xs.length c ∧ xs.length ≤ c ∧ c ≤ 9223372036854775807 ∧
    ∀ W', Below W.heap.size W W' → Rw W' (.slice (some ⟨b, o, Option.none⟩) 0 0) [] ∧ Rw W' (.slice (some ⟨b, o + 1 * 2, Option.none⟩) (xs.length - 1) (c - 1)) xs.tail := by
  rcases h with ⟨-, rfl⟩ | ⟨b, o, c, cs, rfl, h1, h2, h3, h4⟩
  · exact absurd rfl hx
  · refine ⟨b, o, c, rfl, h1, h2, fun W' hb => ⟨.inr ⟨b, o, 0, cs, rfl, Nat.le_refl _, by omega, (hb.block b (lt_of_heap h3)).trans h3, fun j u hu => by simp [cellsE] at hu⟩, .inr ⟨b, o + 1 * 2, c - 1, cs, by rw [List.length_tail], by rw [List.length_tail]; omega, by omega, (hb.block b (lt_of_heap h3)).trans h3, fun j u hu => ?_⟩⟩⟩
    have e1 : xs.tail = xs.drop 1 := by cases xs <;> rfl
    rw [e1, cellsE_drop, List.getElem?_drop] at hu
    rw [Nat.add_assoc]
    exact h4 _ u hu

end Go.Proofs.YtlaohkflnkjamaaGreatDoor.Hp
