/-
  What BootAgain asks beside the contracts: a row turned by some places has the same elements; a row of the call's own where heaps' variables are written, and where it grows. No conditions beyond what each theorem says.
-/
import Derived.Test.YtlmokendajgbdaaGreatDoorWwake
namespace Go.Proofs.YtlmokendajgbdaaGreatDoor.Bo
open Go.Sort Go.RowKit

/-- The first k of a row turned by y places. -/
def rotTo (l : List (Int × Int)) (y k : Nat) : List (Int × Int) := (List.range k).map fun i => l.getD ((i + y) % l.length) (0, 0)
theorem rotTo_length (l : List (Int × Int)) (y k : Nat) : (rotTo l y k).length = k := by simp [rotTo]
theorem rotTo_succ (l : List (Int × Int)) (y k : Nat) (h : (k + y) % l.length < l.length) : rotTo l y (k + 1) = rotTo l y k ++ [l[(k + y) % l.length]] := by
  unfold rotTo
  rw [List.range_succ, List.map_append]
  simp [List.getD, List.getElem?_eq_getElem h]
theorem rot_eq (l : List (Int × Int)) (y : Nat) : rotTo l y l.length = l.drop (y % l.length) ++ l.take (y % l.length) := by
  by_cases h0 : l.length = 0
  · have e : l = [] := List.eq_nil_of_length_eq_zero h0
    subst e
    simp [rotTo]
  · have hr : y % l.length < l.length := Nat.mod_lt _ (by omega)
    apply List.ext_getElem
    · rw [rotTo_length, List.length_append, List.length_drop, List.length_take]; omega
    · intro i h1 h2
      rw [rotTo_length] at h1
      have hm : (i + y) % l.length = (i + y % l.length) % l.length := by simp
      have hlt : (i + y) % l.length < l.length := Nat.mod_lt _ (by omega)
      have hg : (rotTo l y l.length)[i]'(by rw [rotTo_length]; exact h1) = l[(i + y) % l.length] := by
        unfold rotTo
        simp [List.getD, List.getElem?_eq_getElem hlt]
      rw [hg]
      by_cases hi : i < l.length - y % l.length
      · rw [List.getElem_append_left (by rw [List.length_drop]; exact hi), List.getElem_drop]
        congr 1
        rw [hm, Nat.mod_eq_of_lt (by omega)]
        omega
      · rw [List.getElem_append_right (by rw [List.length_drop]; omega), List.getElem_take]
        congr 1
        rw [hm, List.length_drop]
        have e : i + y % l.length = (i + y % l.length - l.length) + l.length := by omega
        rw [e, Nat.add_mod_right, Nat.mod_eq_of_lt (by omega)]
        omega
theorem rot_perm (l : List (Int × Int)) (y : Nat) : (rotTo l y l.length).Perm l := by
  rw [rot_eq]
  refine List.perm_append_comm.trans ?_
  rw [List.take_append_drop]
/-- The last ones of a row, the last one first. -/
theorem rev_succ (l : List (Int × Int)) (k : Nat) (h : k < l.length) : l.reverse.take (k + 1) = l.reverse.take k ++ [l[l.length - 1 - k]] := by
  rw [List.take_succ_eq_append_getElem (by rw [List.length_reverse]; exact h), List.getElem_reverse]

section
variable {W W' : World} {base : Nat} {v : Value} {xs : List (Int × Int)} {mo : Option Nat} {c m : Int}
theorem _root_.Go.Proofs.YtlmokendajgbdaaGreatDoor.Own.bt (h : Own W base v xs) (hb : Bt mo W W') (hm : MAt W mo c m) : Own W' base v xs := by
  refine ⟨h.1, ?_⟩
  rcases h.2 with hn | ⟨g, cap, cur, rfl, hg1, hg, rest⟩
  · exact .inl hn
  · exact .inr ⟨g, cap, cur, rfl, hg1, hb.row hm hg (by decide), rest⟩
theorem _root_.Go.Proofs.YtlmokendajgbdaaGreatDoor.Own.set (h : Own W base v xs) {b : Nat} {q : Option Addr} (hv : HVar W b q) (u : Value) : Own (W.setCell ⟨b, 0, Option.none⟩ u) base v xs := by
  refine ⟨h.1, ?_⟩
  rcases h.2 with hn | ⟨g, cap, cur, rfl, hg1, hg, rest⟩
  · exact .inl hn
  · exact .inr ⟨g, cap, cur, rfl, hg1, (heap_other _ _ (fun e => by subst e; have hz := hg.symm.trans hv; injection hz with hz; injection hz with _ hz; exact absurd hz (by decide))).trans hg, rest⟩
/-- One element's two cells. -/
theorem _root_.Go.Proofs.YtlmokendajgbdaaGreatDoor.Own.at {A : Option Addr} {n k : Nat} (h : Own W base (.slice A n k) xs) (i : Nat) (hi : i < xs.length) : ∃ g, A = some ⟨g, 0, Option.none⟩ ∧ W.cell? ⟨g, i * 2, Option.none⟩ = some (.int .i64 xs[i].1) ∧ W.cell? ⟨g, i * 2 + 1, Option.none⟩ = some (.int .i64 xs[i].2) := by
  obtain ⟨A', c', e, hr, -⟩ := h.form
  cases e
  rcases h.2 with ⟨-, hn⟩ | ⟨g, cap, cur, e, -⟩
  · omega
  · cases e
    obtain ⟨b, o, e, hc⟩ := hr (by omega)
    cases e
    have hx := row_at hc i hi
    rw [Nat.zero_add] at hx
    exact ⟨g, rfl, hx.1, hx.2⟩
end

/-- One thing more behind a row of the call's own: every block of another type stays. -/
theorem append_keep (w : World) (base : Nat) (v : Value) (xs : List (Int × Int)) (x : Int × Int) (hown : Own w base v xs) (hlen : xs.length < 1073741824) (hb : base ≤ w.heap.size) :
    ∃ v' w', (Builtin.append_ #[37, 37] 37 #[v, .slice (some ⟨w.heap.size, 0, none⟩) 1 1]).run Tryz.prog (w.alloc (.cells #[.int .i64 x.1, .int .i64 x.2] 32)) = .ok v' w' ∧ Own w' base v' (xs ++ [x]) ∧ Below base w w' ∧
      ∀ (k : Nat) (cs : Array Value) (t : TypeId) (z : Nat × Nat), w.heap[k]? = some (.cells cs t z) → t ≠ 32 → w'.heap[k]? = some (.cells cs t z) := by
  have hb1 := (Below.refl w.heap.size w).alloc (Nat.le_refl _) (.cells #[.int .i64 x.1, .int .i64 x.2] 32)
  obtain ⟨v', w', h1, h2, h3⟩ := append_row (w.alloc (.cells #[.int .i64 x.1, .int .i64 x.2] 32)) base v xs [x] (some ⟨w.heap.size, 0, none⟩) 1 (hown.below hb1) (row_new w [x] _) (fun e => by cases e) (by simp; omega) (by simp; omega)
  refine ⟨v', w', h1, h2, below_grown ((Below.refl _ _).alloc hb _) h3 (by simp; omega) (fun g hg => hown.block g hg), fun k cs t z hk ht => ?_⟩
  have hk1 := (hb1.block k (lt_of_heap hk)).trans hk
  refine (h3.block k (lt_of_heap hk1) (fun e => ?_)).trans hk1
  obtain ⟨-, -, cs', hk2⟩ := (hown.below hb1).kind k e.symm
  rw [hk1] at hk2
  cases hk2
  exact ht rfl
/-- A row's first ones. -/
theorem rw_take {W : World} {b o n c : Nat} {xs : List (Int × Int)} (h : Rw W (.slice (some ⟨b, o, none⟩) n c) xs) (L : Nat) (hL : L ≤ xs.length) : Rw W (.slice (some ⟨b, o, none⟩) L c) (xs.take L) := by
  rcases h with ⟨h, -⟩ | ⟨b', o', c', cs, e, h1, h2, h3, h4⟩
  · cases h
  · cases e
    refine .inr ⟨b, o, c, cs, by rw [List.length_take, Nat.min_eq_left hL], by rw [List.length_take]; omega, h2, h3, fun j u hu => h4 j u ?_⟩
    rw [cellsE_take, List.getElem?_take] at hu
    split at hu
    · exact hu
    · cases hu

/-- The least one stands first. -/
theorem srt_head {t : Lh} (h : t.ok) {x : Int × Int} (hm : t.min = (x, true)) : srt t.all = [x] ++ (srt t.all).tail := by
  rw [ok_srt h (by rw [hm]), hm]
  rfl

/-- The numbers of a round. -/
theorem again_nums (i y L q r : Nat) (hi : i < L) (hL : L ≤ 40) (hy : y < 256) (hq : q = (i + y) % L) (hr : r = L - 1 - i) :
    ((i : Int) < (L : Int)) ∧ decide ((i : Int) < (L : Int)) = true ∧ ¬ L = 0 ∧ ((i : Int) + (y : Int)).tmod (L : Int) = (q : Int) ∧ (0 : Int) ≤ (q : Int) ∧ (q : Int) < (L : Int) ∧ (0 : Int) ≤ (r : Int) ∧ (r : Int) < (L : Int) ∧
    (L : Int) - 1 - (i : Int) = (r : Int) ∧ wrap64 ((L : Int) - 1 - (i : Int)) = (r : Int) ∧ (0 : Int) ≤ (i : Int) ∧ (L : Int) ≤ 40 ∧ (y : Int) < 256 ∧ IntKind.i64.wrap (r : Int) = (r : Int) ∧ IntKind.i64.wrap (q : Int) = (q : Int) ∧ wrap64 ((i : Int) + (y : Int)) = (i : Int) + (y : Int) ∧ wrap64 ((L : Int) - 1) = (L : Int) - 1 ∧ IntKind.i64.wrap (y : Int) = (y : Int) ∧ IntKind.i64.wrap ((i : Int) + (y : Int)) = (i : Int) + (y : Int) ∧ IntKind.i64.wrap ((L : Int) - 1) = (L : Int) - 1 ∧ IntKind.i64.wrap ((L : Int) - 1 - (i : Int)) = (r : Int) := by
  have h3 : ((i : Int) + (y : Int)).tmod (L : Int) = (((i + y) % L : Nat) : Int) := by rw [Int.tmod_eq_emod_of_nonneg (by omega), Int.natCast_emod, Int.natCast_add]
  have h4 : (i + y) % L < L := Nat.mod_lt _ (by omega)
  rw [← hq] at h3 h4
  clear hq
  refine ⟨by omega, by simp; omega, by omega, h3, by omega, by omega, ?_⟩
  clear h3
  refine ⟨by omega, by omega, by omega, by unfold wrap64; omega, by omega, by omega, by omega, by rw [IntKind.wrap_i64]; omega, by rw [IntKind.wrap_i64]; omega, by unfold wrap64; omega, by unfold wrap64; omega, by rw [IntKind.wrap_i64]; omega, by rw [IntKind.wrap_i64]; omega, by rw [IntKind.wrap_i64]; omega, by rw [IntKind.wrap_i64]; omega⟩

end Go.Proofs.YtlmokendajgbdaaGreatDoor.Bo
