/-
  Contracts of skew.Of, by a meter or none, and of Pop, Meld, Insert, Min, Of without a meter: which heap each makes, how many comparisons and trees the meter counts, that what was there stays but for the meter's block. Conditions: fewer than 2 to the 24th elements, counts below 2 to the 58th, a row that lies in another block than the meter.
-/
import Derived.Test.YtaeainnkhjnlaaaGreatDoorSb6b
import Derived.Test.YtaeainnkhjnlaaaGreatDoorMb
import Derived.Deep.LoopGhost
namespace Go.Proofs.YtaeainnkhjnlaaaGreatDoor.Hp
open Go.Sort Go.RowKit

theorem put_small (xs : List (Int × Int)) (h : xs.length < 16777216) : putC .nil xs < 33554432 ∧ putM .nil xs < 33554432 := by
  have := put_le xs .nil
  omega
theorem _root_.Go.Proofs.YtaeainnkhjnlaaaGreatDoor.Own.kind {w : World} {base : Nat} {v : Value} {xs : List (Int × Int)} (h : Own w base v xs) : ∀ k, v.ownBlock = some k → base ≤ k ∧ k < w.heap.size ∧ ∃ cs, w.heap[k]? = some (.cells cs 32 (0, 0)) := by
  intro k hk
  rcases h.2 with ⟨rfl, -⟩ | ⟨g, cap, cur, rfl, hb, hg, -⟩
  · cases hk
  · cases hk
    exact ⟨hb, lt_of_heap hg, cur, hg⟩
/-- One thing more behind a slice of the call's own. -/
theorem append_one (w : World) (base : Nat) (v : Value) (xs : List (Int × Int)) (x : Int × Int) (hown : Own w base v xs) (hlen : xs.length < 1073741824) (hb : base ≤ w.heap.size) :
    ∃ v' w', (Builtin.append_ #[39, 39] 39 #[v, .slice (some ⟨w.heap.size, 0, none⟩) 1 1]).run Tryz.prog (w.alloc (.cells #[.int .i64 x.1, .int .i64 x.2] 32)) = .ok v' w' ∧ Own w' base v' (xs ++ [x]) ∧ Below base w w' ∧ Kp w w' := by
  have hb1 := (Below.refl w.heap.size w).alloc (Nat.le_refl _) (.cells #[.int .i64 x.1, .int .i64 x.2] 32)
  obtain ⟨v', w', h1, h2, h3⟩ := append_row (w.alloc (.cells #[.int .i64 x.1, .int .i64 x.2] 32)) base v xs [x] (some ⟨w.heap.size, 0, none⟩) 1 (hown.below hb1) (row_new w [x] _) (fun e => by cases e) (by simp; omega) (by simp; omega)
  refine ⟨v', w', h1, h2, below_grown ((Below.refl _ _).alloc hb _) h3 (by simp; omega) (fun g hg => hown.block g hg), (Kpt.below hb1).trans (Kpt.grown h3 (fun g hg cs t ht => ?_))⟩
  obtain ⟨-, -, cs', hk⟩ := (hown.below hb1).kind g hg
  rw [hk] at ht
  cases ht
  exact elemT_ne
/-- A row of the call's own, where another block is written. -/
theorem _root_.Go.Proofs.YtaeainnkhjnlaaaGreatDoor.Own.other {w : World} {base : Nat} {v : Value} {xs : List (Int × Int)} (h : Own w base v xs) {b : Nat} (hb : b < base) (j : Nat) (u : Value) : Own (w.setCell ⟨b, j, Option.none⟩ u) base v xs := by
  refine ⟨h.1, ?_⟩
  rcases h.2 with hn | ⟨g, cap, cur, rfl, hg1, hg, rest⟩
  · exact .inl hn
  · exact .inr ⟨g, cap, cur, rfl, hg1, (heap_other _ _ (by omega)).trans hg, rest⟩

end Go.Proofs.YtaeainnkhjnlaaaGreatDoor.Hp
