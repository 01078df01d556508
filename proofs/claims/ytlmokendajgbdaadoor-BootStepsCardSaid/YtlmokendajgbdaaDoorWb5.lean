/-
  Contract of the statement's own drain: all elements of a heap, in order, as a slice of the call's own; nothing that was there has changed. Conditions: a heap in order, of no more elements than are asked for, fewer than 2 to the 24th.
-/
import Derived.Test.YtlmokendajgbdaaDoorWb4
import Derived.Test.YtlmokendajgbdaaDoorMb
namespace Go.Proofs.YtlmokendajgbdaaDoor.Bo
open Go.Sort Go.RowKit

theorem _root_.Go.Proofs.YtlmokendajgbdaaDoor.Own.kind {w : World} {base : Nat} {v : Value} {xs : List (Int × Int)} (h : Own w base v xs) : ∀ k, v.ownBlock = some k → base ≤ k ∧ k < w.heap.size ∧ ∃ cs, w.heap[k]? = some (.cells cs 32 (0, 0)) := by
  intro k hk
  rcases h.2 with ⟨rfl, -⟩ | ⟨g, cap, cur, rfl, hb, hg, -⟩
  · cases hk
  · cases hk
    exact ⟨hb, lt_of_heap hg, cur, hg⟩
theorem _root_.Go.Proofs.YtlmokendajgbdaaDoor.Own.lower {w : World} {base base' : Nat} {v : Value} {xs : List (Int × Int)} (h : Own w base v xs) (hb : base' ≤ base) : Own w base' v xs :=
  ⟨h.1, h.2.imp id (fun ⟨g, cap, cur, a, b, r⟩ => ⟨g, cap, cur, a, Nat.le_trans hb b, r⟩)⟩
/-- A row of the call's own, where another block is written. -/
theorem _root_.Go.Proofs.YtlmokendajgbdaaDoor.Own.other {w : World} {base : Nat} {v : Value} {xs : List (Int × Int)} (h : Own w base v xs) {b : Nat} (hb : b < base) (j : Nat) (u : Value) : Own (w.setCell ⟨b, j, Option.none⟩ u) base v xs := by
  refine ⟨h.1, ?_⟩
  rcases h.2 with hn | ⟨g, cap, cur, rfl, hg1, hg, rest⟩
  · exact .inl hn
  · exact .inr ⟨g, cap, cur, rfl, hg1, (heap_other _ _ (by omega)).trans hg, rest⟩

/-- One thing more behind a slice of the call's own. -/
theorem append_one (w : World) (base : Nat) (v : Value) (xs : List (Int × Int)) (x : Int × Int) (hown : Own w base v xs) (hlen : xs.length < 1073741824) (hb : base ≤ w.heap.size) :
    ∃ v' w', (Builtin.append_ #[22, 22] 22 #[v, .slice (some ⟨w.heap.size, 0, none⟩) 1 1]).run Tryd.prog (w.alloc (.cells #[.int .i64 x.1, .int .i64 x.2] 32)) = .ok v' w' ∧ Own w' base v' (xs ++ [x]) ∧ Below base w w' ∧ Kp w w' ∧ w.heap.size ≤ w'.heap.size := by
  have hb1 := (Below.refl w.heap.size w).alloc (Nat.le_refl _) (.cells #[.int .i64 x.1, .int .i64 x.2] 32)
  obtain ⟨v', w', h1, h2, h3⟩ := append_row (w.alloc (.cells #[.int .i64 x.1, .int .i64 x.2] 32)) base v xs [x] (some ⟨w.heap.size, 0, none⟩) 1 (hown.below hb1) (row_new w [x] _) (fun e => by cases e) (by simp; omega) (by simp; omega)
  have hsz9 : w.heap.size ≤ w'.heap.size := Nat.le_trans (by simp) h3.size
  refine ⟨v', w', h1, h2, below_grown ((Below.refl _ _).alloc hb _) h3 (by simp; omega) (fun g hg => hown.block g hg), (Kpt.below hb1).trans (Kpt.grown h3 (fun g hg cs t ht => ?_)), hsz9⟩
  obtain ⟨-, -, cs', hk⟩ := (hown.below hb1).kind g hg
  rw [hk] at ht
  cases ht
  exact elemT_ne
/-- The variables of drain: a heap, an element. -/
structure Fd (w0 W : World) (a b : Nat) (p : Option Addr) (x : Int × Int) : Prop where
  h : W.heap[a]? = some (.cells #[.pointer p] 26 (0, 0))
  e : W.heap[b]? = some (.cells #[.int .i64 x.1, .int .i64 x.2] 32 (0, 0))
  bl : Below w0.heap.size w0 W
  ab : a < b
  wa : w0.heap.size ≤ a
section
variable {w0 W W' : World} {a b : Nat} {p : Option Addr} {x : Int × Int}
theorem Fd.stay (h : Fd w0 W a b p x) {B : Nat} (hb : Below B W W') (hB : b + 1 ≤ B) : Fd w0 W' a b p x :=
  ⟨(hb.block _ (by have := h.ab; omega)).trans h.h, (hb.block _ (by omega)).trans h.e, h.bl.trans (hb.mono (by have := h.ab; have := h.wa; omega)), h.ab, h.wa⟩
theorem Fd.lt (h : Fd w0 W a b p x) : b + 1 ≤ W.heap.size := lt_of_heap h.e
theorem Fd.c0 (h : Fd w0 W a b p x) : W.cell? ⟨a, 0, none⟩ = some (.pointer p) := by simp [World.cell?, h.h]
theorem Fd.z0 (h : Fd w0 W a b p x) : W.frozen? ⟨a, 0, none⟩ = false := by simp [World.frozen?, h.h]
theorem Fd.e0 (h : Fd w0 W a b p x) : W.cell? ⟨b, 0, none⟩ = some (.int .i64 x.1) := by simp [World.cell?, h.e]
theorem Fd.e1 (h : Fd w0 W a b p x) : W.cell? ⟨b, 1, none⟩ = some (.int .i64 x.2) := by simp [World.cell?, h.e]
theorem Fd.f0 (h : Fd w0 W a b p x) : W.frozen? ⟨b, 0, none⟩ = false := by simp [World.frozen?, h.e]
theorem Fd.f1 (h : Fd w0 W a b p x) : W.frozen? ⟨b, 1, none⟩ = false := by simp [World.frozen?, h.e]
theorem Fd.put (h : Fd w0 W a b p x) (q : Option Addr) : Fd w0 (W.setCell ⟨a, 0, none⟩ (.pointer q)) a b q x :=
  ⟨heap_put (j := 0) h.h _, (heap_other _ _ (by have := h.ab; omega)).trans h.e, h.bl.setCell (p := ⟨a, 0, none⟩) h.wa _, h.ab, h.wa⟩
theorem Fd.puts (h : Fd w0 W a b p x) (y : Int × Int) : Fd w0 ((W.setCell ⟨b, 0, none⟩ (.int .i64 y.1)).setCell ⟨b, 1, none⟩ (.int .i64 y.2)) a b p y :=
  ⟨(heap_other _ _ (by have := h.ab; omega)).trans ((heap_other _ _ (by have := h.ab; omega)).trans h.h), heap_put (j := 1) (heap_put (j := 0) h.e _) _, (h.bl.setCell (p := ⟨b, 0, none⟩) (by have := h.ab; have := h.wa; show w0.heap.size ≤ b; omega) _).setCell (p := ⟨b, 1, none⟩) (by have := h.ab; have := h.wa; show w0.heap.size ≤ b; omega) _, h.ab, h.wa⟩
end

end Go.Proofs.YtlmokendajgbdaaDoor.Bo
