/-
  A block of two cells that a call made, of no program: what keeps it, and what is there once both are written. No conditions beyond what each theorem says.
-/
import Derived.Test.YtanhlnhdmkfbfaaChain
import Derived.RangeFuncBox
namespace Go.Proofs.Ytanhlnhdmkfbfaa
open Go.Sort Go.RowKit

/-- Block b is two cells. -/
def Box2 (W : World) (b : Nat) (t : TypeId) (x y : Value) : Prop := W.heap[b]? = some (.cells #[x, y] t (0, 0))

section
variable {W W' : World} {b : Nat} {t : TypeId} {x y : Value}
theorem Box2.lt (h : Box2 W b t x y) : b < W.heap.size := (Array.getElem?_eq_some_iff.1 h).1
theorem Box2.c0 (h : Box2 W b t x y) : W.cell? ⟨b, 0, none⟩ = some x := by simp [World.cell?, show W.heap[b]? = _ from h]
theorem Box2.c1 (h : Box2 W b t x y) : W.cell? ⟨b, 1, none⟩ = some y := by simp [World.cell?, show W.heap[b]? = _ from h]
theorem Box2.z0 (h : Box2 W b t x y) : W.frozen? ⟨b, 0, none⟩ = false := by simp [World.frozen?, show W.heap[b]? = _ from h]
theorem Box2.z1 (h : Box2 W b t x y) : W.frozen? ⟨b, 1, none⟩ = false := by simp [World.frozen?, show W.heap[b]? = _ from h]
theorem Box2.new (W : World) (t : TypeId) (x y : Value) : Box2 (W.alloc (.cells #[x, y] t)) W.heap.size t x y := World.alloc_heap_new W _
theorem Box2.stay (h : Box2 W b t x y) (hb : Below W.heap.size W W') : Box2 W' b t x y := (hb.block b h.lt).trans h
theorem Box2.below {B : Nat} (h : Box2 W b t x y) (hb : Below B W W') (hB : b < B) : Box2 W' b t x y := (hb.block b hB).trans h
theorem Box2.alloc (h : Box2 W b t x y) (o : Obj) : Box2 (W.alloc o) b t x y := h.stay ((Below.refl _ _).alloc (Nat.le_refl _) o)
theorem Box2.kept {row : Option Nat} (h : Box2 W b t x y) (hg : W.grownBy W' row) (hr : ∀ r, row = some r → ∃ o : Obj, W.heap[r]? = some o ∧ o.isCells = false) : Box2 W' b t x y :=
  (hg.block b h.lt (fun e => by obtain ⟨o, ho, hc⟩ := hr b e.symm; rw [show W.heap[b]? = _ from h] at ho; cases ho; cases hc)).trans h
theorem Box2.set0 (h : Box2 W b t x y) (x' : Value) : Box2 (W.setCell ⟨b, 0, none⟩ x') b t x' y := by
  obtain ⟨hlt, hk⟩ := Array.getElem?_eq_some_iff.1 h
  show (W.heap.modify b _)[b]? = _
  rw [Array.getElem?_eq_getElem (by rw [Array.size_modify]; exact hlt), Array.getElem_modify_self, hk]
  rfl
theorem Box2.set1 (h : Box2 W b t x y) (y' : Value) : Box2 (W.setCell ⟨b, 1, none⟩ y') b t x y' := by
  obtain ⟨hlt, hk⟩ := Array.getElem?_eq_some_iff.1 h
  show (W.heap.modify b _)[b]? = _
  rw [Array.getElem?_eq_getElem (by rw [Array.size_modify]; exact hlt), Array.getElem_modify_self, hk]
  rfl
theorem Box2.set (h : Box2 W b t x y) (x' y' : Value) : Box2 ((W.setCell ⟨b, 0, none⟩ x').setCell ⟨b, 1, none⟩ y') b t x' y' := (h.set0 x').set1 y'
theorem Box2.other (h : Box2 W b t x y) {p : Addr} (hp : p.block ≠ b) (u : Value) : Box2 (W.setCell p u) b t x y := (Below.heap_setCell W p u b (fun e => hp e.symm)).trans h
theorem Box2.aside (h : Box2 W b t x y) {g : Nat} (hg : g ≠ b) (u v : Value) : Box2 ((W.setCell ⟨g, 0, none⟩ u).setCell ⟨g, 1, none⟩ v) b t x y := (h.other (p := ⟨g, 0, none⟩) hg u).other (p := ⟨g, 1, none⟩) hg v
theorem Box2.put {l : Nat} {o : Obj} (h : Box2 W b t x y) (o' : Obj) (hl : W.heap[l]? = some o) (ho : o.isCells = false) : Box2 (W.putObj l o') b t x y :=
  h.kept (grownBy_putObj' W l o') (fun r e => by cases e; exact ⟨o, hl, ho⟩)
end

theorem below_set2 {B g : Nat} {u w : World} (h : Below B u w) (hB : B ≤ g) (x y : Value) : Below B u ((w.setCell ⟨g, 0, none⟩ x).setCell ⟨g, 1, none⟩ y) := (h.setCell (p := ⟨g, 0, none⟩) hB x).setCell (p := ⟨g, 1, none⟩) hB y

/-- A list lies on when both cells of a block of another type are written. -/
theorem Ch.set2 {α : Type} {one : α → Value} {tc : TypeId} {W : World} {p : Option Addr} {xs : List α} (h : Ch one tc W p xs) {b : Nat} {t : TypeId} {x y : Value} (hb : Box2 W b t x y) (ht : t ≠ tc) (u v : Value) : Ch one tc ((W.setCell ⟨b, 0, Option.none⟩ u).setCell ⟨b, 1, Option.none⟩ v) p xs :=
  (h.set hb ht 0 u).set (hb.set0 u) ht 1 v

theorem cell_aside {W : World} {b g off : Nat} {v : Value} (hg : b ≠ g) (h : W.cell? ⟨b, off, none⟩ = some v) (x y : Value) : ((W.setCell ⟨g, 0, none⟩ x).setCell ⟨g, 1, none⟩ y).cell? ⟨b, off, none⟩ = some v := by
  rw [World.cell?_setCell_other _ _ _ _ (fun e => hg (by injection e with e; exact e.symm)), World.cell?_setCell_other _ _ _ _ (fun e => hg (by injection e with e; exact e.symm))]
  exact h

theorem keeps_stay {B : Nat} {W W' : World} (h : Below W.heap.size W W') : KeepsFrom B W W' := ⟨h.size, fun k _ _ hk _ => (h.block k (Array.getElem?_eq_some_iff.1 hk).1).trans hk⟩
theorem keeps_set2 (B g : Nat) (W : World) (u v : Value) : KeepsFrom B W ((W.setCell ⟨g, 0, none⟩ u).setCell ⟨g, 1, none⟩ v) := ((KeepsOthers.setCell W ⟨g, 0, none⟩ u).trans (KeepsOthers.setCell _ ⟨g, 1, none⟩ v)).from B

end Go.Proofs.Ytanhlnhdmkfbfaa
