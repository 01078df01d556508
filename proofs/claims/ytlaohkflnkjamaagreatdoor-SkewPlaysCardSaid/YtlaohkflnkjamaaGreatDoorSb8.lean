/-
  Contract of the statement's own drain: all elements of a heap, in order, as a slice of the call's own; nothing that was there has changed. Conditions: no more elements than are asked for, fewer than 2 to the 24th.
-/
import Derived.Test.YtlaohkflnkjamaaGreatDoorSb7
namespace Go.Proofs.YtlaohkflnkjamaaGreatDoor.Hp
open Go.Sort Go.RowKit

/-- The variables of drain: a heap, an element. -/
structure Fd (w0 W : World) (a b : Nat) (p : HP) (x : Int × Int) : Prop where
  h : Box2 W a 31 (.pointer p.q) (.int .i64 p.n)
  e : Box2 W b 38 (.int .i64 x.1) (.int .i64 x.2)
  bl : Below w0.heap.size w0 W
  ab : a < b
  wa : w0.heap.size ≤ a
section
variable {w0 W W' : World} {a b : Nat} {p : HP} {x : Int × Int}
theorem Fd.stay (h : Fd w0 W a b p x) {B : Nat} (hb : Below B W W') (hB : b + 1 ≤ B) : Fd w0 W' a b p x :=
  ⟨h.h.below hb (by have := h.ab; omega), h.e.below hb (by omega), h.bl.trans (hb.mono (by have := h.ab; have := h.wa; omega)), h.ab, h.wa⟩
theorem Fd.lt (h : Fd w0 W a b p x) : b + 1 ≤ W.heap.size := h.e.lt
theorem Fd.put (h : Fd w0 W a b p x) (q : HP) : Fd w0 ((W.setCell ⟨a, 0, none⟩ (.pointer q.q)).setCell ⟨a, 1, none⟩ (.int .i64 q.n)) a b q x :=
  ⟨h.h.set _ _, h.e.aside (by have := h.ab; omega) _ _, below_set2 h.bl h.wa _ _, h.ab, h.wa⟩
theorem Fd.puts (h : Fd w0 W a b p x) (y : Int × Int) : Fd w0 ((W.setCell ⟨b, 0, none⟩ (.int .i64 y.1)).setCell ⟨b, 1, none⟩ (.int .i64 y.2)) a b p y :=
  ⟨h.h.aside (by have := h.ab; omega) _ _, h.e.set _ _, below_set2 h.bl (by have := h.ab; have := h.wa; omega) _ _, h.ab, h.wa⟩
end

end Go.Proofs.YtlaohkflnkjamaaGreatDoor.Hp
