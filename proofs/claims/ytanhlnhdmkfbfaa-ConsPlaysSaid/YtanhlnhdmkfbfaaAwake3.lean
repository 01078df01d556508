/-
  The document's example of layer 3 holds: awake returns true, and nothing that was there has changed, in any world.
-/
import Derived.Test.YtanhlnhdmkfbfaaCons6
import Derived.Test.YtanhlnhdmkfbfaaSame3
namespace Go.Proofs.Ytanhlnhdmkfbfaa
open Go.Sort Go.RowKit

theorem row_new (w : World) (xs : List El) (cs : Array Value) (t : TypeId) (hc : cs = (xs.map one).toArray) : Row1 one (w.alloc (.cells cs t)) (some ⟨w.heap.size, 0, none⟩) xs := fun _ => by
  refine ⟨w.heap.size, 0, rfl, fun j hj => ?_⟩
  have e : (w.alloc (.cells cs t)).heap[w.heap.size]? = some (.cells cs t (0, 0)) := World.alloc_heap_new w _
  unfold World.cell?
  rw [e, hc]
  simp [hj]
/-- A row that was just laid keeps what was there. -/
theorem below_new (w : World) (o : Obj) : Below w.heap.size w (w.alloc o) := (Below.refl _ _).alloc (Nat.le_refl _) o
theorem Below.step {u v w : World} (h : Below u.heap.size u v) (k : Below v.heap.size v w) : Below u.heap.size u w := h.trans (k.mono h.size)

theorem below_drawn (w : World) : Below w.heap.size w w.drew := (Below.refl _ _).drew
theorem LL.drew {w : World} {p : Option Addr} {n : Nat} {xs : List El} (h : LL w p n xs) : LL w.drew p n xs := h.stay (below_drawn w)
theorem Row1.drew {α : Type} {one : α → Value} {w : World} {A : Option Addr} {xs : List α} (h : Row1 one w A xs) : Row1 one w.drew A xs := h.stay (below_drawn w)
theorem Box2.drew {W : World} {b : Nat} {t : TypeId} {x y : Value} (h : Box2 W b t x y) : Box2 W.drew b t x y := h

set_option maxHeartbeats 4000000 in
set_option maxRecDepth 100000 in
theorem awake_any (w : World) : Calls Try.prog 6 #[] w fun e w' => e = .returned (.bool true) ∧ Below w.heap.size w w' := by
  go_enter Try.func6, Try.ntmps6
  go_wp2_with fail
  ((with_reducible refine (of_l (n := 2) (xs := [1, 2]) rfl (row_new w [1, 2] #[.int .i64 1, .int .i64 2] 3 rfl) (by decide)).mono ?_); rintro e w1 ⟨p1, n1, rfl, hl1, hb1⟩)
  have L1 := Lib.hid (hl1.alloc (.cells #[.pointer p1, .int .i64 n1] 27))
  have X1 := Lib.hid (Box2.new w1 27 (.pointer p1) (.int .i64 n1))
  have B1 := Lib.hid (Below.step (Below.step (below_new w _) hb1) (below_new w1 (.cells #[.pointer p1, .int .i64 n1] 27)))
  have N1 := Lib.hid (show (n1 : Int) = 2 from by have := hl1.len; simp at this; omega)
  clear hl1 hb1
  go_wp2_with fail
  ((with_reducible refine (push_l 0 L1.out (by have := N1.out; omega)).mono ?_); rintro e w2 ⟨p2, n2, rfl, hl2, hb2⟩)
  have X2 := Lib.hid ((X1.out.stay hb2).alloc (.cells #[.pointer p2, .int .i64 n2] 27))
  have L2 := Lib.hid (hl2.alloc (.cells #[.pointer p2, .int .i64 n2] 27))
  have Y2 := Lib.hid (Box2.new w2 27 (.pointer p2) (.int .i64 n2))
  have B2 := Lib.hid (Below.step (Below.step B1.out hb2) (below_new w2 (.cells #[.pointer p2, .int .i64 n2] 27)))
  clear hl2 hb2 L1 X1 B1
  go_wp2_with fail
  ((with_reducible refine (first_cons p2 0 [1, 2] n2 _ L2.out.ch).mono ?_); rintro e w3 ⟨rfl, hb3⟩)
  have X3 := Lib.hid (X2.out.stay hb3)
  have Y3 := Lib.hid (Y2.out.stay hb3)
  have L3 := Lib.hid (L2.out.stay hb3)
  have B3 := Lib.hid (Below.step B2.out hb3)
  clear hb3 X2 L2 Y2 B2
  generalize w1.heap.size = b1 at *
  generalize w2.heap.size = b2 at *
  go_wp2_with fail
  ((with_reducible refine (first_nil 0 _).mono ?_); rintro e w4 ⟨rfl, hb4⟩)
  have X4 := Lib.hid (X3.out.stay hb4)
  have Y4 := Lib.hid (Y3.out.stay hb4)
  have L4 := Lib.hid (L3.out.stay hb4)
  have B4 := Lib.hid (Below.step B3.out hb4)
  have c0 := Y4.out.c0
  have c1 := Y4.out.c1
  clear hb4 X3 L3 Y3 B3
  go_wp2_with fail
  ((with_reducible refine (rev_l L4.out).mono ?_); rintro e w5 ⟨p5, n5, rfl, hl5, hb5⟩)
  have X5 := Lib.hid (X4.out.stay hb5)
  have Y5 := Lib.hid (Y4.out.stay hb5)
  have L5 := Lib.hid (L4.out.stay hb5)
  have R5 := Lib.hid hl5
  have B5 := Lib.hid (Below.step B4.out hb5)
  clear c0 c1 hl5 hb5 X4 L4 Y4 B4
  go_wp2_with fail
  ((with_reducible refine (all_l R5.out).mono ?_); rintro e w6 ⟨A6, c6, rfl, -, hr6, -, hb6⟩)
  have hb7 := below_new w6 (.cells #[.int .i64 2, .int .i64 1, .int .i64 0] 3)
  have X6 := Lib.hid ((X5.out.stay hb6).stay hb7)
  have Y6 := Lib.hid ((Y5.out.stay hb6).stay hb7)
  have L6 := Lib.hid ((L5.out.stay hb6).stay hb7)
  have B6 := Lib.hid (Below.step (Below.step B5.out hb6) hb7)
  have R6 := Lib.hid (hr6.stay hb7)
  have S6 := Lib.hid (row_new w6 [2, 1, 0] #[.int .i64 2, .int .i64 1, .int .i64 0] 3 rfl)
  have N5 := Lib.hid (show n5 = 3 from R5.out.len)
  clear hb6 hb7 hr6 X5 L5 Y5 B5 R5
  rw [N5.out]
  go_wp2_with fail
  ((with_reducible refine (same_true A6 _ [2, 1, 0] 3 _ _ _ rfl R6.out S6.out (by decide)).mono ?_); rintro e w7 ⟨rfl, hb7⟩)
  have X7 := Lib.hid (X6.out.stay hb7)
  have Y7 := Lib.hid (Y6.out.stay hb7)
  have L7 := Lib.hid (L6.out.stay hb7)
  have B7 := Lib.hid (Below.step B6.out hb7)
  have c0 := X7.out.c0
  have c1 := X7.out.c1
  clear hb7 X6 L6 Y6 B6 R6 S6
  go_wp2_with fail
  ((with_reducible refine len_l.mono ?_); rintro e w8 ⟨rfl, hb8⟩)
  have Y8 := Lib.hid (Y7.out.stay hb8)
  have L8 := Lib.hid (L7.out.stay hb8)
  have B8 := Lib.hid (Below.step B7.out hb8)
  have d0 := Y8.out.c0
  have d1 := Y8.out.c1
  clear hb8 X7 L7 Y7 B7 c0 c1
  rw [N1.out]
  go_wp2_with fail
  ((with_reducible refine (rest_l L8.out).mono ?_); rintro e w9 ⟨p9, n9, rfl, hl9, hb9⟩)
  have N9 := Lib.hid (show (n9 : Int) = 2 from by have := hl9.len; simp at this; omega)
  have B9 := Lib.hid (Below.step B8.out hb9)
  clear hl9 hb9 Y8 L8 B8 d0 d1
  go_wp2_with fail
  ((with_reducible refine len_l.mono ?_); rintro e w10 ⟨rfl, hb10⟩)
  have B10 := Lib.hid (Below.step B9.out hb10)
  clear hb10 B9
  rw [N9.out]
  go_wp2
  go_ret
  exact ⟨rfl, B10.out⟩

end Go.Proofs.Ytanhlnhdmkfbfaa
