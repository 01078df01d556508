/-
  The walk of the statement ConsDrops at a nil row, and at any: for any byte it returns true, and nothing that was there has changed, in any world.
-/
import Derived.Test.YtanhlnhdmkfbfaaDrops
namespace Go.Proofs.Ytanhlnhdmkfbfaa
open Go.Sort Go.RowKit

attribute [local go_sem ↓] Go.wp_at_zero Go.wp_at_succ

set_option maxHeartbeats 4000000 in
set_option maxRecDepth 100000 in
theorem drops_none (m : Nat) (w : World) (hm : m < 256) :
    Calls Try.prog 5 #[.slice none 0 0, .int .u8 m] w fun e w' => e = .returned (.bool true) ∧ Below w.heap.size w w' := by
  go_enter Try.func5, Try.ntmps5
  go_wp2_with fail
  ((with_reducible refine (awake_any _).mono ?_); rintro e w1 ⟨rfl, hb1⟩)
  have B1 := Lib.hid hb1
  clear hb1
  go_wp2_with fail
  ((with_reducible refine (of_l (n := 0) (xs := []) rfl (Row1.nil _ _) (by omega)).mono ?_); rintro e w2 ⟨p2, n2, rfl, hl2, hb2⟩)
  have hb2' := below_new w2 (.cells #[.pointer p2, .int .i64 n2] 27)
  have L2 := Lib.hid (hl2.stay hb2')
  have B2 := Lib.hid (Below.step (Below.step B1.out hb2) hb2')
  clear hl2 hb2 hb2' B1
  go_wp2_with fail
  ((with_reducible refine (drop_l (m : Int) L2.out (by omega) (by omega)).mono ?_); rintro e w3 ⟨p3, n3, rfl, hl3, hb3⟩)
  rw [List.drop_nil] at hl3
  have hb3' := below_new w3 (.cells #[.pointer p3, .int .i64 n3] 27)
  have L3 := Lib.hid (hl3.stay hb3')
  have X3 := Lib.hid (Box2.new w3 27 (.pointer p3) (.int .i64 n3))
  have B3 := Lib.hid (Below.step (Below.step B2.out hb3) hb3')
  have N3 := Lib.hid (show n3 = 0 from hl3.len)
  clear hl3 hb3 hb3' B2 L2
  obtain rfl := L3.out.ch.nil
  have N4 := Lib.hid (show (n3 : Int) = 0 from by have := N3.out; omega)
  clear N3
  generalize w2.heap.size = b2 at *
  rcases Nat.eq_zero_or_pos m with rfl | g2
  all_goals
    go_wp2_with fail
    generalize w3.heap.size = b3 at *
    generalize (w3.alloc (.cells #[.pointer none, .int .i64 n3] 27)) = W3 at *
    have X4 := Lib.hid X3.out.drew
    have L4 := Lib.hid L3.out.drew
    have c0 := X3.out.c0
    have c1 := X3.out.c1
    clear X3 L3
    go_region_held3 (fun w' => w'.cell? ⟨b3, 0, none⟩ = some (.pointer none) ∧ w'.cell? ⟨b3, 1, none⟩ = some (.int .i64 n3)) (go_keep)
      (first | (go_at_call 20; ((with_reducible refine (all_l L4.out).mono ?_); rintro e w4 ⟨A4, c4, rfl, -, hr4, -, hb4⟩; have B4 := Lib.hid hb4; have S4 := Lib.hid hr4; have e0 := (X4.out.stay hb4).c0; have e1 := (X4.out.stay hb4).c1; clear hr4 hb4)) | (go_at_call 19; ((with_reducible refine (same_two (m := 0) (xs := []) L4.out.len rfl S4.out (Row1.nil _ _) L4.out.lt).mono ?_); rintro e w5 ⟨rfl, hb5⟩; have B5 := Lib.hid (Below.step B4.out hb5); have f0 := ((X4.out.stay B4.out).stay hb5).c0; have f1 := ((X4.out.stay B4.out).stay hb5).c1; clear hb5)) | (go_at_call 21; ((with_reducible refine len_l.mono ?_); rintro e w6 ⟨rfl, hb6⟩; rw [N4.out]; have B6 := Lib.hid (Below.step B5.out hb6); have j0 := ((X4.out.stay B5.out).stay hb6).c0; have j1 := ((X4.out.stay B5.out).stay hb6).c1; clear hb6)))
    have hb6 := Below.step (below_drawn W3) B6.out
    have X6 := Lib.hid (X4.out.stay B6.out)
    have L6 := Lib.hid (L4.out.stay B6.out)
    have B7 := Lib.hid (Below.step B3.out hb6)
    clear hb6 B6 B5 B4 S4 e0 e1 f0 f1 L4 X4 B3 c0 c1
    generalize w6 = w7 at *
    go_wp2_with fail
    ((with_reducible refine (first_nil n3 _).mono ?_); rintro e w8 ⟨rfl, hb8⟩)
    have X8 := Lib.hid (X6.out.stay hb8)
    have L8 := Lib.hid (L6.out.stay hb8)
    have B8 := Lib.hid (Below.step B7.out hb8)
    have e0 := X8.out.c0
    have e1 := X8.out.c1
    clear hb8 X6 L6 B7 j0 j1
    go_wp2_with fail
    ((with_reducible refine (rest_l L8.out).mono ?_); rintro e w9 ⟨p9, n9, rfl, hl9, hb9⟩)
    have N9 := Lib.hid (show (n9 : Int) = 0 from by have := hl9.len; simp at this; omega)
    have B9 := Lib.hid (Below.step B8.out hb9)
    clear hl9 hb9 X8 L8 B8 e0 e1
    go_wp2_with fail
    ((with_reducible refine len_l.mono ?_); rintro e w10 ⟨rfl, hb10⟩)
    have B10 := Lib.hid (Below.step B9.out hb10)
    clear hb10 B9
    rw [N9.out]
    go_wp2
    go_ret
    exact ⟨rfl, B10.out⟩

theorem drops_any (A : Option Addr) (xs : List El) (n c m : Nat) (w : World) (hn : n = xs.length) (hr : Row1 one w A xs) (hc : n ≤ c) (hA : A = none → c = 0) (hm : m < 256) :
    Calls Try.prog 5 #[.slice A n c, .int .u8 m] w fun e w' => e = .returned (.bool true) ∧ Below w.heap.size w w' := by
  cases A with
  | some a => exact drops_some a xs n c m w hn hr hc hm
  | none =>
    obtain rfl := hA rfl
    obtain rfl : n = 0 := by omega
    exact drops_none m w hm

end Go.Proofs.Ytanhlnhdmkfbfaa
