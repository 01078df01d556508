/-
  The walk of the statement ConsDrops: for any row of numbers and any byte it returns true, and nothing that was there has changed, in any world.
-/
import Derived.Test.YtanhlnhdmkfbfaaAwake3
import Derived.IntWalk
namespace Go.Proofs.Ytanhlnhdmkfbfaa
open Go.Sort Go.RowKit

theorem row_drop {w : World} {a : Addr} {xs : List El} (h : Row1 one w (some a) xs) (k : Nat) : Row1 one w (some (a.add k)) (xs.drop k) := fun h0 => by
  have hk : k < xs.length := by simp at h0; omega
  obtain ⟨b, o, e, hc⟩ := h (by omega)
  injection e with e
  subst e
  refine ⟨b, o + k, by rw [add_flat], fun j hj => ?_⟩
  have := hc (k + j) (by simp at hj; omega)
  rw [← Nat.add_assoc] at this
  rw [this]
  simp

theorem row_part {w : World} {a : Addr} {xs : List El} (h : Row1 one w (some a) xs) (k c : Nat) (hc : xs.length ≤ c) (hk : k ≤ xs.length) : Row1 one w (if c = k then some a else some (a.add k)) (xs.drop k) := by
  by_cases e : c = k
  · rw [if_pos e, List.drop_eq_nil_of_le (by omega)]
    exact Row1.nil _ _
  · rw [if_neg e]
    exact row_drop h k

attribute [local go_sem ↓] Go.wp_at_zero Go.wp_at_succ

set_option maxHeartbeats 4000000 in
set_option maxRecDepth 100000 in
theorem drops_some (a : Addr) (xs : List El) (n c m : Nat) (w : World) (hn : n = xs.length) (hr : Row1 one w (some a) xs) (hc : n ≤ c) (hm : m < 256) :
    Calls Try.prog 5 #[.slice (some a) n c, .int .u8 m] w fun e w' => e = .returned (.bool true) ∧ Below w.heap.size w w' := by
  have HR := Lib.hid hr
  have HN := Lib.hid hn
  clear hr hn
  go_enter Try.func5, Try.ntmps5
  go_wp2_with fail
  ((with_reducible refine (awake_any _).mono ?_); rintro e w1 ⟨rfl, hb1⟩)
  have B1 := Lib.hid hb1
  have R1 := Lib.hid (HR.out.stay hb1)
  clear hb1 HR
  by_cases h60 : 60 < n
  · have g1 : decide ((60 : Int) < (n : Int)) = true := by simp; omega
    go_wp2_with fail
    go_ret
    exact ⟨rfl, B1.out⟩
  · have g1 : decide ((60 : Int) < (n : Int)) = false := by simp; omega
    go_wp2_with fail
    ((with_reducible refine (of_l HN.out R1.out (by omega)).mono ?_); rintro e w2 ⟨p2, n2, rfl, hl2, hb2⟩)
    have hb2' := below_new w2 (.cells #[.pointer p2, .int .i64 n2] 27)
    have L2 := Lib.hid (hl2.stay hb2')
    have R2 := Lib.hid ((R1.out.stay hb2).stay hb2')
    have B2 := Lib.hid (Below.step (Below.step B1.out hb2) hb2')
    clear hl2 hb2 hb2' B1 R1
    go_wp2_with fail
    ((with_reducible refine (drop_l (m : Int) L2.out (by omega) (by omega)).mono ?_); rintro e w3 ⟨p3, n3, rfl, hl3, hb3⟩)
    obtain ⟨k, hk⟩ : ∃ k, k = min m n := ⟨_, rfl⟩
    have hkn : k ≤ n := by omega
    have hd : xs.drop ((m : Int).toNat) = xs.drop k := by
      rw [hk, Int.toNat_natCast]
      by_cases h : m ≤ n
      · rw [Nat.min_eq_left h]
      · rw [Nat.min_eq_right (by omega), List.drop_eq_nil_of_le (by have := HN.out; omega), List.drop_eq_nil_of_le (by have := HN.out; omega)]
    rw [hd] at hl3
    have hb3' := below_new w3 (.cells #[.pointer p3, .int .i64 n3] 27)
    have L3 := Lib.hid (hl3.stay hb3')
    have X3 := Lib.hid (Box2.new w3 27 (.pointer p3) (.int .i64 n3))
    have R3 := Lib.hid ((R2.out.stay hb3).stay hb3')
    have B3 := Lib.hid (Below.step (Below.step B2.out hb3) hb3')
    have N3 := Lib.hid (show n3 = n - k from by rw [hl3.len, HN.out]; simp)
    clear hl3 hb3 hb3' B2 R2 L2 hd
    generalize w2.heap.size = b2 at *
    go_wp2_with fail
    rw [show Value.int .i64 (n : Int) = Value.int .i64 (k : Int) from by rw [hk, Nat.min_eq_right (by omega)]]
    rotate_left
    rw [show Value.int .i64 (m : Int) = Value.int .i64 (k : Int) from by rw [hk, Nat.min_eq_left (by omega)]]
    rotate_right
    all_goals clear h hk
    all_goals have R4 := Lib.hid (row_part R3.out.drew k c (by rw [← HN.out]; exact hc) (by rw [← HN.out]; exact hkn))
    all_goals by_cases hck : c = k
    all_goals first | (have R5 := Lib.hid (if_pos hck ▸ R4.out); clear R4) | (have R5 := Lib.hid (if_neg hck ▸ R4.out); clear R4)
    all_goals
      generalize w3.heap.size = b3 at *
      generalize (w3.alloc (.cells #[.pointer p3, .int .i64 n3] 27)) = W3 at *
      have X4 := Lib.hid X3.out.drew
      have L4 := Lib.hid L3.out.drew
      have c0 := X3.out.c0
      have c1 := X3.out.c1
      have i0 : (0 : Int) ≤ (k : Int) := by omega
      have i1 : (k : Int) ≤ (n : Int) := by omega
      have i2 : (n : Int) ≤ (c : Int) := by omega
      have hD := Lib.hid (show n - k = (xs.drop k).length from by rw [HN.out]; simp)
      have hw1 : IntKind.i64.wrap ((n : Int) - (k : Int)) = (n3 : Int) := by rw [IntWalk.i64_in _ (by omega)]; have := N3.out; omega
      clear X3 L3
      go_region_held3 (fun w' => w'.cell? ⟨b3, 0, none⟩ = some (.pointer p3) ∧ w'.cell? ⟨b3, 1, none⟩ = some (.int .i64 n3)) (go_keep)
        (first | (go_at_call 20; ((with_reducible refine (all_l L4.out).mono ?_); rintro e w4 ⟨A4, c4, rfl, -, hr4, -, hb4⟩; have B4 := Lib.hid hb4; have S4 := Lib.hid hr4; have e0 := (X4.out.stay hb4).c0; have e1 := (X4.out.stay hb4).c1; clear hr4 hb4)) | (go_at_call 19; ((with_reducible refine (same_two L4.out.len hD.out S4.out (R5.out.stay B4.out) L4.out.lt).mono ?_); rintro e w5 ⟨rfl, hb5⟩; have B5 := Lib.hid (Below.step B4.out hb5); have f0 := ((X4.out.stay B4.out).stay hb5).c0; have f1 := ((X4.out.stay B4.out).stay hb5).c1; clear hb5)) | (go_at_call 21; ((with_reducible refine len_l.mono ?_); rintro e w6 ⟨rfl, hb6⟩; have B6 := Lib.hid (Below.step B5.out hb6); have j0 := ((X4.out.stay B5.out).stay hb6).c0; have j1 := ((X4.out.stay B5.out).stay hb6).c1; clear hb6)))
    all_goals
      have hb6 := Below.step (below_drawn W3) B6.out
      have X6 := Lib.hid (X4.out.stay B6.out)
      have L6 := Lib.hid (L4.out.stay B6.out)
      have R6 := Lib.hid (R3.out.stay hb6)
      have S6 := Lib.hid (R5.out.stay B6.out)
      have B7 := Lib.hid (Below.step B3.out hb6)
      clear hb6 B6 B5 B4 S4 e0 e1 f0 f1 hw1 L4 X4 R5 R3 B3 c0 c1 i0 i1 i2
      generalize w6 = w7 at *
      cases hdr : xs.drop k with
      | nil =>
        rw [hdr] at L6
        obtain rfl := L6.out.ch.nil
        have hkn2 : (n : Int) = (k : Int) := by
          have := congrArg List.length hdr
          have := HN.out
          simp at *
          omega
        have HK := Lib.hid hkn2
        clear hkn2 hkn
        go_wp2_with fail
        ((with_reducible refine (first_nil n3 _).mono ?_); rintro e w8 ⟨rfl, hb8⟩)
        have X8 := Lib.hid (X6.out.stay hb8)
        have L8 := Lib.hid (L6.out.stay hb8)
        have B8 := Lib.hid (Below.step B7.out hb8)
        have e0 := X8.out.c0
        have e1 := X8.out.c1
        have hkn2 := HK.out
        clear hb8 X6 L6 B7 R6 S6 j0 j1
        go_wp2_with fail
        ((with_reducible refine (rest_l L8.out).mono ?_); rintro e w9 ⟨p9, n9, rfl, hl9, hb9⟩)
        have N9 := Lib.hid (show (n9 : Int) = 0 from by have := hl9.len; simp at this; omega)
        have B9 := Lib.hid (Below.step B8.out hb9)
        clear hl9 hb9 X8 L8 B8 e0 e1 hkn2
        go_wp2_with fail
        ((with_reducible refine len_l.mono ?_); rintro e w10 ⟨rfl, hb10⟩)
        have B10 := Lib.hid (Below.step B9.out hb10)
        clear hb10 B9
        rw [N9.out]
        go_wp2
        go_ret
        exact ⟨rfl, B10.out⟩
      | cons y ys =>
        rw [hdr] at L6 S6 hD
        have hkl : k < n := by
          have := congrArg List.length hdr
          have := HN.out
          simp at *
          omega
        obtain ⟨b, o, ea, hcell⟩ := R6.out (by have := HN.out; omega)
        injection ea with ea
        subst ea
        try rw [add_flat] at S6
        have hy := hcell k (by have := HN.out; omega)
        have hyk : xs[k]'(by have := HN.out; omega) = y := by
          rw [List.drop_eq_getElem_cons (by have := HN.out; omega)] at hdr
          injection hdr
        rw [hyk] at hy
        have HY := Lib.hid hy
        have HBL := Lib.hid (lt_of_cell hy)
        clear hcell hyk hdr hy R6
        go_wp2_with fail
        ((with_reducible refine (first_cons p3 y ys n3 _ L6.out.ch).mono ?_); rintro e w8 ⟨rfl, hb8⟩)
        have X8 := Lib.hid (X6.out.stay hb8)
        have L8 := Lib.hid (L6.out.stay hb8)
        have S8 := Lib.hid (S6.out.stay hb8)
        have B8 := Lib.hid (Below.step B7.out hb8)
        have y8 := (hb8.cell (p := ⟨b, o + k, none⟩) HBL.out).trans HY.out
        clear hb8 X6 L6 S6 B7 j0 j1 HY HBL
        go_wp2_with fail
        have XD := Lib.hid X8.out.drew
        have LD := Lib.hid L8.out.drew
        have SD := Lib.hid S8.out.drew
        have e0 := X8.out.c0
        have e1 := X8.out.c1
        have yd : w8.drew.cell? ⟨b, o + k, none⟩ = some (one y) := y8
        have YD := Lib.hid yd
        have YL := Lib.hid (lt_of_cell yd)
        have i0 : (0 : Int) ≤ (k : Int) := by omega
        have i1 : (k : Int) ≤ (n : Int) := by omega
        have i2 : (n : Int) ≤ (c : Int) := by omega
        have i3 : (k : Int) < (n : Int) := by omega
        clear yd X8 L8 S8
        go_region_held3 (fun w' => w'.cell? ⟨b3, 0, none⟩ = some (.pointer p3) ∧ w'.cell? ⟨b3, 1, none⟩ = some (.int .i64 n3) ∧ w'.cell? ⟨b, o + k, none⟩ = some (one y)) (go_keep)
          (first | (go_at_call 10; ((with_reducible refine (rest_l LD.out).mono ?_); rintro e w9 ⟨p9, n9, rfl, hl9, hb9⟩; have L9 := Lib.hid (show LL w9 p9 n9 ys from hl9); have B9 := Lib.hid hb9; have q0 := (XD.out.stay hb9).c0; have q1 := (XD.out.stay hb9).c1; have q2 := (hb9.cell (p := ⟨b, o + k, none⟩) YL.out).trans YD.out; clear hl9 hb9)) | (go_at_call 8; ((with_reducible refine (push_l y L9.out (by have := L9.out.len; have := LD.out.len; have := LD.out.lt; simp at *; omega)).mono ?_); rintro e w10 ⟨p10, n10, rfl, hl10, hb10⟩; have L10 := Lib.hid hl10; have B10 := Lib.hid (Below.step B9.out hb10); have r0 := (XD.out.stay (Below.step B9.out hb10)).c0; have r1 := (XD.out.stay (Below.step B9.out hb10)).c1; have r2 := ((Below.step B9.out hb10).cell (p := ⟨b, o + k, none⟩) YL.out).trans YD.out; clear hl10 hb10)) | (go_at_call 20; ((with_reducible refine (all_l L10.out).mono ?_); rintro e w11 ⟨A11, c11, rfl, -, hr11, -, hb11⟩; have R11 := Lib.hid hr11; have B11 := Lib.hid (Below.step B10.out hb11); have s0 := (XD.out.stay (Below.step B10.out hb11)).c0; have s1 := (XD.out.stay (Below.step B10.out hb11)).c1; have s2 := ((Below.step B10.out hb11).cell (p := ⟨b, o + k, none⟩) YL.out).trans YD.out; clear hr11 hb11)) | (go_at_call 19; ((with_reducible refine (same_two L10.out.len hD.out R11.out (SD.out.stay B11.out) L10.out.lt).mono ?_); rintro e w12 ⟨rfl, hb12⟩; have B12 := Lib.hid (Below.step B11.out hb12); have t0 := (XD.out.stay (Below.step B11.out hb12)).c0; have t1 := (XD.out.stay (Below.step B11.out hb12)).c1; have t2 := ((Below.step B11.out hb12).cell (p := ⟨b, o + k, none⟩) YL.out).trans YD.out; clear hb12)))
        go_wp2
        go_ret
        exact ⟨rfl, Below.step (Below.step B8.out (below_drawn _)) B12.out⟩

end Go.Proofs.Ytanhlnhdmkfbfaa
