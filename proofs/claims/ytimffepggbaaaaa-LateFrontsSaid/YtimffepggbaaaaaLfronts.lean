/-
  The walk of the statement LateFronts: for every row and every two numbers it returns true, and nothing that was there has changed, in any world.
-/
import Derived.Test.YtimffepggbaaaaaLone
namespace Go.Proofs.Ytimffepggbaaaaa
open Go.Sort Go.RowKit

set_option maxHeartbeats 1000000 in
theorem fronts_long (A : Option Addr) (n c : Nat) (x y : Int) (w : World) (h : 60 < n) : Calls Try.prog 4 #[.slice A n c, .int .i64 x, .int .i64 y] w fun e w' => e = .returned (.bool true) ∧ Below w.heap.size w w' := by
  go_enter Try.func4, Try.ntmps4
  go_wp2_with fail
  ((with_reducible refine (awake_any _).mono ?_); rintro e w1 ⟨rfl, hb1⟩)
  go_wp2_with fail
  go_ret
  exact ⟨rfl, hb1⟩

theorem take_less (xs : List (Int × Int)) {p q : Nat} (h : p ≤ q) : (xs.take q).take p = xs.take p := by
  rw [List.take_take, Nat.min_eq_left h]

set_option maxHeartbeats 2000000 in
set_option maxRecDepth 100000 in
theorem fronts_short (A : Option Addr) (l : List (Int × Int)) (n c : Nat) (x y : Int) (w : World) (hn : n = l.length) (h60 : n ≤ 60) (hr : Row w A l) (hc : n ≤ c) (hA : A = none → c = 0) :
    Calls Try.prog 4 #[.slice A n c, .int .i64 x, .int .i64 y] w fun e w' => e = .returned (.bool true) ∧ Below w.heap.size w w' := by
  have h61 : decide ((60 : Int) < (n : Int)) = false := by simp; omega
  have OF := Lib.hid (fun W (h : Row W A l) => of_any A l n c W hn (by omega) h hc hA)
  obtain ⟨i, hi⟩ : ∃ k, (min (max (min x y) 0) (n : Int)).toNat = k := ⟨_, rfl⟩
  obtain ⟨j, hj⟩ : ∃ k, (min (max (max x y) 0) (n : Int)).toNat = k := ⟨_, rfl⟩
  have hij : i ≤ j := by omega
  have hjn : j ≤ n := by omega
  have hiz : ((i : Int) != min (max (min x y) 0) (n : Int)) = false := by rw [bne_eq_false_iff_eq]; omega
  have d1 : decide (j < i) = false := by simp; omega
  have d2 : decide (n < j) = false := by simp; omega
  have F1 := Lib.hid (fun b A c d w h hd => front_at b n A c l d (min x y) i w h hd hn (by omega) hi)
  have F2 := Lib.hid (fun b A c d w h hd => front_at b n A c l d (max x y) j w h hd hn (by omega) hj)
  have AL := Lib.hid (fun b A c d w h hd => all_any b n A c l d w h hd hn (by omega))
  have HIL := Lib.hid (show i = ((srt l).take i).length from by rw [List.length_take, srt_length]; omega)
  have HJL := Lib.hid (show j = ((srt l).take j).length from by rw [List.length_take, srt_length]; omega)
  have HR := Lib.hid hr
  clear hn hr hc hA hi hj
  go_enter Try.func4, Try.ntmps4
  go_wp2_with fail
  ((with_reducible refine (awake_any _).mono ?_); rintro e w1 ⟨rfl, hb1⟩)
  have HW1 := Lib.hid hb1
  have HR1 := Lib.hid (HR.out.below hb1)
  clear hb1
  go_wp2_with fail
  ((with_reducible refine (OF.out _ HR1.out).mono ?_); rintro e w2 ⟨a, Aa, ca, rfl, h2, hb2, hlt2, hA2⟩)
  have HA2 := Lib.hid h2
  have HW2 := Lib.hid (And.intro (HW1.out.trans (hb2.mono HW1.out.size)) (Nat.le_trans HW1.out.size hlt2))
  clear h2 hb2 hlt2 hA2 HW1 HR1
  go_wp2_with fail
  ((with_reducible refine (F1.out a Aa ca 0 _ HA2.out (Or.inl rfl)).mono ?_); rintro e w3 ⟨g3, c3, A3, cc3, B3, t3⟩)
  obtain rfl := t3.ret
  have T3 := Lib.hid t3
  have HW3 := Lib.hid (But.below t3.but HW2.out.1 HW2.out.2 HW2.out.1.size)
  clear t3 HA2
  go_wp2_with fail
  ((with_reducible refine (F2.out a A3 cc3 1 _ T3.out.late (Or.inr rfl)).mono ?_); rintro e w4 ⟨g4, c4, A4, cc4, B4, t4⟩)
  obtain rfl := t4.ret
  have T4 := Lib.hid t4
  have AB3 := Lib.hid T3.out.blk
  have P4 := Lib.hid (T3.out.own.but t4.but T3.out.blk)
  have HW4 := Lib.hid (But.below t4.but HW3.out HW2.out.2 HW3.out.size)
  have hc4 := t4.le
  have hm4 := t4.max
  clear t4 HW3 T3
  go_wp2_with fail
  ((with_reducible refine (AL.out a A4 cc4 1 _ T4.out.late (Or.inr rfl)).mono ?_); rintro e w5 ⟨g5, c5, A5, cc5, B5, t5⟩)
  obtain rfl := t5.ret
  have S5 := Lib.hid t5.own
  have P5 := Lib.hid (P4.out.but t5.but AB3.out)
  have Q5 := Lib.hid (T4.out.own.but t5.but T4.out.blk)
  have HW5 := Lib.hid (But.below t5.but HW4.out HW2.out.2 HW4.out.size)
  have hc5 := t5.le
  have hm5 := t5.max
  clear t5 HW4 T4 P4
  go_wp2_with fail
  ((with_reducible refine (same_self _ _ ((srt l).take i) i _ _ _ HIL.out (by omega) (by have := Row.take Q5.out.rowAt i; rw [take_less _ hij] at this; exact this) P5.out.rowAt).mono ?_); rintro e w6 ⟨rfl, hb6⟩)
  have S6 := Lib.hid (S5.out.below hb6)
  have Q6 := Lib.hid (Q5.out.below hb6)
  have HW6 := Lib.hid (HW5.out.trans (hb6.mono HW5.out.size))
  clear hb6 P5 S5 Q5 HW5
  go_wp2_with fail
  ((with_reducible refine (same_self _ _ ((srt l).take j) j _ _ _ HJL.out (by omega) (Row.take S6.out.rowAt j) Q6.out.rowAt).mono ?_); rintro e w7 ⟨rfl, hb7⟩)
  have HW7 := Lib.hid (HW6.out.trans (hb7.mono HW6.out.size))
  clear hb7
  go_wp2
  go_ret
  exact ⟨rfl, HW7.out⟩

theorem fronts_any (A : Option Addr) (l : List (Int × Int)) (n c : Nat) (x y : Int) (w : World) (hn : n = l.length) (hr : Row w A l) (hc : n ≤ c) (hA : A = none → c = 0) :
    Calls Try.prog 4 #[.slice A n c, .int .i64 x, .int .i64 y] w fun e w' => e = .returned (.bool true) ∧ Below w.heap.size w w' := by
  by_cases h : 60 < n
  · exact fronts_long A n c x y w h
  · exact fronts_short A l n c x y w hn (by omega) hr hc hA

end Go.Proofs.Ytimffepggbaaaaa
