/-
  The walk of the statement LateOne: for every row and every number it returns true, and nothing that was there has changed, in any world.
-/
import Derived.Test.YtimffepggbaaaaaLwake
import Derived.Test.YtimffepggbaaaaaRefSort
import Derived.Test.YtimffepggbaaaaaSame
namespace Go.Proofs.Ytimffepggbaaaaa
open Go.Sort Go.RowKit

theorem Own.but {w w' : World} {base : Nat} {v : Value} {xs : List (Int × Int)} {g : Nat} (h : Own w base v xs) (hb : But g w w') (hg : g < base) : Own w' base v xs := by
  refine World.ownsRow.kept h (row := some g) ⟨hb.os, hb.tape, hb.output, hb.size, fun k hk hne => hb.block k hk (fun e => hne (by rw [e]))⟩ ?_
  cases hv : v.ownBlock with
  | none => exact Or.inl rfl
  | some k => right; intro e; injection e with e; have := (World.ownsRow.lt h k hv).1; omega

/-- A row of the call's own, at its address. -/
theorem Own.rowAt {w : World} {base g n c : Nat} {xs : List (Int × Int)} (h : Own w base (.slice (some ⟨g, 0, Option.none⟩) n c) xs) : Row w (some ⟨g, 0, Option.none⟩) xs := fun _ =>
  ⟨g, 0, rfl, fun j u hu => by have := h.cells (g := g) rfl j u hu; rwa [add_plain] at this⟩

theorem same_self (A B : Option Addr) (xs : List (Int × Int)) (n ca cb : Nat) (w : World) (hn : n = xs.length) (hx : n < 2147483648) (hA : Row w A xs) (hB : Row w B xs) :
    Calls Try.prog 13 #[.slice A n ca, .slice B n cb] w fun e w' => e = .returned (.bool true) ∧ Below w.heap.size w w' := by
  subst hn
  have h := same_any A B xs xs ca cb w hx hA hB
  rw [show decide (xs = xs) = true from by simp] at h
  exact h
theorem refSort_n (A : Option Addr) (l : List (Int × Int)) (n c : Nat) (w : World) (hn : n = l.length) (hsz : n < 1073741823) (hr : Row w A l) :
    Calls Try.prog 10 #[.slice A n c] w fun e w' => ∃ A c, e = .returned (.slice A n c) ∧ Row w' A (srt l) ∧ Below w.heap.size w w' := by
  subst hn; exact refSort_any A l c w hsz hr

set_option maxHeartbeats 1000000 in
theorem one_long (A : Option Addr) (n c : Nat) (k : Int) (w : World) (h : 60 < n) : Calls Try.prog 5 #[.slice A n c, .int .i64 k] w fun e w' => e = .returned (.bool true) ∧ Below w.heap.size w w' := by
  go_enter Try.func5, Try.ntmps5
  go_wp2_with fail
  ((with_reducible refine (awake_any _).mono ?_); rintro e w1 ⟨rfl, hb1⟩)
  go_wp2_with fail
  go_ret
  exact ⟨rfl, hb1⟩

set_option maxHeartbeats 2000000 in
set_option maxRecDepth 100000 in
theorem one_short (A : Option Addr) (l : List (Int × Int)) (n c : Nat) (z : Int) (w : World) (hn : n = l.length) (h60 : n ≤ 60) (hr : Row w A l) (hc : n ≤ c) (hA : A = none → c = 0) :
    Calls Try.prog 5 #[.slice A n c, .int .i64 z] w fun e w' => e = .returned (.bool true) ∧ Below w.heap.size w w' := by
  have h61 : decide ((60 : Int) < (n : Int)) = false := by simp; omega
  have OF := Lib.hid (fun W (h : Row W A l) => of_any A l n c W hn (by omega) h hc hA)
  obtain ⟨k, hk⟩ : ∃ k, (min (max z 0) (n : Int)).toNat = k := ⟨_, rfl⟩
  have hkn : k ≤ n := by omega
  have hkz : ((k : Int) != min (max z 0) (n : Int)) = false := by rw [bne_eq_false_iff_eq]; omega
  have FR := Lib.hid (fun b A c d w h hd => front_at b n A c l d z k w h hd hn (by omega) hk)
  have HKL := Lib.hid (show k = ((srt l).take k).length from by rw [List.length_take, srt_length]; omega)
  have AL := Lib.hid (fun b A c d w h hd => all_any b n A c l d w h hd hn (by omega))
  have SO := Lib.hid (fun W (h : Row W A l) => refSort_n A l n c W hn (by omega) h)
  have HN := Lib.hid hn
  have HR := Lib.hid hr
  clear hn hr hc hA hk
  go_enter Try.func5, Try.ntmps5
  go_wp2_with fail
  ((with_reducible refine (awake_any _).mono ?_); rintro e w1 ⟨rfl, hb1⟩)
  have HW1 := Lib.hid hb1
  have HR1 := Lib.hid (HR.out.below hb1)
  clear hb1
  go_wp2_with fail
  ((with_reducible refine (OF.out _ HR1.out).mono ?_); rintro e w2 ⟨a, Aa, ca, rfl, h2, hb2, hlt2, hA2⟩)
  have HA2 := Lib.hid h2
  have HW2 := Lib.hid (And.intro (HW1.out.trans (hb2.mono HW1.out.size)) (Nat.le_trans HW1.out.size hlt2))
  have HR2 := Lib.hid (HR1.out.below hb2)
  clear h2 hb2 hlt2 hA2
  go_wp2_with fail
  ((with_reducible refine (OF.out _ HR2.out).mono ?_); rintro e w3 ⟨b, Ab, cb, rfl, h3, hb3, hlt3, hA3⟩)
  have HB3 := Lib.hid h3
  have HA3 := Lib.hid (HA2.out.stay hb3)
  have HAB := Lib.hid (show a < b from by have := HA2.out.blk.lt; omega)
  have HAb := Lib.hid (show ∀ x, Ab = some x → x.block ≠ a from fun x e => by have := hA3 x e; have := HA2.out.blk.lt; omega)
  have HW3 := Lib.hid (HW2.out.1.trans (hb3.mono HW2.out.1.size))
  have HR3 := Lib.hid (HR2.out.below hb3)
  clear h3 hb3 hlt3 hA3 HA2
  go_wp2_with fail
  ((with_reducible refine (FR.out a Aa ca 0 _ HA3.out (Or.inl rfl)).mono ?_); rintro e w4 ⟨g4, c4, A4, cc4, B4, t4⟩)
  obtain rfl := t4.ret
  have T4 := Lib.hid t4
  have HB4 := Lib.hid (HB3.out.but t4.but (by have := HAB.out; omega) HAb.out)
  have HW4 := Lib.hid (But.below t4.but HW3.out HW2.out.2 HW3.out.size)
  have HBB := Lib.hid (show b < B4 from by have := t4.old; have := HB3.out.blk.lt; omega)
  clear t4 HB3 HA3 HW3 HR1 HR2 HR3 HW1 HAb
  go_wp2_with fail
  ((with_reducible refine (done_at a 1 _ T4.out.late.blk.c4).mono ?_); rintro e w5 ⟨rfl, rfl⟩)
  go_wp2_with fail
  ((with_reducible refine (done_at b 0 _ HB4.out.blk.c4).mono ?_); rintro e w6 ⟨rfl, rfl⟩)
  go_wp2_with fail
  ((with_reducible refine (AL.out b Ab cb 0 _ HB4.out (Or.inl rfl)).mono ?_); rintro e w7 ⟨g7, c7, A7, cc7, B7, t7⟩)
  obtain rfl := t7.ret
  have T7 := Lib.hid t7
  have XO7 := Lib.hid (T4.out.own.but t7.but HBB.out)
  have HA7 := Lib.hid (T4.out.late.blk.but t7.but (by have := HAB.out; omega))
  have HW7 := Lib.hid (But.below t7.but HW4.out (by have := HAB.out; have := HW2.out.2; omega) HW4.out.size)
  have hc7 := t7.le
  have hm7 := t7.max
  clear t7 T4 HB4 HW4
  go_wp2_with fail
  ((with_reducible refine (done_at b 1 _ T7.out.late.blk.c4).mono ?_); rintro e w8 ⟨rfl, rfl⟩)
  go_wp2_with fail
  ((with_reducible refine (done_at a 1 _ HA7.out.c4).mono ?_); rintro e w9 ⟨rfl, rfl⟩)
  go_wp2_with fail
  ((with_reducible refine (SO.out _ (HR.out.below HW7.out)).mono ?_); rintro e w10 ⟨A10, c10, rfl, hr10, hb10⟩)
  have Y10 := Lib.hid (T7.out.own.below hb10)
  have X10 := Lib.hid (XO7.out.below hb10)
  have HR10 := Lib.hid hr10
  have HW10 := Lib.hid (HW7.out.trans (hb10.mono HW7.out.size))
  clear hr10 hb10 XO7 HA7 HW7
  go_wp2_with fail
  ((with_reducible refine (same_self _ _ (srt l) n _ _ _ (by rw [srt_length]; exact HN.out) (by omega) Y10.out.rowAt HR10.out).mono ?_); rintro e w11 ⟨rfl, hb11⟩)
  have Y11 := Lib.hid (Y10.out.below hb11)
  have X11 := Lib.hid (X10.out.below hb11)
  have HW11 := Lib.hid (HW10.out.trans (hb11.mono HW10.out.size))
  clear hb11 Y10 X10 HR10 HW10
  go_wp2_with fail
  ((with_reducible refine (same_self _ _ ((srt l).take k) k _ _ _ HKL.out (by omega) (Row.take Y11.out.rowAt k) X11.out.rowAt).mono ?_); rintro e w12 ⟨rfl, hb12⟩)
  have HW12 := Lib.hid (HW11.out.trans (hb12.mono HW11.out.size))
  clear hb12
  go_wp2
  go_ret
  exact ⟨rfl, HW12.out⟩

theorem one_any (A : Option Addr) (l : List (Int × Int)) (n c : Nat) (z : Int) (w : World) (hn : n = l.length) (hr : Row w A l) (hc : n ≤ c) (hA : A = none → c = 0) :
    Calls Try.prog 5 #[.slice A n c, .int .i64 z] w fun e w' => e = .returned (.bool true) ∧ Below w.heap.size w w' := by
  by_cases h : 60 < n
  · exact one_long A n c z w h
  · exact one_short A l n c z w hn (by omega) hr hc hA

end Go.Proofs.Ytimffepggbaaaaa
