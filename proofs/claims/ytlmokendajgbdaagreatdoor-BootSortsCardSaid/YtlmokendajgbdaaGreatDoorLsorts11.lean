/-
  The walk of the statement BootSorts: for any two rows it returns true, and nothing that was there has changed, in any world where the library's table is as it is laid.
-/
import Derived.Test.YtlmokendajgbdaaGreatDoorWwake
namespace Go.Proofs.YtlmokendajgbdaaGreatDoor.Bo
open Go.Sort Go.RowKit

set_option maxRecDepth 100000 in
set_option maxHeartbeats 4000000 in
theorem sorts_any (A : Option Addr) (xs : List (Int × Int)) (c : Nat) (B : Option Addr) (ys : List (Int × Int)) (d : Nat) (w : World) (he : Env w) (hr1 : Row w A xs) (hr2 : Row w B ys) :
    Calls Tryz.prog 4 #[.slice A xs.length c, .slice B ys.length d] w fun e w' => e = .returned (.bool true) ∧ Below w.heap.size w w' := by
  obtain ⟨n, hn⟩ : ∃ n, n = xs.length := ⟨_, rfl⟩
  obtain ⟨m, hm⟩ : ∃ m, m = ys.length := ⟨_, rfl⟩
  rw [← hn, ← hm]
  have HN := Lib.hid (And.intro hn hm)
  have HRW := Lib.hid (And.intro hr1 hr2)
  clear hn hm hr1 hr2
  have HE := Lib.hid he
  have HM0 := Lib.hid (show MAt w (none : Option Nat) 0 0 from trivial)
  have HR0 := Lib.hid (fun W (hb : Bt none w W) => Bas.bt (Bas.first he) he hb (fun _ e => by cases e))
  clear he
  go_enter Tryz.func4, Tryz.ntmps4
  go_wp2_with fail
  ((with_reducible refine (awake_any _ HE.out).mono ?_); rintro e w1 ⟨rfl, hb⟩)
  have HM1 := Lib.hid (show MAt w1 (none : Option Nat) 0 0 from trivial)
  have HR1 := Lib.hid (fun W (hz : Bt none w1 W) => HR0.out W ((Bt.ofBelow hb).trans hz))
  clear HR0 HM0 
  clear hb
  by_cases h1 : 60 < n
  · have q1 : decide ((60 : Int) < (n : Int)) = true := by simp; omega
    have q2 : (60 : Int) < (n : Int) := by omega
    go_wp2_with fail
    go_ret
    exact ⟨rfl, (HR1.out _ (Bt.refl _ _)).below⟩
  have q1 : decide ((60 : Int) < (n : Int)) = false := by simp; omega
  have q2 : ¬ (60 : Int) < (n : Int) := by omega
  by_cases h2 : 60 < m
  · have q3 : decide ((60 : Int) < (m : Int)) = true := by simp; omega
    have q4 : (60 : Int) < (m : Int) := by omega
    go_wp2_with fail
    go_ret
    exact ⟨rfl, (HR1.out _ (Bt.refl _ _)).below⟩
  have q3 : decide ((60 : Int) < (m : Int)) = false := by simp; omega
  have q4 : ¬ (60 : Int) < (m : Int) := by omega
  go_wp2_with fail
  clear q1 q2 q3 q4
  have HS := Lib.hid (And.intro (Nat.le_of_not_lt h1) (Nat.le_of_not_lt h2))
  have hX : (ofL xs).size = n := by rw [ofL_size, HN.out.1]
  have hY : (ofL ys).size = m := by rw [ofL_size, HN.out.2]
  have hZ : (meld (ofL xs) (ofL ys)).size = n + m := by rw [meld_size, hX, hY]
  have hT : (meld (ofL xs) (ofL xs)).size = 2 * n := by rw [meld_size, hX]; omega
  have HX := Lib.hid (And.intro hX (And.intro hY (And.intro hZ hT)))
  clear hX hY hZ hT
  ((with_reducible refine (ofRow A xs n c w _ HRW.out.1 HN.out.1 (by have := HS.out; omega) (HR1.out _ (Bt.refl _ _)).below).mono ?_); rintro e w2 ⟨pX, rfl, ht, hb⟩)
  have HM2 := Lib.hid (show MAt w2 (none : Option Nat) 0 0 from trivial)
  have HR2 := Lib.hid (on_inv (mo := none) HR1.out (Bt.ofBelow hb) (fun W hz => ht.bt hz HM2.out))
  clear HR1 HM1 
  clear ht hb
  go_wp2_with fail
  have HM3 := Lib.hid (show MAt (w2.alloc (.cells #[.pointer pX] 29)) (none : Option Nat) 0 0 from trivial)
  have HR3 := Lib.hid (on_inv (mo := none) HR2.out ((Bt.refl none w2).alloc (.cells #[.pointer pX] 29)) (fun W hz => (HVar.new w2 pX rfl).bt hz HM3.out))
  clear HR2 HM2 
  generalize w2.alloc (.cells #[.pointer pX] 29) = w3 at *
  obtain ⟨bX, hbX⟩ : ∃ b, b = w2.heap.size := ⟨_, rfl⟩
  rw [← hbX] at HR3 ⊢
  clear hbX
  ((with_reducible refine (ofRow B ys m d w _ HRW.out.2 HN.out.2 (by have := HS.out; omega) (HR3.out _ (Bt.refl _ _)).2.2.below).mono ?_); rintro e w4 ⟨pY, rfl, ht, hb⟩)
  have HM4 := Lib.hid (show MAt w4 (none : Option Nat) 0 0 from trivial)
  have HR4 := Lib.hid (on_inv (mo := none) HR3.out (Bt.ofBelow hb) (fun W hz => ht.bt hz HM4.out))
  clear HR3 HM3 
  clear ht hb
  have c1 : (w4.alloc (.cells #[.pointer pY] 29)).cell? ⟨bX, 0, none⟩ = some (.pointer pX) := (HR4.out _ ((Bt.refl _ _).alloc _)).2.1.c0
  go_wp2_with fail
  have HM5 := Lib.hid (show MAt (w4.alloc (.cells #[.pointer pY] 29)) (none : Option Nat) 0 0 from trivial)
  have HR5 := Lib.hid (on_inv (mo := none) HR4.out ((Bt.refl none w4).alloc (.cells #[.pointer pY] 29)) (fun W hz => (HVar.new w4 pY rfl).bt hz HM5.out))
  clear HR4 HM4 c1
  generalize w4.alloc (.cells #[.pointer pY] 29) = w5 at *
  obtain ⟨bY, hbY⟩ : ∃ b, b = w4.heap.size := ⟨_, rfl⟩
  rw [← hbY] at HR5 ⊢
  clear hbY
  ((with_reducible refine (meldNm (ofL xs) (ofL ys) pX pY _ (HR5.out _ (Bt.refl _ _)).2.2.2.1 (HR5.out _ (Bt.refl _ _)).2.1 (by have := HX.out; have := HS.out; omega)).mono ?_); rintro e w6 ⟨pZ, rfl, ht, hb⟩)
  have HM6 := Lib.hid (show MAt w6 (none : Option Nat) 0 0 from trivial)
  have HR6 := Lib.hid (on_inv (mo := none) HR5.out (Bt.ofBelow hb) (fun W hz => ht.bt hz HM6.out))
  clear HR5 HM5 
  clear ht hb
  have c2 : (w6.alloc (.cells #[.pointer pZ] 29)).cell? ⟨bX, 0, none⟩ = some (.pointer pX) := (HR6.out _ ((Bt.refl _ _).alloc _)).2.2.2.1.c0
  go_wp2_with fail
  have HM7 := Lib.hid (show MAt (w6.alloc (.cells #[.pointer pZ] 29)) (none : Option Nat) 0 0 from trivial)
  have HR7 := Lib.hid (on_inv (mo := none) HR6.out ((Bt.refl none w6).alloc (.cells #[.pointer pZ] 29)) (fun W hz => (HVar.new w6 pZ rfl).bt hz HM7.out))
  clear HR6 HM6 c2
  generalize w6.alloc (.cells #[.pointer pZ] 29) = w7 at *
  obtain ⟨bZ, hbZ⟩ : ∃ b, b = w6.heap.size := ⟨_, rfl⟩
  rw [← hbZ] at HR7 ⊢
  clear hbZ
  ((with_reducible refine (meldNm (ofL xs) (ofL xs) pX pX _ (HR7.out _ (Bt.refl _ _)).2.2.2.2.2.1 (HR7.out _ (Bt.refl _ _)).2.2.2.2.2.1 (by have := HX.out; have := HS.out; omega)).mono ?_); rintro e w8 ⟨pT, rfl, ht, hb⟩)
  have HM8 := Lib.hid (show MAt w8 (none : Option Nat) 0 0 from trivial)
  have HR8 := Lib.hid (on_inv (mo := none) HR7.out (Bt.ofBelow hb) (fun W hz => ht.bt hz HM8.out))
  clear HR7 HM7 
  clear ht hb
  go_wp2_with fail
  have HM9 := Lib.hid (show MAt (w8.alloc (.cells #[.pointer pT] 29)) (none : Option Nat) 0 0 from trivial)
  have HR9 := Lib.hid (on_inv (mo := none) HR8.out ((Bt.refl none w8).alloc (.cells #[.pointer pT] 29)) (fun W hz => (HVar.new w8 pT rfl).bt hz HM9.out))
  clear HR8 HM8 
  generalize w8.alloc (.cells #[.pointer pT] 29) = w9 at *
  obtain ⟨bT, hbT⟩ : ∃ b, b = w8.heap.size := ⟨_, rfl⟩
  rw [← hbT] at HR9 ⊢
  clear hbT
  ((with_reducible refine (sortRow A xs n c w _ HRW.out.1 HN.out.1 (by have := HS.out; omega) (HR9.out _ (Bt.refl _ _)).2.2.2.2.2.2.2.2.below).mono ?_); rintro e w10 ⟨vp, rfl, ht, hb⟩)
  have HM10 := Lib.hid (show MAt w10 (none : Option Nat) 0 0 from trivial)
  have HR10 := Lib.hid (on_inv (mo := none) HR9.out (Bt.ofBelow hb) (fun W hz => ht.bt hz HM10.out))
  clear HR9 HM9 
  clear ht hb
  go_wp2_with fail
  ((with_reducible refine (sortRow B ys m d w _ HRW.out.2 HN.out.2 (by have := HS.out; omega) (HR10.out _ (Bt.refl _ _)).2.2.2.2.2.2.2.2.2.below).mono ?_); rintro e w11 ⟨vq, rfl, ht, hb⟩)
  have HM11 := Lib.hid (show MAt w11 (none : Option Nat) 0 0 from trivial)
  have HR11 := Lib.hid (on_inv (mo := none) HR10.out (Bt.ofBelow hb) (fun W hz => ht.bt hz HM11.out))
  clear HR10 HM10 
  clear ht hb
  have c3 : w11.cell? ⟨bZ, 0, none⟩ = some (.pointer pZ) := (HR11.out _ (Bt.refl _ _)).2.2.2.2.1.c0
  go_wp2_with fail
  ((with_reducible refine (drainRw (meld (ofL xs) (ofL ys)) pZ 300 _ (HR11.out _ (Bt.refl _ _)).2.2.2.2.2.1 (meld_ok _ _ (ofL_ok xs) (ofL_ok ys)) (by have := HX.out; have := HS.out; omega) (by decide) (by have := HX.out; have := HS.out; omega)).mono ?_); rintro e w12 ⟨vs, rfl, ht, hb⟩)
  have HM12 := Lib.hid (show MAt w12 (none : Option Nat) 0 0 from trivial)
  have HR12 := Lib.hid (on_inv (mo := none) HR11.out (Bt.ofBelow hb) (fun W hz => ht.bt hz HM12.out))
  clear HR11 HM11 c3
  clear ht hb
  have c4 : w12.cell? ⟨bT, 0, none⟩ = some (.pointer pT) := (HR12.out _ (Bt.refl _ _)).2.2.2.1.c0
  go_wp2_with fail
  ((with_reducible refine (drainRw (meld (ofL xs) (ofL xs)) pT 300 _ (HR12.out _ (Bt.refl _ _)).2.2.2.2.1 (meld_ok _ _ (ofL_ok xs) (ofL_ok xs)) (by have := HX.out; have := HS.out; omega) (by decide) (by have := HX.out; have := HS.out; omega)).mono ?_); rintro e w13 ⟨vt, rfl, ht, hb⟩)
  have HM13 := Lib.hid (show MAt w13 (none : Option Nat) 0 0 from trivial)
  have HR13 := Lib.hid (on_inv (mo := none) HR12.out (Bt.ofBelow hb) (fun W hz => ht.bt hz HM13.out))
  clear HR12 HM12 c4
  clear ht hb
  have c5 : w13.cell? ⟨bX, 0, none⟩ = some (.pointer pX) := (HR13.out _ (Bt.refl _ _)).2.2.2.2.2.2.2.2.2.2.1.c0
  go_wp2_with fail
  ((with_reducible refine (drainRw (ofL xs) pX 300 _ (HR13.out _ (Bt.refl _ _)).2.2.2.2.2.2.2.2.2.2.2.1 (ofL_ok xs) (by have := HX.out; have := HS.out; omega) (by decide) (by have := HX.out; have := HS.out; omega)).mono ?_); rintro e w14 ⟨vu, rfl, ht, hb⟩)
  have HM14 := Lib.hid (show MAt w14 (none : Option Nat) 0 0 from trivial)
  have HR14 := Lib.hid (on_inv (mo := none) HR13.out (Bt.ofBelow hb) (fun W hz => ht.bt hz HM14.out))
  clear HR13 HM13 c5
  clear ht hb
  have c6 : w14.cell? ⟨bY, 0, none⟩ = some (.pointer pY) := (HR14.out _ (Bt.refl _ _)).2.2.2.2.2.2.2.2.2.1.c0
  go_wp2_with fail
  ((with_reducible refine (drainRw (ofL ys) pY 300 _ (HR14.out _ (Bt.refl _ _)).2.2.2.2.2.2.2.2.2.2.1 (ofL_ok ys) (by have := HX.out; have := HS.out; omega) (by decide) (by have := HX.out; have := HS.out; omega)).mono ?_); rintro e w15 ⟨vv, rfl, ht, hb⟩)
  have HM15 := Lib.hid (show MAt w15 (none : Option Nat) 0 0 from trivial)
  have HR15 := Lib.hid (on_inv (mo := none) HR14.out (Bt.ofBelow hb) (fun W hz => ht.bt hz HM15.out))
  clear HR14 HM14 c6
  clear ht hb
  go_wp2_with fail
  ((with_reducible refine (sumRw vp vq _ _ _ (HR15.out _ (Bt.refl _ _)).2.2.2.2.2.1 (HR15.out _ (Bt.refl _ _)).2.2.2.2.1 (by rw [srt_length]; have := HN.out; have := HS.out; omega) (by rw [srt_length]; have := HN.out; have := HS.out; omega)).mono ?_); rintro e w16 ⟨va, rfl, ht, hb⟩)
  have HM16 := Lib.hid (show MAt w16 (none : Option Nat) 0 0 from trivial)
  have HR16 := Lib.hid (on_inv (mo := none) HR15.out (Bt.ofBelow hb) (fun W hz => ht.bt hz HM16.out))
  clear HR15 HM15 
  clear ht hb
  go_wp2_with fail
  ((with_reducible refine (sameIs vs va _ _ _ (HR16.out _ (Bt.refl _ _)).2.2.2.2.1 (HR16.out _ (Bt.refl _ _)).1 (by rw [srt_length, Lh.all_length]; have := HX.out; have := HS.out; omega) (by rw [srt_meld, sum_srt]; exact srt_perm ((ofL_all xs).append (ofL_all ys)))).mono ?_); rintro e w17 ⟨rfl, hb⟩)
  have HM17 := Lib.hid (show MAt w17 (none : Option Nat) 0 0 from trivial)
  have HR17 := Lib.hid (fun W (hz : Bt none w17 W) => HR16.out W ((Bt.ofBelow hb).trans hz))
  clear HR16 HM16 
  clear hb
  go_wp2_with fail
  ((with_reducible refine (sumRw vp vp _ _ _ (HR17.out _ (Bt.refl _ _)).2.2.2.2.2.2.1 (HR17.out _ (Bt.refl _ _)).2.2.2.2.2.2.1 (by rw [srt_length]; have := HN.out; have := HS.out; omega) (by rw [srt_length]; have := HN.out; have := HS.out; omega)).mono ?_); rintro e w18 ⟨vb, rfl, ht, hb⟩)
  have HM18 := Lib.hid (show MAt w18 (none : Option Nat) 0 0 from trivial)
  have HR18 := Lib.hid (on_inv (mo := none) HR17.out (Bt.ofBelow hb) (fun W hz => ht.bt hz HM18.out))
  clear HR17 HM17 
  clear ht hb
  go_wp2_with fail
  ((with_reducible refine (sameIs vt vb _ _ _ (HR18.out _ (Bt.refl _ _)).2.2.2.2.1 (HR18.out _ (Bt.refl _ _)).1 (by rw [srt_length, Lh.all_length]; have := HX.out; have := HS.out; omega) (by rw [srt_meld, sum_srt]; exact srt_perm ((ofL_all xs).append (ofL_all xs)))).mono ?_); rintro e w19 ⟨rfl, hb⟩)
  have HM19 := Lib.hid (show MAt w19 (none : Option Nat) 0 0 from trivial)
  have HR19 := Lib.hid (fun W (hz : Bt none w19 W) => HR18.out W ((Bt.ofBelow hb).trans hz))
  clear HR18 HM18 
  clear hb
  go_wp2_with fail
  ((with_reducible refine (sameIs vu vp _ _ _ (HR19.out _ (Bt.refl _ _)).2.2.2.1 (HR19.out _ (Bt.refl _ _)).2.2.2.2.2.2.2.1 (by rw [srt_length, Lh.all_length]; have := HX.out; have := HS.out; omega) (srt_of xs)).mono ?_); rintro e w20 ⟨rfl, hb⟩)
  have HM20 := Lib.hid (show MAt w20 (none : Option Nat) 0 0 from trivial)
  have HR20 := Lib.hid (fun W (hz : Bt none w20 W) => HR19.out W ((Bt.ofBelow hb).trans hz))
  clear HR19 HM19 
  clear hb
  go_wp2_with fail
  ((with_reducible refine (sameIs vv vq _ _ _ (HR20.out _ (Bt.refl _ _)).2.2.1 (HR20.out _ (Bt.refl _ _)).2.2.2.2.2.2.1 (by rw [srt_length, Lh.all_length]; have := HX.out; have := HS.out; omega) (srt_of ys)).mono ?_); rintro e w21 ⟨rfl, hb⟩)
  have HM21 := Lib.hid (show MAt w21 (none : Option Nat) 0 0 from trivial)
  have HR21 := Lib.hid (fun W (hz : Bt none w21 W) => HR20.out W ((Bt.ofBelow hb).trans hz))
  clear HR20 HM20 
  clear hb
  have c7 : w21.cell? ⟨bZ, 0, none⟩ = some (.pointer pZ) := (HR21.out _ (Bt.refl _ _)).2.2.2.2.2.2.2.2.2.2.1.c0
  go_wp2_with fail
  ((with_reducible refine (size_any (meld (ofL xs) (ofL ys)) pZ _ (HR21.out _ (Bt.refl _ _)).2.2.2.2.2.2.2.2.2.2.2.1).mono ?_); rintro e w22 ⟨rfl, hb⟩)
  have HM22 := Lib.hid (show MAt w22 (none : Option Nat) 0 0 from trivial)
  have HR22 := Lib.hid (fun W (hz : Bt none w22 W) => HR21.out W ((Bt.ofBelow hb).trans hz))
  clear HR21 HM21 c7
  clear hb
  have w1 : IntKind.i64.wrap ((n : Int) + (m : Int)) = (n : Int) + (m : Int) := by rw [IntKind.wrap_i64]; have := HS.out; omega
  rw [show (((meld (ofL xs) (ofL ys)).size : Nat) : Int) = (n : Int) + (m : Int) by rw [HX.out.2.2.1]; omega]
  have c8 : w22.cell? ⟨bT, 0, none⟩ = some (.pointer pT) := (HR22.out _ (Bt.refl _ _)).2.2.2.2.2.2.2.2.1.c0
  go_wp2_with fail
  ((with_reducible refine (size_any (meld (ofL xs) (ofL xs)) pT _ (HR22.out _ (Bt.refl _ _)).2.2.2.2.2.2.2.2.2.1).mono ?_); rintro e w23 ⟨rfl, hb⟩)
  have HM23 := Lib.hid (show MAt w23 (none : Option Nat) 0 0 from trivial)
  have HR23 := Lib.hid (fun W (hz : Bt none w23 W) => HR22.out W ((Bt.ofBelow hb).trans hz))
  clear HR22 HM22 c8
  clear hb
  have w2 : IntKind.i64.wrap (2 * (n : Int)) = 2 * (n : Int) := by rw [IntKind.wrap_i64]; have := HS.out; omega
  rw [show (((meld (ofL xs) (ofL xs)).size : Nat) : Int) = 2 * (n : Int) by rw [HX.out.2.2.2]; omega]
  go_wp2_with fail
  go_ret
  exact ⟨rfl, (HR23.out _ (Bt.refl _ _)).2.2.2.2.2.2.2.2.2.2.2.2.2.2.2.2.below⟩

end Go.Proofs.YtlmokendajgbdaaGreatDoor.Bo
