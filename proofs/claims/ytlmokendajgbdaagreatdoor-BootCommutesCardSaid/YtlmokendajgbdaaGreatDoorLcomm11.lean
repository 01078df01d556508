/-
  The walk of the statement BootCommutes: for any three rows it returns true, and nothing that was there has changed, in any world where the library's table is as it is laid.
-/
import Derived.Test.YtlmokendajgbdaaGreatDoorWwake
namespace Go.Proofs.YtlmokendajgbdaaGreatDoor.Bo
open Go.Sort Go.RowKit

set_option maxRecDepth 100000 in
set_option maxHeartbeats 4000000 in
theorem commutes_any (A : Option Addr) (xs : List (Int × Int)) (c : Nat) (B : Option Addr) (ys : List (Int × Int)) (d : Nat) (C : Option Addr) (zs : List (Int × Int)) (e : Nat) (w : World) (he : Env w) (hr1 : Row w A xs) (hr2 : Row w B ys) (hr3 : Row w C zs) :
    Calls Tryz.prog 6 #[.slice A xs.length c, .slice B ys.length d, .slice C zs.length e] w fun e w' => e = .returned (.bool true) ∧ Below w.heap.size w w' := by
  obtain ⟨n, hn⟩ : ∃ k, k = xs.length := ⟨_, rfl⟩
  obtain ⟨m, hm⟩ : ∃ k, k = ys.length := ⟨_, rfl⟩
  obtain ⟨l, hl⟩ : ∃ k, k = zs.length := ⟨_, rfl⟩
  rw [← hn, ← hm, ← hl]
  have HN := Lib.hid (And.intro hn (And.intro hm hl))
  have HRW := Lib.hid (And.intro hr1 (And.intro hr2 hr3))
  clear hn hm hl hr1 hr2 hr3
  have HE := Lib.hid he
  have HM0 := Lib.hid (show MAt w (none : Option Nat) 0 0 from trivial)
  have HR0 := Lib.hid (fun W (hb : Bt none w W) => Bas.bt (Bas.first he) he hb (fun _ e => by cases e))
  clear he
  go_enter Tryz.func6, Tryz.ntmps6
  go_wp2_with fail
  ((with_reducible refine (awake_any _ HE.out).mono ?_); rintro e w1 ⟨rfl, hb⟩)
  have HM1 := Lib.hid (show MAt w1 (none : Option Nat) 0 0 from trivial)
  have HR1 := Lib.hid (fun W (hz : Bt none w1 W) => HR0.out W ((Bt.ofBelow hb).trans hz))
  clear HR0 HM0 
  clear hb
  by_cases hb0 : 30 < n
  · have qa : decide ((30 : Int) < (n : Int)) = true := by simp; omega
    have qb : (30 : Int) < (n : Int) := by omega
    go_wp2_with fail
    go_ret
    exact ⟨rfl, (HR1.out _ (Bt.refl _ _)).below⟩
  have qa0 : decide ((30 : Int) < (n : Int)) = false := by simp; omega
  have qb0 : ¬ (30 : Int) < (n : Int) := by omega
  by_cases hb1 : 30 < m
  · have qa : decide ((30 : Int) < (m : Int)) = true := by simp; omega
    have qb : (30 : Int) < (m : Int) := by omega
    go_wp2_with fail
    go_ret
    exact ⟨rfl, (HR1.out _ (Bt.refl _ _)).below⟩
  have qa1 : decide ((30 : Int) < (m : Int)) = false := by simp; omega
  have qb1 : ¬ (30 : Int) < (m : Int) := by omega
  by_cases hb2 : 30 < l
  · have qa : decide ((30 : Int) < (l : Int)) = true := by simp; omega
    have qb : (30 : Int) < (l : Int) := by omega
    go_wp2_with fail
    go_ret
    exact ⟨rfl, (HR1.out _ (Bt.refl _ _)).below⟩
  have qa2 : decide ((30 : Int) < (l : Int)) = false := by simp; omega
  have qb2 : ¬ (30 : Int) < (l : Int) := by omega
  go_wp2_with fail
  clear qa0 qb0 qa1 qb1 qa2 qb2
  have HS := Lib.hid (And.intro (Nat.le_of_not_lt hb0) (And.intro (Nat.le_of_not_lt hb1) (And.intro (Nat.le_of_not_lt hb2) (trivial))))
  clear hb0 hb1 hb2
  have hX : (ofL xs).size = n := by rw [ofL_size, HN.out.1]
  have hY : (ofL ys).size = m := by rw [ofL_size, HN.out.2.1]
  have hZ : (ofL zs).size = l := by rw [ofL_size, HN.out.2.2]
  have HX := Lib.hid (And.intro hX (And.intro hY hZ))
  clear hX hY hZ
  ((with_reducible refine (ofRow A xs n c w _ HRW.out.1 HN.out.1 (by have := HS.out; omega) (HR1.out _ (Bt.refl _ _)).below).mono ?_); rintro e w2 ⟨pX, rfl, ht, hb⟩)
  have HM2 := Lib.hid (show MAt w2 (none : Option Nat) 0 0 from trivial)
  have HR2 := Lib.hid (on_inv (mo := none) HR1.out (Bt.ofBelow hb) (fun W hz => ht.bt hz HM2.out))
  clear HR1 HM1 
  clear ht hb
  go_wp2_with fail
  have HM3 := Lib.hid (show MAt (w2.alloc (.cells #[.pointer pX] 29)) (none : Option Nat) 0 0 from trivial)
  have HR3 := Lib.hid (on_inv (mo := none) HR2.out ((Bt.refl none w2).alloc (.cells #[.pointer pX] 29)) (fun W hz => (HVar.new w2 pX rfl).bt hz HM3.out))
  clear HR2 HM2 
  generalize w2.alloc (.cells #[.pointer pX] 29) = w3 at *
  obtain ⟨bX, hbX⟩ : ∃ b, b = w2.heap.size := ⟨_, rfl⟩
  rw [← hbX] at HR3 ⊢
  clear hbX
  ((with_reducible refine (ofRow B ys m d w _ HRW.out.2.1 HN.out.2.1 (by have := HS.out; omega) (HR3.out _ (Bt.refl _ _)).2.2.below).mono ?_); rintro e w4 ⟨pY, rfl, ht, hb⟩)
  have HM4 := Lib.hid (show MAt w4 (none : Option Nat) 0 0 from trivial)
  have HR4 := Lib.hid (on_inv (mo := none) HR3.out (Bt.ofBelow hb) (fun W hz => ht.bt hz HM4.out))
  clear HR3 HM3 
  clear ht hb
  go_wp2_with fail
  have HM5 := Lib.hid (show MAt (w4.alloc (.cells #[.pointer pY] 29)) (none : Option Nat) 0 0 from trivial)
  have HR5 := Lib.hid (on_inv (mo := none) HR4.out ((Bt.refl none w4).alloc (.cells #[.pointer pY] 29)) (fun W hz => (HVar.new w4 pY rfl).bt hz HM5.out))
  clear HR4 HM4 
  generalize w4.alloc (.cells #[.pointer pY] 29) = w5 at *
  obtain ⟨bY, hbY⟩ : ∃ b, b = w4.heap.size := ⟨_, rfl⟩
  rw [← hbY] at HR5 ⊢
  clear hbY
  ((with_reducible refine (ofRow C zs l e w _ HRW.out.2.2 HN.out.2.2 (by have := HS.out; omega) (HR5.out _ (Bt.refl _ _)).2.2.2.2.below).mono ?_); rintro e w6 ⟨pZ, rfl, ht, hb⟩)
  have HM6 := Lib.hid (show MAt w6 (none : Option Nat) 0 0 from trivial)
  have HR6 := Lib.hid (on_inv (mo := none) HR5.out (Bt.ofBelow hb) (fun W hz => ht.bt hz HM6.out))
  clear HR5 HM5 
  clear ht hb
  go_wp2_with fail
  have HM7 := Lib.hid (show MAt (w6.alloc (.cells #[.pointer pZ] 29)) (none : Option Nat) 0 0 from trivial)
  have HR7 := Lib.hid (on_inv (mo := none) HR6.out ((Bt.refl none w6).alloc (.cells #[.pointer pZ] 29)) (fun W hz => (HVar.new w6 pZ rfl).bt hz HM7.out))
  clear HR6 HM6 
  generalize w6.alloc (.cells #[.pointer pZ] 29) = w7 at *
  obtain ⟨bZ, hbZ⟩ : ∃ b, b = w6.heap.size := ⟨_, rfl⟩
  rw [← hbZ] at HR7 ⊢
  clear hbZ
  have s7_0 := (HR7.out _ (Bt.refl _ _)).2.2.2.2.1.c0
  have s7_1 := (HR7.out _ (Bt.refl _ _)).2.2.1.c0
  have s7_2 := (HR7.out _ (Bt.refl _ _)).1.c0
  go_region_held3 (fun w' => w'.cell? ⟨bX, 0, none⟩ = some (.pointer pX) ∧ w'.cell? ⟨bY, 0, none⟩ = some (.pointer pY) ∧ w'.cell? ⟨bZ, 0, none⟩ = some (.pointer pZ)) (go_keep)
    (first | (go_at_call 32; ((with_reducible refine (drainRw (meld (meld (ofL xs) (ofL ys)) (ofL zs)) pB 200 _ (HR9.out _ (Bt.refl _ _)).1 (meld_ok _ _ (meld_ok _ _ (ofL_ok xs) (ofL_ok ys)) (ofL_ok zs)) (by (try simp only [meld_size]); have := HX.out; have := HS.out; omega) (by decide) (by (try simp only [meld_size]); have := HX.out; have := HS.out; omega)).mono ?_); rintro e w10 ⟨vp, rfl, ht, hb⟩); have HM10 := Lib.hid (show MAt w10 (none : Option Nat) 0 0 from trivial); have HR10 := Lib.hid (on_inv (mo := none) HR9.out (Bt.ofBelow hb) (fun W hz => ht.bt hz HM10.out)); have s10_0 := (HR10.out _ (Bt.refl _ _)).2.2.2.2.2.2.2.1.c0; have s10_1 := (HR10.out _ (Bt.refl _ _)).2.2.2.2.2.1.c0; have s10_2 := (HR10.out _ (Bt.refl _ _)).2.2.2.1.c0; clear hb ht) | (go_at_call 19; ((with_reducible refine (meldNm (ofL xs) (ofL ys) pX pY _ (HR7.out _ ((Bt.refl _ _).drew)).2.2.2.2.2.1 (HR7.out _ ((Bt.refl _ _).drew)).2.2.2.1 (by (try simp only [meld_size]); have := HX.out; have := HS.out; omega)).mono ?_); rintro e w8 ⟨pA, rfl, ht, hb⟩); have HM8 := Lib.hid (show MAt w8 (none : Option Nat) 0 0 from trivial); have HR8 := Lib.hid (on_inv (mo := none) HR7.out (((Bt.refl none w7).drew).trans (Bt.ofBelow hb)) (fun W hz => ht.bt hz HM8.out)); have s8_0 := (HR8.out _ (Bt.refl _ _)).2.2.2.2.2.1.c0; have s8_1 := (HR8.out _ (Bt.refl _ _)).2.2.2.1.c0; have s8_2 := (HR8.out _ (Bt.refl _ _)).2.1.c0; clear hb ht) | (go_at_call 19; ((with_reducible refine (meldNm (meld (ofL xs) (ofL ys)) (ofL zs) pA pZ _ (HR8.out _ (Bt.refl _ _)).1 (HR8.out _ (Bt.refl _ _)).2.2.1 (by (try simp only [meld_size]); have := HX.out; have := HS.out; omega)).mono ?_); rintro e w9 ⟨pB, rfl, ht, hb⟩); have HM9 := Lib.hid (show MAt w9 (none : Option Nat) 0 0 from trivial); have HR9 := Lib.hid (on_inv (mo := none) HR8.out (Bt.ofBelow hb) (fun W hz => ht.bt hz HM9.out)); have s9_0 := (HR9.out _ (Bt.refl _ _)).2.2.2.2.2.2.1.c0; have s9_1 := (HR9.out _ (Bt.refl _ _)).2.2.2.2.1.c0; have s9_2 := (HR9.out _ (Bt.refl _ _)).2.2.1.c0; clear hb ht))
  clear s7_0 s7_1 s7_2 s8_0 s8_1 s8_2 s9_0 s9_1 s9_2 s10_0 s10_1 s10_2 HR7 HM7 HR8 HM8 HR9 HM9
  go_wp2_with fail
  have s10_0 := (HR10.out _ (Bt.refl _ _)).2.2.2.2.2.2.2.1.c0
  have s10_1 := (HR10.out _ (Bt.refl _ _)).2.2.2.2.2.1.c0
  have s10_2 := (HR10.out _ (Bt.refl _ _)).2.2.2.1.c0
  go_region_held3 (fun w' => w'.cell? ⟨bX, 0, none⟩ = some (.pointer pX) ∧ w'.cell? ⟨bY, 0, none⟩ = some (.pointer pY) ∧ w'.cell? ⟨bZ, 0, none⟩ = some (.pointer pZ)) (go_keep)
    (first | (go_at_call 32; ((with_reducible refine (drainRw (meld (ofL xs) (meld (ofL ys) (ofL zs))) pD 200 _ (HR12.out _ (Bt.refl _ _)).1 (meld_ok _ _ (ofL_ok xs) (meld_ok _ _ (ofL_ok ys) (ofL_ok zs))) (by (try simp only [meld_size]); have := HX.out; have := HS.out; omega) (by decide) (by (try simp only [meld_size]); have := HX.out; have := HS.out; omega)).mono ?_); rintro e w13 ⟨vq, rfl, ht, hb⟩); have HM13 := Lib.hid (show MAt w13 (none : Option Nat) 0 0 from trivial); have HR13 := Lib.hid (on_inv (mo := none) HR12.out (Bt.ofBelow hb) (fun W hz => ht.bt hz HM13.out)); have s13_0 := (HR13.out _ (Bt.refl _ _)).2.2.2.2.2.2.2.2.2.2.1.c0; have s13_1 := (HR13.out _ (Bt.refl _ _)).2.2.2.2.2.2.2.2.1.c0; have s13_2 := (HR13.out _ (Bt.refl _ _)).2.2.2.2.2.2.1.c0; clear hb ht) | (go_at_call 19; ((with_reducible refine (meldNm (ofL ys) (ofL zs) pY pZ _ (HR10.out _ ((Bt.refl _ _).drew)).2.2.2.2.2.2.1 (HR10.out _ ((Bt.refl _ _).drew)).2.2.2.2.1 (by (try simp only [meld_size]); have := HX.out; have := HS.out; omega)).mono ?_); rintro e w11 ⟨pC, rfl, ht, hb⟩); have HM11 := Lib.hid (show MAt w11 (none : Option Nat) 0 0 from trivial); have HR11 := Lib.hid (on_inv (mo := none) HR10.out (((Bt.refl none w10).drew).trans (Bt.ofBelow hb)) (fun W hz => ht.bt hz HM11.out)); have s11_0 := (HR11.out _ (Bt.refl _ _)).2.2.2.2.2.2.2.2.1.c0; have s11_1 := (HR11.out _ (Bt.refl _ _)).2.2.2.2.2.2.1.c0; have s11_2 := (HR11.out _ (Bt.refl _ _)).2.2.2.2.1.c0; clear hb ht) | (go_at_call 19; ((with_reducible refine (meldNm (ofL xs) (meld (ofL ys) (ofL zs)) pX pC _ (HR11.out _ (Bt.refl _ _)).2.2.2.2.2.2.2.2.2.1 (HR11.out _ (Bt.refl _ _)).1 (by (try simp only [meld_size]); have := HX.out; have := HS.out; omega)).mono ?_); rintro e w12 ⟨pD, rfl, ht, hb⟩); have HM12 := Lib.hid (show MAt w12 (none : Option Nat) 0 0 from trivial); have HR12 := Lib.hid (on_inv (mo := none) HR11.out (Bt.ofBelow hb) (fun W hz => ht.bt hz HM12.out)); have s12_0 := (HR12.out _ (Bt.refl _ _)).2.2.2.2.2.2.2.2.2.1.c0; have s12_1 := (HR12.out _ (Bt.refl _ _)).2.2.2.2.2.2.2.1.c0; have s12_2 := (HR12.out _ (Bt.refl _ _)).2.2.2.2.2.1.c0; clear hb ht))
  clear s10_0 s10_1 s10_2 s11_0 s11_1 s11_2 s12_0 s12_1 s12_2 s13_0 s13_1 s13_2 HR10 HM10 HR11 HM11 HR12 HM12
  go_wp2_with fail
  have s13_0 := (HR13.out _ (Bt.refl _ _)).2.2.2.2.2.2.2.2.2.2.1.c0
  have s13_1 := (HR13.out _ (Bt.refl _ _)).2.2.2.2.2.2.2.2.1.c0
  have s13_2 := (HR13.out _ (Bt.refl _ _)).2.2.2.2.2.2.1.c0
  go_region_held3 (fun w' => w'.cell? ⟨bX, 0, none⟩ = some (.pointer pX) ∧ w'.cell? ⟨bY, 0, none⟩ = some (.pointer pY) ∧ w'.cell? ⟨bZ, 0, none⟩ = some (.pointer pZ)) (go_keep)
    (first | (go_at_call 32; ((with_reducible refine (drainRw (meld (meld (ofL zs) (ofL xs)) (ofL ys)) pF 200 _ (HR15.out _ (Bt.refl _ _)).1 (meld_ok _ _ (meld_ok _ _ (ofL_ok zs) (ofL_ok xs)) (ofL_ok ys)) (by (try simp only [meld_size]); have := HX.out; have := HS.out; omega) (by decide) (by (try simp only [meld_size]); have := HX.out; have := HS.out; omega)).mono ?_); rintro e w16 ⟨vr, rfl, ht, hb⟩); have HM16 := Lib.hid (show MAt w16 (none : Option Nat) 0 0 from trivial); have HR16 := Lib.hid (on_inv (mo := none) HR15.out (Bt.ofBelow hb) (fun W hz => ht.bt hz HM16.out)); have s16_0 := (HR16.out _ (Bt.refl _ _)).2.2.2.2.2.2.2.2.2.2.2.2.2.1.c0; have s16_1 := (HR16.out _ (Bt.refl _ _)).2.2.2.2.2.2.2.2.2.2.2.1.c0; have s16_2 := (HR16.out _ (Bt.refl _ _)).2.2.2.2.2.2.2.2.2.1.c0; clear hb ht) | (go_at_call 19; ((with_reducible refine (meldNm (ofL zs) (ofL xs) pZ pX _ (HR13.out _ ((Bt.refl _ _).drew)).2.2.2.2.2.2.2.1 (HR13.out _ ((Bt.refl _ _).drew)).2.2.2.2.2.2.2.2.2.2.2.1 (by (try simp only [meld_size]); have := HX.out; have := HS.out; omega)).mono ?_); rintro e w14 ⟨pE, rfl, ht, hb⟩); have HM14 := Lib.hid (show MAt w14 (none : Option Nat) 0 0 from trivial); have HR14 := Lib.hid (on_inv (mo := none) HR13.out (((Bt.refl none w13).drew).trans (Bt.ofBelow hb)) (fun W hz => ht.bt hz HM14.out)); have s14_0 := (HR14.out _ (Bt.refl _ _)).2.2.2.2.2.2.2.2.2.2.2.1.c0; have s14_1 := (HR14.out _ (Bt.refl _ _)).2.2.2.2.2.2.2.2.2.1.c0; have s14_2 := (HR14.out _ (Bt.refl _ _)).2.2.2.2.2.2.2.1.c0; clear hb ht) | (go_at_call 19; ((with_reducible refine (meldNm (meld (ofL zs) (ofL xs)) (ofL ys) pE pY _ (HR14.out _ (Bt.refl _ _)).1 (HR14.out _ (Bt.refl _ _)).2.2.2.2.2.2.2.2.2.2.1 (by (try simp only [meld_size]); have := HX.out; have := HS.out; omega)).mono ?_); rintro e w15 ⟨pF, rfl, ht, hb⟩); have HM15 := Lib.hid (show MAt w15 (none : Option Nat) 0 0 from trivial); have HR15 := Lib.hid (on_inv (mo := none) HR14.out (Bt.ofBelow hb) (fun W hz => ht.bt hz HM15.out)); have s15_0 := (HR15.out _ (Bt.refl _ _)).2.2.2.2.2.2.2.2.2.2.2.2.1.c0; have s15_1 := (HR15.out _ (Bt.refl _ _)).2.2.2.2.2.2.2.2.2.2.1.c0; have s15_2 := (HR15.out _ (Bt.refl _ _)).2.2.2.2.2.2.2.2.1.c0; clear hb ht))
  clear s13_0 s13_1 s13_2 s14_0 s14_1 s14_2 s15_0 s15_1 s15_2 s16_0 s16_1 s16_2 HR13 HM13 HR14 HM14 HR15 HM15
  have c1 : w16.cell? ⟨bX, 0, none⟩ = some (.pointer pX) := (HR16.out _ (Bt.refl _ _)).2.2.2.2.2.2.2.2.2.2.2.2.2.1.c0
  have c2 : w16.cell? ⟨bY, 0, none⟩ = some (.pointer pY) := (HR16.out _ (Bt.refl _ _)).2.2.2.2.2.2.2.2.2.2.2.1.c0
  go_wp2_with fail
  ((with_reducible refine (meldNm (ofL ys) (ofL xs) pY pX _ (HR16.out _ (Bt.refl _ _)).2.2.2.2.2.2.2.2.2.2.2.2.1 (HR16.out _ (Bt.refl _ _)).2.2.2.2.2.2.2.2.2.2.2.2.2.2.1 (by (try simp only [meld_size]); have := HX.out; have := HS.out; omega)).mono ?_); rintro e w17 ⟨pvs, rfl, ht, hb⟩)
  have HM17 := Lib.hid (show MAt w17 (none : Option Nat) 0 0 from trivial)
  have HR17 := Lib.hid (on_inv (mo := none) HR16.out (Bt.ofBelow hb) (fun W hz => ht.bt hz HM17.out))
  clear HR16 HM16 c1 c2
  clear ht hb
  go_wp2_with fail
  ((with_reducible refine (drainRw (meld (ofL ys) (ofL xs)) pvs 200 _ (HR17.out _ (Bt.refl _ _)).1 (meld_ok _ _ (ofL_ok ys) (ofL_ok xs)) (by (try simp only [meld_size]); have := HX.out; have := HS.out; omega) (by decide) (by (try simp only [meld_size]); have := HX.out; have := HS.out; omega)).mono ?_); rintro e w18 ⟨vs, rfl, ht, hb⟩)
  have HM18 := Lib.hid (show MAt w18 (none : Option Nat) 0 0 from trivial)
  have HR18 := Lib.hid (on_inv (mo := none) HR17.out (Bt.ofBelow hb) (fun W hz => ht.bt hz HM18.out))
  clear HR17 HM17 
  clear ht hb
  have c3 : w18.cell? ⟨bX, 0, none⟩ = some (.pointer pX) := (HR18.out _ (Bt.refl _ _)).2.2.2.2.2.2.2.2.2.2.2.2.2.2.2.1.c0
  have c4 : w18.cell? ⟨bY, 0, none⟩ = some (.pointer pY) := (HR18.out _ (Bt.refl _ _)).2.2.2.2.2.2.2.2.2.2.2.2.2.1.c0
  go_wp2_with fail
  ((with_reducible refine (meldNm (ofL xs) (ofL ys) pX pY _ (HR18.out _ (Bt.refl _ _)).2.2.2.2.2.2.2.2.2.2.2.2.2.2.2.2.1 (HR18.out _ (Bt.refl _ _)).2.2.2.2.2.2.2.2.2.2.2.2.2.2.1 (by (try simp only [meld_size]); have := HX.out; have := HS.out; omega)).mono ?_); rintro e w19 ⟨pvt, rfl, ht, hb⟩)
  have HM19 := Lib.hid (show MAt w19 (none : Option Nat) 0 0 from trivial)
  have HR19 := Lib.hid (on_inv (mo := none) HR18.out (Bt.ofBelow hb) (fun W hz => ht.bt hz HM19.out))
  clear HR18 HM18 c3 c4
  clear ht hb
  go_wp2_with fail
  ((with_reducible refine (drainRw (meld (ofL xs) (ofL ys)) pvt 200 _ (HR19.out _ (Bt.refl _ _)).1 (meld_ok _ _ (ofL_ok xs) (ofL_ok ys)) (by (try simp only [meld_size]); have := HX.out; have := HS.out; omega) (by decide) (by (try simp only [meld_size]); have := HX.out; have := HS.out; omega)).mono ?_); rintro e w20 ⟨vt, rfl, ht, hb⟩)
  have HM20 := Lib.hid (show MAt w20 (none : Option Nat) 0 0 from trivial)
  have HR20 := Lib.hid (on_inv (mo := none) HR19.out (Bt.ofBelow hb) (fun W hz => ht.bt hz HM20.out))
  clear HR19 HM19 
  clear ht hb
  have P1 := Lib.hid (show srt (meld (meld (ofL xs) (ofL ys)) (ofL zs)).all = srt (meld (ofL xs) (meld (ofL ys) (ofL zs))).all from srt_perm (((meld_all _ _).trans ((meld_all _ _).append_right _)).trans (((List.append_assoc _ _ _) ▸ List.Perm.refl _ : (((ofL xs).all ++ (ofL ys).all) ++ (ofL zs).all).Perm ((ofL xs).all ++ ((ofL ys).all ++ (ofL zs).all))).trans ((meld_all _ _).trans ((meld_all _ _).append_left _)).symm)))
  have P2 := Lib.hid (show srt (meld (meld (ofL xs) (ofL ys)) (ofL zs)).all = srt (meld (meld (ofL zs) (ofL xs)) (ofL ys)).all from srt_perm (((meld_all _ _).trans ((meld_all _ _).append_right _)).trans ((List.perm_append_comm.trans ((List.append_assoc _ _ _) ▸ List.Perm.refl _ : ((ofL zs).all ++ ((ofL xs).all ++ (ofL ys).all)).Perm (((ofL zs).all ++ (ofL xs).all) ++ (ofL ys).all))).trans ((meld_all _ _).trans ((meld_all _ _).append_right _)).symm)))
  have P3 := Lib.hid (show srt (meld (ofL ys) (ofL xs)).all = srt (meld (ofL xs) (ofL ys)).all from srt_perm ((meld_all _ _).trans (List.perm_append_comm.trans (meld_all _ _).symm)))
  go_wp2_with fail
  ((with_reducible refine (sameIs vp vq _ _ _ (HR20.out _ (Bt.refl _ _)).2.2.2.2.2.2.2.2.2.2.1 (HR20.out _ (Bt.refl _ _)).2.2.2.2.2.2.2.1 (by rw [srt_length, Lh.all_length]; (try simp only [meld_size]); have := HX.out; have := HS.out; omega) P1.out).mono ?_); rintro e w21 ⟨rfl, hb⟩)
  have HM21 := Lib.hid (show MAt w21 (none : Option Nat) 0 0 from trivial)
  have HR21 := Lib.hid (fun W (hz : Bt none w21 W) => HR20.out W ((Bt.ofBelow hb).trans hz))
  clear HR20 HM20 
  clear hb
  go_wp2_with fail
  ((with_reducible refine (sameIs vp vr _ _ _ (HR21.out _ (Bt.refl _ _)).2.2.2.2.2.2.2.2.2.2.1 (HR21.out _ (Bt.refl _ _)).2.2.2.2.1 (by rw [srt_length, Lh.all_length]; (try simp only [meld_size]); have := HX.out; have := HS.out; omega) P2.out).mono ?_); rintro e w22 ⟨rfl, hb⟩)
  have HM22 := Lib.hid (show MAt w22 (none : Option Nat) 0 0 from trivial)
  have HR22 := Lib.hid (fun W (hz : Bt none w22 W) => HR21.out W ((Bt.ofBelow hb).trans hz))
  clear HR21 HM21 
  clear hb
  go_wp2_with fail
  ((with_reducible refine (sameIs vs vt _ _ _ (HR22.out _ (Bt.refl _ _)).2.2.1 (HR22.out _ (Bt.refl _ _)).1 (by rw [srt_length, Lh.all_length]; (try simp only [meld_size]); have := HX.out; have := HS.out; omega) P3.out).mono ?_); rintro e w23 ⟨rfl, hb⟩)
  have HM23 := Lib.hid (show MAt w23 (none : Option Nat) 0 0 from trivial)
  have HR23 := Lib.hid (fun W (hz : Bt none w23 W) => HR22.out W ((Bt.ofBelow hb).trans hz))
  clear HR22 HM22 
  clear hb
  obtain ⟨Ap, kp, hvp, -⟩ := (HR23.out _ (Bt.refl _ _)).2.2.2.2.2.2.2.2.2.2.1.form
  subst hvp
  obtain ⟨L, hL⟩ : ∃ L, L = (srt (meld (meld (ofL xs) (ofL ys)) (ofL zs)).all).length := ⟨_, rfl⟩
  rw [← hL]
  have hL2 : L = n + m + l := by rw [hL, srt_length, Lh.all_length, meld_size, meld_size, HX.out.1, HX.out.2.1, HX.out.2.2]
  have w1 : IntKind.i64.wrap ((n : Int) + (m : Int)) = (n : Int) + (m : Int) := by rw [IntKind.wrap_i64]; have := HS.out; omega
  have w2 : IntKind.i64.wrap ((n : Int) + (m : Int) + (l : Int)) = (n : Int) + (m : Int) + (l : Int) := by rw [IntKind.wrap_i64]; have := HS.out; omega
  have w3 : ((L : Int) == (n : Int) + (m : Int) + (l : Int)) = true := by simp; omega
  clear hL hL2
  go_wp2_with fail
  go_ret
  exact ⟨rfl, (HR23.out _ (Bt.refl _ _)).2.2.2.2.2.2.2.2.2.2.2.2.2.2.2.2.2.2.2.below⟩

end Go.Proofs.YtlmokendajgbdaaGreatDoor.Bo
