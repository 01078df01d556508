/-
  The walk of the statement BootStays: for any two rows, element and byte it returns true, and nothing that was there has changed, in any world where the library's table is as it is laid.
-/
import Derived.Test.YtlmokendajgbdaaGreatDoorWb6
import Derived.Test.YtlmokendajgbdaaGreatDoorWwake
import Derived.Test.YtlmokendajgbdaaGreatDoorBo
import Derived.Deep.LoopGhost
namespace Go.Proofs.YtlmokendajgbdaaGreatDoor.Bo
open Go.Sort Go.RowKit

set_option maxRecDepth 100000 in
set_option maxHeartbeats 4000000 in
theorem stays_any (A : Option Addr) (xs : List (Int × Int)) (c : Nat) (B : Option Addr) (ys : List (Int × Int)) (d : Nat) (x1 x2 : Int) (k0 : Nat) (w : World) (he : Env w) (hr1 : Row w A xs) (hr2 : Row w B ys) (hf1 : fits xs) (hf2 : fits ys) (hk0 : k0 < 256) :
    Calls Tryz.prog 8 #[.slice A xs.length c, .slice B ys.length d, el (x1, x2), .int .u8 (k0 : Int)] w fun e w' => e = .returned (.bool true) ∧ Below w.heap.size w w' := by
  obtain ⟨n, hn⟩ : ∃ n, n = xs.length := ⟨_, rfl⟩
  obtain ⟨m, hm⟩ : ∃ m, m = ys.length := ⟨_, rfl⟩
  rw [← hn, ← hm]
  have HN := Lib.hid (And.intro hn hm)
  have HRW := Lib.hid (And.intro hr1 hr2)
  have HF := Lib.hid (And.intro ((good_of hf1).fit) ((good_of hf2).fit))
  clear hn hm hr1 hr2 hf1 hf2
  have HE := Lib.hid he
  have HM0 := Lib.hid (show MAt w (none : Option Nat) 0 0 from trivial)
  have HR0 := Lib.hid (fun W (hb : Bt none w W) => Bas.bt (Bas.first he) he hb (fun _ e => by cases e))
  clear he
  go_enter Tryz.func8, Tryz.ntmps8
  go_wp2_with fail
  have hs_bx := (HR0.out _ (Bt.refl _ _)).below.size
  have HM1 := Lib.hid (show MAt (w.alloc (.cells #[.int .i64 x1, .int .i64 x2] 32)) (none : Option Nat) 0 0 from trivial)
  have HR1 := Lib.hid (on_inv (mo := none) HR0.out ((Bt.refl none w).alloc (.cells #[.int .i64 x1, .int .i64 x2] 32)) (fun W hz => (EVar.new w x1 x2 rfl).bt hz HM1.out))
  clear HR0 HM0 
  generalize w.alloc (.cells #[.int .i64 x1, .int .i64 x2] 32) = w1 at *
  obtain ⟨bx, hbx⟩ : ∃ b, b = w.heap.size := ⟨_, rfl⟩
  rw [← hbx] at HR1 ⊢
  have B_bx := Lib.hid (show w.heap.size ≤ bx by rw [hbx]; exact hs_bx)
  clear hbx hs_bx 
  ((with_reducible refine (awake_any _ (HR1.out _ (Bt.refl _ _)).2.env).mono ?_); rintro e w2 ⟨rfl, hb⟩)
  have HM2 := Lib.hid (show MAt w2 (none : Option Nat) 0 0 from trivial)
  have HR2 := Lib.hid (fun W (hz : Bt none w2 W) => HR1.out W ((Bt.ofBelow hb).trans hz))
  clear HR1 HM1 
  clear hb
  by_cases hb0 : 40 < n
  · have qa : decide ((40 : Int) < (n : Int)) = true := by simp; omega
    have qb : (40 : Int) < (n : Int) := by omega
    go_wp2_with fail
    go_ret
    exact ⟨rfl, (HR2.out _ (Bt.refl _ _)).2.below⟩
  have qa0 : decide ((40 : Int) < (n : Int)) = false := by simp; omega
  have qb0 : ¬ (40 : Int) < (n : Int) := by omega
  by_cases hb1 : 40 < m
  · have qa : decide ((40 : Int) < (m : Int)) = true := by simp; omega
    have qb : (40 : Int) < (m : Int) := by omega
    go_wp2_with fail
    go_ret
    exact ⟨rfl, (HR2.out _ (Bt.refl _ _)).2.below⟩
  have qa1 : decide ((40 : Int) < (m : Int)) = false := by simp; omega
  have qb1 : ¬ (40 : Int) < (m : Int) := by omega
  go_wp2_with fail
  clear qa0 qb0 qa1 qb1
  have HS := Lib.hid (And.intro (Nat.le_of_not_lt hb0) (And.intro (Nat.le_of_not_lt hb1) (trivial)))
  clear hb0 hb1
  have hX : (ofL xs).size = n := by rw [ofL_size, HN.out.1]
  have hY : (ofL ys).size = m := by rw [ofL_size, HN.out.2]
  have HX := Lib.hid (And.intro hX hY)
  clear hX hY
  ((with_reducible refine (ofRow A xs n c w _ HRW.out.1 HN.out.1 (by have := HS.out; omega) (HR2.out _ (Bt.refl _ _)).2.below).mono ?_); rintro e w3 ⟨pX, rfl, ht, hb⟩)
  have HM3 := Lib.hid (show MAt w3 (none : Option Nat) 0 0 from trivial)
  have HR3 := Lib.hid (on_inv (mo := none) HR2.out (Bt.ofBelow hb) (fun W hz => ht.bt hz HM3.out))
  clear HR2 HM2 
  clear ht hb
  go_wp2_with fail
  have hs_bX := (HR3.out _ (Bt.refl _ _)).2.2.below.size
  have hl_bx := (HR3.out _ (Bt.refl _ _)).2.1.lt
  have HM4 := Lib.hid (show MAt (w3.alloc (.cells #[.pointer pX] 29)) (none : Option Nat) 0 0 from trivial)
  have HR4 := Lib.hid (on_inv (mo := none) HR3.out ((Bt.refl none w3).alloc (.cells #[.pointer pX] 29)) (fun W hz => (HVar.new w3 pX rfl).bt hz HM4.out))
  clear HR3 HM3 
  generalize w3.alloc (.cells #[.pointer pX] 29) = w4 at *
  obtain ⟨bX, hbX⟩ : ∃ b, b = w3.heap.size := ⟨_, rfl⟩
  rw [← hbX] at HR4 ⊢
  have B_bX := Lib.hid (show w.heap.size ≤ bX by rw [hbX]; exact hs_bX)
  have N_bx_bX := Lib.hid (show bx ≠ bX by omega)
  clear hbX hs_bX hl_bx
  ((with_reducible refine (ofRow B ys m d w _ HRW.out.2 HN.out.2 (by have := HS.out; omega) (HR4.out _ (Bt.refl _ _)).2.2.2.below).mono ?_); rintro e w5 ⟨pY, rfl, ht, hb⟩)
  have HM5 := Lib.hid (show MAt w5 (none : Option Nat) 0 0 from trivial)
  have HR5 := Lib.hid (on_inv (mo := none) HR4.out (Bt.ofBelow hb) (fun W hz => ht.bt hz HM5.out))
  clear HR4 HM4 
  clear ht hb
  have c1 : (w5.alloc (.cells #[.pointer pY] 29)).cell? ⟨bX, 0, none⟩ = some (.pointer pX) := (HR5.out _ ((Bt.refl _ _).alloc _)).2.1.c0
  go_wp2_with fail
  have hs_bY := (HR5.out _ (Bt.refl _ _)).2.2.2.2.below.size
  have hl_bx := (HR5.out _ (Bt.refl _ _)).2.2.2.1.lt
  have hl_bX := (HR5.out _ (Bt.refl _ _)).2.1.lt
  have HM6 := Lib.hid (show MAt (w5.alloc (.cells #[.pointer pY] 29)) (none : Option Nat) 0 0 from trivial)
  have HR6 := Lib.hid (on_inv (mo := none) HR5.out ((Bt.refl none w5).alloc (.cells #[.pointer pY] 29)) (fun W hz => (HVar.new w5 pY rfl).bt hz HM6.out))
  clear HR5 HM5 c1
  generalize w5.alloc (.cells #[.pointer pY] 29) = w6 at *
  obtain ⟨bY, hbY⟩ : ∃ b, b = w5.heap.size := ⟨_, rfl⟩
  rw [← hbY] at HR6 ⊢
  have B_bY := Lib.hid (show w.heap.size ≤ bY by rw [hbY]; exact hs_bY)
  have N_bx_bY := Lib.hid (show bx ≠ bY by omega)
  have N_bX_bY := Lib.hid (show bX ≠ bY by omega)
  clear hbY hs_bY hl_bx hl_bX
  have HXH := Lib.hid (ofL_ok xs)
  obtain ⟨X, hXX⟩ : ∃ X, X = ofL xs := ⟨_, rfl⟩
  obtain ⟨Y, hYY⟩ : ∃ Y, Y = ofL ys := ⟨_, rfl⟩
  have HG := Lib.hid (show (X.ok ∧ fits X.all ∧ X.size ≤ 40) ∧ (Y.ok ∧ fits Y.all ∧ Y.size ≤ 40) from ⟨⟨hXX ▸ ofL_ok xs, hXX ▸ HF.out.1, by rw [hXX, HX.out.1]; exact HS.out.1⟩, ⟨hYY ▸ ofL_ok ys, hYY ▸ HF.out.2, by rw [hYY, HX.out.2]; exact HS.out.2.1⟩⟩)
  rw [← hXX, ← hYY] at HR6
  clear hXX hYY HXH HX HF
  ((with_reducible refine (show_any X pX _ (HR6.out _ (Bt.refl _ _)).2.2.2.2.2.env (HR6.out _ (Bt.refl _ _)).2.2.2.1 HG.out.1.2.1 (by have := HG.out; omega)).mono ?_); rintro e w7 ⟨rfl, hb⟩)
  have HM7 := Lib.hid (show MAt w7 (none : Option Nat) 0 0 from trivial)
  have HR7 := Lib.hid (fun W (hz : Bt none w7 W) => HR6.out W ((Bt.ofBelow hb).trans hz))
  clear HR6 HM6 
  clear hb
  have c2 : w7.cell? ⟨bY, 0, none⟩ = some (.pointer pY) := (HR7.out _ (Bt.refl _ _)).1.c0
  go_wp2_with fail
  ((with_reducible refine (show_any Y pY _ (HR7.out _ (Bt.refl _ _)).2.2.2.2.2.env (HR7.out _ (Bt.refl _ _)).2.1 HG.out.2.2.1 (by have := HG.out; omega)).mono ?_); rintro e w8 ⟨rfl, hb⟩)
  have HM8 := Lib.hid (show MAt w8 (none : Option Nat) 0 0 from trivial)
  have HR8 := Lib.hid (fun W (hz : Bt none w8 W) => HR7.out W ((Bt.ofBelow hb).trans hz))
  clear HR7 HM7 c2
  clear hb
  have c3 : w8.cell? ⟨bX, 0, none⟩ = some (.pointer pX) := (HR8.out _ (Bt.refl _ _)).2.2.1.c0
  go_wp2_with fail
  ((with_reducible refine (drainRw X pX 200 _ (HR8.out _ (Bt.refl _ _)).2.2.2.1 HG.out.1.1 (by have := HG.out; omega) (by decide) (by have := HG.out; omega)).mono ?_); rintro e w9 ⟨vc, rfl, ht, hb⟩)
  have HM9 := Lib.hid (show MAt w9 (none : Option Nat) 0 0 from trivial)
  have HR9 := Lib.hid (on_inv (mo := none) HR8.out (Bt.ofBelow hb) (fun W hz => ht.bt hz HM9.out))
  clear HR8 HM8 c3
  clear ht hb
  have c4 : w9.cell? ⟨bY, 0, none⟩ = some (.pointer pY) := (HR9.out _ (Bt.refl _ _)).2.1.c0
  go_wp2_with fail
  ((with_reducible refine (drainRw Y pY 200 _ (HR9.out _ (Bt.refl _ _)).2.2.1 HG.out.2.1 (by have := HG.out; omega) (by decide) (by have := HG.out; omega)).mono ?_); rintro e w10 ⟨vd, rfl, ht, hb⟩)
  have HM10 := Lib.hid (show MAt w10 (none : Option Nat) 0 0 from trivial)
  have HR10 := Lib.hid (on_inv (mo := none) HR9.out (Bt.ofBelow hb) (fun W hz => ht.bt hz HM10.out))
  clear HR9 HM9 c4
  clear ht hb
  go_wp2_with fail
  ((with_reducible refine (mNew _).mono ?_); rintro e w11 ⟨rfl, hm, hb⟩)
  obtain ⟨mb, hmb⟩ : ∃ b, b = w10.heap.size := ⟨_, rfl⟩
  rw [← hmb] at hm ⊢
  have B_mb := Lib.hid (show w.heap.size ≤ mb by rw [hmb]; exact (HR10.out _ (Bt.refl _ _)).2.2.2.2.2.2.2.below.size)
  clear hmb
  have HM11 := Lib.hid hm
  have HR11 := Lib.hid (fun W (hz : Bt (some mb) w11 W) => And.intro (((HR10.out _ (Bt.ofBelow hb)).1).bt hz HM11.out) ( And.intro (((HR10.out _ (Bt.ofBelow hb)).2.1).bt hz HM11.out) ( And.intro (((HR10.out _ (Bt.ofBelow hb)).2.2.1).bt hz HM11.out) ( And.intro (((HR10.out _ (Bt.ofBelow hb)).2.2.2.1).bt hz HM11.out) ( And.intro (((HR10.out _ (Bt.ofBelow hb)).2.2.2.2.1).bt hz HM11.out) ( And.intro (((HR10.out _ (Bt.ofBelow hb)).2.2.2.2.2.1).bt hz HM11.out) ( And.intro (((HR10.out _ (Bt.ofBelow hb)).2.2.2.2.2.2.1).bt hz HM11.out) (((HR10.out _ (Bt.ofBelow hb)).2.2.2.2.2.2.2).bt HE.out hz (fun b e => by cases e; exact B_mb.out)))))))))
  clear HR10 HM10 hm hb 
  obtain ⟨N, hN⟩ : ∃ N, N = k0 % 6 := ⟨_, rfl⟩
  have hm1 : (k0 : Int) % 6 = (N : Int) := by omega
  have hm2 : (k0 : Int).tmod 6 = (N : Int) := by rw [Int.tmod_eq_emod_of_nonneg (by omega)]; exact hm1
  have hN6 : N < 6 := by omega
  have HN6 := Lib.hid hN6
  clear hN hN6
  go_wp2_with fail
  obtain ⟨sX, hsX⟩ : ∃ s, X.show = s := ⟨_, rfl⟩
  obtain ⟨sY, hsY⟩ : ∃ s, Y.show = s := ⟨_, rfl⟩
  rw [hsX, hsY]
  have HSX := Lib.hid hsX
  have HSY := Lib.hid hsY
  clear hsX hsY
  go_loopg [17] N (fun k i wr => ∃ (j : Nat) (C M : Int), i = .int .i64 (j : Int) ∧ j + k = N ∧ 0 ≤ C ∧ C ≤ 4000 * (j : Int) ∧ 0 ≤ M ∧ M ≤ 4000 * (j : Int) ∧ MAt wr (some mb) C M ∧ HVar wr bX pX ∧ HVar wr bY pY ∧ EVar wr bx (x1, x2) ∧ LAt wr X pX ∧ LAt wr Y pY ∧ Rw wr vc (srt X.all) ∧ Rw wr vd (srt Y.all) ∧ Bas w wr)
  case atStart => exact ⟨0, 0, 0, rfl, by omega, by omega, by omega, by omega, by omega, HM11.out, (HR11.out _ (Bt.refl _ _)).2.2.2.2.1, (HR11.out _ (Bt.refl _ _)).2.2.1, (HR11.out _ (Bt.refl _ _)).2.2.2.2.2.2.1, (HR11.out _ (Bt.refl _ _)).2.2.2.2.2.1, (HR11.out _ (Bt.refl _ _)).2.2.2.1, (HR11.out _ (Bt.refl _ _)).2.1, (HR11.out _ (Bt.refl _ _)).1, (HR11.out _ (Bt.refl _ _)).2.2.2.2.2.2.2⟩
  case round =>
    clear HR11 HM11
    obtain ⟨j, C, M, rfl, hj, hc1, hc2, hc3, hc4, hM, h0, h1, h2, h3, h4, h5, h6, h7⟩ := hrel
    by_cases hlt : j < N
    · have q1 : (j : Int) < (N : Int) := by omega
      have q3 : decide ((j : Int) < (N : Int)) = true := by simp; omega
      have HM12 := Lib.hid (hM)
      have HR12 := Lib.hid (fun W (hz : Bt (some mb) wr W) => And.intro ((h0).bt hz HM12.out) ( And.intro ((h1).bt hz HM12.out) ( And.intro ((h2).bt hz HM12.out) ( And.intro ((h3).bt hz HM12.out) ( And.intro ((h4).bt hz HM12.out) ( And.intro ((h5).bt hz HM12.out) ( And.intro ((h6).bt hz HM12.out) ((h7).bt HE.out hz (fun b e => by cases e; exact B_mb.out)))))))))
      have Q := Lib.hid (show j + gk = N ∧ (j : Int) < 6 from ⟨hj, by have := HN6.out; omega⟩)
      have HC0 := Lib.hid (show 0 ≤ C ∧ C ≤ 4000 * (j : Int) ∧ 0 ≤ M ∧ M ≤ 4000 * (j : Int) from ⟨hc1, hc2, hc3, hc4⟩)
      clear hM hj hc1 hc2 hc3 hc4 h0 h1 h2 h3 h4 h5 h6 h7
      have HSZ := Lib.hid (show X.size ≤ 40 ∧ Y.size ≤ 40 ∧ (meld X Y).size ≤ 80 ∧ ((meld X Y).insert (x1, x2)).size ≤ 81 ∧ ((meld X Y).insert (x1, x2)).pop.size ≤ 80 ∧ ((meld X Y).insert (x1, x2)).pop.pop.size ≤ 80 ∧ (Lh.one (x1, x2)).size = 1 from by have hh := HG.out; refine ⟨hh.1.2.2, hh.2.2.2, ?_, ?_, ?_, ?_, rfl⟩ <;> (have e1 := meld_size X Y; have e2 := insert_size (meld X Y) (x1, x2); have e3 := pop_size (insert_ok (x1, x2) (meld_ok X Y hh.1.1 hh.2.1)); have e4 := pop_size (pop_ok (insert_ok (x1, x2) (meld_ok X Y hh.1.1 hh.2.1))); omega))
      have c5 : wr.cell? ⟨bX, 0, none⟩ = some (.pointer pX) := (HR12.out _ (Bt.refl _ _)).1.c0
      have c6 : wr.cell? ⟨bY, 0, none⟩ = some (.pointer pY) := (HR12.out _ (Bt.refl _ _)).2.1.c0
      go_wp2_with fail
      ((with_reducible refine (meld_any (some mb) X Y C M pX pY _ (by have := HSZ.out; omega) HM12.out (by have := HC0.out; omega) (by have := HC0.out; have := Q.out; omega) (by have := HC0.out; omega) (by have := HC0.out; have := Q.out; omega) (HR12.out _ (Bt.refl _ _)).2.2.2.1 (HR12.out _ (Bt.refl _ _)).2.2.2.2.1).mono ?_); rintro e w13 ⟨pg, rfl, ht, hm, hb⟩)
      obtain ⟨C1, M1, hm, hcc⟩ : ∃ C2 M2, MAt w13 (some mb) C2 M2 ∧ 0 ≤ C2 ∧ C2 ≤ 4000 * (j : Int) + 400 * 1 ∧ 0 ≤ M2 ∧ M2 ≤ 4000 * (j : Int) + 400 * 1 := ⟨_, _, hm, by have := HC0.out; have h9 := meld_le X Y; have := HSZ.out; omega⟩
      have HC1 := Lib.hid hcc
      clear hcc
      have HM13 := Lib.hid hm
      have HR13 := Lib.hid (on_inv (mo := (some mb)) HR12.out hb (fun W hz => ht.bt hz HM13.out))
      clear HR12 HM12 c5 c6
      clear HC0
      clear ht hb hm
      have c7 : (w13.alloc (.cells #[.pointer pg] 29)).cell? ⟨bx, 0, none⟩ = some (.int .i64 x1) := (HR13.out _ ((Bt.refl _ _).alloc _)).2.2.2.1.c0
      have c8 : (w13.alloc (.cells #[.pointer pg] 29)).cell? ⟨bx, 1, none⟩ = some (.int .i64 x2) := (HR13.out _ ((Bt.refl _ _).alloc _)).2.2.2.1.c1
      go_wp2_with fail
      have hs_bG := (HR13.out _ (Bt.refl _ _)).2.2.2.2.2.2.2.2.below.size
      have hl_bx := (HR13.out _ (Bt.refl _ _)).2.2.2.1.lt
      have hl_bX := (HR13.out _ (Bt.refl _ _)).2.1.lt
      have hl_bY := (HR13.out _ (Bt.refl _ _)).2.2.1.lt
      have HM14 := Lib.hid (HM13.out.alloc (.cells #[.pointer pg] 29))
      have HR14 := Lib.hid (on_inv (mo := (some mb)) HR13.out ((Bt.refl (some mb) w13).alloc (.cells #[.pointer pg] 29)) (fun W hz => (HVar.new w13 pg rfl).bt hz HM14.out))
      clear HR13 HM13 c7 c8
      generalize w13.alloc (.cells #[.pointer pg] 29) = w14 at *
      obtain ⟨bG, hbG⟩ : ∃ b, b = w13.heap.size := ⟨_, rfl⟩
      rw [← hbG] at HR14 ⊢
      have B_bG := Lib.hid (show w.heap.size ≤ bG by rw [hbG]; exact hs_bG)
      have N_bx_bG := Lib.hid (show bx ≠ bG by omega)
      have N_bX_bG := Lib.hid (show bX ≠ bG by omega)
      have N_bY_bG := Lib.hid (show bY ≠ bG by omega)
      clear hbG hs_bG hl_bx hl_bX hl_bY
      ((with_reducible refine (insert_any (some mb) C1 M1 (meld X Y) (x1, x2) pg _ (by have := HSZ.out; omega) HM14.out (by have := HC1.out; omega) (by have := HC1.out; have := Q.out; omega) (by have := HC1.out; omega) (by have := HC1.out; have := Q.out; omega) (HR14.out _ (Bt.refl _ _)).2.1).mono ?_); rintro e w15 ⟨pg2, rfl, ht, hm, hb⟩)
      obtain ⟨C2, M2, hm, hcc⟩ : ∃ C2 M2, MAt w15 (some mb) C2 M2 ∧ 0 ≤ C2 ∧ C2 ≤ 4000 * (j : Int) + 400 * 2 ∧ 0 ≤ M2 ∧ M2 ≤ 4000 * (j : Int) + 400 * 2 := ⟨_, _, hm, by have := HC1.out; have h9 := insC_le (meld X Y) (x1, x2); have h8 := insM_le (meld X Y) (x1, x2); have := HSZ.out; omega⟩
      have HC2 := Lib.hid hcc
      clear hcc
      have HM15 := Lib.hid hm
      have HR15 := Lib.hid (on_inv (mo := (some mb)) HR14.out hb (fun W hz => ht.bt hz HM15.out))
      clear HR14 HM14 
      clear HC1
      clear ht hb hm
      have pv := (HR15.out _ (Bt.refl _ _)).2.1
      have pc := pv.c0
      have pz := pv.z0
      have PV := Lib.hid pv
      clear pv
      go_wp2_with fail
      have HM16 := Lib.hid (HM15.out.set PV.out (.pointer pg2))
      have HR16 := Lib.hid (fun W (hz : Bt (some mb) (w15.setCell ⟨bG, 0, none⟩ (.pointer pg2)) W) => And.intro ((((HR15.out _ (Bt.refl _ _)).1.set PV.out (.pointer pg2))).bt hz HM16.out) ( And.intro (((PV.out.put pg2)).bt hz HM16.out) ( And.intro ((((HR15.out _ (Bt.refl _ _)).2.2.2.1.set N_bX_bG.out 0 (.pointer pg2))).bt hz HM16.out) ( And.intro ((((HR15.out _ (Bt.refl _ _)).2.2.2.2.1.set N_bY_bG.out 0 (.pointer pg2))).bt hz HM16.out) ( And.intro ((((HR15.out _ (Bt.refl _ _)).2.2.2.2.2.1.set N_bx_bG.out 0 (.pointer pg2))).bt hz HM16.out) ( And.intro ((((HR15.out _ (Bt.refl _ _)).2.2.2.2.2.2.1.set PV.out (.pointer pg2))).bt hz HM16.out) ( And.intro ((((HR15.out _ (Bt.refl _ _)).2.2.2.2.2.2.2.1.set PV.out (.pointer pg2))).bt hz HM16.out) ( And.intro ((((HR15.out _ (Bt.refl _ _)).2.2.2.2.2.2.2.2.1.set PV.out (.pointer pg2))).bt hz HM16.out) ( And.intro ((((HR15.out _ (Bt.refl _ _)).2.2.2.2.2.2.2.2.2.1.set PV.out (.pointer pg2))).bt hz HM16.out) ((((HR15.out _ (Bt.refl _ _)).2.2.2.2.2.2.2.2.2.2.set HE.out B_bG.out 0 (.pointer pg2))).bt HE.out hz (fun b e => by cases e; exact B_mb.out)))))))))))
      clear HR15 HM15 PV pc pz 
      generalize w15.setCell ⟨bG, 0, none⟩ (.pointer pg2) = w16 at *
      obtain ⟨s1, hs1⟩ : ∃ s, s = ((meld X Y).insert (x1, x2)).some := ⟨_, rfl⟩
      ((with_reducible refine (pop_any (some mb) C2 M2 ((meld X Y).insert (x1, x2)) pg2 _ (by have := HSZ.out; omega) HM16.out (by have := HC2.out; omega) (by have := HC2.out; have := Q.out; omega) (by have := HC2.out; omega) (by have := HC2.out; have := Q.out; omega) (HR16.out _ (Bt.refl _ _)).1).mono ?_); rintro e w17 ⟨pk, rfl, ht, hm, hb⟩)
      obtain ⟨C3, M3, hm, hcc⟩ : ∃ C2 M2, MAt w17 (some mb) C2 M2 ∧ 0 ≤ C2 ∧ C2 ≤ 4000 * (j : Int) + 400 * 3 ∧ 0 ≤ M2 ∧ M2 ≤ 4000 * (j : Int) + 400 * 3 := ⟨_, _, hm, by have := HC2.out; have h9 := pop_counts (insert_ok (x1, x2) (meld_ok X Y HG.out.1.1 HG.out.2.1)) (by have := HSZ.out; omega); have := HSZ.out; omega⟩
      have HC3 := Lib.hid hcc
      clear hcc
      have HM17 := Lib.hid hm
      have HR17 := Lib.hid (on_inv (mo := (some mb)) HR16.out hb (fun W hz => ht.bt hz HM17.out))
      clear HR16 HM16 
      clear HC2
      rw [← hs1]
      clear ht hb hm hs1
      go_wp2_with fail
      have hs_bK := (HR17.out _ (Bt.refl _ _)).2.2.2.2.2.2.2.2.2.2.below.size
      have hl_bx := (HR17.out _ (Bt.refl _ _)).2.2.2.2.2.1.lt
      have hl_bX := (HR17.out _ (Bt.refl _ _)).2.2.2.1.lt
      have hl_bY := (HR17.out _ (Bt.refl _ _)).2.2.2.2.1.lt
      have HM18 := Lib.hid (HM17.out.alloc (.cells #[.pointer pk] 29))
      have HR18 := Lib.hid (on_inv (mo := (some mb)) HR17.out ((Bt.refl (some mb) w17).alloc (.cells #[.pointer pk] 29)) (fun W hz => (HVar.new w17 pk rfl).bt hz HM18.out))
      clear HR17 HM17 
      generalize w17.alloc (.cells #[.pointer pk] 29) = w18 at *
      obtain ⟨bK, hbK⟩ : ∃ b, b = w17.heap.size := ⟨_, rfl⟩
      rw [← hbK] at HR18 ⊢
      have B_bK := Lib.hid (show w.heap.size ≤ bK by rw [hbK]; exact hs_bK)
      have N_bx_bK := Lib.hid (show bx ≠ bK by omega)
      have N_bX_bK := Lib.hid (show bX ≠ bK by omega)
      have N_bY_bK := Lib.hid (show bY ≠ bK by omega)
      clear hbK hs_bK hl_bx hl_bX hl_bY
      obtain ⟨s2, hs2⟩ : ∃ s, s = ((meld X Y).insert (x1, x2)).pop.some := ⟨_, rfl⟩
      ((with_reducible refine (pop_any (some mb) C3 M3 ((meld X Y).insert (x1, x2)).pop pk _ (by have := HSZ.out; omega) HM18.out (by have := HC3.out; omega) (by have := HC3.out; have := Q.out; omega) (by have := HC3.out; omega) (by have := HC3.out; have := Q.out; omega) (HR18.out _ (Bt.refl _ _)).2.1).mono ?_); rintro e w19 ⟨pk2, rfl, ht, hm, hb⟩)
      obtain ⟨C4, M4, hm, hcc⟩ : ∃ C2 M2, MAt w19 (some mb) C2 M2 ∧ 0 ≤ C2 ∧ C2 ≤ 4000 * (j : Int) + 400 * 4 ∧ 0 ≤ M2 ∧ M2 ≤ 4000 * (j : Int) + 400 * 4 := ⟨_, _, hm, by have := HC3.out; have h9 := pop_counts (pop_ok (insert_ok (x1, x2) (meld_ok X Y HG.out.1.1 HG.out.2.1))) (by have := HSZ.out; omega); have := HSZ.out; omega⟩
      have HC4 := Lib.hid hcc
      clear hcc
      have HM19 := Lib.hid hm
      have HR19 := Lib.hid (on_inv (mo := (some mb)) HR18.out hb (fun W hz => ht.bt hz HM19.out))
      clear HR18 HM18 
      clear HC3
      rw [← hs2]
      clear ht hb hm hs2
      have pv := (HR19.out _ (Bt.refl _ _)).2.1
      have pc := pv.c0
      have pz := pv.z0
      have PV := Lib.hid pv
      clear pv
      have c9 : (w19.setCell ⟨bK, 0, none⟩ (.pointer pk2)).cell? ⟨bX, 0, none⟩ = some (.pointer pX) := ((HR19.out _ (Bt.refl _ _)).2.2.2.2.2.1.set N_bX_bK.out 0 _).c0
      go_wp2_with fail
      have HM20 := Lib.hid (HM19.out.set PV.out (.pointer pk2))
      have HR20 := Lib.hid (fun W (hz : Bt (some mb) (w19.setCell ⟨bK, 0, none⟩ (.pointer pk2)) W) => And.intro ((((HR19.out _ (Bt.refl _ _)).1.set PV.out (.pointer pk2))).bt hz HM20.out) ( And.intro (((PV.out.put pk2)).bt hz HM20.out) ( And.intro ((((HR19.out _ (Bt.refl _ _)).2.2.2.2.2.1.set N_bX_bK.out 0 (.pointer pk2))).bt hz HM20.out) ( And.intro ((((HR19.out _ (Bt.refl _ _)).2.2.2.2.2.2.1.set N_bY_bK.out 0 (.pointer pk2))).bt hz HM20.out) ( And.intro ((((HR19.out _ (Bt.refl _ _)).2.2.2.2.2.2.2.1.set N_bx_bK.out 0 (.pointer pk2))).bt hz HM20.out) ( And.intro ((((HR19.out _ (Bt.refl _ _)).2.2.2.2.2.2.2.2.1.set PV.out (.pointer pk2))).bt hz HM20.out) ( And.intro ((((HR19.out _ (Bt.refl _ _)).2.2.2.2.2.2.2.2.2.1.set PV.out (.pointer pk2))).bt hz HM20.out) ( And.intro ((((HR19.out _ (Bt.refl _ _)).2.2.2.2.2.2.2.2.2.2.1.set PV.out (.pointer pk2))).bt hz HM20.out) ( And.intro ((((HR19.out _ (Bt.refl _ _)).2.2.2.2.2.2.2.2.2.2.2.1.set PV.out (.pointer pk2))).bt hz HM20.out) ((((HR19.out _ (Bt.refl _ _)).2.2.2.2.2.2.2.2.2.2.2.2.set HE.out B_bK.out 0 (.pointer pk2))).bt HE.out hz (fun b e => by cases e; exact B_mb.out)))))))))))
      clear HR19 HM19 PV pc pz c9
      generalize w19.setCell ⟨bK, 0, none⟩ (.pointer pk2) = w20 at *
      ((with_reducible refine (meld_any (some mb) ((meld X Y).insert (x1, x2)).pop.pop X C4 M4 pk2 pX _ (by have := HSZ.out; omega) HM20.out (by have := HC4.out; omega) (by have := HC4.out; have := Q.out; omega) (by have := HC4.out; omega) (by have := HC4.out; have := Q.out; omega) (HR20.out _ (Bt.refl _ _)).1 (HR20.out _ (Bt.refl _ _)).2.2.2.2.2.1).mono ?_); rintro e w21 ⟨pk3, rfl, ht, hm, hb⟩)
      obtain ⟨C5, M5, hm, hcc⟩ : ∃ C2 M2, MAt w21 (some mb) C2 M2 ∧ 0 ≤ C2 ∧ C2 ≤ 4000 * (j : Int) + 400 * 5 ∧ 0 ≤ M2 ∧ M2 ≤ 4000 * (j : Int) + 400 * 5 := ⟨_, _, hm, by have := HC4.out; have h9 := meld_le ((meld X Y).insert (x1, x2)).pop.pop X; have := HSZ.out; omega⟩
      have HC5 := Lib.hid hcc
      clear hcc
      have HM21 := Lib.hid hm
      have HR21 := Lib.hid (on_inv (mo := (some mb)) HR20.out hb (fun W hz => ht.bt hz HM21.out))
      clear HR20 HM20 
      clear HC4
      clear ht hb hm
      have pv := (HR21.out _ (Bt.refl _ _)).2.2.1
      have pc := pv.c0
      have pz := pv.z0
      have PV := Lib.hid pv
      clear pv
      have c10 : (w21.setCell ⟨bK, 0, none⟩ (.pointer pk3)).cell? ⟨bX, 0, none⟩ = some (.pointer pX) := ((HR21.out _ (Bt.refl _ _)).2.2.2.1.set N_bX_bK.out 0 _).c0
      have c11 : (w21.setCell ⟨bK, 0, none⟩ (.pointer pk3)).cell? ⟨bx, 0, none⟩ = some (.int .i64 x1) := ((HR21.out _ (Bt.refl _ _)).2.2.2.2.2.1.set N_bx_bK.out 0 _).c0
      have c12 : (w21.setCell ⟨bK, 0, none⟩ (.pointer pk3)).cell? ⟨bx, 1, none⟩ = some (.int .i64 x2) := ((HR21.out _ (Bt.refl _ _)).2.2.2.2.2.1.set N_bx_bK.out 0 _).c1
      go_wp2_with fail
      have HM22 := Lib.hid (HM21.out.set PV.out (.pointer pk3))
      have HR22 := Lib.hid (fun W (hz : Bt (some mb) (w21.setCell ⟨bK, 0, none⟩ (.pointer pk3)) W) => And.intro ((((HR21.out _ (Bt.refl _ _)).1.set PV.out (.pointer pk3))).bt hz HM22.out) ( And.intro (((PV.out.put pk3)).bt hz HM22.out) ( And.intro ((((HR21.out _ (Bt.refl _ _)).2.2.2.1.set N_bX_bK.out 0 (.pointer pk3))).bt hz HM22.out) ( And.intro ((((HR21.out _ (Bt.refl _ _)).2.2.2.2.1.set N_bY_bK.out 0 (.pointer pk3))).bt hz HM22.out) ( And.intro ((((HR21.out _ (Bt.refl _ _)).2.2.2.2.2.1.set N_bx_bK.out 0 (.pointer pk3))).bt hz HM22.out) ( And.intro ((((HR21.out _ (Bt.refl _ _)).2.2.2.2.2.2.1.set PV.out (.pointer pk3))).bt hz HM22.out) ( And.intro ((((HR21.out _ (Bt.refl _ _)).2.2.2.2.2.2.2.1.set PV.out (.pointer pk3))).bt hz HM22.out) ( And.intro ((((HR21.out _ (Bt.refl _ _)).2.2.2.2.2.2.2.2.1.set PV.out (.pointer pk3))).bt hz HM22.out) ( And.intro ((((HR21.out _ (Bt.refl _ _)).2.2.2.2.2.2.2.2.2.1.set PV.out (.pointer pk3))).bt hz HM22.out) ((((HR21.out _ (Bt.refl _ _)).2.2.2.2.2.2.2.2.2.2.set HE.out B_bK.out 0 (.pointer pk3))).bt HE.out hz (fun b e => by cases e; exact B_mb.out)))))))))))
      clear HR21 HM21 PV pc pz c10 c11 c12
      generalize w21.setCell ⟨bK, 0, none⟩ (.pointer pk3) = w22 at *
      ((with_reducible refine (insert_any (some mb) C5 M5 X (x1, x2) pX _ (by have := HSZ.out; omega) HM22.out (by have := HC5.out; omega) (by have := HC5.out; have := Q.out; omega) (by have := HC5.out; omega) (by have := HC5.out; have := Q.out; omega) (HR22.out _ (Bt.refl _ _)).2.2.2.2.2.1).mono ?_); rintro e w23 ⟨pu, rfl, ht, hm, hb⟩)
      obtain ⟨C6, M6, hm, hcc⟩ : ∃ C2 M2, MAt w23 (some mb) C2 M2 ∧ 0 ≤ C2 ∧ C2 ≤ 4000 * (j : Int) + 400 * 6 ∧ 0 ≤ M2 ∧ M2 ≤ 4000 * (j : Int) + 400 * 6 := ⟨_, _, hm, by have := HC5.out; have h9 := insC_le X (x1, x2); have h8 := insM_le X (x1, x2); have := HSZ.out; omega⟩
      have HC6 := Lib.hid hcc
      clear hcc
      have HM23 := Lib.hid hm
      have HR23 := Lib.hid (fun W (hz : Bt (some mb) w23 W) => HR22.out W (hb.trans hz))
      clear HR22 HM22 
      clear HC5
      clear ht hb hm
      have c13 : w23.cell? ⟨bY, 0, none⟩ = some (.pointer pY) := (HR23.out _ (Bt.refl _ _)).2.2.2.1.c0
      go_wp2_with fail
      ((with_reducible refine (pop_any (some mb) C6 M6 Y pY _ (by have := HSZ.out; omega) HM23.out (by have := HC6.out; omega) (by have := HC6.out; have := Q.out; omega) (by have := HC6.out; omega) (by have := HC6.out; have := Q.out; omega) (HR23.out _ (Bt.refl _ _)).2.2.2.2.2.2.1).mono ?_); rintro e w24 ⟨pv, rfl, ht, hm, hb⟩)
      obtain ⟨C7, M7, hm, hcc⟩ : ∃ C2 M2, MAt w24 (some mb) C2 M2 ∧ 0 ≤ C2 ∧ C2 ≤ 4000 * (j : Int) + 400 * 7 ∧ 0 ≤ M2 ∧ M2 ≤ 4000 * (j : Int) + 400 * 7 := ⟨_, _, hm, by have := HC6.out; have h9 := pop_counts HG.out.2.1 (by have := HSZ.out; omega); have := HSZ.out; omega⟩
      have HC7 := Lib.hid hcc
      clear hcc
      have HM24 := Lib.hid hm
      have HR24 := Lib.hid (fun W (hz : Bt (some mb) w24 W) => HR23.out W (hb.trans hz))
      clear HR23 HM23 c13
      clear HC6
      clear ht hb hm
      generalize Y.some = s3
      have c14 : w24.cell? ⟨bX, 0, none⟩ = some (.pointer pX) := (HR24.out _ (Bt.refl _ _)).2.2.1.c0
      go_wp2_with fail
      ((with_reducible refine (pop_any (some mb) C7 M7 X pX _ (by have := HSZ.out; omega) HM24.out (by have := HC7.out; omega) (by have := HC7.out; have := Q.out; omega) (by have := HC7.out; omega) (by have := HC7.out; have := Q.out; omega) (HR24.out _ (Bt.refl _ _)).2.2.2.2.2.1).mono ?_); rintro e w25 ⟨py, rfl, ht, hm, hb⟩)
      obtain ⟨C8, M8, hm, hcc⟩ : ∃ C2 M2, MAt w25 (some mb) C2 M2 ∧ 0 ≤ C2 ∧ C2 ≤ 4000 * (j : Int) + 400 * 8 ∧ 0 ≤ M2 ∧ M2 ≤ 4000 * (j : Int) + 400 * 8 := ⟨_, _, hm, by have := HC7.out; have h9 := pop_counts HG.out.1.1 (by have := HSZ.out; omega); have := HSZ.out; omega⟩
      have HC8 := Lib.hid hcc
      clear hcc
      have HM25 := Lib.hid hm
      have HR25 := Lib.hid (fun W (hz : Bt (some mb) w25 W) => HR24.out W (hb.trans hz))
      clear HR24 HM24 c14
      clear HC7
      clear ht hb hm
      generalize X.some = s4
      have c15 : w25.cell? ⟨bX, 0, none⟩ = some (.pointer pX) := (HR25.out _ (Bt.refl _ _)).2.2.1.c0
      go_wp2_with fail
      ((with_reducible refine (min_any X pX _ _ (HR25.out _ (Bt.refl _ _)).2.2.2.2.2.1).mono ?_); rintro e w26 ⟨rfl, hb⟩)
      have HM26 := Lib.hid (HM25.out.stay hb)
      have HR26 := Lib.hid (fun W (hz : Bt (some mb) w26 W) => HR25.out W ((Bt.ofBelow hb).trans hz))
      clear HR25 HM25 c15
      clear hb
      generalize minV X = mv
      have c16 : w26.cell? ⟨bK, 0, none⟩ = some (.pointer pk3) := (HR26.out _ (Bt.refl _ _)).2.1.c0
      go_wp2_with fail
      ((with_reducible refine (size_any (meld ((meld X Y).insert (x1, x2)).pop.pop X) pk3 _ (HR26.out _ (Bt.refl _ _)).1).mono ?_); rintro e w27 ⟨rfl, hb⟩)
      have HM27 := Lib.hid (HM26.out.stay hb)
      have HR27 := Lib.hid (fun W (hz : Bt (some mb) w27 W) => HR26.out W ((Bt.ofBelow hb).trans hz))
      clear HR26 HM26 c16
      clear hb
      go_wp2_with fail
      go_roundg (N - 1 - j)
      case measure => have := Q.out.1; omega
      case rel => exact ⟨j + 1, C8, M8, by congr 1, by have := Q.out.1; omega, by have := HC8.out; omega, by have := HC8.out; omega, by have := HC8.out; omega, by have := HC8.out; omega, HM27.out, (HR27.out _ (Bt.refl _ _)).2.2.1, (HR27.out _ (Bt.refl _ _)).2.2.2.1, (HR27.out _ (Bt.refl _ _)).2.2.2.2.1, (HR27.out _ (Bt.refl _ _)).2.2.2.2.2.1, (HR27.out _ (Bt.refl _ _)).2.2.2.2.2.2.1, (HR27.out _ (Bt.refl _ _)).2.2.2.2.2.2.2.1, (HR27.out _ (Bt.refl _ _)).2.2.2.2.2.2.2.2.1, (HR27.out _ (Bt.refl _ _)).2.2.2.2.2.2.2.2.2⟩
    · have q1 : ¬ (j : Int) < (N : Int) := by omega
      have q3 : decide ((j : Int) < (N : Int)) = false := by simp; omega
      have HM38 := Lib.hid (hM)
      have HR38 := Lib.hid (fun W (hz : Bt (some mb) wr W) => And.intro ((h0).bt hz HM38.out) ( And.intro ((h1).bt hz HM38.out) ( And.intro ((h2).bt hz HM38.out) ( And.intro ((h3).bt hz HM38.out) ( And.intro ((h4).bt hz HM38.out) ( And.intro ((h5).bt hz HM38.out) ( And.intro ((h6).bt hz HM38.out) ((h7).bt HE.out hz (fun b e => by cases e; exact B_mb.out)))))))))
      clear hM hj hc1 hc2 hc3 hc4 h0 h1 h2 h3 h4 h5 h6 h7
      have c17 : wr.cell? ⟨bX, 0, none⟩ = some (.pointer pX) := (HR38.out _ (Bt.refl _ _)).1.c0
      go_wp2_with fail
      clear q1 q3
      ((with_reducible refine (show_any X pX _ (HR38.out _ (Bt.refl _ _)).2.2.2.2.2.2.2.env (HR38.out _ (Bt.refl _ _)).2.2.2.1 HG.out.1.2.1 (by have := HG.out; omega)).mono ?_); rintro e w39 ⟨rfl, hb⟩)
      have HM39 := Lib.hid (HM38.out.stay hb)
      have HR39 := Lib.hid (fun W (hz : Bt (some mb) w39 W) => HR38.out W ((Bt.ofBelow hb).trans hz))
      clear HR38 HM38 c17
      clear hb
      rw [HSX.out]
      have c18 : w39.cell? ⟨bY, 0, none⟩ = some (.pointer pY) := (HR39.out _ (Bt.refl _ _)).2.1.c0
      go_wp2_with fail
      ((with_reducible refine (show_any Y pY _ (HR39.out _ (Bt.refl _ _)).2.2.2.2.2.2.2.env (HR39.out _ (Bt.refl _ _)).2.2.2.2.1 HG.out.2.2.1 (by have := HG.out; omega)).mono ?_); rintro e w40 ⟨rfl, hb⟩)
      have HM40 := Lib.hid (HM39.out.stay hb)
      have HR40 := Lib.hid (fun W (hz : Bt (some mb) w40 W) => HR39.out W ((Bt.ofBelow hb).trans hz))
      clear HR39 HM39 c18
      clear hb
      rw [HSY.out]
      have c19 : w40.cell? ⟨bX, 0, none⟩ = some (.pointer pX) := (HR40.out _ (Bt.refl _ _)).1.c0
      go_wp2_with fail
      ((with_reducible refine (drainRw X pX 200 _ (HR40.out _ (Bt.refl _ _)).2.2.2.1 HG.out.1.1 (by have := HG.out; omega) (by decide) (by have := HG.out; omega)).mono ?_); rintro e w41 ⟨ve, rfl, ht, hb⟩)
      have HM41 := Lib.hid (HM40.out.stay hb)
      have HR41 := Lib.hid (on_inv (mo := (some mb)) HR40.out (Bt.ofBelow hb) (fun W hz => ht.bt hz HM41.out))
      clear HR40 HM40 c19
      clear ht hb
      go_wp2_with fail
      ((with_reducible refine (sameIs ve vc _ _ _ (HR41.out _ (Bt.refl _ _)).1 (HR41.out _ (Bt.refl _ _)).2.2.2.2.2.2.1 (by rw [srt_length, Lh.all_length]; have := HG.out; omega) rfl).mono ?_); rintro e w42 ⟨rfl, hb⟩)
      have HM42 := Lib.hid (HM41.out.stay hb)
      have HR42 := Lib.hid (fun W (hz : Bt (some mb) w42 W) => HR41.out W ((Bt.ofBelow hb).trans hz))
      clear HR41 HM41 
      clear hb
      have c20 : w42.cell? ⟨bY, 0, none⟩ = some (.pointer pY) := (HR42.out _ (Bt.refl _ _)).2.2.1.c0
      go_wp2_with fail
      ((with_reducible refine (drainRw Y pY 200 _ (HR42.out _ (Bt.refl _ _)).2.2.2.2.2.1 HG.out.2.1 (by have := HG.out; omega) (by decide) (by have := HG.out; omega)).mono ?_); rintro e w43 ⟨vf, rfl, ht, hb⟩)
      have HM43 := Lib.hid (HM42.out.stay hb)
      have HR43 := Lib.hid (on_inv (mo := (some mb)) HR42.out (Bt.ofBelow hb) (fun W hz => ht.bt hz HM43.out))
      clear HR42 HM42 c20
      clear ht hb
      go_wp2_with fail
      ((with_reducible refine (sameIs vf vd _ _ _ (HR43.out _ (Bt.refl _ _)).1 (HR43.out _ (Bt.refl _ _)).2.2.2.2.2.2.2.2.1 (by rw [srt_length, Lh.all_length]; have := HG.out; omega) rfl).mono ?_); rintro e w44 ⟨rfl, hb⟩)
      have HM44 := Lib.hid (HM43.out.stay hb)
      have HR44 := Lib.hid (fun W (hz : Bt (some mb) w44 W) => HR43.out W ((Bt.ofBelow hb).trans hz))
      clear HR43 HM43 
      clear hb
      go_wp2_with fail
      go_ret
      exact ⟨rfl, (HR44.out _ (Bt.refl _ _)).2.2.2.2.2.2.2.2.2.below⟩

end Go.Proofs.YtlmokendajgbdaaGreatDoor.Bo
