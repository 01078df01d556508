/-
  The walk of the statement PairingCheap: for any two rows and any element it returns true, and nothing that was there has changed, in any world where the library's table is as it is laid.
-/
import Derived.Test.YtpclafbolppgcaaDoorPd9
import Derived.Test.YtpclafbolppgcaaDoorPd8
import Derived.Deep.LoopGhost
namespace Go.Proofs.YtpclafbolppgcaaDoor
open Go.Sort Go.RowKit

theorem meldN_one {a b : Lh} (ha : 0 < a.size) (hb : 0 < b.size) : meldN a b = 1 := by
  cases a with
  | nil => exact absurd ha (by decide)
  | node x ks => cases b with
    | nil => exact absurd hb (by decide)
    | node y ls => rfl
theorem meldN_zero {a b : Lh} (h : a.size = 0 ∨ b.size = 0) : meldN a b = 0 := by
  rcases h with h | h
  · rw [Lh.size_nil h, meldN_nil]
  · rw [Lh.size_nil h, meldN_right]
theorem insert_some (h : Lh) (x : Int × Int) : (h.insert x).some = true := by
  rw [some_pos, insert_size]; simp

set_option maxRecDepth 100000 in
set_option maxHeartbeats 4000000 in
theorem cheap_any (A : Option Addr) (xs : List (Int × Int)) (c : Nat) (B : Option Addr) (ys : List (Int × Int)) (d : Nat) (x1 x2 : Int) (w : World) (he : Env w) (hr1 : Row w A xs) (hr2 : Row w B ys) :
    Calls Tryd.prog 6 #[.slice A xs.length c, .slice B ys.length d, el (x1, x2)] w fun e w' => e = .returned (.bool true) ∧ Below w.heap.size w w' := by
  obtain ⟨n, hn⟩ : ∃ n, n = xs.length := ⟨_, rfl⟩
  obtain ⟨m, hm⟩ : ∃ m, m = ys.length := ⟨_, rfl⟩
  rw [← hn, ← hm]
  have HN := Lib.hid (And.intro hn hm)
  have HRW := Lib.hid (And.intro hr1 hr2)
  clear hn hm hr1 hr2
  have HE := Lib.hid he
  have HM0 := Lib.hid (show MAt w (none : Option Nat) 0 0 from trivial)
  have HR0 := Lib.hid (fun W (hb : Bt none w W) => Bas.bt (Bas.first he) he hb (fun _ e => by cases e))
  clear he
  go_enter Tryd.func6, Tryd.ntmps6
  go_wp2_with fail
  have hs_bx := (HR0.out _ (Bt.refl _ _)).below.size
  have HM1 := Lib.hid (show MAt (w.alloc (.cells #[.int .i64 x1, .int .i64 x2] 32)) (none : Option Nat) 0 0 from trivial)
  have HR1 := Lib.hid (on_inv (mo := none) HR0.out ((Bt.refl none w).alloc (.cells #[.int .i64 x1, .int .i64 x2] 32)) (fun W hz => (EVar.new w x1 x2 rfl).bt hz HM1.out))
  clear HR0 HM0 
  generalize w.alloc (.cells #[.int .i64 x1, .int .i64 x2] 32) = w1 at *
  obtain ⟨bx, hbx⟩ : ∃ b, b = w.heap.size := ⟨_, rfl⟩
  rw [← hbx] at HR1 ⊢
  have B_bx := Lib.hid (show w.heap.size ≤ bx by rw [hbx]; exact hs_bx)
  clear hbx hs_bx 
  ((with_reducible refine (awake_any _ (HR1.out _ (Bt.refl _ _)).2.env).mono ?_); rintro e w2 ⟨rfl, hb⟩)
  have HM2 := Lib.hid (show MAt w2 (none : Option Nat) 0 0 from trivial)
  have HR2 := Lib.hid (fun W (hz : Bt none w2 W) => HR1.out W ((Bt.ofBelow hb).trans hz))
  clear HR1 HM1 
  clear hb
  by_cases hb0 : 100 < n
  · have qa : decide ((100 : Int) < (n : Int)) = true := by simp; omega
    have qb : (100 : Int) < (n : Int) := by omega
    go_wp2_with fail
    go_ret
    exact ⟨rfl, (HR2.out _ (Bt.refl _ _)).2.below⟩
  have qa0 : decide ((100 : Int) < (n : Int)) = false := by simp; omega
  have qb0 : ¬ (100 : Int) < (n : Int) := by omega
  by_cases hb1 : 100 < m
  · have qa : decide ((100 : Int) < (m : Int)) = true := by simp; omega
    have qb : (100 : Int) < (m : Int) := by omega
    go_wp2_with fail
    go_ret
    exact ⟨rfl, (HR2.out _ (Bt.refl _ _)).2.below⟩
  have qa1 : decide ((100 : Int) < (m : Int)) = false := by simp; omega
  have qb1 : ¬ (100 : Int) < (m : Int) := by omega
  go_wp2_with fail
  clear qa0 qb0 qa1 qb1
  have HS := Lib.hid (And.intro (Nat.le_of_not_lt hb0) (And.intro (Nat.le_of_not_lt hb1) (trivial)))
  clear hb0 hb1
  have hX : (ofL xs).size = n := by rw [ofL_size, HN.out.1]
  have hY : (ofL ys).size = m := by rw [ofL_size, HN.out.2]
  have hZ : (meld (ofL xs) (ofL ys)).size = n + m := by rw [meld_size, hX, hY]
  have HX := Lib.hid (And.intro hX (And.intro hY hZ))
  clear hX hY hZ
  ((with_reducible refine (ofRow A xs n c w _ HRW.out.1 HN.out.1 (by have := HS.out; omega) (HR2.out _ (Bt.refl _ _)).2.below).mono ?_); rintro e w3 ⟨pX, rfl, ht, hb⟩)
  have HM3 := Lib.hid (show MAt w3 (none : Option Nat) 0 0 from trivial)
  have HR3 := Lib.hid (on_inv (mo := none) HR2.out (Bt.ofBelow hb) (fun W hz => ht.bt hz HM3.out))
  clear HR2 HM2 
  clear ht hb
  go_wp2_with fail
  have hs_bX := (HR3.out _ (Bt.refl _ _)).2.2.below.size
  have hl_bx := (HR3.out _ (Bt.refl _ _)).2.1.lt
  have HM4 := Lib.hid (show MAt (w3.alloc (.cells #[.pointer pX] 29)) (none : Option Nat) 0 0 from trivial)
  have HR4 := Lib.hid (on_inv (mo := none) HR3.out ((Bt.refl none w3).alloc (.cells #[.pointer pX] 29)) (fun W hz => (HVar.new w3 pX rfl).bt hz HM4.out))
  clear HR3 HM3 
  generalize w3.alloc (.cells #[.pointer pX] 29) = w4 at *
  obtain ⟨bX, hbX⟩ : ∃ b, b = w3.heap.size := ⟨_, rfl⟩
  rw [← hbX] at HR4 ⊢
  have B_bX := Lib.hid (show w.heap.size ≤ bX by rw [hbX]; exact hs_bX)
  have N_bx_bX := Lib.hid (show bx ≠ bX by omega)
  clear hbX hs_bX hl_bx
  ((with_reducible refine (ofRow B ys m d w _ HRW.out.2 HN.out.2 (by have := HS.out; omega) (HR4.out _ (Bt.refl _ _)).2.2.2.below).mono ?_); rintro e w5 ⟨pY, rfl, ht, hb⟩)
  have HM5 := Lib.hid (show MAt w5 (none : Option Nat) 0 0 from trivial)
  have HR5 := Lib.hid (on_inv (mo := none) HR4.out (Bt.ofBelow hb) (fun W hz => ht.bt hz HM5.out))
  clear HR4 HM4 
  clear ht hb
  go_wp2_with fail
  have hs_bY := (HR5.out _ (Bt.refl _ _)).2.2.2.2.below.size
  have hl_bx := (HR5.out _ (Bt.refl _ _)).2.2.2.1.lt
  have HM6 := Lib.hid (show MAt (w5.alloc (.cells #[.pointer pY] 29)) (none : Option Nat) 0 0 from trivial)
  have HR6 := Lib.hid (on_inv (mo := none) HR5.out ((Bt.refl none w5).alloc (.cells #[.pointer pY] 29)) (fun W hz => (HVar.new w5 pY rfl).bt hz HM6.out))
  clear HR5 HM5 
  generalize w5.alloc (.cells #[.pointer pY] 29) = w6 at *
  obtain ⟨bY, hbY⟩ : ∃ b, b = w5.heap.size := ⟨_, rfl⟩
  rw [← hbY] at HR6 ⊢
  have B_bY := Lib.hid (show w.heap.size ≤ bY by rw [hbY]; exact hs_bY)
  have N_bx_bY := Lib.hid (show bx ≠ bY by omega)
  clear hbY hs_bY hl_bx
  ((with_reducible refine (mNew _).mono ?_); rintro e w7 ⟨rfl, hm, hb⟩)
  obtain ⟨mb, hmb⟩ : ∃ b, b = w6.heap.size := ⟨_, rfl⟩
  rw [← hmb] at hm ⊢
  have B_mb := Lib.hid (show w.heap.size ≤ mb by rw [hmb]; exact (HR6.out _ (Bt.refl _ _)).2.2.2.2.2.below.size)
  clear hmb
  have HM7 := Lib.hid hm
  have HR7 := Lib.hid (fun W (hz : Bt (some mb) w7 W) => And.intro (((HR6.out _ (Bt.ofBelow hb)).1).bt hz HM7.out) ( And.intro (((HR6.out _ (Bt.ofBelow hb)).2.1).bt hz HM7.out) ( And.intro (((HR6.out _ (Bt.ofBelow hb)).2.2.1).bt hz HM7.out) ( And.intro (((HR6.out _ (Bt.ofBelow hb)).2.2.2.1).bt hz HM7.out) ( And.intro (((HR6.out _ (Bt.ofBelow hb)).2.2.2.2.1).bt hz HM7.out) (((HR6.out _ (Bt.ofBelow hb)).2.2.2.2.2).bt HE.out hz (fun b e => by cases e; exact B_mb.out)))))))
  clear HR6 HM6 hm hb 
  have c1 : w7.cell? ⟨bX, 0, none⟩ = some (.pointer pX) := (HR7.out _ (Bt.refl _ _)).2.2.1.c0
  have c2 : w7.cell? ⟨bY, 0, none⟩ = some (.pointer pY) := (HR7.out _ (Bt.refl _ _)).1.c0
  go_wp2_with fail
  ((with_reducible refine (meld_any (some mb) (ofL xs) (ofL ys) 0 0 pX pY _ (by have := HX.out; have := HS.out; omega) HM7.out (by decide) (by decide) (by decide) (by decide) (HR7.out _ (Bt.refl _ _)).2.2.2.1 (HR7.out _ (Bt.refl _ _)).2.1).mono ?_); rintro e w8 ⟨pZ, rfl, ht, hm, hb⟩)
  have HM8 := Lib.hid (show MAt w8 (some mb) ((meldN (ofL xs) (ofL ys) : Nat) : Int) ((meldN (ofL xs) (ofL ys) : Nat) : Int) from by simpa using hm)
  have HR8 := Lib.hid (on_inv (mo := (some mb)) HR7.out hb (fun W hz => ht.bt hz HM8.out))
  clear HR7 HM7 c1 c2
  clear ht hb hm
  by_cases hca : n = 0
  · by_cases hcb : m = 0
    · have zn1 : ((n : Int) == 0) = true := by simp; omega
      have zn2 : (n == 0) = true := by simp; omega
      have zn3 : decide ((n : Int) = 0) = true := by simp; omega
      have zm1 : ((m : Int) == 0) = true := by simp; omega
      have zm2 : (m == 0) = true := by simp; omega
      have zm3 : decide ((m : Int) = 0) = true := by simp; omega
      have hMM : meldN (ofL xs) (ofL ys) = 0 := meldN_zero (.inl (by rw [HX.out.1]; omega))
      have HZ := Lib.hid (And.intro hca hcb)
      clear hca hcb
      have HM8b := Lib.hid (show MAt w8 (some mb) 0 0 from by have h9 := HM8.out; rw [hMM] at h9; exact h9)
      clear HM8 hMM
      have HM8 := HM8b
      clear HM8b
      go_wp2_with fail
      have hs_bZ := (HR8.out _ (Bt.refl _ _)).2.2.2.2.2.2.below.size
      have hl_bx := (HR8.out _ (Bt.refl _ _)).2.2.2.2.2.1.lt
      have HM9 := Lib.hid (HM8.out.alloc (.cells #[.pointer pZ] 29))
      have HR9 := Lib.hid (on_inv (mo := (some mb)) HR8.out ((Bt.refl (some mb) w8).alloc (.cells #[.pointer pZ] 29)) (fun W hz => (HVar.new w8 pZ rfl).bt hz HM9.out))
      clear HR8 HM8 
      generalize w8.alloc (.cells #[.pointer pZ] 29) = w9 at *
      obtain ⟨bZ, hbZ⟩ : ∃ b, b = w8.heap.size := ⟨_, rfl⟩
      rw [← hbZ] at HR9 ⊢
      have B_bZ := Lib.hid (show w.heap.size ≤ bZ by rw [hbZ]; exact hs_bZ)
      have N_bx_bZ := Lib.hid (show bx ≠ bZ by omega)
      clear hbZ hs_bZ hl_bx
      ((with_reducible refine (mSteps mb 0 0 _ HM9.out (by decide) (by decide) (by decide) (by decide)).mono ?_); rintro e w10 ⟨rfl, hb⟩)
      have HM10 := Lib.hid (HM9.out.stay hb)
      have HR10 := Lib.hid (fun W (hz : Bt (some mb) w10 W) => HR9.out W ((Bt.ofBelow hb).trans hz))
      clear HR9 HM9 
      clear hb
      go_wp2_with fail
      clear zn1 zn2 zn3 zm1 zm2 zm3
      ((with_reducible refine (mNew _).mono ?_); rintro e w11 ⟨rfl, hm, hb⟩)
      obtain ⟨mc, hmb⟩ : ∃ b, b = w10.heap.size := ⟨_, rfl⟩
      rw [← hmb] at hm ⊢
      have B_mc := Lib.hid (show w.heap.size ≤ mc by rw [hmb]; exact (HR10.out _ (Bt.refl _ _)).2.2.2.2.2.2.2.below.size)
      clear hmb
      have HM11 := Lib.hid hm
      have HR11 := Lib.hid (fun W (hz : Bt (some mc) w11 W) => And.intro (((HR10.out _ (Bt.ofBelow hb)).1).bt hz HM11.out) ( And.intro (((HR10.out _ (Bt.ofBelow hb)).2.1).bt hz HM11.out) ( And.intro (((HR10.out _ (Bt.ofBelow hb)).2.2.1).bt hz HM11.out) ( And.intro (((HR10.out _ (Bt.ofBelow hb)).2.2.2.1).bt hz HM11.out) ( And.intro (((HR10.out _ (Bt.ofBelow hb)).2.2.2.2.1).bt hz HM11.out) ( And.intro (((HR10.out _ (Bt.ofBelow hb)).2.2.2.2.2.1).bt hz HM11.out) ( And.intro (((HR10.out _ (Bt.ofBelow hb)).2.2.2.2.2.2.1).bt hz HM11.out) (((HR10.out _ (Bt.ofBelow hb)).2.2.2.2.2.2.2).bt HE.out hz (fun b e => by cases e; exact B_mc.out)))))))))
      clear HR10 HM10 hm hb 
      have c3 : w11.cell? ⟨bZ, 0, none⟩ = some (.pointer pZ) := (HR11.out _ (Bt.refl _ _)).1.c0
      have c4 : w11.cell? ⟨bx, 0, none⟩ = some (.int .i64 x1) := (HR11.out _ (Bt.refl _ _)).2.2.2.2.2.2.1.c0
      have c5 : w11.cell? ⟨bx, 1, none⟩ = some (.int .i64 x2) := (HR11.out _ (Bt.refl _ _)).2.2.2.2.2.2.1.c1
      go_wp2_with fail
      ((with_reducible refine (insert_any (some mc) 0 0 (meld (ofL xs) (ofL ys)) (x1, x2) pZ _ (by have := HX.out; have := HS.out; omega) HM11.out (by decide) (by decide) (by decide) (by decide) (HR11.out _ (Bt.refl _ _)).2.1).mono ?_); rintro e w12 ⟨pY2, rfl, ht, hm, hb⟩)
      have HM12 := Lib.hid (show MAt w12 (some mc) 0 1 from by rw [meldN_zero (.inr (by rw [HX.out.2.2]; have := HZ.out; omega))] at hm; exact hm)
      have HR12 := Lib.hid (on_inv (mo := (some mc)) HR11.out hb (fun W hz => ht.bt hz HM12.out))
      clear HR11 HM11 c3 c4 c5
      clear ht hb hm
      go_wp2_with fail
      have hs_bY2 := (HR12.out _ (Bt.refl _ _)).2.2.2.2.2.2.2.2.below.size
      have hl_bx := (HR12.out _ (Bt.refl _ _)).2.2.2.2.2.2.2.1.lt
      have HM13 := Lib.hid (HM12.out.alloc (.cells #[.pointer pY2] 29))
      have HR13 := Lib.hid (on_inv (mo := (some mc)) HR12.out ((Bt.refl (some mc) w12).alloc (.cells #[.pointer pY2] 29)) (fun W hz => (HVar.new w12 pY2 rfl).bt hz HM13.out))
      clear HR12 HM12 
      generalize w12.alloc (.cells #[.pointer pY2] 29) = w13 at *
      obtain ⟨bY2, hbY2⟩ : ∃ b, b = w12.heap.size := ⟨_, rfl⟩
      rw [← hbY2] at HR13 ⊢
      have B_bY2 := Lib.hid (show w.heap.size ≤ bY2 by rw [hbY2]; exact hs_bY2)
      have N_bx_bY2 := Lib.hid (show bx ≠ bY2 by omega)
      clear hbY2 hs_bY2 hl_bx
      obtain ⟨s, hs⟩ : ∃ s, s = (meld (ofL xs) (ofL ys)).size := ⟨_, rfl⟩
      have HSZ := Lib.hid (show s = (meld (ofL xs) (ofL ys)).size ∧ s = n + m ∧ s ≤ 200 from ⟨hs, by have := HX.out; omega, by have := HX.out; have := HS.out; omega⟩)
      have u1 : min (s : Int) 1 = 0 := by have := HSZ.out; have := HZ.out; omega
      have u2 : (s : Int) < 1 := by have := HSZ.out; have := HZ.out; omega
      have u4 : (s : Int) = 0 := by have := HSZ.out; have := HZ.out; omega
      have HSQ := Lib.hid hs.symm
      clear hs
      have s13_0 := (HR13.out _ (Bt.refl _ _)).2.2.1.c0
      go_region_held3 (fun w' => w'.cell? ⟨bZ, 0, none⟩ = some (.pointer pZ)) (go_keep)
        (first | (go_at_call 30; ((with_reducible refine (size_any (meld (ofL xs) (ofL ys)) pZ _ (HR14.out _ (Bt.refl _ _)).2.2.2.1).mono ?_); rintro e w15 ⟨rfl, hb⟩); rw [HSQ.out]; have HM15 := Lib.hid (HM14.out.stay hb); have HR15 := Lib.hid (fun W (hz : Bt (some mc) w15 W) => HR14.out W ((Bt.ofBelow hb).trans hz)); have s15_0 := (HR15.out _ (Bt.refl _ _)).2.2.1.c0; clear hb) | (go_at_call 25; ((with_reducible refine (mSteps mc 0 1 _ HM13.out.drew (by decide) (by decide) (by decide) (by decide)).mono ?_); rintro e w14 ⟨rfl, hb⟩); have HM14 := Lib.hid (HM13.out.drew.stay hb); have HR14 := Lib.hid (fun W (hz : Bt (some mc) w14 W) => HR13.out W ((((Bt.refl (some mc) w13).drew).trans (Bt.ofBelow hb)).trans hz)); have s14_0 := (HR14.out _ (Bt.refl _ _)).2.2.1.c0; clear hb))
      clear s13_0 s14_0 s15_0 HR13 HM13 HR14 HM14
      go_wp2_with fail
      clear u1 u2 u4
      ((with_reducible refine (mNew _).mono ?_); rintro e w16 ⟨rfl, hm, hb⟩)
      obtain ⟨md, hmb⟩ : ∃ b, b = w15.heap.size := ⟨_, rfl⟩
      rw [← hmb] at hm ⊢
      have B_md := Lib.hid (show w.heap.size ≤ md by rw [hmb]; exact (HR15.out _ (Bt.refl _ _)).2.2.2.2.2.2.2.2.2.below.size)
      clear hmb
      have HM16 := Lib.hid hm
      have HR16 := Lib.hid (fun W (hz : Bt (some md) w16 W) => And.intro (((HR15.out _ (Bt.ofBelow hb)).1).bt hz HM16.out) ( And.intro (((HR15.out _ (Bt.ofBelow hb)).2.1).bt hz HM16.out) ( And.intro (((HR15.out _ (Bt.ofBelow hb)).2.2.1).bt hz HM16.out) ( And.intro (((HR15.out _ (Bt.ofBelow hb)).2.2.2.1).bt hz HM16.out) ( And.intro (((HR15.out _ (Bt.ofBelow hb)).2.2.2.2.1).bt hz HM16.out) ( And.intro (((HR15.out _ (Bt.ofBelow hb)).2.2.2.2.2.1).bt hz HM16.out) ( And.intro (((HR15.out _ (Bt.ofBelow hb)).2.2.2.2.2.2.1).bt hz HM16.out) ( And.intro (((HR15.out _ (Bt.ofBelow hb)).2.2.2.2.2.2.2.1).bt hz HM16.out) ( And.intro (((HR15.out _ (Bt.ofBelow hb)).2.2.2.2.2.2.2.2.1).bt hz HM16.out) (((HR15.out _ (Bt.ofBelow hb)).2.2.2.2.2.2.2.2.2).bt HE.out hz (fun b e => by cases e; exact B_md.out)))))))))))
      clear HR15 HM15 hm hb 
      have c6 : w16.cell? ⟨bY2, 0, none⟩ = some (.pointer pY2) := (HR16.out _ (Bt.refl _ _)).1.c0
      go_wp2_with fail
      obtain ⟨P, hP⟩ : ∃ P, P = ((meld (ofL xs) (ofL ys)).insert (x1, x2)).popN := ⟨_, rfl⟩
      ((with_reducible refine (pop_any (some md) 0 0 ((meld (ofL xs) (ofL ys)).insert (x1, x2)) pY2 _ (by rw [insert_size]; have := HX.out; have := HS.out; omega) HM16.out (by decide) (by decide) (by decide) (by decide) (HR16.out _ (Bt.refl _ _)).2.1).mono ?_); rintro e w17 ⟨pW, rfl, ht, hm, hb⟩)
      have HM17 := Lib.hid (show MAt w17 (some md) (P : Int) (P : Int) from by rw [hP]; simpa using hm)
      have HR17 := Lib.hid (on_inv (mo := (some md)) HR16.out hb (fun W hz => ht.bt hz HM17.out))
      clear HR16 HM16 c6
      rw [insert_some]
      have HP := Lib.hid (show P ≤ s from by have h9 := popN_le ((meld (ofL xs) (ofL ys)).insert (x1, x2)); rw [pop_size, insert_size, ← hP] at h9; have := HSZ.out; omega)
      have HSW : (((meld (ofL xs) (ofL ys)).insert (x1, x2)).pop.size) = s := by rw [pop_size, insert_size]; have := HSZ.out; omega
      have HSWH := Lib.hid HSW
      clear ht hb hm hP HSW
      go_wp2_with fail
      have hs_bW := (HR17.out _ (Bt.refl _ _)).2.2.2.2.2.2.2.2.2.2.below.size
      have HM18 := Lib.hid (HM17.out.alloc (.cells #[.pointer pW] 29))
      have HR18 := Lib.hid (on_inv (mo := (some md)) HR17.out ((Bt.refl (some md) w17).alloc (.cells #[.pointer pW] 29)) (fun W hz => (HVar.new w17 pW rfl).bt hz HM18.out))
      clear HR17 HM17 
      generalize w17.alloc (.cells #[.pointer pW] 29) = w18 at *
      obtain ⟨bW, hbW⟩ : ∃ b, b = w17.heap.size := ⟨_, rfl⟩
      rw [← hbW] at HR18 ⊢
      have B_bW := Lib.hid (show w.heap.size ≤ bW by rw [hbW]; exact hs_bW)
      clear hbW hs_bW 
      have v1 : IntKind.i64.wrap ((n : Int) + (m : Int)) = (s : Int) := by rw [IntKind.wrap_i64]; have := HSZ.out; omega
      have v2 : IntKind.i64.wrap (2 * (s : Int)) = 2 * (s : Int) := by rw [IntKind.wrap_i64]; have := HSZ.out; omega
      have v3 : (P : Int) + (P : Int) ≤ 2 * (s : Int) := by have := HP.out; omega
      have v4 : decide ((P : Int) + (P : Int) ≤ 2 * (s : Int)) = true := by simpa using v3
      have s18_0 := (HR18.out _ (Bt.refl _ _)).1.c0
      go_region_held3 (fun w' => w'.cell? ⟨bW, 0, none⟩ = some (.pointer pW)) (go_keep)
        (first | (go_at_call 30; ((with_reducible refine (size_any ((meld (ofL xs) (ofL ys)).insert (x1, x2)).pop pW _ (HR20.out _ (Bt.refl _ _)).2.1).mono ?_); rintro e w21 ⟨rfl, hb⟩); rw [HSWH.out]; have HM21 := Lib.hid (HM20.out.stay hb); have HR21 := Lib.hid (fun W (hz : Bt (some md) w21 W) => HR20.out W ((Bt.ofBelow hb).trans hz)); have s21_0 := (HR21.out _ (Bt.refl _ _)).1.c0; clear hb) | (go_at_call 30; ((with_reducible refine (size_any ((meld (ofL xs) (ofL ys)).insert (x1, x2)).pop pW _ (HR18.out _ ((Bt.refl _ _).drew)).2.1).mono ?_); rintro e w19 ⟨rfl, hb⟩); rw [HSWH.out]; have HM19 := Lib.hid (HM18.out.drew.stay hb); have HR19 := Lib.hid (fun W (hz : Bt (some md) w19 W) => HR18.out W ((((Bt.refl (some md) w18).drew).trans (Bt.ofBelow hb)).trans hz)); have s19_0 := (HR19.out _ (Bt.refl _ _)).1.c0; clear hb) | (go_at_call 25; ((with_reducible refine (mSteps md (P : Int) (P : Int) _ HM19.out (by have := HP.out; have := HSZ.out; omega) (by have := HP.out; have := HSZ.out; omega) (by have := HP.out; have := HSZ.out; omega) (by have := HP.out; have := HSZ.out; omega)).mono ?_); rintro e w20 ⟨rfl, hb⟩); have HM20 := Lib.hid (HM19.out.stay hb); have HR20 := Lib.hid (fun W (hz : Bt (some md) w20 W) => HR19.out W ((Bt.ofBelow hb).trans hz)); have s20_0 := (HR20.out _ (Bt.refl _ _)).1.c0; clear hb))
      clear s18_0 s19_0 s20_0 s21_0 HR18 HM18 HR19 HM19 HR20 HM20
      go_wp2_with fail
      go_ret
      exact ⟨rfl, (HR21.out _ (Bt.refl _ _)).2.2.2.2.2.2.2.2.2.2.2.below⟩
    · have zn1 : ((n : Int) == 0) = true := by simp; omega
      have zn2 : (n == 0) = true := by simp; omega
      have zn3 : decide ((n : Int) = 0) = true := by simp; omega
      have zm1 : ((m : Int) == 0) = false := by simp; omega
      have zm2 : (m == 0) = false := by simp; omega
      have zm3 : decide ((m : Int) = 0) = false := by simp; omega
      have hMM : meldN (ofL xs) (ofL ys) = 0 := meldN_zero (.inl (by rw [HX.out.1]; omega))
      have HZ := Lib.hid (And.intro hca hcb)
      clear hca hcb
      have HM8b := Lib.hid (show MAt w8 (some mb) 0 0 from by have h9 := HM8.out; rw [hMM] at h9; exact h9)
      clear HM8 hMM
      have HM8 := HM8b
      clear HM8b
      go_wp2_with fail
      have hs_bZ := (HR8.out _ (Bt.refl _ _)).2.2.2.2.2.2.below.size
      have hl_bx := (HR8.out _ (Bt.refl _ _)).2.2.2.2.2.1.lt
      have HM9 := Lib.hid (HM8.out.alloc (.cells #[.pointer pZ] 29))
      have HR9 := Lib.hid (on_inv (mo := (some mb)) HR8.out ((Bt.refl (some mb) w8).alloc (.cells #[.pointer pZ] 29)) (fun W hz => (HVar.new w8 pZ rfl).bt hz HM9.out))
      clear HR8 HM8 
      generalize w8.alloc (.cells #[.pointer pZ] 29) = w9 at *
      obtain ⟨bZ, hbZ⟩ : ∃ b, b = w8.heap.size := ⟨_, rfl⟩
      rw [← hbZ] at HR9 ⊢
      have B_bZ := Lib.hid (show w.heap.size ≤ bZ by rw [hbZ]; exact hs_bZ)
      have N_bx_bZ := Lib.hid (show bx ≠ bZ by omega)
      clear hbZ hs_bZ hl_bx
      ((with_reducible refine (mSteps mb 0 0 _ HM9.out (by decide) (by decide) (by decide) (by decide)).mono ?_); rintro e w10 ⟨rfl, hb⟩)
      have HM10 := Lib.hid (HM9.out.stay hb)
      have HR10 := Lib.hid (fun W (hz : Bt (some mb) w10 W) => HR9.out W ((Bt.ofBelow hb).trans hz))
      clear HR9 HM9 
      clear hb
      go_wp2_with fail
      clear zn1 zn2 zn3 zm1 zm2 zm3
      ((with_reducible refine (mNew _).mono ?_); rintro e w11 ⟨rfl, hm, hb⟩)
      obtain ⟨mc, hmb⟩ : ∃ b, b = w10.heap.size := ⟨_, rfl⟩
      rw [← hmb] at hm ⊢
      have B_mc := Lib.hid (show w.heap.size ≤ mc by rw [hmb]; exact (HR10.out _ (Bt.refl _ _)).2.2.2.2.2.2.2.below.size)
      clear hmb
      have HM11 := Lib.hid hm
      have HR11 := Lib.hid (fun W (hz : Bt (some mc) w11 W) => And.intro (((HR10.out _ (Bt.ofBelow hb)).1).bt hz HM11.out) ( And.intro (((HR10.out _ (Bt.ofBelow hb)).2.1).bt hz HM11.out) ( And.intro (((HR10.out _ (Bt.ofBelow hb)).2.2.1).bt hz HM11.out) ( And.intro (((HR10.out _ (Bt.ofBelow hb)).2.2.2.1).bt hz HM11.out) ( And.intro (((HR10.out _ (Bt.ofBelow hb)).2.2.2.2.1).bt hz HM11.out) ( And.intro (((HR10.out _ (Bt.ofBelow hb)).2.2.2.2.2.1).bt hz HM11.out) ( And.intro (((HR10.out _ (Bt.ofBelow hb)).2.2.2.2.2.2.1).bt hz HM11.out) (((HR10.out _ (Bt.ofBelow hb)).2.2.2.2.2.2.2).bt HE.out hz (fun b e => by cases e; exact B_mc.out)))))))))
      clear HR10 HM10 hm hb 
      have c7 : w11.cell? ⟨bZ, 0, none⟩ = some (.pointer pZ) := (HR11.out _ (Bt.refl _ _)).1.c0
      have c8 : w11.cell? ⟨bx, 0, none⟩ = some (.int .i64 x1) := (HR11.out _ (Bt.refl _ _)).2.2.2.2.2.2.1.c0
      have c9 : w11.cell? ⟨bx, 1, none⟩ = some (.int .i64 x2) := (HR11.out _ (Bt.refl _ _)).2.2.2.2.2.2.1.c1
      go_wp2_with fail
      ((with_reducible refine (insert_any (some mc) 0 0 (meld (ofL xs) (ofL ys)) (x1, x2) pZ _ (by have := HX.out; have := HS.out; omega) HM11.out (by decide) (by decide) (by decide) (by decide) (HR11.out _ (Bt.refl _ _)).2.1).mono ?_); rintro e w12 ⟨pY2, rfl, ht, hm, hb⟩)
      have HM12 := Lib.hid (show MAt w12 (some mc) 1 2 from by rw [meldN_one (by rw [one_size]; decide) (by rw [HX.out.2.2]; have := HZ.out; omega)] at hm; exact hm)
      have HR12 := Lib.hid (on_inv (mo := (some mc)) HR11.out hb (fun W hz => ht.bt hz HM12.out))
      clear HR11 HM11 c7 c8 c9
      clear ht hb hm
      go_wp2_with fail
      have hs_bY2 := (HR12.out _ (Bt.refl _ _)).2.2.2.2.2.2.2.2.below.size
      have hl_bx := (HR12.out _ (Bt.refl _ _)).2.2.2.2.2.2.2.1.lt
      have HM13 := Lib.hid (HM12.out.alloc (.cells #[.pointer pY2] 29))
      have HR13 := Lib.hid (on_inv (mo := (some mc)) HR12.out ((Bt.refl (some mc) w12).alloc (.cells #[.pointer pY2] 29)) (fun W hz => (HVar.new w12 pY2 rfl).bt hz HM13.out))
      clear HR12 HM12 
      generalize w12.alloc (.cells #[.pointer pY2] 29) = w13 at *
      obtain ⟨bY2, hbY2⟩ : ∃ b, b = w12.heap.size := ⟨_, rfl⟩
      rw [← hbY2] at HR13 ⊢
      have B_bY2 := Lib.hid (show w.heap.size ≤ bY2 by rw [hbY2]; exact hs_bY2)
      have N_bx_bY2 := Lib.hid (show bx ≠ bY2 by omega)
      clear hbY2 hs_bY2 hl_bx
      obtain ⟨s, hs⟩ : ∃ s, s = (meld (ofL xs) (ofL ys)).size := ⟨_, rfl⟩
      have HSZ := Lib.hid (show s = (meld (ofL xs) (ofL ys)).size ∧ s = n + m ∧ s ≤ 200 from ⟨hs, by have := HX.out; omega, by have := HX.out; have := HS.out; omega⟩)
      have u1 : min (s : Int) 1 = 1 := by have := HSZ.out; have := HZ.out; omega
      have u2 : ¬ (s : Int) < 1 := by have := HSZ.out; have := HZ.out; omega
      have u4 : ¬ (s : Int) ≤ 0 := by have := HSZ.out; have := HZ.out; omega
      have HSQ := Lib.hid hs.symm
      clear hs
      have s13_0 := (HR13.out _ (Bt.refl _ _)).2.2.1.c0
      go_region_held3 (fun w' => w'.cell? ⟨bZ, 0, none⟩ = some (.pointer pZ)) (go_keep)
        (first | (go_at_call 30; ((with_reducible refine (size_any (meld (ofL xs) (ofL ys)) pZ _ (HR14.out _ (Bt.refl _ _)).2.2.2.1).mono ?_); rintro e w15 ⟨rfl, hb⟩); rw [HSQ.out]; have HM15 := Lib.hid (HM14.out.stay hb); have HR15 := Lib.hid (fun W (hz : Bt (some mc) w15 W) => HR14.out W ((Bt.ofBelow hb).trans hz)); have s15_0 := (HR15.out _ (Bt.refl _ _)).2.2.1.c0; clear hb) | (go_at_call 25; ((with_reducible refine (mSteps mc 1 2 _ HM13.out.drew (by decide) (by decide) (by decide) (by decide)).mono ?_); rintro e w14 ⟨rfl, hb⟩); have HM14 := Lib.hid (HM13.out.drew.stay hb); have HR14 := Lib.hid (fun W (hz : Bt (some mc) w14 W) => HR13.out W ((((Bt.refl (some mc) w13).drew).trans (Bt.ofBelow hb)).trans hz)); have s14_0 := (HR14.out _ (Bt.refl _ _)).2.2.1.c0; clear hb))
      clear s13_0 s14_0 s15_0 HR13 HM13 HR14 HM14
      go_wp2_with fail
      clear u1 u2 u4
      ((with_reducible refine (mNew _).mono ?_); rintro e w16 ⟨rfl, hm, hb⟩)
      obtain ⟨md, hmb⟩ : ∃ b, b = w15.heap.size := ⟨_, rfl⟩
      rw [← hmb] at hm ⊢
      have B_md := Lib.hid (show w.heap.size ≤ md by rw [hmb]; exact (HR15.out _ (Bt.refl _ _)).2.2.2.2.2.2.2.2.2.below.size)
      clear hmb
      have HM16 := Lib.hid hm
      have HR16 := Lib.hid (fun W (hz : Bt (some md) w16 W) => And.intro (((HR15.out _ (Bt.ofBelow hb)).1).bt hz HM16.out) ( And.intro (((HR15.out _ (Bt.ofBelow hb)).2.1).bt hz HM16.out) ( And.intro (((HR15.out _ (Bt.ofBelow hb)).2.2.1).bt hz HM16.out) ( And.intro (((HR15.out _ (Bt.ofBelow hb)).2.2.2.1).bt hz HM16.out) ( And.intro (((HR15.out _ (Bt.ofBelow hb)).2.2.2.2.1).bt hz HM16.out) ( And.intro (((HR15.out _ (Bt.ofBelow hb)).2.2.2.2.2.1).bt hz HM16.out) ( And.intro (((HR15.out _ (Bt.ofBelow hb)).2.2.2.2.2.2.1).bt hz HM16.out) ( And.intro (((HR15.out _ (Bt.ofBelow hb)).2.2.2.2.2.2.2.1).bt hz HM16.out) ( And.intro (((HR15.out _ (Bt.ofBelow hb)).2.2.2.2.2.2.2.2.1).bt hz HM16.out) (((HR15.out _ (Bt.ofBelow hb)).2.2.2.2.2.2.2.2.2).bt HE.out hz (fun b e => by cases e; exact B_md.out)))))))))))
      clear HR15 HM15 hm hb 
      have c10 : w16.cell? ⟨bY2, 0, none⟩ = some (.pointer pY2) := (HR16.out _ (Bt.refl _ _)).1.c0
      go_wp2_with fail
      obtain ⟨P, hP⟩ : ∃ P, P = ((meld (ofL xs) (ofL ys)).insert (x1, x2)).popN := ⟨_, rfl⟩
      ((with_reducible refine (pop_any (some md) 0 0 ((meld (ofL xs) (ofL ys)).insert (x1, x2)) pY2 _ (by rw [insert_size]; have := HX.out; have := HS.out; omega) HM16.out (by decide) (by decide) (by decide) (by decide) (HR16.out _ (Bt.refl _ _)).2.1).mono ?_); rintro e w17 ⟨pW, rfl, ht, hm, hb⟩)
      have HM17 := Lib.hid (show MAt w17 (some md) (P : Int) (P : Int) from by rw [hP]; simpa using hm)
      have HR17 := Lib.hid (on_inv (mo := (some md)) HR16.out hb (fun W hz => ht.bt hz HM17.out))
      clear HR16 HM16 c10
      rw [insert_some]
      have HP := Lib.hid (show P ≤ s from by have h9 := popN_le ((meld (ofL xs) (ofL ys)).insert (x1, x2)); rw [pop_size, insert_size, ← hP] at h9; have := HSZ.out; omega)
      have HSW : (((meld (ofL xs) (ofL ys)).insert (x1, x2)).pop.size) = s := by rw [pop_size, insert_size]; have := HSZ.out; omega
      have HSWH := Lib.hid HSW
      clear ht hb hm hP HSW
      go_wp2_with fail
      have hs_bW := (HR17.out _ (Bt.refl _ _)).2.2.2.2.2.2.2.2.2.2.below.size
      have HM18 := Lib.hid (HM17.out.alloc (.cells #[.pointer pW] 29))
      have HR18 := Lib.hid (on_inv (mo := (some md)) HR17.out ((Bt.refl (some md) w17).alloc (.cells #[.pointer pW] 29)) (fun W hz => (HVar.new w17 pW rfl).bt hz HM18.out))
      clear HR17 HM17 
      generalize w17.alloc (.cells #[.pointer pW] 29) = w18 at *
      obtain ⟨bW, hbW⟩ : ∃ b, b = w17.heap.size := ⟨_, rfl⟩
      rw [← hbW] at HR18 ⊢
      have B_bW := Lib.hid (show w.heap.size ≤ bW by rw [hbW]; exact hs_bW)
      clear hbW hs_bW 
      have v1 : IntKind.i64.wrap ((n : Int) + (m : Int)) = (s : Int) := by rw [IntKind.wrap_i64]; have := HSZ.out; omega
      have v2 : IntKind.i64.wrap (2 * (s : Int)) = 2 * (s : Int) := by rw [IntKind.wrap_i64]; have := HSZ.out; omega
      have v3 : (P : Int) + (P : Int) ≤ 2 * (s : Int) := by have := HP.out; omega
      have v4 : decide ((P : Int) + (P : Int) ≤ 2 * (s : Int)) = true := by simpa using v3
      have s18_0 := (HR18.out _ (Bt.refl _ _)).1.c0
      go_region_held3 (fun w' => w'.cell? ⟨bW, 0, none⟩ = some (.pointer pW)) (go_keep)
        (first | (go_at_call 30; ((with_reducible refine (size_any ((meld (ofL xs) (ofL ys)).insert (x1, x2)).pop pW _ (HR20.out _ (Bt.refl _ _)).2.1).mono ?_); rintro e w21 ⟨rfl, hb⟩); rw [HSWH.out]; have HM21 := Lib.hid (HM20.out.stay hb); have HR21 := Lib.hid (fun W (hz : Bt (some md) w21 W) => HR20.out W ((Bt.ofBelow hb).trans hz)); have s21_0 := (HR21.out _ (Bt.refl _ _)).1.c0; clear hb) | (go_at_call 30; ((with_reducible refine (size_any ((meld (ofL xs) (ofL ys)).insert (x1, x2)).pop pW _ (HR18.out _ ((Bt.refl _ _).drew)).2.1).mono ?_); rintro e w19 ⟨rfl, hb⟩); rw [HSWH.out]; have HM19 := Lib.hid (HM18.out.drew.stay hb); have HR19 := Lib.hid (fun W (hz : Bt (some md) w19 W) => HR18.out W ((((Bt.refl (some md) w18).drew).trans (Bt.ofBelow hb)).trans hz)); have s19_0 := (HR19.out _ (Bt.refl _ _)).1.c0; clear hb) | (go_at_call 25; ((with_reducible refine (mSteps md (P : Int) (P : Int) _ HM19.out (by have := HP.out; have := HSZ.out; omega) (by have := HP.out; have := HSZ.out; omega) (by have := HP.out; have := HSZ.out; omega) (by have := HP.out; have := HSZ.out; omega)).mono ?_); rintro e w20 ⟨rfl, hb⟩); have HM20 := Lib.hid (HM19.out.stay hb); have HR20 := Lib.hid (fun W (hz : Bt (some md) w20 W) => HR19.out W ((Bt.ofBelow hb).trans hz)); have s20_0 := (HR20.out _ (Bt.refl _ _)).1.c0; clear hb))
      clear s18_0 s19_0 s20_0 s21_0 HR18 HM18 HR19 HM19 HR20 HM20
      go_wp2_with fail
      go_ret
      exact ⟨rfl, (HR21.out _ (Bt.refl _ _)).2.2.2.2.2.2.2.2.2.2.2.below⟩
  · by_cases hcb : m = 0
    · have zn1 : ((n : Int) == 0) = false := by simp; omega
      have zn2 : (n == 0) = false := by simp; omega
      have zn3 : decide ((n : Int) = 0) = false := by simp; omega
      have zm1 : ((m : Int) == 0) = true := by simp; omega
      have zm2 : (m == 0) = true := by simp; omega
      have zm3 : decide ((m : Int) = 0) = true := by simp; omega
      have hMM : meldN (ofL xs) (ofL ys) = 0 := meldN_zero (.inr (by rw [HX.out.2.1]; omega))
      have HZ := Lib.hid (And.intro hca hcb)
      clear hca hcb
      have HM8b := Lib.hid (show MAt w8 (some mb) 0 0 from by have h9 := HM8.out; rw [hMM] at h9; exact h9)
      clear HM8 hMM
      have HM8 := HM8b
      clear HM8b
      go_wp2_with fail
      have hs_bZ := (HR8.out _ (Bt.refl _ _)).2.2.2.2.2.2.below.size
      have hl_bx := (HR8.out _ (Bt.refl _ _)).2.2.2.2.2.1.lt
      have HM9 := Lib.hid (HM8.out.alloc (.cells #[.pointer pZ] 29))
      have HR9 := Lib.hid (on_inv (mo := (some mb)) HR8.out ((Bt.refl (some mb) w8).alloc (.cells #[.pointer pZ] 29)) (fun W hz => (HVar.new w8 pZ rfl).bt hz HM9.out))
      clear HR8 HM8 
      generalize w8.alloc (.cells #[.pointer pZ] 29) = w9 at *
      obtain ⟨bZ, hbZ⟩ : ∃ b, b = w8.heap.size := ⟨_, rfl⟩
      rw [← hbZ] at HR9 ⊢
      have B_bZ := Lib.hid (show w.heap.size ≤ bZ by rw [hbZ]; exact hs_bZ)
      have N_bx_bZ := Lib.hid (show bx ≠ bZ by omega)
      clear hbZ hs_bZ hl_bx
      ((with_reducible refine (mSteps mb 0 0 _ HM9.out (by decide) (by decide) (by decide) (by decide)).mono ?_); rintro e w10 ⟨rfl, hb⟩)
      have HM10 := Lib.hid (HM9.out.stay hb)
      have HR10 := Lib.hid (fun W (hz : Bt (some mb) w10 W) => HR9.out W ((Bt.ofBelow hb).trans hz))
      clear HR9 HM9 
      clear hb
      go_wp2_with fail
      clear zn1 zn2 zn3 zm1 zm2 zm3
      ((with_reducible refine (mNew _).mono ?_); rintro e w11 ⟨rfl, hm, hb⟩)
      obtain ⟨mc, hmb⟩ : ∃ b, b = w10.heap.size := ⟨_, rfl⟩
      rw [← hmb] at hm ⊢
      have B_mc := Lib.hid (show w.heap.size ≤ mc by rw [hmb]; exact (HR10.out _ (Bt.refl _ _)).2.2.2.2.2.2.2.below.size)
      clear hmb
      have HM11 := Lib.hid hm
      have HR11 := Lib.hid (fun W (hz : Bt (some mc) w11 W) => And.intro (((HR10.out _ (Bt.ofBelow hb)).1).bt hz HM11.out) ( And.intro (((HR10.out _ (Bt.ofBelow hb)).2.1).bt hz HM11.out) ( And.intro (((HR10.out _ (Bt.ofBelow hb)).2.2.1).bt hz HM11.out) ( And.intro (((HR10.out _ (Bt.ofBelow hb)).2.2.2.1).bt hz HM11.out) ( And.intro (((HR10.out _ (Bt.ofBelow hb)).2.2.2.2.1).bt hz HM11.out) ( And.intro (((HR10.out _ (Bt.ofBelow hb)).2.2.2.2.2.1).bt hz HM11.out) ( And.intro (((HR10.out _ (Bt.ofBelow hb)).2.2.2.2.2.2.1).bt hz HM11.out) (((HR10.out _ (Bt.ofBelow hb)).2.2.2.2.2.2.2).bt HE.out hz (fun b e => by cases e; exact B_mc.out)))))))))
      clear HR10 HM10 hm hb 
      have c11 : w11.cell? ⟨bZ, 0, none⟩ = some (.pointer pZ) := (HR11.out _ (Bt.refl _ _)).1.c0
      have c12 : w11.cell? ⟨bx, 0, none⟩ = some (.int .i64 x1) := (HR11.out _ (Bt.refl _ _)).2.2.2.2.2.2.1.c0
      have c13 : w11.cell? ⟨bx, 1, none⟩ = some (.int .i64 x2) := (HR11.out _ (Bt.refl _ _)).2.2.2.2.2.2.1.c1
      go_wp2_with fail
      ((with_reducible refine (insert_any (some mc) 0 0 (meld (ofL xs) (ofL ys)) (x1, x2) pZ _ (by have := HX.out; have := HS.out; omega) HM11.out (by decide) (by decide) (by decide) (by decide) (HR11.out _ (Bt.refl _ _)).2.1).mono ?_); rintro e w12 ⟨pY2, rfl, ht, hm, hb⟩)
      have HM12 := Lib.hid (show MAt w12 (some mc) 1 2 from by rw [meldN_one (by rw [one_size]; decide) (by rw [HX.out.2.2]; have := HZ.out; omega)] at hm; exact hm)
      have HR12 := Lib.hid (on_inv (mo := (some mc)) HR11.out hb (fun W hz => ht.bt hz HM12.out))
      clear HR11 HM11 c11 c12 c13
      clear ht hb hm
      go_wp2_with fail
      have hs_bY2 := (HR12.out _ (Bt.refl _ _)).2.2.2.2.2.2.2.2.below.size
      have hl_bx := (HR12.out _ (Bt.refl _ _)).2.2.2.2.2.2.2.1.lt
      have HM13 := Lib.hid (HM12.out.alloc (.cells #[.pointer pY2] 29))
      have HR13 := Lib.hid (on_inv (mo := (some mc)) HR12.out ((Bt.refl (some mc) w12).alloc (.cells #[.pointer pY2] 29)) (fun W hz => (HVar.new w12 pY2 rfl).bt hz HM13.out))
      clear HR12 HM12 
      generalize w12.alloc (.cells #[.pointer pY2] 29) = w13 at *
      obtain ⟨bY2, hbY2⟩ : ∃ b, b = w12.heap.size := ⟨_, rfl⟩
      rw [← hbY2] at HR13 ⊢
      have B_bY2 := Lib.hid (show w.heap.size ≤ bY2 by rw [hbY2]; exact hs_bY2)
      have N_bx_bY2 := Lib.hid (show bx ≠ bY2 by omega)
      clear hbY2 hs_bY2 hl_bx
      obtain ⟨s, hs⟩ : ∃ s, s = (meld (ofL xs) (ofL ys)).size := ⟨_, rfl⟩
      have HSZ := Lib.hid (show s = (meld (ofL xs) (ofL ys)).size ∧ s = n + m ∧ s ≤ 200 from ⟨hs, by have := HX.out; omega, by have := HX.out; have := HS.out; omega⟩)
      have u1 : min (s : Int) 1 = 1 := by have := HSZ.out; have := HZ.out; omega
      have u2 : ¬ (s : Int) < 1 := by have := HSZ.out; have := HZ.out; omega
      have u4 : ¬ (s : Int) ≤ 0 := by have := HSZ.out; have := HZ.out; omega
      have HSQ := Lib.hid hs.symm
      clear hs
      have s13_0 := (HR13.out _ (Bt.refl _ _)).2.2.1.c0
      go_region_held3 (fun w' => w'.cell? ⟨bZ, 0, none⟩ = some (.pointer pZ)) (go_keep)
        (first | (go_at_call 30; ((with_reducible refine (size_any (meld (ofL xs) (ofL ys)) pZ _ (HR14.out _ (Bt.refl _ _)).2.2.2.1).mono ?_); rintro e w15 ⟨rfl, hb⟩); rw [HSQ.out]; have HM15 := Lib.hid (HM14.out.stay hb); have HR15 := Lib.hid (fun W (hz : Bt (some mc) w15 W) => HR14.out W ((Bt.ofBelow hb).trans hz)); have s15_0 := (HR15.out _ (Bt.refl _ _)).2.2.1.c0; clear hb) | (go_at_call 25; ((with_reducible refine (mSteps mc 1 2 _ HM13.out.drew (by decide) (by decide) (by decide) (by decide)).mono ?_); rintro e w14 ⟨rfl, hb⟩); have HM14 := Lib.hid (HM13.out.drew.stay hb); have HR14 := Lib.hid (fun W (hz : Bt (some mc) w14 W) => HR13.out W ((((Bt.refl (some mc) w13).drew).trans (Bt.ofBelow hb)).trans hz)); have s14_0 := (HR14.out _ (Bt.refl _ _)).2.2.1.c0; clear hb))
      clear s13_0 s14_0 s15_0 HR13 HM13 HR14 HM14
      go_wp2_with fail
      clear u1 u2 u4
      ((with_reducible refine (mNew _).mono ?_); rintro e w16 ⟨rfl, hm, hb⟩)
      obtain ⟨md, hmb⟩ : ∃ b, b = w15.heap.size := ⟨_, rfl⟩
      rw [← hmb] at hm ⊢
      have B_md := Lib.hid (show w.heap.size ≤ md by rw [hmb]; exact (HR15.out _ (Bt.refl _ _)).2.2.2.2.2.2.2.2.2.below.size)
      clear hmb
      have HM16 := Lib.hid hm
      have HR16 := Lib.hid (fun W (hz : Bt (some md) w16 W) => And.intro (((HR15.out _ (Bt.ofBelow hb)).1).bt hz HM16.out) ( And.intro (((HR15.out _ (Bt.ofBelow hb)).2.1).bt hz HM16.out) ( And.intro (((HR15.out _ (Bt.ofBelow hb)).2.2.1).bt hz HM16.out) ( And.intro (((HR15.out _ (Bt.ofBelow hb)).2.2.2.1).bt hz HM16.out) ( And.intro (((HR15.out _ (Bt.ofBelow hb)).2.2.2.2.1).bt hz HM16.out) ( And.intro (((HR15.out _ (Bt.ofBelow hb)).2.2.2.2.2.1).bt hz HM16.out) ( And.intro (((HR15.out _ (Bt.ofBelow hb)).2.2.2.2.2.2.1).bt hz HM16.out) ( And.intro (((HR15.out _ (Bt.ofBelow hb)).2.2.2.2.2.2.2.1).bt hz HM16.out) ( And.intro (((HR15.out _ (Bt.ofBelow hb)).2.2.2.2.2.2.2.2.1).bt hz HM16.out) (((HR15.out _ (Bt.ofBelow hb)).2.2.2.2.2.2.2.2.2).bt HE.out hz (fun b e => by cases e; exact B_md.out)))))))))))
      clear HR15 HM15 hm hb 
      have c14 : w16.cell? ⟨bY2, 0, none⟩ = some (.pointer pY2) := (HR16.out _ (Bt.refl _ _)).1.c0
      go_wp2_with fail
      obtain ⟨P, hP⟩ : ∃ P, P = ((meld (ofL xs) (ofL ys)).insert (x1, x2)).popN := ⟨_, rfl⟩
      ((with_reducible refine (pop_any (some md) 0 0 ((meld (ofL xs) (ofL ys)).insert (x1, x2)) pY2 _ (by rw [insert_size]; have := HX.out; have := HS.out; omega) HM16.out (by decide) (by decide) (by decide) (by decide) (HR16.out _ (Bt.refl _ _)).2.1).mono ?_); rintro e w17 ⟨pW, rfl, ht, hm, hb⟩)
      have HM17 := Lib.hid (show MAt w17 (some md) (P : Int) (P : Int) from by rw [hP]; simpa using hm)
      have HR17 := Lib.hid (on_inv (mo := (some md)) HR16.out hb (fun W hz => ht.bt hz HM17.out))
      clear HR16 HM16 c14
      rw [insert_some]
      have HP := Lib.hid (show P ≤ s from by have h9 := popN_le ((meld (ofL xs) (ofL ys)).insert (x1, x2)); rw [pop_size, insert_size, ← hP] at h9; have := HSZ.out; omega)
      have HSW : (((meld (ofL xs) (ofL ys)).insert (x1, x2)).pop.size) = s := by rw [pop_size, insert_size]; have := HSZ.out; omega
      have HSWH := Lib.hid HSW
      clear ht hb hm hP HSW
      go_wp2_with fail
      have hs_bW := (HR17.out _ (Bt.refl _ _)).2.2.2.2.2.2.2.2.2.2.below.size
      have HM18 := Lib.hid (HM17.out.alloc (.cells #[.pointer pW] 29))
      have HR18 := Lib.hid (on_inv (mo := (some md)) HR17.out ((Bt.refl (some md) w17).alloc (.cells #[.pointer pW] 29)) (fun W hz => (HVar.new w17 pW rfl).bt hz HM18.out))
      clear HR17 HM17 
      generalize w17.alloc (.cells #[.pointer pW] 29) = w18 at *
      obtain ⟨bW, hbW⟩ : ∃ b, b = w17.heap.size := ⟨_, rfl⟩
      rw [← hbW] at HR18 ⊢
      have B_bW := Lib.hid (show w.heap.size ≤ bW by rw [hbW]; exact hs_bW)
      clear hbW hs_bW 
      have v1 : IntKind.i64.wrap ((n : Int) + (m : Int)) = (s : Int) := by rw [IntKind.wrap_i64]; have := HSZ.out; omega
      have v2 : IntKind.i64.wrap (2 * (s : Int)) = 2 * (s : Int) := by rw [IntKind.wrap_i64]; have := HSZ.out; omega
      have v3 : (P : Int) + (P : Int) ≤ 2 * (s : Int) := by have := HP.out; omega
      have v4 : decide ((P : Int) + (P : Int) ≤ 2 * (s : Int)) = true := by simpa using v3
      have s18_0 := (HR18.out _ (Bt.refl _ _)).1.c0
      go_region_held3 (fun w' => w'.cell? ⟨bW, 0, none⟩ = some (.pointer pW)) (go_keep)
        (first | (go_at_call 30; ((with_reducible refine (size_any ((meld (ofL xs) (ofL ys)).insert (x1, x2)).pop pW _ (HR20.out _ (Bt.refl _ _)).2.1).mono ?_); rintro e w21 ⟨rfl, hb⟩); rw [HSWH.out]; have HM21 := Lib.hid (HM20.out.stay hb); have HR21 := Lib.hid (fun W (hz : Bt (some md) w21 W) => HR20.out W ((Bt.ofBelow hb).trans hz)); have s21_0 := (HR21.out _ (Bt.refl _ _)).1.c0; clear hb) | (go_at_call 30; ((with_reducible refine (size_any ((meld (ofL xs) (ofL ys)).insert (x1, x2)).pop pW _ (HR18.out _ ((Bt.refl _ _).drew)).2.1).mono ?_); rintro e w19 ⟨rfl, hb⟩); rw [HSWH.out]; have HM19 := Lib.hid (HM18.out.drew.stay hb); have HR19 := Lib.hid (fun W (hz : Bt (some md) w19 W) => HR18.out W ((((Bt.refl (some md) w18).drew).trans (Bt.ofBelow hb)).trans hz)); have s19_0 := (HR19.out _ (Bt.refl _ _)).1.c0; clear hb) | (go_at_call 25; ((with_reducible refine (mSteps md (P : Int) (P : Int) _ HM19.out (by have := HP.out; have := HSZ.out; omega) (by have := HP.out; have := HSZ.out; omega) (by have := HP.out; have := HSZ.out; omega) (by have := HP.out; have := HSZ.out; omega)).mono ?_); rintro e w20 ⟨rfl, hb⟩); have HM20 := Lib.hid (HM19.out.stay hb); have HR20 := Lib.hid (fun W (hz : Bt (some md) w20 W) => HR19.out W ((Bt.ofBelow hb).trans hz)); have s20_0 := (HR20.out _ (Bt.refl _ _)).1.c0; clear hb))
      clear s18_0 s19_0 s20_0 s21_0 HR18 HM18 HR19 HM19 HR20 HM20
      go_wp2_with fail
      go_ret
      exact ⟨rfl, (HR21.out _ (Bt.refl _ _)).2.2.2.2.2.2.2.2.2.2.2.below⟩
    · have zn1 : ((n : Int) == 0) = false := by simp; omega
      have zn2 : (n == 0) = false := by simp; omega
      have zn3 : decide ((n : Int) = 0) = false := by simp; omega
      have zm1 : ((m : Int) == 0) = false := by simp; omega
      have zm2 : (m == 0) = false := by simp; omega
      have zm3 : decide ((m : Int) = 0) = false := by simp; omega
      have hMM : meldN (ofL xs) (ofL ys) = 1 := meldN_one (by rw [HX.out.1]; omega) (by rw [HX.out.2.1]; omega)
      have HZ := Lib.hid (And.intro hca hcb)
      clear hca hcb
      have HM8b := Lib.hid (show MAt w8 (some mb) 1 1 from by have h9 := HM8.out; rw [hMM] at h9; exact h9)
      clear HM8 hMM
      have HM8 := HM8b
      clear HM8b
      go_wp2_with fail
      have hs_bZ := (HR8.out _ (Bt.refl _ _)).2.2.2.2.2.2.below.size
      have hl_bx := (HR8.out _ (Bt.refl _ _)).2.2.2.2.2.1.lt
      have HM9 := Lib.hid (HM8.out.alloc (.cells #[.pointer pZ] 29))
      have HR9 := Lib.hid (on_inv (mo := (some mb)) HR8.out ((Bt.refl (some mb) w8).alloc (.cells #[.pointer pZ] 29)) (fun W hz => (HVar.new w8 pZ rfl).bt hz HM9.out))
      clear HR8 HM8 
      generalize w8.alloc (.cells #[.pointer pZ] 29) = w9 at *
      obtain ⟨bZ, hbZ⟩ : ∃ b, b = w8.heap.size := ⟨_, rfl⟩
      rw [← hbZ] at HR9 ⊢
      have B_bZ := Lib.hid (show w.heap.size ≤ bZ by rw [hbZ]; exact hs_bZ)
      have N_bx_bZ := Lib.hid (show bx ≠ bZ by omega)
      clear hbZ hs_bZ hl_bx
      ((with_reducible refine (mSteps mb 1 1 _ HM9.out (by decide) (by decide) (by decide) (by decide)).mono ?_); rintro e w10 ⟨rfl, hb⟩)
      have HM10 := Lib.hid (HM9.out.stay hb)
      have HR10 := Lib.hid (fun W (hz : Bt (some mb) w10 W) => HR9.out W ((Bt.ofBelow hb).trans hz))
      clear HR9 HM9 
      clear hb
      go_wp2_with fail
      clear zn1 zn2 zn3 zm1 zm2 zm3
      ((with_reducible refine (mNew _).mono ?_); rintro e w11 ⟨rfl, hm, hb⟩)
      obtain ⟨mc, hmb⟩ : ∃ b, b = w10.heap.size := ⟨_, rfl⟩
      rw [← hmb] at hm ⊢
      have B_mc := Lib.hid (show w.heap.size ≤ mc by rw [hmb]; exact (HR10.out _ (Bt.refl _ _)).2.2.2.2.2.2.2.below.size)
      clear hmb
      have HM11 := Lib.hid hm
      have HR11 := Lib.hid (fun W (hz : Bt (some mc) w11 W) => And.intro (((HR10.out _ (Bt.ofBelow hb)).1).bt hz HM11.out) ( And.intro (((HR10.out _ (Bt.ofBelow hb)).2.1).bt hz HM11.out) ( And.intro (((HR10.out _ (Bt.ofBelow hb)).2.2.1).bt hz HM11.out) ( And.intro (((HR10.out _ (Bt.ofBelow hb)).2.2.2.1).bt hz HM11.out) ( And.intro (((HR10.out _ (Bt.ofBelow hb)).2.2.2.2.1).bt hz HM11.out) ( And.intro (((HR10.out _ (Bt.ofBelow hb)).2.2.2.2.2.1).bt hz HM11.out) ( And.intro (((HR10.out _ (Bt.ofBelow hb)).2.2.2.2.2.2.1).bt hz HM11.out) (((HR10.out _ (Bt.ofBelow hb)).2.2.2.2.2.2.2).bt HE.out hz (fun b e => by cases e; exact B_mc.out)))))))))
      clear HR10 HM10 hm hb 
      have c15 : w11.cell? ⟨bZ, 0, none⟩ = some (.pointer pZ) := (HR11.out _ (Bt.refl _ _)).1.c0
      have c16 : w11.cell? ⟨bx, 0, none⟩ = some (.int .i64 x1) := (HR11.out _ (Bt.refl _ _)).2.2.2.2.2.2.1.c0
      have c17 : w11.cell? ⟨bx, 1, none⟩ = some (.int .i64 x2) := (HR11.out _ (Bt.refl _ _)).2.2.2.2.2.2.1.c1
      go_wp2_with fail
      ((with_reducible refine (insert_any (some mc) 0 0 (meld (ofL xs) (ofL ys)) (x1, x2) pZ _ (by have := HX.out; have := HS.out; omega) HM11.out (by decide) (by decide) (by decide) (by decide) (HR11.out _ (Bt.refl _ _)).2.1).mono ?_); rintro e w12 ⟨pY2, rfl, ht, hm, hb⟩)
      have HM12 := Lib.hid (show MAt w12 (some mc) 1 2 from by rw [meldN_one (by rw [one_size]; decide) (by rw [HX.out.2.2]; have := HZ.out; omega)] at hm; exact hm)
      have HR12 := Lib.hid (on_inv (mo := (some mc)) HR11.out hb (fun W hz => ht.bt hz HM12.out))
      clear HR11 HM11 c15 c16 c17
      clear ht hb hm
      go_wp2_with fail
      have hs_bY2 := (HR12.out _ (Bt.refl _ _)).2.2.2.2.2.2.2.2.below.size
      have hl_bx := (HR12.out _ (Bt.refl _ _)).2.2.2.2.2.2.2.1.lt
      have HM13 := Lib.hid (HM12.out.alloc (.cells #[.pointer pY2] 29))
      have HR13 := Lib.hid (on_inv (mo := (some mc)) HR12.out ((Bt.refl (some mc) w12).alloc (.cells #[.pointer pY2] 29)) (fun W hz => (HVar.new w12 pY2 rfl).bt hz HM13.out))
      clear HR12 HM12 
      generalize w12.alloc (.cells #[.pointer pY2] 29) = w13 at *
      obtain ⟨bY2, hbY2⟩ : ∃ b, b = w12.heap.size := ⟨_, rfl⟩
      rw [← hbY2] at HR13 ⊢
      have B_bY2 := Lib.hid (show w.heap.size ≤ bY2 by rw [hbY2]; exact hs_bY2)
      have N_bx_bY2 := Lib.hid (show bx ≠ bY2 by omega)
      clear hbY2 hs_bY2 hl_bx
      obtain ⟨s, hs⟩ : ∃ s, s = (meld (ofL xs) (ofL ys)).size := ⟨_, rfl⟩
      have HSZ := Lib.hid (show s = (meld (ofL xs) (ofL ys)).size ∧ s = n + m ∧ s ≤ 200 from ⟨hs, by have := HX.out; omega, by have := HX.out; have := HS.out; omega⟩)
      have u1 : min (s : Int) 1 = 1 := by have := HSZ.out; have := HZ.out; omega
      have u2 : ¬ (s : Int) < 1 := by have := HSZ.out; have := HZ.out; omega
      have u4 : ¬ (s : Int) ≤ 0 := by have := HSZ.out; have := HZ.out; omega
      have HSQ := Lib.hid hs.symm
      clear hs
      have s13_0 := (HR13.out _ (Bt.refl _ _)).2.2.1.c0
      go_region_held3 (fun w' => w'.cell? ⟨bZ, 0, none⟩ = some (.pointer pZ)) (go_keep)
        (first | (go_at_call 30; ((with_reducible refine (size_any (meld (ofL xs) (ofL ys)) pZ _ (HR14.out _ (Bt.refl _ _)).2.2.2.1).mono ?_); rintro e w15 ⟨rfl, hb⟩); rw [HSQ.out]; have HM15 := Lib.hid (HM14.out.stay hb); have HR15 := Lib.hid (fun W (hz : Bt (some mc) w15 W) => HR14.out W ((Bt.ofBelow hb).trans hz)); have s15_0 := (HR15.out _ (Bt.refl _ _)).2.2.1.c0; clear hb) | (go_at_call 25; ((with_reducible refine (mSteps mc 1 2 _ HM13.out.drew (by decide) (by decide) (by decide) (by decide)).mono ?_); rintro e w14 ⟨rfl, hb⟩); have HM14 := Lib.hid (HM13.out.drew.stay hb); have HR14 := Lib.hid (fun W (hz : Bt (some mc) w14 W) => HR13.out W ((((Bt.refl (some mc) w13).drew).trans (Bt.ofBelow hb)).trans hz)); have s14_0 := (HR14.out _ (Bt.refl _ _)).2.2.1.c0; clear hb))
      clear s13_0 s14_0 s15_0 HR13 HM13 HR14 HM14
      go_wp2_with fail
      clear u1 u2 u4
      ((with_reducible refine (mNew _).mono ?_); rintro e w16 ⟨rfl, hm, hb⟩)
      obtain ⟨md, hmb⟩ : ∃ b, b = w15.heap.size := ⟨_, rfl⟩
      rw [← hmb] at hm ⊢
      have B_md := Lib.hid (show w.heap.size ≤ md by rw [hmb]; exact (HR15.out _ (Bt.refl _ _)).2.2.2.2.2.2.2.2.2.below.size)
      clear hmb
      have HM16 := Lib.hid hm
      have HR16 := Lib.hid (fun W (hz : Bt (some md) w16 W) => And.intro (((HR15.out _ (Bt.ofBelow hb)).1).bt hz HM16.out) ( And.intro (((HR15.out _ (Bt.ofBelow hb)).2.1).bt hz HM16.out) ( And.intro (((HR15.out _ (Bt.ofBelow hb)).2.2.1).bt hz HM16.out) ( And.intro (((HR15.out _ (Bt.ofBelow hb)).2.2.2.1).bt hz HM16.out) ( And.intro (((HR15.out _ (Bt.ofBelow hb)).2.2.2.2.1).bt hz HM16.out) ( And.intro (((HR15.out _ (Bt.ofBelow hb)).2.2.2.2.2.1).bt hz HM16.out) ( And.intro (((HR15.out _ (Bt.ofBelow hb)).2.2.2.2.2.2.1).bt hz HM16.out) ( And.intro (((HR15.out _ (Bt.ofBelow hb)).2.2.2.2.2.2.2.1).bt hz HM16.out) ( And.intro (((HR15.out _ (Bt.ofBelow hb)).2.2.2.2.2.2.2.2.1).bt hz HM16.out) (((HR15.out _ (Bt.ofBelow hb)).2.2.2.2.2.2.2.2.2).bt HE.out hz (fun b e => by cases e; exact B_md.out)))))))))))
      clear HR15 HM15 hm hb 
      have c18 : w16.cell? ⟨bY2, 0, none⟩ = some (.pointer pY2) := (HR16.out _ (Bt.refl _ _)).1.c0
      go_wp2_with fail
      obtain ⟨P, hP⟩ : ∃ P, P = ((meld (ofL xs) (ofL ys)).insert (x1, x2)).popN := ⟨_, rfl⟩
      ((with_reducible refine (pop_any (some md) 0 0 ((meld (ofL xs) (ofL ys)).insert (x1, x2)) pY2 _ (by rw [insert_size]; have := HX.out; have := HS.out; omega) HM16.out (by decide) (by decide) (by decide) (by decide) (HR16.out _ (Bt.refl _ _)).2.1).mono ?_); rintro e w17 ⟨pW, rfl, ht, hm, hb⟩)
      have HM17 := Lib.hid (show MAt w17 (some md) (P : Int) (P : Int) from by rw [hP]; simpa using hm)
      have HR17 := Lib.hid (on_inv (mo := (some md)) HR16.out hb (fun W hz => ht.bt hz HM17.out))
      clear HR16 HM16 c18
      rw [insert_some]
      have HP := Lib.hid (show P ≤ s from by have h9 := popN_le ((meld (ofL xs) (ofL ys)).insert (x1, x2)); rw [pop_size, insert_size, ← hP] at h9; have := HSZ.out; omega)
      have HSW : (((meld (ofL xs) (ofL ys)).insert (x1, x2)).pop.size) = s := by rw [pop_size, insert_size]; have := HSZ.out; omega
      have HSWH := Lib.hid HSW
      clear ht hb hm hP HSW
      go_wp2_with fail
      have hs_bW := (HR17.out _ (Bt.refl _ _)).2.2.2.2.2.2.2.2.2.2.below.size
      have HM18 := Lib.hid (HM17.out.alloc (.cells #[.pointer pW] 29))
      have HR18 := Lib.hid (on_inv (mo := (some md)) HR17.out ((Bt.refl (some md) w17).alloc (.cells #[.pointer pW] 29)) (fun W hz => (HVar.new w17 pW rfl).bt hz HM18.out))
      clear HR17 HM17 
      generalize w17.alloc (.cells #[.pointer pW] 29) = w18 at *
      obtain ⟨bW, hbW⟩ : ∃ b, b = w17.heap.size := ⟨_, rfl⟩
      rw [← hbW] at HR18 ⊢
      have B_bW := Lib.hid (show w.heap.size ≤ bW by rw [hbW]; exact hs_bW)
      clear hbW hs_bW 
      have v1 : IntKind.i64.wrap ((n : Int) + (m : Int)) = (s : Int) := by rw [IntKind.wrap_i64]; have := HSZ.out; omega
      have v2 : IntKind.i64.wrap (2 * (s : Int)) = 2 * (s : Int) := by rw [IntKind.wrap_i64]; have := HSZ.out; omega
      have v3 : (P : Int) + (P : Int) ≤ 2 * (s : Int) := by have := HP.out; omega
      have v4 : decide ((P : Int) + (P : Int) ≤ 2 * (s : Int)) = true := by simpa using v3
      have s18_0 := (HR18.out _ (Bt.refl _ _)).1.c0
      go_region_held3 (fun w' => w'.cell? ⟨bW, 0, none⟩ = some (.pointer pW)) (go_keep)
        (first | (go_at_call 30; ((with_reducible refine (size_any ((meld (ofL xs) (ofL ys)).insert (x1, x2)).pop pW _ (HR20.out _ (Bt.refl _ _)).2.1).mono ?_); rintro e w21 ⟨rfl, hb⟩); rw [HSWH.out]; have HM21 := Lib.hid (HM20.out.stay hb); have HR21 := Lib.hid (fun W (hz : Bt (some md) w21 W) => HR20.out W ((Bt.ofBelow hb).trans hz)); have s21_0 := (HR21.out _ (Bt.refl _ _)).1.c0; clear hb) | (go_at_call 30; ((with_reducible refine (size_any ((meld (ofL xs) (ofL ys)).insert (x1, x2)).pop pW _ (HR18.out _ ((Bt.refl _ _).drew)).2.1).mono ?_); rintro e w19 ⟨rfl, hb⟩); rw [HSWH.out]; have HM19 := Lib.hid (HM18.out.drew.stay hb); have HR19 := Lib.hid (fun W (hz : Bt (some md) w19 W) => HR18.out W ((((Bt.refl (some md) w18).drew).trans (Bt.ofBelow hb)).trans hz)); have s19_0 := (HR19.out _ (Bt.refl _ _)).1.c0; clear hb) | (go_at_call 25; ((with_reducible refine (mSteps md (P : Int) (P : Int) _ HM19.out (by have := HP.out; have := HSZ.out; omega) (by have := HP.out; have := HSZ.out; omega) (by have := HP.out; have := HSZ.out; omega) (by have := HP.out; have := HSZ.out; omega)).mono ?_); rintro e w20 ⟨rfl, hb⟩); have HM20 := Lib.hid (HM19.out.stay hb); have HR20 := Lib.hid (fun W (hz : Bt (some md) w20 W) => HR19.out W ((Bt.ofBelow hb).trans hz)); have s20_0 := (HR20.out _ (Bt.refl _ _)).1.c0; clear hb))
      clear s18_0 s19_0 s20_0 s21_0 HR18 HM18 HR19 HM19 HR20 HM20
      go_wp2_with fail
      go_ret
      exact ⟨rfl, (HR21.out _ (Bt.refl _ _)).2.2.2.2.2.2.2.2.2.2.2.below⟩

end Go.Proofs.YtpclafbolppgcaaDoor
