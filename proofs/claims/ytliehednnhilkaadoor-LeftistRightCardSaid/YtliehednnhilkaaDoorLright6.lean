/-
  The walk of the statement LeftistRight: for any two rows it returns true, and nothing that was there has changed, in any world where the library's table is as it is laid.
-/
import Derived.Test.YtliehednnhilkaaDoorLwake6
import Derived.Test.YtliehednnhilkaaDoorLbits
import Derived.Deep.LoopGhost
namespace Go.Proofs.YtliehednnhilkaaDoor
open Go.Sort Go.RowKit

set_option maxRecDepth 100000 in
set_option maxHeartbeats 4000000 in
theorem right_any (A : Option Addr) (xs : List (Int × Int)) (c : Nat) (B : Option Addr) (ys : List (Int × Int)) (d : Nat) (w : World) (he : Env w) (hr1 : Row w A xs) (hr2 : Row w B ys) :
    Calls Tryd.prog 6 #[.slice A xs.length c, .slice B ys.length d] w fun e w' => e = .returned (.bool true) ∧ Below w.heap.size w w' := by
  obtain ⟨n, hn⟩ : ∃ n, n = xs.length := ⟨_, rfl⟩
  obtain ⟨m, hm⟩ : ∃ m, m = ys.length := ⟨_, rfl⟩
  rw [← hn, ← hm]
  have HN := Lib.hid (And.intro hn hm)
  have HRW := Lib.hid (And.intro hr1 hr2)
  clear hn hm hr1 hr2
  have HE := Lib.hid he
  have HM0 := Lib.hid (show MAt w (none : Option Nat) 0 0 from trivial)
  have HR0 := Lib.hid (fun W (hb : Bt none w W) => Bas.bt (Bas.first he) he hb (fun _ e => by cases e))
  clear he
  go_enter Tryd.func6, Tryd.ntmps6
  go_wp2_with fail
  ((with_reducible refine (awake_any _ HE.out).mono ?_); rintro e w1 ⟨rfl, hb⟩)
  have HM1 := Lib.hid (show MAt w1 (none : Option Nat) 0 0 from trivial)
  have HR1 := Lib.hid (fun W (hz : Bt none w1 W) => HR0.out W ((Bt.ofBelow hb).trans hz))
  clear HR0 HM0 
  clear hb
  by_cases hb0 : 100 < n
  · have qa : decide ((100 : Int) < (n : Int)) = true := by simp; omega
    have qb : (100 : Int) < (n : Int) := by omega
    go_wp2_with fail
    go_ret
    exact ⟨rfl, (HR1.out _ (Bt.refl _ _)).below⟩
  have qa0 : decide ((100 : Int) < (n : Int)) = false := by simp; omega
  have qb0 : ¬ (100 : Int) < (n : Int) := by omega
  by_cases hb1 : 100 < m
  · have qa : decide ((100 : Int) < (m : Int)) = true := by simp; omega
    have qb : (100 : Int) < (m : Int) := by omega
    go_wp2_with fail
    go_ret
    exact ⟨rfl, (HR1.out _ (Bt.refl _ _)).below⟩
  have qa1 : decide ((100 : Int) < (m : Int)) = false := by simp; omega
  have qb1 : ¬ (100 : Int) < (m : Int) := by omega
  go_wp2_with fail
  clear qa0 qb0 qa1 qb1
  have HS := Lib.hid (And.intro (Nat.le_of_not_lt hb0) (And.intro (Nat.le_of_not_lt hb1) (trivial)))
  clear hb0 hb1
  have hX : (ofL xs).size = n := by rw [ofL_size, HN.out.1]
  have hY : (ofL ys).size = m := by rw [ofL_size, HN.out.2]
  have hZ : (meld (ofL xs) (ofL ys)).size = n + m := by rw [meld_size, hX, hY]
  have hM : meldN (ofL xs) (ofL ys) ≤ n + m := by have := meldN_size (ofL xs) (ofL ys); omega
  have hP : (meld (ofL xs) (ofL ys)).popN ≤ n + m := by have := popN_size (meld (ofL xs) (ofL ys)); omega
  have HX := Lib.hid (And.intro hX (And.intro hY (And.intro hZ (And.intro hM hP))))
  clear hX hY hZ hM hP
  ((with_reducible refine (ofRow A xs n c w _ HRW.out.1 HN.out.1 (by have := HS.out; omega) (HR1.out _ (Bt.refl _ _)).below).mono ?_); rintro e w2 ⟨pX, rfl, ht, hb⟩)
  have HM2 := Lib.hid (show MAt w2 (none : Option Nat) 0 0 from trivial)
  have HR2 := Lib.hid (on_inv (mo := none) HR1.out (Bt.ofBelow hb) (fun W hz => ht.bt hz HM2.out))
  clear HR1 HM1 
  clear ht hb
  go_wp2_with fail
  have hs_bX := (HR2.out _ (Bt.refl _ _)).2.below.size
  have HM3 := Lib.hid (show MAt (w2.alloc (.cells #[.pointer pX] 29)) (none : Option Nat) 0 0 from trivial)
  have HR3 := Lib.hid (on_inv (mo := none) HR2.out ((Bt.refl none w2).alloc (.cells #[.pointer pX] 29)) (fun W hz => (HVar.new w2 pX rfl).bt hz HM3.out))
  clear HR2 HM2 
  generalize w2.alloc (.cells #[.pointer pX] 29) = w3 at *
  obtain ⟨bX, hbX⟩ : ∃ b, b = w2.heap.size := ⟨_, rfl⟩
  rw [← hbX] at HR3 ⊢
  have B_bX := Lib.hid (show w.heap.size ≤ bX by rw [hbX]; exact hs_bX)
  clear hbX hs_bX 
  ((with_reducible refine (ofRow B ys m d w _ HRW.out.2 HN.out.2 (by have := HS.out; omega) (HR3.out _ (Bt.refl _ _)).2.2.below).mono ?_); rintro e w4 ⟨pY, rfl, ht, hb⟩)
  have HM4 := Lib.hid (show MAt w4 (none : Option Nat) 0 0 from trivial)
  have HR4 := Lib.hid (on_inv (mo := none) HR3.out (Bt.ofBelow hb) (fun W hz => ht.bt hz HM4.out))
  clear HR3 HM3 
  clear ht hb
  go_wp2_with fail
  have hs_bY := (HR4.out _ (Bt.refl _ _)).2.2.2.below.size
  have HM5 := Lib.hid (show MAt (w4.alloc (.cells #[.pointer pY] 29)) (none : Option Nat) 0 0 from trivial)
  have HR5 := Lib.hid (on_inv (mo := none) HR4.out ((Bt.refl none w4).alloc (.cells #[.pointer pY] 29)) (fun W hz => (HVar.new w4 pY rfl).bt hz HM5.out))
  clear HR4 HM4 
  generalize w4.alloc (.cells #[.pointer pY] 29) = w5 at *
  obtain ⟨bY, hbY⟩ : ∃ b, b = w4.heap.size := ⟨_, rfl⟩
  rw [← hbY] at HR5 ⊢
  have B_bY := Lib.hid (show w.heap.size ≤ bY by rw [hbY]; exact hs_bY)
  clear hbY hs_bY 
  ((with_reducible refine (mNew _).mono ?_); rintro e w6 ⟨rfl, hm, hb⟩)
  obtain ⟨mb, hmb⟩ : ∃ b, b = w5.heap.size := ⟨_, rfl⟩
  rw [← hmb] at hm ⊢
  have B_mb := Lib.hid (show w.heap.size ≤ mb by rw [hmb]; exact (HR5.out _ (Bt.refl _ _)).2.2.2.2.below.size)
  clear hmb
  have HM6 := Lib.hid hm
  have HR6 := Lib.hid (fun W (hz : Bt (some mb) w6 W) => And.intro (((HR5.out _ (Bt.ofBelow hb)).1).bt hz HM6.out) ( And.intro (((HR5.out _ (Bt.ofBelow hb)).2.1).bt hz HM6.out) ( And.intro (((HR5.out _ (Bt.ofBelow hb)).2.2.1).bt hz HM6.out) ( And.intro (((HR5.out _ (Bt.ofBelow hb)).2.2.2.1).bt hz HM6.out) (((HR5.out _ (Bt.ofBelow hb)).2.2.2.2).bt HE.out hz (fun b e => by cases e; exact B_mb.out))))))
  clear HR5 HM5 hm hb 
  have c1 : w6.cell? ⟨bX, 0, none⟩ = some (.pointer pX) := (HR6.out _ (Bt.refl _ _)).2.2.1.c0
  have c2 : w6.cell? ⟨bY, 0, none⟩ = some (.pointer pY) := (HR6.out _ (Bt.refl _ _)).1.c0
  go_wp2_with fail
  obtain ⟨M, hMM⟩ : ∃ M, M = meldN (ofL xs) (ofL ys) := ⟨_, rfl⟩
  ((with_reducible refine (meld_any (some mb) (ofL xs) (ofL ys) 0 0 pX pY _ (by have := HX.out; have := HS.out; omega) HM6.out (by decide) (by decide) (by decide) (by decide) (HR6.out _ (Bt.refl _ _)).2.2.2.1 (HR6.out _ (Bt.refl _ _)).2.1).mono ?_); rintro e w7 ⟨pZ, rfl, ht, hm, hb⟩)
  have HM7 := Lib.hid (show MAt w7 (some mb) (M : Int) (M : Int) from by rw [hMM]; simpa using hm)
  have HR7 := Lib.hid (on_inv (mo := (some mb)) HR6.out hb (fun W hz => ht.bt hz HM7.out))
  clear HR6 HM6 c1 c2
  have HMM := Lib.hid (show M = meldN (ofL xs) (ofL ys) ∧ M ≤ 200 from ⟨hMM, by have := HX.out; have := HS.out; omega⟩)
  clear ht hb hm hMM
  go_wp2_with fail
  have hs_bZ := (HR7.out _ (Bt.refl _ _)).2.2.2.2.2.below.size
  have HM8 := Lib.hid (HM7.out.alloc (.cells #[.pointer pZ] 29))
  have HR8 := Lib.hid (on_inv (mo := (some mb)) HR7.out ((Bt.refl (some mb) w7).alloc (.cells #[.pointer pZ] 29)) (fun W hz => (HVar.new w7 pZ rfl).bt hz HM8.out))
  clear HR7 HM7 
  generalize w7.alloc (.cells #[.pointer pZ] 29) = w8 at *
  obtain ⟨bZ, hbZ⟩ : ∃ b, b = w7.heap.size := ⟨_, rfl⟩
  rw [← hbZ] at HR8 ⊢
  have B_bZ := Lib.hid (show w.heap.size ≤ bZ by rw [hbZ]; exact hs_bZ)
  clear hbZ hs_bZ 
  obtain ⟨N1, hN1⟩ : ∃ N, N = n + 1 := ⟨_, rfl⟩
  have e1 : wrap64 ((n : Int) + 1) = (N1 : Int) := by unfold wrap64; have := HS.out; omega
  have SM1 := Lib.hid (show N1 = n + 1 ∧ N1 ≤ 101 from ⟨hN1, by have := HS.out; omega⟩)
  have hN1p : 1 ≤ N1 := by omega
  have E01 := Lib.hid e1
  clear hN1
  go_wp2_with fail
  clear e1
  go_loopg [10, 11] N1 (fun k q v wr => ∃ (a b : Nat), q = .int .i64 ((0 + a : Nat) : Int) ∧ v = .int .i64 (b : Int) ∧ k = b ∧ 1 ≤ b ∧ a + b ≤ N1 ∧ N1 < (b + 1) * 2 ^ a ∧ w8 = wr)
  case atStart => exact ⟨0, N1, rfl, by rw [E01.out], rfl, by omega, by omega, by omega, rfl⟩
  case round =>
    obtain ⟨a, b, rfl, rfl, hk, hb1, hab, hlt, rfl⟩ := hrel
    by_cases h1 : 1 < b
    · have r1 : decide ((1 : Int) < (b : Int)) = true := by simp; omega
      have r2 : (1 : Int) < (b : Int) := by omega
      have r5 : (0 : Int) ≤ (b : Int) := by omega
      have r6 : (b : Int) ≤ 10000 := by have := SM1.out; omega
      obtain ⟨h, hh⟩ : ∃ h, h = b / 2 := ⟨_, rfl⟩
      have r3 : (b : Int).tdiv 2 = (h : Int) := by rw [Int.tdiv_eq_ediv_of_nonneg (by omega)]; omega
      have r4 : (b : Int) / 2 = (h : Int) := by omega
      have HHH := Lib.hid hh
      clear hh
      have Q := Lib.hid (And.intro hk (And.intro hb1 (And.intro hab hlt)))
      have hsm : 0 + a < 100000 := by have := HS.out; have := SM1.out; omega
      clear hk hb1 hab hlt
      go_wp2_with fail
      go_roundg h
      case measure => have := Q.out.1; have := HHH.out; omega
      case rel => exact ⟨a + 1, h, by first | rfl | (congr 1; (first | (unfold wrap64; omega) | (rw [IntKind.wrap_i64]; omega) | omega)), by first | rfl | (congr 1; (first | (unfold wrap64; omega) | (rw [IntKind.wrap_i64]; omega) | omega)), rfl, by have := Q.out; have := HHH.out; omega, by have := Q.out; have := HHH.out; omega, HHH.out ▸ half_step Q.out.2.2.2, rfl⟩
    have r1 : decide ((1 : Int) < (b : Int)) = false := by simp; omega
    have r2 : ¬ (1 : Int) < (b : Int) := by omega
    have E1 := Lib.hid (show N1 < 2 ^ (a + 1) from half_end hlt (by omega))
    obtain ⟨q1, hq1⟩ : ∃ q, q = 0 + a := ⟨_, rfl⟩
    rw [← hq1]
    have S1 := Lib.hid (And.intro hq1 (show a ≤ N1 by omega))
    have HA1 : ∃ x, x = a := ⟨_, rfl⟩
    obtain ⟨a1, ha1⟩ := HA1
    subst ha1
    clear hk hb1 hab hlt h1 hq1
    go_wp2_with fail
    clear r1 r2
    have SB1 := Lib.hid (show q1 ≤ 101 by have := S1.out; have := SM1.out; omega)
    obtain ⟨N2, hN2⟩ : ∃ N, N = m + 1 := ⟨_, rfl⟩
    have e2 : wrap64 ((m : Int) + 1) = (N2 : Int) := by unfold wrap64; have := HS.out; omega
    have SM2 := Lib.hid (show N2 = m + 1 ∧ N2 ≤ 101 ∧ q1 ≤ 101 from ⟨hN2, by have := HS.out; omega, SB1.out⟩)
    have hN2p : 1 ≤ N2 := by omega
    have E02 := Lib.hid e2
    clear hN2 e2
    go_loopg [10, 12] N2 (fun k q v wr => ∃ (a b : Nat), q = .int .i64 ((q1 + a : Nat) : Int) ∧ v = .int .i64 (b : Int) ∧ k = b ∧ 1 ≤ b ∧ a + b ≤ N2 ∧ N2 < (b + 1) * 2 ^ a ∧ w8 = wr)
    case atStart => exact ⟨0, N2, rfl, by rw [E02.out], rfl, by omega, by omega, by omega, rfl⟩
    case round =>
      obtain ⟨a, b, rfl, rfl, hk, hb1, hab, hlt, rfl⟩ := hrel
      by_cases h1 : 1 < b
      · have r1 : decide ((1 : Int) < (b : Int)) = true := by simp; omega
        have r2 : (1 : Int) < (b : Int) := by omega
        have r5 : (0 : Int) ≤ (b : Int) := by omega
        have r6 : (b : Int) ≤ 10000 := by have := SM2.out; omega
        obtain ⟨h, hh⟩ : ∃ h, h = b / 2 := ⟨_, rfl⟩
        have r3 : (b : Int).tdiv 2 = (h : Int) := by rw [Int.tdiv_eq_ediv_of_nonneg (by omega)]; omega
        have r4 : (b : Int) / 2 = (h : Int) := by omega
        have HHH := Lib.hid hh
        clear hh
        have Q := Lib.hid (And.intro hk (And.intro hb1 (And.intro hab hlt)))
        have hsm : q1 + a < 100000 := by have := HS.out; have := SM2.out; omega
        clear hk hb1 hab hlt
        go_wp2_with fail
        go_roundg h
        case measure => have := Q.out.1; have := HHH.out; omega
        case rel => exact ⟨a + 1, h, by first | rfl | (congr 1; (first | (unfold wrap64; omega) | (rw [IntKind.wrap_i64]; omega) | omega)), by first | rfl | (congr 1; (first | (unfold wrap64; omega) | (rw [IntKind.wrap_i64]; omega) | omega)), rfl, by have := Q.out; have := HHH.out; omega, by have := Q.out; have := HHH.out; omega, HHH.out ▸ half_step Q.out.2.2.2, rfl⟩
      have r1 : decide ((1 : Int) < (b : Int)) = false := by simp; omega
      have r2 : ¬ (1 : Int) < (b : Int) := by omega
      have E2 := Lib.hid (show N2 < 2 ^ (a + 1) from half_end hlt (by omega))
      obtain ⟨q2, hq2⟩ : ∃ q, q = q1 + a := ⟨_, rfl⟩
      rw [← hq2]
      have S2 := Lib.hid (And.intro hq2 (show a ≤ N2 by omega))
      have HA2 : ∃ x, x = a := ⟨_, rfl⟩
      obtain ⟨a2, ha2⟩ := HA2
      subst ha2
      clear hk hb1 hab hlt h1 hq2
      go_wp2_with fail
      clear r1 r2
      have hMq : M ≤ q2 := by
        have h1 := rank_bits (ofL_lft xs) (q := a1) (by rw [HX.out.1]; have := E1.out; have := SM1.out; omega)
        have h2 := rank_bits (ofL_lft ys) (q := a2) (by rw [HX.out.2.1]; have := E2.out; have := SM2.out; omega)
        have h3 := meldN_le (ofL xs) (ofL ys)
        have := HMM.out; have := S1.out; have := S2.out; omega
      have hq2 : q2 ≤ 300 := by have := S1.out; have := S2.out; have := SM1.out; have := SM2.out; omega
      have t1 : (0 : Int) ≤ (q2 : Int) := by omega
      have t2 : (q2 : Int) ≤ 300 := by omega
      have t3 : decide (2 * (q2 : Int) < (M : Int) + (M : Int)) = false := by simp; omega
      have t4 : ¬ 2 * (q2 : Int) < (M : Int) + (M : Int) := by omega
      have hM0 : (0 : Int) ≤ (M : Int) ∧ (M : Int) < 1000 := by have := HMM.out; omega
      have HM0b := Lib.hid hM0
      clear hMq hq2 hM0
      ((with_reducible refine (mSteps mb (M : Int) (M : Int) _ HM8.out (by have := HM0b.out; omega) (by have := HM0b.out; omega) (by have := HM0b.out; omega) (by have := HM0b.out; omega)).mono ?_); rintro e w9 ⟨rfl, hb⟩)
      have HM9 := Lib.hid (HM8.out.stay hb)
      have HR9 := Lib.hid (fun W (hz : Bt (some mb) w9 W) => HR8.out W ((Bt.ofBelow hb).trans hz))
      clear HR8 HM8 
      clear hb
      go_wp2_with fail
      clear t1 t2 t3 t4
      ((with_reducible refine (mSteps mb (M : Int) (M : Int) _ HM9.out (by have := HM0b.out; omega) (by have := HM0b.out; omega) (by have := HM0b.out; omega) (by have := HM0b.out; omega)).mono ?_); rintro e w10 ⟨rfl, hb⟩)
      have HM10 := Lib.hid (HM9.out.stay hb)
      have HR10 := Lib.hid (fun W (hz : Bt (some mb) w10 W) => HR9.out W ((Bt.ofBelow hb).trans hz))
      clear HR9 HM9 
      clear hb
      have c3 : w10.cell? ⟨bZ, 0, none⟩ = some (.pointer pZ) := (HR10.out _ (Bt.refl _ _)).1.c0
      go_wp2_with fail
      obtain ⟨P, hP⟩ : ∃ P, P = (meld (ofL xs) (ofL ys)).popN := ⟨_, rfl⟩
      obtain ⟨sb, hsb⟩ : ∃ sb, sb = (meld (ofL xs) (ofL ys)).some := ⟨_, rfl⟩
      ((with_reducible refine (pop_any (some mb) (M : Int) (M : Int) (meld (ofL xs) (ofL ys)) pZ _ (by have := HX.out; have := HS.out; omega) HM10.out (by have := HM0b.out; omega) (by have := HM0b.out; omega) (by have := HM0b.out; omega) (by have := HM0b.out; omega) (HR10.out _ (Bt.refl _ _)).2.1).mono ?_); rintro e w11 ⟨pG, rfl, ht, hm, hb⟩)
      have HM11 := Lib.hid (show MAt w11 (some mb) ((M : Int) + P) ((M : Int) + P) from by rw [hP]; exact hm)
      have HR11 := Lib.hid (on_inv (mo := (some mb)) HR10.out hb (fun W hz => ht.bt hz HM11.out))
      clear HR10 HM10 c3
      rw [← hsb]
      have HP := Lib.hid (show P = (meld (ofL xs) (ofL ys)).popN ∧ P ≤ 200 from ⟨hP, by have := HX.out; have := HS.out; omega⟩)
      have HSB := Lib.hid hsb
      clear ht hb hm hP hsb
      have c4 : (w11.alloc (.cells #[.pointer pG] 29)).cell? ⟨bZ, 0, none⟩ = some (.pointer pZ) := (HR11.out _ ((Bt.refl _ _).alloc _)).2.1.c0
      go_wp2_with fail
      have hs_bG := (HR11.out _ (Bt.refl _ _)).2.2.2.2.2.2.2.below.size
      have HM12 := Lib.hid (HM11.out.alloc (.cells #[.pointer pG] 29))
      have HR12 := Lib.hid (on_inv (mo := (some mb)) HR11.out ((Bt.refl (some mb) w11).alloc (.cells #[.pointer pG] 29)) (fun W hz => (HVar.new w11 pG rfl).bt hz HM12.out))
      clear HR11 HM11 c4
      generalize w11.alloc (.cells #[.pointer pG] 29) = w12 at *
      obtain ⟨bG, hbG⟩ : ∃ b, b = w11.heap.size := ⟨_, rfl⟩
      rw [← hbG] at HR12 ⊢
      have B_bG := Lib.hid (show w.heap.size ≤ bG by rw [hbG]; exact hs_bG)
      clear hbG hs_bG 
      obtain ⟨s, hs⟩ : ∃ s, s = (meld (ofL xs) (ofL ys)).size := ⟨_, rfl⟩
      ((with_reducible refine (size_any (meld (ofL xs) (ofL ys)) pZ _ (HR12.out _ (Bt.refl _ _)).2.2.2.1).mono ?_); rintro e w13 ⟨rfl, hb⟩)
      have HM13 := Lib.hid (HM12.out.stay hb)
      have HR13 := Lib.hid (fun W (hz : Bt (some mb) w13 W) => HR12.out W ((Bt.ofBelow hb).trans hz))
      clear HR12 HM12 
      clear hb
      rw [← hs]
      have HSZ := Lib.hid (show s = (meld (ofL xs) (ofL ys)).size ∧ s ≤ 200 from ⟨hs, by have := HX.out; have := HS.out; omega⟩)
      clear hs
      obtain ⟨N3, hN3⟩ : ∃ N, N = s + 1 := ⟨_, rfl⟩
      have e3 : wrap64 ((s : Int) + 1) = (N3 : Int) := by unfold wrap64; have := HSZ.out; omega
      have SM3 := Lib.hid (show N3 = s + 1 ∧ N3 ≤ 201 from ⟨hN3, by have := HSZ.out; omega⟩)
      have hN3p : 1 ≤ N3 := by omega
      have E03 := Lib.hid e3
      clear hN3 e3
      go_wp2_with fail
      go_loopg [10, 16] N3 (fun k q v wr => ∃ (a b : Nat), q = .int .i64 ((0 + a : Nat) : Int) ∧ v = .int .i64 (b : Int) ∧ k = b ∧ 1 ≤ b ∧ a + b ≤ N3 ∧ N3 < (b + 1) * 2 ^ a ∧ w13 = wr)
      case atStart => exact ⟨0, N3, rfl, by rw [E03.out], rfl, by omega, by omega, by omega, rfl⟩
      case round =>
        obtain ⟨a, b, rfl, rfl, hk, hb1, hab, hlt, rfl⟩ := hrel
        by_cases h1 : 1 < b
        · have r1 : decide ((1 : Int) < (b : Int)) = true := by simp; omega
          have r2 : (1 : Int) < (b : Int) := by omega
          have r5 : (0 : Int) ≤ (b : Int) := by omega
          have r6 : (b : Int) ≤ 10000 := by have := SM3.out; omega
          obtain ⟨h, hh⟩ : ∃ h, h = b / 2 := ⟨_, rfl⟩
          have r3 : (b : Int).tdiv 2 = (h : Int) := by rw [Int.tdiv_eq_ediv_of_nonneg (by omega)]; omega
          have r4 : (b : Int) / 2 = (h : Int) := by omega
          have HHH := Lib.hid hh
          clear hh
          have Q := Lib.hid (And.intro hk (And.intro hb1 (And.intro hab hlt)))
          have hsm : 0 + a < 100000 := by have := HS.out; have := SM3.out; omega
          clear hk hb1 hab hlt
          go_wp2_with fail
          go_roundg h
          case measure => have := Q.out.1; have := HHH.out; omega
          case rel => exact ⟨a + 1, h, by first | rfl | (congr 1; (first | (unfold wrap64; omega) | (rw [IntKind.wrap_i64]; omega) | omega)), by first | rfl | (congr 1; (first | (unfold wrap64; omega) | (rw [IntKind.wrap_i64]; omega) | omega)), rfl, by have := Q.out; have := HHH.out; omega, by have := Q.out; have := HHH.out; omega, HHH.out ▸ half_step Q.out.2.2.2, rfl⟩
        have r1 : decide ((1 : Int) < (b : Int)) = false := by simp; omega
        have r2 : ¬ (1 : Int) < (b : Int) := by omega
        have E3 := Lib.hid (show N3 < 2 ^ (a + 1) from half_end hlt (by omega))
        obtain ⟨q3, hq3⟩ : ∃ q, q = 0 + a := ⟨_, rfl⟩
        rw [← hq3]
        have S3 := Lib.hid (And.intro hq3 (show a ≤ N3 by omega))
        have HA3 : ∃ x, x = a := ⟨_, rfl⟩
        obtain ⟨a3, ha3⟩ := HA3
        subst ha3
        clear hk hb1 hab hlt h1 hq3
        have c5 : w13.cell? ⟨bZ, 0, none⟩ = some (.pointer pZ) := (HR13.out _ (Bt.refl _ _)).2.2.1.c0
        go_wp2_with fail
        clear r1 r2
        clear hN1p hN2p hN3p
        have hPq : P ≤ 2 * q3 := by
          have h1 := pop_bits (meld_lft _ _ (ofL_lft xs) (ofL_lft ys)) (q := a3) (by have := E3.out; have := SM3.out; have := HSZ.out; omega)
          have := HP.out; have := S3.out; omega
        have u1 : (0 : Int) ≤ (q3 : Int) := by omega
        have u2 : (q3 : Int) ≤ 300 := by have := S3.out; have := SM3.out; omega
        have HPQ := Lib.hid hPq
        clear hPq
        by_cases hs0 : 0 < s
        · have v1 : decide ((0 : Int) < (s : Int)) = true := by simp; omega
          have v2 : (0 : Int) < (s : Int) := by omega
          have v3 : sb = true := by rw [HSB.out, some_pos, ← HSZ.out.1]; simp; omega
          subst v3
          ((with_reducible refine (size_any (meld (ofL xs) (ofL ys)) pZ _ (HR13.out _ (Bt.refl _ _)).2.2.2.1).mono ?_); rintro e w14 ⟨rfl, hb⟩)
          have HM14 := Lib.hid (HM13.out.stay hb)
          have HR14 := Lib.hid (fun W (hz : Bt (some mb) w14 W) => HR13.out W ((Bt.ofBelow hb).trans hz))
          clear HR13 HM13 c5
          clear hb
          rw [← HSZ.out.1]
          go_wp2_with fail
          ((with_reducible refine (mSince mb ((M : Int) + P) ((M : Int) + P) ((M : Int) + M) _ HM14.out (by have := HM0b.out; have := HP.out; omega) (by have := HM0b.out; have := HP.out; omega) (by have := HM0b.out; have := HP.out; omega) (by have := HM0b.out; have := HP.out; omega) (by have := HM0b.out; have := HP.out; omega) (by have := HM0b.out; have := HP.out; omega)).mono ?_); rintro e w15 ⟨rfl, hb⟩)
          have HM15 := Lib.hid (HM14.out.stay hb)
          have HR15 := Lib.hid (fun W (hz : Bt (some mb) w15 W) => HR14.out W ((Bt.ofBelow hb).trans hz))
          clear HR14 HM14 
          clear hb
          have v4 : decide ((M : Int) + P + ((M : Int) + P) - ((M : Int) + M) ≤ 4 * (q3 : Int)) = true := by simp; have := HPQ.out; omega
          have v5 : (M : Int) + P + ((M : Int) + P) - ((M : Int) + M) ≤ 4 * (q3 : Int) := by have := HPQ.out; omega
          go_wp2_with fail
          go_ret
          exact ⟨rfl, (HR15.out _ (Bt.refl _ _)).2.2.2.2.2.2.2.2.below⟩
        · have v1 : decide ((0 : Int) < (s : Int)) = false := by simp; omega
          have v2 : ¬ (0 : Int) < (s : Int) := by omega
          have v3 : sb = false := by rw [HSB.out, some_pos, ← HSZ.out.1]; simp; omega
          subst v3
          ((with_reducible refine (size_any (meld (ofL xs) (ofL ys)) pZ _ (HR13.out _ (Bt.refl _ _)).2.2.2.1).mono ?_); rintro e w14 ⟨rfl, hb⟩)
          have HM14 := Lib.hid (HM13.out.stay hb)
          have HR14 := Lib.hid (fun W (hz : Bt (some mb) w14 W) => HR13.out W ((Bt.ofBelow hb).trans hz))
          clear HR13 HM13 c5
          clear hb
          rw [← HSZ.out.1]
          go_wp2_with fail
          ((with_reducible refine (mSince mb ((M : Int) + P) ((M : Int) + P) ((M : Int) + M) _ HM14.out (by have := HM0b.out; have := HP.out; omega) (by have := HM0b.out; have := HP.out; omega) (by have := HM0b.out; have := HP.out; omega) (by have := HM0b.out; have := HP.out; omega) (by have := HM0b.out; have := HP.out; omega) (by have := HM0b.out; have := HP.out; omega)).mono ?_); rintro e w15 ⟨rfl, hb⟩)
          have HM15 := Lib.hid (HM14.out.stay hb)
          have HR15 := Lib.hid (fun W (hz : Bt (some mb) w15 W) => HR14.out W ((Bt.ofBelow hb).trans hz))
          clear HR14 HM14 
          clear hb
          have v4 : decide ((M : Int) + P + ((M : Int) + P) - ((M : Int) + M) ≤ 4 * (q3 : Int)) = true := by simp; have := HPQ.out; omega
          have v5 : (M : Int) + P + ((M : Int) + P) - ((M : Int) + M) ≤ 4 * (q3 : Int) := by have := HPQ.out; omega
          go_wp2_with fail
          go_ret
          exact ⟨rfl, (HR15.out _ (Bt.refl _ _)).2.2.2.2.2.2.2.2.below⟩

end Go.Proofs.YtliehednnhilkaaDoor
