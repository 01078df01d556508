/-
  The walk of the statement BootSteps: for any two rows and any byte it returns true, and nothing that was there has changed, in any world where the library's table is as it is laid.
-/
import Derived.Test.YtlmokendajgbdaaDoorWwake
import Derived.Test.YtlmokendajgbdaaDoorWof
import Derived.Test.YtlmokendajgbdaaDoorWagain0
import Derived.Deep.LoopGhost
namespace Go.Proofs.YtlmokendajgbdaaDoor.Bo
open Go.Sort Go.RowKit

theorem half_nums (b d h : Nat) (hd : d ≤ 300) (hb : b ≤ 300) (hh : h = d / 2) :
    IntKind.i64.wrap ((b : Int) + 1) = ((b + 1 : Nat) : Int) ∧ wrap64 ((b : Int) + 1) = ((b + 1 : Nat) : Int) ∧ IntKind.i64.wrap (h : Int) = (h : Int) ∧ (d : Int).tdiv 2 = (h : Int) ∧ (d : Int) / 2 = (h : Int) := by
  refine ⟨?_, ?_, ?_, ?_, ?_⟩
  · rw [IntKind.wrap_i64]; omega
  · unfold wrap64; omega
  · rw [IntKind.wrap_i64]; omega
  · rw [Int.tdiv_eq_ediv_of_nonneg (by omega)]; omega
  · omega
theorem fits_take {xs : List (Int × Int)} (h : fits xs) (k : Nat) : fits (xs.take k) := fun e he => h e (List.mem_of_mem_take he)

set_option maxRecDepth 100000 in
set_option maxHeartbeats 4000000 in
theorem steps_any (A : Option Addr) (xs : List (Int × Int)) (c : Nat) (B : Option Addr) (ys : List (Int × Int)) (d : Nat) (k0 : Nat) (w : World) (he : Env w) (hr1 : Row w A xs) (hr2 : Row w B ys) (hf : fits xs) (hf2 : fits ys) (hk0 : k0 < 256) :
    Calls Tryd.prog 3 #[.slice A xs.length c, .slice B ys.length d, .int .u8 (k0 : Int)] w fun e w' => e = .returned (.bool true) ∧ Below w.heap.size w w' := by
  obtain ⟨n, hn⟩ : ∃ k, k = xs.length := ⟨_, rfl⟩
  obtain ⟨n2, hn2⟩ : ∃ k, k = ys.length := ⟨_, rfl⟩
  rw [← hn, ← hn2]
  have HN := Lib.hid hn
  have HN2 := Lib.hid hn2
  have HRW := Lib.hid (And.intro hr1 hf)
  have HRY := Lib.hid (And.intro hr2 hf2)
  clear hn hn2 hr1 hr2 hf hf2
  have HE := Lib.hid he
  have HM0 := Lib.hid (show MAt w (none : Option Nat) 0 0 from trivial)
  have HR0 := Lib.hid (fun W (hb : Bt none w W) => Bas.bt (Bas.first he) he hb (fun _ e => by cases e))
  clear he
  go_enter Tryd.func3, Tryd.ntmps3
  go_wp2_with fail
  ((with_reducible refine (awake_any _ HE.out).mono ?_); rintro e w1 ⟨rfl, hb⟩)
  have HM1 := Lib.hid (show MAt w1 (none : Option Nat) 0 0 from trivial)
  have HR1 := Lib.hid (fun W (hz : Bt none w1 W) => HR0.out W ((Bt.ofBelow hb).trans hz))
  clear HR0 HM0 
  clear hb
  by_cases hb0 : 100 < n
  · have qa : decide ((100 : Int) < (n : Int)) = true := by simp; omega
    have qb : (100 : Int) < (n : Int) := by omega
    go_wp2_with fail
    go_ret
    exact ⟨rfl, (HR1.out _ (Bt.refl _ _)).below⟩
  have qa0 : decide ((100 : Int) < (n : Int)) = false := by simp; omega
  have qb0 : ¬ (100 : Int) < (n : Int) := by omega
  by_cases hb1 : 100 < n2
  · have qa : decide ((100 : Int) < (n2 : Int)) = true := by simp; omega
    have qb : (100 : Int) < (n2 : Int) := by omega
    go_wp2_with fail
    go_ret
    exact ⟨rfl, (HR1.out _ (Bt.refl _ _)).below⟩
  have qa1 : decide ((100 : Int) < (n2 : Int)) = false := by simp; omega
  have qb1 : ¬ (100 : Int) < (n2 : Int) := by omega
  go_wp2_with fail
  clear qa0 qb0 qa1 qb1
  have HS := Lib.hid (And.intro (Nat.le_of_not_lt hb0) (And.intro (Nat.le_of_not_lt hb1) (trivial)))
  clear hb0 hb1
  have hs_bX := (HR1.out _ (Bt.refl _ _)).below.size
  have HM2 := Lib.hid (show MAt (w1.alloc (.cells #[.pointer none] 26)) (none : Option Nat) 0 0 from trivial)
  have HR2 := Lib.hid (on_inv (mo := none) HR1.out ((Bt.refl none w1).alloc (.cells #[.pointer none] 26)) (fun W hz => (HVar.new w1 none rfl).bt hz HM2.out))
  clear HR1 HM1 
  generalize w1.alloc (.cells #[.pointer none] 26) = w2 at *
  obtain ⟨bX, hbX⟩ : ∃ b, b = w1.heap.size := ⟨_, rfl⟩
  rw [← hbX] at HR2 ⊢
  have B_bX := Lib.hid (show w.heap.size ≤ bX by rw [hbX]; exact hs_bX)
  clear hbX hs_bX 
  ((with_reducible refine (mNew _).mono ?_); rintro e w3 ⟨rfl, hm, hb⟩)
  obtain ⟨mb, hmb⟩ : ∃ b, b = w2.heap.size := ⟨_, rfl⟩
  rw [← hmb] at hm ⊢
  have B_mb := Lib.hid (show w.heap.size ≤ mb by rw [hmb]; exact (HR2.out _ (Bt.refl _ _)).2.below.size)
  clear hmb
  have HM3 := Lib.hid hm
  have HR3 := Lib.hid (fun W (hz : Bt (some mb) w3 W) => And.intro (((HR2.out _ (Bt.ofBelow hb)).1).bt hz HM3.out) (((HR2.out _ (Bt.ofBelow hb)).2).bt HE.out hz (fun b e => by cases e; exact B_mb.out)))
  clear HR2 HM2 hm hb 
  obtain ⟨N, hN⟩ : ∃ N, N = k0 % 12 := ⟨_, rfl⟩
  have hm1 : (k0 : Int) % 12 = (N : Int) := by omega
  have hm2 : (k0 : Int).tmod 12 = (N : Int) := by rw [Int.tmod_eq_emod_of_nonneg (by omega)]; exact hm1
  have HN9 := Lib.hid (show N < 12 ∧ (k0 : Int).tmod 12 = (N : Int) ∧ (k0 : Int) % 12 = (N : Int) from ⟨by omega, hm2, hm1⟩)
  clear hN hm1 hm2
  go_wp2_with fail
  go_loopg [10] n (fun k i wr => ∃ (j : Nat) (p : Option Addr) (C M : Int), i = .int .i64 (j : Int) ∧ j + k = n ∧ 0 ≤ C ∧ C ≤ 4 * (j : Int) ∧ 0 ≤ M ∧ M ≤ 4 * (j : Int) ∧ HVar wr bX p ∧ LAt wr (ofL (xs.take j)) p ∧ MAt wr (some mb) C M ∧ Bas w wr)
  case atStart => exact ⟨0, none, 0, 0, rfl, by omega, by omega, by omega, by omega, by omega, (HR3.out _ (Bt.refl _ _)).1, LAt.none _, HM3.out, (HR3.out _ (Bt.refl _ _)).2⟩
  case round =>
    clear HR3 HM3
    obtain ⟨j, p, C, M, rfl, hj, hc1, hc2, hc3, hc4, hv, ht, hM, hB⟩ := hrel
    by_cases hlt : j < n
    · have q1 : (j : Int) < (n : Int) := by omega
      have q3 : decide ((j : Int) < (n : Int)) = true := by simp; omega
      have q2 : (0 : Int) ≤ (j : Int) := by omega
      have hjx : j < xs.length := by rw [← HN.out]; exact hlt
      have HM4 := Lib.hid (hM)
      have HR4 := Lib.hid (fun W (hz : Bt (some mb) wr W) => And.intro ((hv).bt hz HM4.out) ( And.intro ((ht).bt hz HM4.out) ((hB).bt HE.out hz (fun b e => by cases e; exact B_mb.out))))
      have hG : (ofL (xs.take j)).size = j := by rw [ofL_size, List.length_take]; omega
      have eO := ofL_take xs j hjx
      have hci := insC_le (ofL (xs.take j)) xs[j]
      have hmi := insM_le (ofL (xs.take j)) xs[j]
      obtain ⟨b, ob, rfl, hc⟩ := HRW.out.1 (by omega)
      have hx := row_at hc j hjx
      have HXC := Lib.hid (fun W (hz : Below w.heap.size w W) => And.intro ((hz.cell (block_lt_of_cell hx.1)).trans hx.1) ((hz.cell (block_lt_of_cell hx.2)).trans hx.2))
      have HBL := Lib.hid (show b < w.heap.size from block_lt_of_cell hx.1)
      clear hx hc
      generalize xs[j] = x at *
      obtain ⟨y1, y2⟩ := x
      have Q := Lib.hid (show j + gk = n ∧ (0 ≤ C ∧ C ≤ 4 * (j : Int) ∧ 0 ≤ M ∧ M ≤ 4 * (j : Int)) ∧ (ofL (xs.take j)).size = j ∧ ofL (xs.take (j + 1)) = (ofL (xs.take j)).insert (y1, y2) ∧ (ofL (xs.take j)).insC (y1, y2) ≤ 3 ∧ (ofL (xs.take j)).insM (y1, y2) ≤ 4 from ⟨hj, ⟨hc1, hc2, hc3, hc4⟩, hG, eO, hci, hmi⟩)
      clear hv ht hB hM hj hc1 hc2 hc3 hc4 hG eO hci hmi hjx
      go_wp2_with fail
      ((with_reducible refine (mSteps mb C M _ HM4.out (by have := Q.out; omega) (by have := Q.out; have := HS.out; omega) (by have := Q.out; omega) (by have := Q.out; have := HS.out; omega)).mono ?_); rintro e w5 ⟨rfl, hb⟩)
      have HM5 := Lib.hid (HM4.out.stay hb)
      have HR5 := Lib.hid (fun W (hz : Bt (some mb) w5 W) => HR4.out W ((Bt.ofBelow hb).trans hz))
      clear HR4 HM4 
      clear hb
      have c1 : w5.cell? ⟨bX, 0, none⟩ = some (.pointer p) := (HR5.out _ (Bt.refl _ _)).1.c0
      have x0 := (HXC.out _ (HR5.out _ (Bt.refl _ _)).2.2.below).1
      have x1 := (HXC.out _ (HR5.out _ (Bt.refl _ _)).2.2.below).2
      have n1 : ¬ b = bX := by have := B_bX.out; have := HBL.out; omega
      have n2 : ¬ bX = b := by have := B_bX.out; have := HBL.out; omega
      go_wp2_with fail
      go_region_with (go_at_call 7; ((with_reducible refine (insert_any (some mb) _ _ (ofL (xs.take j)) (y1, y2) p _ (by have := Q.out; have := HS.out; omega) HM5.out.drew (by have := Q.out; omega) (by have := Q.out; have := HS.out; omega) (by have := Q.out; omega) (by have := Q.out; have := HS.out; omega) (HR5.out _ ((Bt.refl _ _).drew)).2.1).mono ?_); rintro e w6 ⟨p2, rfl, ht, hm, hb⟩); have HM6 := Lib.hid hm; have HR6 := Lib.hid (on_inv (mo := (some mb)) HR5.out (((Bt.refl (some mb) w5).drew).trans hb) (fun W hz => ht.bt hz HM6.out)); have pv := (HR6.out _ (Bt.refl _ _)).2.1; have pc := pv.c0; have pz := pv.z0; have PV := Lib.hid pv; have y0 := (HXC.out _ (HR6.out _ (Bt.refl _ _)).2.2.2.below).1; have y9 := (HXC.out _ (HR6.out _ (Bt.refl _ _)).2.2.2.below).2; clear ht hm hb pv)
      all_goals
        have HM7 := Lib.hid (HM6.out.set PV.out (.pointer p2))
        have HR7 := Lib.hid (fun W (hz : Bt (some mb) (w6.setCell ⟨bX, 0, none⟩ (.pointer p2)) W) => And.intro ((((HR6.out _ (Bt.refl _ _)).1.set PV.out (.pointer p2))).bt hz HM7.out) ( And.intro (((PV.out.put p2)).bt hz HM7.out) ((((HR6.out _ (Bt.refl _ _)).2.2.2.set HE.out B_bX.out 0 (.pointer p2))).bt HE.out hz (fun b e => by cases e; exact B_mb.out))))
        clear HR6 HM6 PV pc pz c1 x0 x1 y0 y9 HR5 HM5
        generalize w6.setCell ⟨bX, 0, none⟩ (.pointer p2) = w7 at *
        clear n1 n2
        obtain ⟨cc, hcc⟩ : ∃ cc, cc = (ofL (xs.take j)).insC (y1, y2) := ⟨_, rfl⟩
        obtain ⟨cm, hcm⟩ : ∃ cm, cm = (ofL (xs.take j)).insM (y1, y2) := ⟨_, rfl⟩
        rw [← hcc, ← hcm] at HM7
        have HCC := Lib.hid (show cc ≤ 3 ∧ cm ≤ 4 from ⟨by have := Q.out; omega, by have := Q.out; omega⟩)
        clear hcc hcm
        go_wp2_with fail
        ((with_reducible refine (mSince mb (C + (cc : Nat)) (M + (cm : Nat)) (C + M) _ HM7.out (by have := Q.out; have := HCC.out; have := HS.out; omega) (by have := Q.out; have := HCC.out; have := HS.out; omega) (by have := Q.out; have := HCC.out; have := HS.out; omega) (by have := Q.out; have := HCC.out; have := HS.out; omega) (by have := Q.out; have := HCC.out; have := HS.out; omega) (by have := Q.out; have := HCC.out; have := HS.out; omega)).mono ?_); rintro e w8 ⟨rfl, hb⟩)
        have HM8 := Lib.hid (HM7.out.stay hb)
        have HR8 := Lib.hid (fun W (hz : Bt (some mb) w8 W) => HR7.out W ((Bt.ofBelow hb).trans hz))
        clear HR7 HM7 
        clear hb
        have v1 : decide ((7 : Int) < C + (cc : Nat) + (M + (cm : Nat)) - (C + M)) = false := by simp; have := HCC.out; omega
        have v2 : ¬ (7 : Int) < C + (cc : Nat) + (M + (cm : Nat)) - (C + M) := by have := HCC.out; omega
        have v3 : IntKind.i64.wrap ((j : Int) + 1) = (j : Int) + 1 := by rw [IntKind.wrap_i64]; have := Q.out; have := HS.out; omega
        have v4 : wrap64 ((j : Int) + 1) = (j : Int) + 1 := by unfold wrap64; have := Q.out; have := HS.out; omega
        go_wp2_with fail
        go_roundg (n - 1 - j)
        case measure => have := Q.out.1; omega
        case rel => exact ⟨j + 1, p2, C + (cc : Nat), M + (cm : Nat), by first | rfl | (congr 1; have := Q.out; have := HS.out; first | omega | (unfold wrap64; omega)), by have := Q.out.1; omega, by have := Q.out; omega, by have := Q.out; have := HCC.out; omega, by have := Q.out; omega, by have := Q.out; have := HCC.out; omega, (HR8.out _ (Bt.refl _ _)).2.1, Q.out.2.2.2.1 ▸ (HR8.out _ (Bt.refl _ _)).1, HM8.out, (HR8.out _ (Bt.refl _ _)).2.2⟩
    · have q1 : ¬ (j : Int) < (n : Int) := by omega
      have q3 : decide ((j : Int) < (n : Int)) = false := by simp; omega
      have htx : xs.take j = xs := List.take_of_length_le (by have := HN.out; omega)
      rw [htx] at ht
      have HM19 := Lib.hid (hM)
      have HR19 := Lib.hid (fun W (hz : Bt (some mb) wr W) => And.intro ((hv).bt hz HM19.out) ( And.intro ((ht).bt hz HM19.out) ((hB).bt HE.out hz (fun b e => by cases e; exact B_mb.out))))
      have HC0 := Lib.hid (show 0 ≤ C ∧ C ≤ 400 ∧ 0 ≤ M ∧ M ≤ 400 from ⟨hc1, by have := HS.out; omega, hc3, by have := HS.out; omega⟩)
      have HG := Lib.hid (show (ofL xs).good ∧ (ofL xs).size ≤ 100 ∧ (ofL ys).good ∧ (ofL ys).size ≤ 100 from ⟨good_of HRW.out.2, by rw [ofL_size, ← HN.out]; have := HS.out; omega, good_of HRY.out.2, by rw [ofL_size, ← HN2.out]; have := HS.out; omega⟩)
      have HMS := Lib.hid (show (meld (ofL xs) (ofL ys)).size ≤ 200 ∧ (meld (meld (ofL xs) (ofL ys)) (ofL ys)).size ≤ 300 from by simp only [meld_size]; have := HG.out; omega)
      obtain ⟨a1, h1⟩ : ∃ k, k = meldC (ofL xs) (ofL ys) := ⟨_, rfl⟩
      obtain ⟨a2, h2⟩ : ∃ k, k = meldM (ofL xs) (ofL ys) := ⟨_, rfl⟩
      have HA1 := Lib.hid (show a1 = meldC (ofL xs) (ofL ys) ∧ a2 = meldM (ofL xs) (ofL ys) ∧ a1 ≤ 3 ∧ a2 ≤ 3 from ⟨h1, h2, by rw [h1]; exact (meld_le _ _).1, by rw [h2]; exact (meld_le _ _).2⟩)
      clear h1 h2
      obtain ⟨b1, h1⟩ : ∃ k, k = meldC (meld (ofL xs) (ofL ys)) (ofL ys) := ⟨_, rfl⟩
      obtain ⟨b2, h2⟩ : ∃ k, k = meldM (meld (ofL xs) (ofL ys)) (ofL ys) := ⟨_, rfl⟩
      have HA2 := Lib.hid (show b1 = meldC (meld (ofL xs) (ofL ys)) (ofL ys) ∧ b2 = meldM (meld (ofL xs) (ofL ys)) (ofL ys) ∧ b1 ≤ 3 ∧ b2 ≤ 3 from ⟨h1, h2, by rw [h1]; exact (meld_le _ _).1, by rw [h2]; exact (meld_le _ _).2⟩)
      clear h1 h2
      clear hv ht hB hM hj hc1 hc2 hc3 hc4 hlt htx
      go_wp2_with fail
      clear q1 q3
      ((with_reducible refine (ofRow B ys n2 d w _ HRY.out.1 HN2.out (by have := HS.out; omega) (HR19.out _ (Bt.refl _ _)).2.2.below).mono ?_); rintro e w20 ⟨pO, rfl, ht, hb⟩)
      have HM20 := Lib.hid (HM19.out.stay hb)
      have HR20 := Lib.hid (on_inv (mo := (some mb)) HR19.out (Bt.ofBelow hb) (fun W hz => ht.bt hz HM20.out))
      clear HR19 HM19 
      clear ht hb
      go_wp2_with fail
      have hs_bO := (HR20.out _ (Bt.refl _ _)).2.2.2.below.size
      have hl_bX := (HR20.out _ (Bt.refl _ _)).2.1.lt
      have HM21 := Lib.hid (HM20.out.alloc (.cells #[.pointer pO] 26))
      have HR21 := Lib.hid (on_inv (mo := (some mb)) HR20.out ((Bt.refl (some mb) w20).alloc (.cells #[.pointer pO] 26)) (fun W hz => (HVar.new w20 pO rfl).bt hz HM21.out))
      clear HR20 HM20 
      generalize w20.alloc (.cells #[.pointer pO] 26) = w21 at *
      obtain ⟨bO, hbO⟩ : ∃ b, b = w20.heap.size := ⟨_, rfl⟩
      rw [← hbO] at HR21 ⊢
      have B_bO := Lib.hid (show w.heap.size ≤ bO by rw [hbO]; exact hs_bO)
      have N_bX_bO := Lib.hid (show bX ≠ bO by omega)
      clear hbO hs_bO hl_bX
      ((with_reducible refine (mSteps mb C M _ HM21.out (by have := HC0.out; omega) (by have := HC0.out; omega) (by have := HC0.out; omega) (by have := HC0.out; omega)).mono ?_); rintro e w22 ⟨rfl, hb⟩)
      have HM22 := Lib.hid (HM21.out.stay hb)
      have HR22 := Lib.hid (fun W (hz : Bt (some mb) w22 W) => HR21.out W ((Bt.ofBelow hb).trans hz))
      clear HR21 HM21 
      clear hb
      have c2 : w22.cell? ⟨bX, 0, none⟩ = some (.pointer p) := (HR22.out _ (Bt.refl _ _)).2.2.1.c0
      have c3 : w22.cell? ⟨bO, 0, none⟩ = some (.pointer pO) := (HR22.out _ (Bt.refl _ _)).1.c0
      go_wp2_with fail
      ((with_reducible refine (meld_any (some mb) (ofL xs) (ofL ys) C M p pO _ (by have := HG.out; omega) HM22.out (by have := HC0.out; omega) (by have := HC0.out; omega) (by have := HC0.out; omega) (by have := HC0.out; omega) (HR22.out _ (Bt.refl _ _)).2.2.2.1 (HR22.out _ (Bt.refl _ _)).2.1).mono ?_); rintro e w23 ⟨pM, rfl, ht, hm, hb⟩)
      have HM23 := Lib.hid (show MAt w23 (some mb) (C + (a1 : Nat)) (M + (a2 : Nat)) from by rw [HA1.out.1, HA1.out.2.1]; exact hm)
      have HR23 := Lib.hid (on_inv (mo := (some mb)) HR22.out hb (fun W hz => ht.bt hz HM23.out))
      clear HR22 HM22 c2 c3
      clear ht hm hb
      have pv := (HR23.out _ (Bt.refl _ _)).2.2.2.1
      have pc := pv.c0
      have pz := pv.z0
      have PV := Lib.hid pv
      clear pv
      have d1 : (w23.setCell ⟨bX, 0, none⟩ (.pointer pM)).cell? ⟨bX, 0, none⟩ = some (.pointer pM) := (PV.out.put pM).c0
      have d2 : (w23.setCell ⟨bX, 0, none⟩ (.pointer pM)).cell? ⟨bO, 0, none⟩ = some (.pointer pO) := ((HR23.out _ (Bt.refl _ _)).2.1.set (fun e => N_bX_bO.out e.symm) 0 (.pointer pM)).c0
      go_wp2_with fail
      have HM24 := Lib.hid (HM23.out.set PV.out (.pointer pM))
      have HR24 := Lib.hid (fun W (hz : Bt (some mb) (w23.setCell ⟨bX, 0, none⟩ (.pointer pM)) W) => And.intro ((((HR23.out _ (Bt.refl _ _)).1.set PV.out (.pointer pM))).bt hz HM24.out) ( And.intro ((((HR23.out _ (Bt.refl _ _)).2.1.set (fun e => N_bX_bO.out e.symm) 0 (.pointer pM))).bt hz HM24.out) ( And.intro ((((HR23.out _ (Bt.refl _ _)).2.2.1.set PV.out (.pointer pM))).bt hz HM24.out) ( And.intro (((PV.out.put pM)).bt hz HM24.out) ((((HR23.out _ (Bt.refl _ _)).2.2.2.2.2.set HE.out B_bX.out 0 (.pointer pM))).bt HE.out hz (fun b e => by cases e; exact B_mb.out))))))
      clear HR23 HM23 PV pc pz d1 d2
      generalize w23.setCell ⟨bX, 0, none⟩ (.pointer pM) = w24 at *
      ((with_reducible refine (meld_any (some mb) (meld (ofL xs) (ofL ys)) (ofL ys) (C + (a1 : Nat)) (M + (a2 : Nat)) pM pO _ (by have := HG.out; have := HMS.out; omega) HM24.out (by have := HC0.out; have := HA1.out.2.2; omega) (by have := HC0.out; have := HA1.out.2.2; omega) (by have := HC0.out; have := HA1.out.2.2; omega) (by have := HC0.out; have := HA1.out.2.2; omega) (HR24.out _ (Bt.refl _ _)).1 (HR24.out _ (Bt.refl _ _)).2.2.1).mono ?_); rintro e w25 ⟨pN, rfl, ht, hm, hb⟩)
      have HM25 := Lib.hid (show MAt w25 (some mb) (C + (a1 : Nat) + (b1 : Nat)) (M + (a2 : Nat) + (b2 : Nat)) from by rw [HA2.out.1, HA2.out.2.1]; exact hm)
      have HR25 := Lib.hid (on_inv (mo := (some mb)) HR24.out hb (fun W hz => ht.bt hz HM25.out))
      clear HR24 HM24 
      clear ht hm hb
      have pv := (HR25.out _ (Bt.refl _ _)).2.2.2.2.1
      have pc := pv.c0
      have pz := pv.z0
      have PV := Lib.hid pv
      clear pv
      go_wp2_with fail
      have HM26 := Lib.hid (HM25.out.set PV.out (.pointer pN))
      have HR26 := Lib.hid (fun W (hz : Bt (some mb) (w25.setCell ⟨bX, 0, none⟩ (.pointer pN)) W) => And.intro ((((HR25.out _ (Bt.refl _ _)).1.set PV.out (.pointer pN))).bt hz HM26.out) ( And.intro (((PV.out.put pN)).bt hz HM26.out) ((((HR25.out _ (Bt.refl _ _)).2.2.2.2.2.set HE.out B_bX.out 0 (.pointer pN))).bt HE.out hz (fun b e => by cases e; exact B_mb.out))))
      clear HR25 HM25 PV pc pz 
      generalize w25.setCell ⟨bX, 0, none⟩ (.pointer pN) = w26 at *
      ((with_reducible refine (mSince mb (C + (a1 : Nat) + (b1 : Nat)) (M + (a2 : Nat) + (b2 : Nat)) (C + M) _ HM26.out (by have := HC0.out; have := HA1.out.2.2; have := HA2.out.2.2; omega) (by have := HC0.out; have := HA1.out.2.2; have := HA2.out.2.2; omega) (by have := HC0.out; have := HA1.out.2.2; have := HA2.out.2.2; omega) (by have := HC0.out; have := HA1.out.2.2; have := HA2.out.2.2; omega) (by have := HC0.out; have := HA1.out.2.2; have := HA2.out.2.2; omega) (by have := HC0.out; have := HA1.out.2.2; have := HA2.out.2.2; omega)).mono ?_); rintro e w27 ⟨rfl, hb⟩)
      have HM27 := Lib.hid (HM26.out.stay hb)
      have HR27 := Lib.hid (fun W (hz : Bt (some mb) w27 W) => HR26.out W ((Bt.ofBelow hb).trans hz))
      clear HR26 HM26 
      clear hb
      have v1 : decide ((12 : Int) < C + (a1 : Nat) + (b1 : Nat) + (M + (a2 : Nat) + (b2 : Nat)) - (C + M)) = false := by simp; have := HA1.out.2.2; have := HA2.out.2.2; omega
      have v2 : ¬ (12 : Int) < C + (a1 : Nat) + (b1 : Nat) + (M + (a2 : Nat) + (b2 : Nat)) - (C + M) := by have := HA1.out.2.2; have := HA2.out.2.2; omega
      have hm1 := HN9.out.2.1
      have hm2 := HN9.out.2.2
      go_wp2_with fail
      clear v1 v2
      have HG2 := Lib.hid (show (meld (meld (ofL xs) (ofL ys)) (ofL ys)).good ∧ (meld (meld (ofL xs) (ofL ys)) (ofL ys)).size ≤ 300 from ⟨good_meld (good_meld HG.out.1 HG.out.2.2.1) HG.out.2.2.1, HMS.out.2⟩)
      go_loopg [14] N (fun k i wr => ∃ (j : Nat) (t : Lh) (p : Option Addr) (C M : Int), i = .int .i64 (j : Int) ∧ j + k = N ∧ t.good ∧ t.size ≤ 300 ∧ 0 ≤ C ∧ C ≤ 500 + 5000 * (j : Int) ∧ 0 ≤ M ∧ M ≤ 500 + 5000 * (j : Int) ∧ HVar wr bX p ∧ LAt wr t p ∧ MAt wr (some mb) C M ∧ Bas w wr)
      case atStart => exact ⟨0, meld (meld (ofL xs) (ofL ys)) (ofL ys), pN, C + (a1 : Nat) + (b1 : Nat), M + (a2 : Nat) + (b2 : Nat), rfl, by omega, HG2.out.1, HG2.out.2, by have := HC0.out; have := HA1.out.2.2; have := HA2.out.2.2; omega, by have := HC0.out; have := HA1.out.2.2; have := HA2.out.2.2; omega, by have := HC0.out; have := HA1.out.2.2; have := HA2.out.2.2; omega, by have := HC0.out; have := HA1.out.2.2; have := HA2.out.2.2; omega, (HR27.out _ (Bt.refl _ _)).2.1, (HR27.out _ (Bt.refl _ _)).1, HM27.out, (HR27.out _ (Bt.refl _ _)).2.2⟩
      case round =>
        clear HR27 HM27 HC0 HG HG2 HMS HA1 HA2
        obtain ⟨j, t, p, C, M, rfl, hj, hgd, hsz, hc1, hc2, hc3, hc4, hv, ht, hM, hB⟩ := hrel
        by_cases hlt : j < N
        · have q1 : (j : Int) < (N : Int) := by omega
          have q3 : decide ((j : Int) < (N : Int)) = true := by simp; omega
          have HM38 := Lib.hid (hM)
          have HR38 := Lib.hid (fun W (hz : Bt (some mb) wr W) => And.intro ((hv).bt hz HM38.out) ( And.intro ((ht).bt hz HM38.out) ((hB).bt HE.out hz (fun b e => by cases e; exact B_mb.out))))
          obtain ⟨s, hs⟩ : ∃ s, s = t.size := ⟨_, rfl⟩
          have Q := Lib.hid (show j + gk = N ∧ t.good ∧ s = t.size ∧ s ≤ 300 ∧ (0 ≤ C ∧ C ≤ 500 + 5000 * (j : Int) ∧ 0 ≤ M ∧ M ≤ 500 + 5000 * (j : Int)) ∧ j < N from ⟨hj, hgd, hs, by omega, ⟨hc1, hc2, hc3, hc4⟩, hlt⟩)
          clear hv ht hB hM hj hgd hsz hc1 hc2 hc3 hc4 hs hlt
          have c4 : wr.cell? ⟨bX, 0, none⟩ = some (.pointer p) := (HR38.out _ (Bt.refl _ _)).1.c0
          go_wp2_with fail
          clear q1 q3 hm1 hm2
          ((with_reducible refine (size_any t p _ (HR38.out _ (Bt.refl _ _)).2.1).mono ?_); rintro e w39 ⟨rfl, hb⟩)
          have HM39 := Lib.hid (HM38.out.stay hb)
          have HR39 := Lib.hid (fun W (hz : Bt (some mb) w39 W) => HR38.out W ((Bt.ofBelow hb).trans hz))
          clear HR38 HM38 c4
          clear hb
          rw [← Q.out.2.2.1]
          go_wp2_with fail
          go_loopg [15, 16] s (fun k v d wz => ∃ (b d0 : Nat), v = .int .i64 (b : Int) ∧ d = .int .i64 (d0 : Int) ∧ k = d0 ∧ s < (d0 + 1) * 2 ^ b ∧ b + d0 ≤ s ∧ w39 = wz)
          case atStart => exact ⟨0, s, rfl, rfl, rfl, by omega, by omega, rfl⟩
          case round =>
            obtain ⟨b, d, rfl, rfl, hk, hlt, hbd, rfl⟩ := hrel
            by_cases h1 : 0 < d
            · have r1 : decide ((0 : Int) < (d : Int)) = true := by simp; omega
              have r2 : (0 : Int) < (d : Int) := by omega
              obtain ⟨h, hh⟩ : ∃ h, h = d / 2 := ⟨_, rfl⟩
              have HHH := Lib.hid (show h = d / 2 ∧ d ≤ 300 ∧ b ≤ 300 from ⟨hh, by have := Q.out; omega, by have := Q.out; omega⟩)
              obtain ⟨W1, W2, W3, W4, W5⟩ := half_nums b d h (by have := Q.out; omega) (by have := Q.out; omega) hh
              have Z := Lib.hid (And.intro hk (And.intro hbd hlt))
              clear hh hbd hlt hk
              go_wp2_with fail
              clear W1 W2 W3 W4 W5 r1 r2
              go_roundg h
              case measure => have := Z.out.1; have := HHH.out; omega
              case rel => exact ⟨b + 1, h, by first | rfl | (congr 1; (first | omega | (unfold wrap64; omega))), rfl, rfl, HHH.out.1 ▸ half_step Z.out.2.2, by have := Z.out; have := HHH.out; omega, rfl⟩
            have hd0 : d = 0 := by omega
            have r1 : decide ((0 : Int) < (d : Int)) = false := by simp; omega
            have r2 : ¬ (0 : Int) < (d : Int) := by omega
            have hsb : s < 2 ^ b := by rw [hd0, Nat.zero_add, Nat.one_mul] at hlt; exact hlt
            have hpn : t.popC + t.popM ≤ 14 * b := good_popN Q.out.2.1 (Q.out.2.2.1 ▸ hsb)
            obtain ⟨P, hP⟩ : ∃ P, P = t.popC := ⟨_, rfl⟩
            obtain ⟨R, hR⟩ : ∃ R, R = t.popM := ⟨_, rfl⟩
            have Z := Lib.hid (show P = t.popC ∧ R = t.popM ∧ P + R ≤ 14 * b ∧ b ≤ 300 from ⟨hP, hR, by omega, by have := Q.out; omega⟩)
            clear hk hlt hbd hd0 h1 hsb hpn hP hR
            go_wp2_with fail
            ((with_reducible refine (mSteps mb C M _ HM39.out (by have := Q.out; omega) (by have := Q.out; have := Z.out; have := HN9.out; omega) (by have := Q.out; omega) (by have := Q.out; have := Z.out; have := HN9.out; omega)).mono ?_); rintro e w40 ⟨rfl, hb⟩)
            have HM40 := Lib.hid (HM39.out.stay hb)
            have HR40 := Lib.hid (fun W (hz : Bt (some mb) w40 W) => HR39.out W ((Bt.ofBelow hb).trans hz))
            clear HR39 HM39 
            clear hb
            clear r1 r2
            have c5 : w40.cell? ⟨bX, 0, none⟩ = some (.pointer p) := (HR40.out _ (Bt.refl _ _)).1.c0
            go_wp2_with fail
            ((with_reducible refine (min_any t p _ _ (HR40.out _ (Bt.refl _ _)).2.1).mono ?_); rintro e w41 ⟨rfl, hb⟩)
            have HM41 := Lib.hid (HM40.out.stay hb)
            have HR41 := Lib.hid (fun W (hz : Bt (some mb) w41 W) => HR40.out W ((Bt.ofBelow hb).trans hz))
            clear HR40 HM40 c5
            clear hb
            obtain ⟨⟨⟨m1, m2⟩, mq⟩, hmm⟩ : ∃ mm, t.min = mm := ⟨_, rfl⟩
            rw [show minV t = .tuple #[el (m1, m2), .bool mq] by simp only [minV, hmm]]
            clear hmm
            go_wp2_with fail
            ((with_reducible refine (mSince mb C M (C + M) _ HM41.out (by have := Q.out; have := Z.out; have := HN9.out; omega) (by have := Q.out; have := Z.out; have := HN9.out; omega) (by have := Q.out; have := Z.out; have := HN9.out; omega) (by have := Q.out; have := Z.out; have := HN9.out; omega) (by have := Q.out; have := Z.out; have := HN9.out; omega) (by have := Q.out; have := Z.out; have := HN9.out; omega)).mono ?_); rintro e w42 ⟨rfl, hb⟩)
            have HM42 := Lib.hid (HM41.out.stay hb)
            have HR42 := Lib.hid (fun W (hz : Bt (some mb) w42 W) => HR41.out W ((Bt.ofBelow hb).trans hz))
            clear HR41 HM41 
            clear hb
            have v1 : (C + M - (C + M) == 0) = true := by simp
            have v2 : C + M - (C + M) = 0 := by omega
            have c6 : w42.cell? ⟨bX, 0, none⟩ = some (.pointer p) := (HR42.out _ (Bt.refl _ _)).1.c0
            go_wp2_with fail
            clear v1 v2
            ((with_reducible refine (pop_any (some mb) C M t p _ (by have := Q.out; omega) HM42.out (by have := Q.out; omega) (by have := Q.out; have := Z.out; have := HN9.out; omega) (by have := Q.out; omega) (by have := Q.out; have := Z.out; have := HN9.out; omega) (HR42.out _ (Bt.refl _ _)).2.1).mono ?_); rintro e w43 ⟨pG, rfl, ht, hm, hb⟩)
            have HM43 := Lib.hid (show MAt w43 (some mb) (C + (P : Nat)) (M + (R : Nat)) from by rw [Z.out.1, Z.out.2.1]; exact hm)
            have HR43 := Lib.hid (on_inv (mo := (some mb)) HR42.out hb (fun W hz => ht.bt hz HM43.out))
            clear HR42 HM42 c6
            clear ht hm hb
            obtain ⟨sb, hsb⟩ : ∃ sb, sb = t.some := ⟨_, rfl⟩
            rw [← hsb]
            have hsb2 : sb = decide (0 < s) := by rw [hsb, some_pos, ← Q.out.2.2.1]
            clear hsb
            go_wp2_with fail
            have hs_bG := (HR43.out _ (Bt.refl _ _)).2.2.2.below.size
            have hl_bX := (HR43.out _ (Bt.refl _ _)).2.1.lt
            have HM44 := Lib.hid (HM43.out.alloc (.cells #[.pointer pG] 26))
            have HR44 := Lib.hid (on_inv (mo := (some mb)) HR43.out ((Bt.refl (some mb) w43).alloc (.cells #[.pointer pG] 26)) (fun W hz => (HVar.new w43 pG rfl).bt hz HM44.out))
            clear HR43 HM43 
            generalize w43.alloc (.cells #[.pointer pG] 26) = w44 at *
            obtain ⟨bG, hbG⟩ : ∃ b, b = w43.heap.size := ⟨_, rfl⟩
            rw [← hbG] at HR44 ⊢
            have B_bG := Lib.hid (show w.heap.size ≤ bG by rw [hbG]; exact hs_bG)
            have N_bX_bG := Lib.hid (show bX ≠ bG by omega)
            clear hbG hs_bG hl_bX
            ((with_reducible refine (mSince mb (C + (P : Nat)) (M + (R : Nat)) (C + M) _ HM44.out (by have := Q.out; have := Z.out; have := HN9.out; omega) (by have := Q.out; have := Z.out; have := HN9.out; omega) (by have := Q.out; have := Z.out; have := HN9.out; omega) (by have := Q.out; have := Z.out; have := HN9.out; omega) (by have := Q.out; have := Z.out; have := HN9.out; omega) (by have := Q.out; have := Z.out; have := HN9.out; omega)).mono ?_); rintro e w45 ⟨rfl, hb⟩)
            have HM45 := Lib.hid (HM44.out.stay hb)
            have HR45 := Lib.hid (fun W (hz : Bt (some mb) w45 W) => HR44.out W ((Bt.ofBelow hb).trans hz))
            clear HR44 HM44 
            clear hb
            have y1 : IntKind.i64.wrap (14 * (b : Int)) = 14 * (b : Int) := by rw [IntKind.wrap_i64]; have := Z.out; omega
            have y2 : wrap64 (14 * (b : Int)) = 14 * (b : Int) := by unfold wrap64; have := Z.out; omega
            have v4 : decide (14 * (b : Int) < C + (P : Nat) + (M + (R : Nat)) - (C + M)) = false := by simp; have := Z.out; omega
            have v5 : ¬ 14 * (b : Int) < C + (P : Nat) + (M + (R : Nat)) - (C + M) := by have := Z.out; omega
            have c7 : w45.cell? ⟨bX, 0, none⟩ = some (.pointer p) := (HR45.out _ (Bt.refl _ _)).2.2.1.c0
            go_wp2_with fail
            ((with_reducible refine (size_any t p _ (HR45.out _ (Bt.refl _ _)).2.2.2.1).mono ?_); rintro e w46 ⟨rfl, hb⟩)
            have HM46 := Lib.hid (HM45.out.stay hb)
            have HR46 := Lib.hid (fun W (hz : Bt (some mb) w46 W) => HR45.out W ((Bt.ofBelow hb).trans hz))
            clear HR45 HM45 c7
            clear hb
            rw [← Q.out.2.2.1]
            clear y1 y2 v4 v5
            by_cases hs0 : 0 < s
            · have v1 : decide ((0 : Int) < (s : Int)) = true := by simp; omega
              have v2 : (0 : Int) < (s : Int) := by omega
              have v3 : sb = true := by rw [hsb2]; simp; omega
              subst v3
              clear hsb2
              have pv := (HR46.out _ (Bt.refl _ _)).2.2.1
              have pc := pv.c0
              have pz := pv.z0
              have PV := Lib.hid pv
              clear pv
              have c8 : w46.cell? ⟨bG, 0, none⟩ = some (.pointer pG) := (HR46.out _ (Bt.refl _ _)).1.c0
              go_wp2_with fail
              clear v1 v2
              have HM47 := Lib.hid (HM46.out.set PV.out (.pointer pG))
              have HR47 := Lib.hid (fun W (hz : Bt (some mb) (w46.setCell ⟨bX, 0, none⟩ (.pointer pG)) W) => And.intro ((((HR46.out _ (Bt.refl _ _)).2.1.set PV.out (.pointer pG))).bt hz HM47.out) ( And.intro (((PV.out.put pG)).bt hz HM47.out) ((((HR46.out _ (Bt.refl _ _)).2.2.2.2.set HE.out B_bX.out 0 (.pointer pG))).bt HE.out hz (fun b e => by cases e; exact B_mb.out))))
              clear HR46 HM46 PV pc pz c8
              generalize w46.setCell ⟨bX, 0, none⟩ (.pointer pG) = w47 at *
              go_roundg (N - 1 - j)
              case measure => have := Q.out; omega
              case rel => exact ⟨j + 1, t.pop, pG, C + (P : Nat), M + (R : Nat), by first | rfl | (congr 1; have := Q.out; have := HN9.out; first | omega | (unfold wrap64; omega)), by have := Q.out; omega, good_pop Q.out.2.1, by rw [pop_size Q.out.2.1.ok]; have := Q.out; omega, by have := Q.out; omega, by have := Q.out; have := Z.out; omega, by have := Q.out; omega, by have := Q.out; have := Z.out; omega, (HR47.out _ (Bt.refl _ _)).2.1, (HR47.out _ (Bt.refl _ _)).1, HM47.out, (HR47.out _ (Bt.refl _ _)).2.2⟩
            · have v1 : decide ((0 : Int) < (s : Int)) = false := by simp; omega
              have v2 : ¬ (0 : Int) < (s : Int) := by omega
              have v3 : sb = false := by rw [hsb2]; simp; omega
              subst v3
              clear hsb2
              have pv := (HR46.out _ (Bt.refl _ _)).2.2.1
              have pc := pv.c0
              have pz := pv.z0
              have PV := Lib.hid pv
              clear pv
              have c8 : w46.cell? ⟨bG, 0, none⟩ = some (.pointer pG) := (HR46.out _ (Bt.refl _ _)).1.c0
              go_wp2_with fail
              clear v1 v2
              have HM47 := Lib.hid (HM46.out.set PV.out (.pointer pG))
              have HR47 := Lib.hid (fun W (hz : Bt (some mb) (w46.setCell ⟨bX, 0, none⟩ (.pointer pG)) W) => And.intro ((((HR46.out _ (Bt.refl _ _)).2.1.set PV.out (.pointer pG))).bt hz HM47.out) ( And.intro (((PV.out.put pG)).bt hz HM47.out) ((((HR46.out _ (Bt.refl _ _)).2.2.2.2.set HE.out B_bX.out 0 (.pointer pG))).bt HE.out hz (fun b e => by cases e; exact B_mb.out))))
              clear HR46 HM46 PV pc pz c8
              generalize w46.setCell ⟨bX, 0, none⟩ (.pointer pG) = w47 at *
              go_roundg (N - 1 - j)
              case measure => have := Q.out; omega
              case rel => exact ⟨j + 1, t.pop, pG, C + (P : Nat), M + (R : Nat), by first | rfl | (congr 1; have := Q.out; have := HN9.out; first | omega | (unfold wrap64; omega)), by have := Q.out; omega, good_pop Q.out.2.1, by rw [pop_size Q.out.2.1.ok]; have := Q.out; omega, by have := Q.out; omega, by have := Q.out; have := Z.out; omega, by have := Q.out; omega, by have := Q.out; have := Z.out; omega, (HR47.out _ (Bt.refl _ _)).2.1, (HR47.out _ (Bt.refl _ _)).1, HM47.out, (HR47.out _ (Bt.refl _ _)).2.2⟩
        · have q1 : ¬ (j : Int) < (N : Int) := by omega
          have q3 : decide ((j : Int) < (N : Int)) = false := by simp; omega
          have HBB := Lib.hid hB.below
          clear hv ht hM hB hj hgd hsz hc1 hc2 hc3 hc4 hlt
          go_wp2_with fail
          go_ret
          exact ⟨rfl, HBB.out⟩

end Go.Proofs.YtlmokendajgbdaaDoor.Bo
