/-
  The walk of the statement BootFolds: for any row it returns true, and nothing that was there has changed, in any world where the library's table is as it is laid.
-/
import Derived.Test.YtlmokendajgbdaaGreatDoorWb6
import Derived.Test.YtlmokendajgbdaaGreatDoorWwake
import Derived.Test.YtlmokendajgbdaaGreatDoorWof
namespace Go.Proofs.YtlmokendajgbdaaGreatDoor.Bo
open Go.Sort Go.RowKit

set_option maxRecDepth 100000 in
set_option maxHeartbeats 4000000 in
theorem folds_any (A : Option Addr) (xs : List (Int × Int)) (c : Nat) (w : World) (he : Env w) (hr1 : Row w A xs) (hf : fits xs) :
    Calls Tryz.prog 11 #[.slice A xs.length c] w fun e w' => e = .returned (.bool true) ∧ Below w.heap.size w w' := by
  obtain ⟨n, hn⟩ : ∃ n, n = xs.length := ⟨_, rfl⟩
  rw [← hn]
  have HN := Lib.hid hn
  have HRW := Lib.hid (And.intro hr1 hf)
  clear hn hr1 hf
  have HE := Lib.hid he
  have HM0 := Lib.hid (show MAt w (none : Option Nat) 0 0 from trivial)
  have HR0 := Lib.hid (fun W (hb : Bt none w W) => Bas.bt (Bas.first he) he hb (fun _ e => by cases e))
  clear he
  go_enter Tryz.func11, Tryz.ntmps11
  go_wp2_with fail
  ((with_reducible refine (awake_any _ HE.out).mono ?_); rintro e w1 ⟨rfl, hb⟩)
  have HM1 := Lib.hid (show MAt w1 (none : Option Nat) 0 0 from trivial)
  have HR1 := Lib.hid (fun W (hz : Bt none w1 W) => HR0.out W ((Bt.ofBelow hb).trans hz))
  clear HR0 HM0 
  clear hb
  by_cases hb0 : 60 < n
  · have qa : decide ((60 : Int) < (n : Int)) = true := by simp; omega
    have qb : (60 : Int) < (n : Int) := by omega
    go_wp2_with fail
    go_ret
    exact ⟨rfl, (HR1.out _ (Bt.refl _ _)).below⟩
  have qa0 : decide ((60 : Int) < (n : Int)) = false := by simp; omega
  have qb0 : ¬ (60 : Int) < (n : Int) := by omega
  go_wp2_with fail
  clear qa0 qb0
  have HS := Lib.hid (And.intro (Nat.le_of_not_lt hb0) (trivial))
  clear hb0
  have hX : (ofL xs).size = n := by rw [ofL_size, HN.out]
  have hP := put_le xs .nil
  have HX := Lib.hid (And.intro hX hP)
  clear hX hP
  ((with_reducible refine (mNew _).mono ?_); rintro e w2 ⟨rfl, hm, hb⟩)
  obtain ⟨mm, hmb⟩ : ∃ b, b = w1.heap.size := ⟨_, rfl⟩
  rw [← hmb] at hm ⊢
  have B_mm := Lib.hid (show w.heap.size ≤ mm by rw [hmb]; exact (HR1.out _ (Bt.refl _ _)).below.size)
  clear hmb
  have HM2 := Lib.hid hm
  have HR2 := Lib.hid (fun W (hz : Bt (some mm) w2 W) => ((HR1.out _ (Bt.ofBelow hb))).bt HE.out hz (fun b e => by cases e; exact B_mm.out))
  clear HR1 HM1 hm hb 
  go_wp2_with fail
  ((with_reducible refine (mNew _).mono ?_); rintro e w3 ⟨rfl, hm, hb⟩)
  obtain ⟨kb, hkb⟩ : ∃ b, b = w2.heap.size := ⟨_, rfl⟩
  rw [← hkb] at hm ⊢
  have NMK := Lib.hid (show mm ≠ kb by have := HM2.out.lt; omega)
  have B_kb := Lib.hid (show w.heap.size ≤ kb by rw [hkb]; exact (HR2.out _ (Bt.refl _ _)).below.size)
  clear hkb
  have HM3 := Lib.hid (HM2.out.stay hb)
  have HR3 := Lib.hid (on_inv (mo := (some mm)) HR2.out (Bt.ofBelow hb) (fun W hz => MAt.bt2 hm hz NMK.out.symm))
  clear HR2 HM2 
  clear hm hb
  go_wp2_with fail
  obtain ⟨P, hP⟩ : ∃ P, P = putC .nil xs := ⟨_, rfl⟩
  obtain ⟨R, hR⟩ : ∃ R, R = putM .nil xs := ⟨_, rfl⟩
  ((with_reducible refine (ofMeter mm 0 0 A xs n c w _ HRW.out.1 HN.out (by have := HS.out; omega) (HR3.out _ (Bt.refl _ _)).2.below B_mm.out HM3.out (by decide) (by decide) (by decide) (by decide)).mono ?_); rintro e w4 ⟨pX, rfl, ht, hm, hb⟩)
  have HM4 := Lib.hid (show MAt w4 (some mm) (P : Int) (R : Int) from by rw [hP, hR]; simpa using hm)
  have HR4 := Lib.hid (on_inv (mo := (some mm)) HR3.out hb (fun W hz => ht.bt hz HM4.out))
  clear HR3 HM3 
  have HP := Lib.hid (show P = putC .nil xs ∧ R = putM .nil xs ∧ P ≤ 240 ∧ R ≤ 240 from ⟨hP, hR, by have := HX.out; have := HN.out; have := HS.out; omega, by have := HX.out; have := HN.out; have := HS.out; omega⟩)
  clear ht hb hm hP hR
  go_wp2_with fail
  have hs_bX := (HR4.out _ (Bt.refl _ _)).2.2.below.size
  have HM5 := Lib.hid (((HM4.out.alloc (.cells #[.pointer pX] 29)).alloc (.cells #[.pointer none] 29)).alloc (.cells #[.pointer none] 29))
  have hvs := three_vars w4 pX none none
  have HR5 := Lib.hid (fun W (hz : Bt (some mm) (((w4.alloc (.cells #[.pointer pX] 29)).alloc (.cells #[.pointer none] 29)).alloc (.cells #[.pointer none] 29)) W) => And.intro ((hvs.1).bt hz HM5.out) ( And.intro ((hvs.2.1).bt hz HM5.out) ( And.intro ((hvs.2.2).bt hz HM5.out) (HR4.out W (((((Bt.refl (some mm) w4).alloc (.cells #[.pointer pX] 29)).alloc (.cells #[.pointer none] 29)).alloc (.cells #[.pointer none] 29)).trans hz)))))
  clear HR4 HM4 hvs 
  generalize ((w4.alloc (.cells #[.pointer pX] 29)).alloc (.cells #[.pointer none] 29)).alloc (.cells #[.pointer none] 29) = w5 at *
  obtain ⟨bX, h0⟩ : ∃ b, b = w4.heap.size := ⟨_, rfl⟩
  rw [← h0] at HR5 ⊢
  obtain ⟨bG, h1⟩ : ∃ b, b = bX + 1 := ⟨_, rfl⟩
  rw [← h1] at HR5 ⊢
  obtain ⟨bO, h2⟩ : ∃ b, b = bG + 1 := ⟨_, rfl⟩
  rw [← h2] at HR5 ⊢
  have B_bX := Lib.hid (show w.heap.size ≤ bX by omega)
  have N_bX_bG := Lib.hid (show bX ≠ bG by omega)
  have N_bX_bO := Lib.hid (show bX ≠ bO by omega)
  have B_bG := Lib.hid (show w.heap.size ≤ bG by omega)
  have N_bG_bO := Lib.hid (show bG ≠ bO by omega)
  have B_bO := Lib.hid (show w.heap.size ≤ bO by omega)
  clear hs_bX h0 h1 h2
  have HM6 := Lib.hid (HR5.out _ (Bt.refl _ _)).2.2.2.2.1
  have HR6 := Lib.hid (fun W (hz : Bt (some kb) w5 W) => And.intro (MAt.bt2 HM5.out hz NMK.out) ( And.intro (((HR5.out _ (Bt.refl _ _)).1).bt hz HM6.out) ( And.intro (((HR5.out _ (Bt.refl _ _)).2.1).bt hz HM6.out) ( And.intro (((HR5.out _ (Bt.refl _ _)).2.2.1).bt hz HM6.out) ( And.intro (((HR5.out _ (Bt.refl _ _)).2.2.2.1).bt hz HM6.out) (((HR5.out _ (Bt.refl _ _)).2.2.2.2.2).bt HE.out hz (fun b e => by cases e; exact B_kb.out)))))))
  clear HR5 HM5
  go_loopg [9] n (fun k i wr => ∃ (j : Nat) (o : Lh) (pg po : Option Addr), i = .int .i64 (j : Int) ∧ j + k = n ∧ HVar wr bX pX ∧ HVar wr bG pg ∧ HVar wr bO po ∧ LAt wr (ofL xs) pX ∧ LAt wr (ofL (xs.take j)) pg ∧ LAt wr o po ∧ o.ok ∧ o.all.Perm (xs.take j) ∧ MAt wr (some mm) (P : Int) (R : Int) ∧ MAt wr (some kb) ((putC .nil (xs.take j) : Nat) : Int) ((putM .nil (xs.take j) : Nat) : Int) ∧ Bas w wr)
  case atStart => exact ⟨0, .nil, none, none, rfl, by omega, (HR6.out _ (Bt.refl _ _)).2.1, (HR6.out _ (Bt.refl _ _)).2.2.1, (HR6.out _ (Bt.refl _ _)).2.2.2.1, (HR6.out _ (Bt.refl _ _)).2.2.2.2.1, LAt.none _, LAt.none _, ok_nil, List.Perm.refl _, (HR6.out _ (Bt.refl _ _)).1, HM6.out, (HR6.out _ (Bt.refl _ _)).2.2.2.2.2⟩
  case round =>
    clear HR6 HM6
    obtain ⟨j, o, pg, po, rfl, hj, h1, h2, h3, h4, h5, h6, hok, hpm, hM, hK, hB⟩ := hrel
    by_cases hlt : j < n
    · have hjx : j < xs.length := by rw [← HN.out]; exact hlt
      have hP1 : putC .nil (xs.take j) ≤ 240 ∧ putM .nil (xs.take j) ≤ 240 := by have h9 := put_le (xs.take j) .nil; rw [List.length_take] at h9; have := HS.out; omega
      have HM7 := Lib.hid (hK)
      have HR7 := Lib.hid (fun W (hz : Bt (some kb) wr W) => And.intro ((h1).bt hz HM7.out) ( And.intro ((h2).bt hz HM7.out) ( And.intro ((h3).bt hz HM7.out) ( And.intro ((h4).bt hz HM7.out) ( And.intro ((h5).bt hz HM7.out) ( And.intro ((h6).bt hz HM7.out) ( And.intro (MAt.bt2 hM hz NMK.out) ((hB).bt HE.out hz (fun b e => by cases e; exact B_kb.out)))))))))
      have hG : (ofL (xs.take j)).size = j := by rw [ofL_size, List.length_take]; omega
      have hO : o.size = j := by rw [← Lh.all_length, hpm.length_eq, List.length_take]; omega
      have eP := put_take xs j hjx
      have eO := ofL_take xs j hjx
      have eT : xs.take (j + 1) = xs.take j ++ [xs[j]] := List.take_succ_eq_append_getElem hjx
      obtain ⟨b, ob, rfl, hc⟩ := HRW.out.1 (by omega)
      have hx := row_at hc j hjx
      have HXC := Lib.hid (fun W (hz : Below w.heap.size w W) => And.intro ((hz.cell (block_lt_of_cell hx.1)).trans hx.1) ((hz.cell (block_lt_of_cell hx.2)).trans hx.2))
      have HBL := Lib.hid (show b < w.heap.size from block_lt_of_cell hx.1)
      clear hx hc
      generalize xs[j] = x at *
      obtain ⟨y1, y2⟩ := x
      have Q := Lib.hid (And.intro hj (And.intro hok (And.intro hpm (And.intro hG (And.intro hO (And.intro eP (And.intro eO (And.intro eT hP1))))))))
      have q1 : (j : Int) < (n : Int) := by omega
      have q3 : decide ((j : Int) < (n : Int)) = true := by simp; omega
      have q2 : (0 : Int) ≤ (j : Int) := by omega
      clear h1 h2 h3 h4 h5 h6 hM hK hB hj hok hpm hG hO eP eO eT hP1 hjx
      have c1 : wr.cell? ⟨bG, 0, none⟩ = some (.pointer pg) := (HR7.out _ (Bt.refl _ _)).2.1.c0
      have x0 := (HXC.out _ (HR7.out _ (Bt.refl _ _)).2.2.2.2.2.2.2.below).1
      have x1 := (HXC.out _ (HR7.out _ (Bt.refl _ _)).2.2.2.2.2.2.2.below).2
      have n1 : ¬ b = bG := by have := B_bG.out; have := HBL.out; omega
      have n2 : ¬ bG = b := by have := B_bG.out; have := HBL.out; omega
      have n3 : ¬ b = bO := by have := B_bO.out; have := HBL.out; omega
      have n4 : ¬ bO = b := by have := B_bO.out; have := HBL.out; omega
      go_wp2_with fail
      go_region_with (go_at_call 17; ((with_reducible refine (insert_any (some kb) _ _ (ofL (xs.take j)) (y1, y2) pg _ (by have := Q.out; have := HS.out; omega) HM7.out.drew (by omega) (by have := Q.out; omega) (by omega) (by have := Q.out; have := HS.out; omega) (HR7.out _ ((Bt.refl _ _).drew)).2.2.2.2.1).mono ?_); rintro e w8 ⟨p2, rfl, ht, hm, hb⟩); have HM8 := Lib.hid hm; have HR8 := Lib.hid (on_inv (mo := (some kb)) HR7.out (((Bt.refl (some kb) wr).drew).trans hb) (fun W hz => ht.bt hz HM8.out)); have pv := (HR8.out _ (Bt.refl _ _)).2.2.1; have pc := pv.c0; have pz := pv.z0; have PV := Lib.hid pv; have y0 := (HXC.out _ (HR8.out _ (Bt.refl _ _)).2.2.2.2.2.2.2.2.below).1; have y9 := (HXC.out _ (HR8.out _ (Bt.refl _ _)).2.2.2.2.2.2.2.2.below).2; clear ht hm hb pv)
      all_goals
        have HM9 := Lib.hid (HM8.out.set PV.out (.pointer p2))
        have HR9 := Lib.hid (fun W (hz : Bt (some kb) (w8.setCell ⟨bG, 0, none⟩ (.pointer p2)) W) => And.intro ((((HR8.out _ (Bt.refl _ _)).1.set PV.out (.pointer p2))).bt hz HM9.out) ( And.intro ((((HR8.out _ (Bt.refl _ _)).2.1.set N_bX_bG.out 0 (.pointer p2))).bt hz HM9.out) ( And.intro (((PV.out.put p2)).bt hz HM9.out) ( And.intro ((((HR8.out _ (Bt.refl _ _)).2.2.2.1.set N_bG_bO.out.symm 0 (.pointer p2))).bt hz HM9.out) ( And.intro ((((HR8.out _ (Bt.refl _ _)).2.2.2.2.1.set PV.out (.pointer p2))).bt hz HM9.out) ( And.intro ((((HR8.out _ (Bt.refl _ _)).2.2.2.2.2.2.1.set PV.out (.pointer p2))).bt hz HM9.out) ( And.intro (MAt.bt2 (MAt.set (HR8.out _ (Bt.refl _ _)).2.2.2.2.2.2.2.1 PV.out (.pointer p2)) hz NMK.out) ((((HR8.out _ (Bt.refl _ _)).2.2.2.2.2.2.2.2.set HE.out B_bG.out 0 (.pointer p2))).bt HE.out hz (fun b e => by cases e; exact B_kb.out)))))))))
        clear HR8 HM8 PV pc pz c1 x0 x1 y0 y9 HR7 HM7
        generalize w8.setCell ⟨bG, 0, none⟩ (.pointer p2) = w9 at *
        have c2 : w9.cell? ⟨bO, 0, none⟩ = some (.pointer po) := (HR9.out _ (Bt.refl _ _)).2.2.2.1.c0
        have c3 : (w9.alloc (.cells #[.int .i64 y1, .int .i64 y2] 32)).cell? ⟨bO, 0, none⟩ = some (.pointer po) := (HR9.out _ ((Bt.refl _ _).alloc _)).2.2.2.1.c0
        have x0 := (HXC.out _ (HR9.out _ (Bt.refl _ _)).2.2.2.2.2.2.2.below).1
        have x1 := (HXC.out _ (HR9.out _ (Bt.refl _ _)).2.2.2.2.2.2.2.below).2
        go_wp2_with fail
        go_region_with (first | (go_at_call 19; ((with_reducible refine (meldNm o (.one (y1, y2)) po pn _ (HR10.out _ (Bt.refl _ _)).2.2.2.2.2.2.1 (HR10.out _ (Bt.refl _ _)).1 (by rw [one_size]; have := Q.out; have := HS.out; omega)).mono ?_); rintro e w11 ⟨p3, rfl, ht, hb⟩); have HM11 := Lib.hid (HM10.out.stay hb); have HR11 := Lib.hid (on_inv (mo := (some kb)) HR10.out (Bt.ofBelow hb) (fun W hz => ht.bt hz HM11.out)); have pv := (HR11.out _ (Bt.refl _ _)).2.2.2.2.2.1; have pc := pv.c0; have pz := pv.z0; have PV := Lib.hid pv; have y0 := (HXC.out _ (HR11.out _ (Bt.refl _ _)).2.2.2.2.2.2.2.2.2.below).1; have y9 := (HXC.out _ (HR11.out _ (Bt.refl _ _)).2.2.2.2.2.2.2.2.2.below).2; clear ht hb pv) | (go_at_call 23; ((with_reducible refine (ofOneD y1 y2 _).mono ?_); rintro e w10 ⟨pn, rfl, ht, hb⟩); have HM10 := Lib.hid (HM9.out.stay hb); have HR10 := Lib.hid (on_inv (mo := (some kb)) HR9.out (Bt.ofBelow hb) (fun W hz => ht.bt hz HM10.out)); have z0 := (HXC.out _ (HR10.out _ (Bt.refl _ _)).2.2.2.2.2.2.2.2.below).1; have z1 := (HXC.out _ (HR10.out _ (Bt.refl _ _)).2.2.2.2.2.2.2.2.below).2; have z2 := (HR10.out _ (Bt.refl _ _)).2.2.2.2.1.c0; clear ht hb))
        all_goals
          have HM12 := Lib.hid (HM11.out.set PV.out (.pointer p3))
          have HR12 := Lib.hid (fun W (hz : Bt (some kb) (w11.setCell ⟨bO, 0, none⟩ (.pointer p3)) W) => And.intro ((((HR11.out _ (Bt.refl _ _)).1.set PV.out (.pointer p3))).bt hz HM12.out) ( And.intro ((((HR11.out _ (Bt.refl _ _)).2.2.1.set PV.out (.pointer p3))).bt hz HM12.out) ( And.intro ((((HR11.out _ (Bt.refl _ _)).2.2.2.1.set N_bX_bO.out 0 (.pointer p3))).bt hz HM12.out) ( And.intro ((((HR11.out _ (Bt.refl _ _)).2.2.2.2.1.set N_bG_bO.out 0 (.pointer p3))).bt hz HM12.out) ( And.intro (((PV.out.put p3)).bt hz HM12.out) ( And.intro ((((HR11.out _ (Bt.refl _ _)).2.2.2.2.2.2.1.set PV.out (.pointer p3))).bt hz HM12.out) ( And.intro (MAt.bt2 (MAt.set (HR11.out _ (Bt.refl _ _)).2.2.2.2.2.2.2.2.1 PV.out (.pointer p3)) hz NMK.out) ((((HR11.out _ (Bt.refl _ _)).2.2.2.2.2.2.2.2.2.set HE.out B_bO.out 0 (.pointer p3))).bt HE.out hz (fun b e => by cases e; exact B_kb.out)))))))))
          clear HR11 HM11 PV pc pz c2 c3 x0 x1 y0 y9 z0 z1 z2 HR9 HM9 HR10 HM10
          generalize w11.setCell ⟨bO, 0, none⟩ (.pointer p3) = w12 at *
          have hcnt : MAt w12 (some kb) ((putC .nil (xs.take (j + 1)) : Nat) : Int) ((putM .nil (xs.take (j + 1)) : Nat) : Int) := by
            have hz := HM12.out
            rw [Q.out.2.2.2.2.2.1.1, Q.out.2.2.2.2.2.1.2, Int.natCast_add, Int.natCast_add]
            exact hz
          have HCNT := Lib.hid hcnt
          clear hcnt
          go_wp2_with fail
          go_roundg (n - 1 - j)
          case measure => have := Q.out.1; omega
          case rel => exact ⟨j + 1, meld o (.one (y1, y2)), p2, p3, by first | rfl | (congr 1; unfold wrap64; have := HS.out; have := Q.out.1; omega), by have := Q.out.1; omega, (HR12.out _ (Bt.refl _ _)).2.2.1, (HR12.out _ (Bt.refl _ _)).2.2.2.1, (HR12.out _ (Bt.refl _ _)).2.2.2.2.1, (HR12.out _ (Bt.refl _ _)).2.2.2.2.2.1, Q.out.2.2.2.2.2.2.1 ▸ (HR12.out _ (Bt.refl _ _)).2.1, (HR12.out _ (Bt.refl _ _)).1, meld_ok _ _ Q.out.2.1 (one_ok _), Q.out.2.2.2.2.2.2.2.1 ▸ ((meld_all _ _).trans (one_all (y1, y2) ▸ (Q.out.2.2.1.append_right [(y1, y2)]))), (HR12.out _ (Bt.refl _ _)).2.2.2.2.2.2.1, HCNT.out, (HR12.out _ (Bt.refl _ _)).2.2.2.2.2.2.2⟩
    · have hjn : j = n := by omega
      have ht : xs.take j = xs := by rw [hjn, HN.out, List.take_length]
      rw [ht] at h5 hpm
      rw [ht, ← HP.out.1, ← HP.out.2.1] at hK
      have hon : o.size = n := by rw [← Lh.all_length, hpm.length_eq, HN.out]
      have HM23 := Lib.hid (hK)
      have HR23 := Lib.hid (fun W (hz : Bt (some kb) wr W) => And.intro ((h1).bt hz HM23.out) ( And.intro ((h2).bt hz HM23.out) ( And.intro ((h3).bt hz HM23.out) ( And.intro ((h4).bt hz HM23.out) ( And.intro ((h5).bt hz HM23.out) ( And.intro ((h6).bt hz HM23.out) ( And.intro (MAt.bt2 hM hz NMK.out) ((hB).bt HE.out hz (fun b e => by cases e; exact B_kb.out)))))))))
      have q1 : ¬ (j : Int) < (n : Int) := by omega
      have q3 : decide ((j : Int) < (n : Int)) = false := by simp; omega
      have HT := Lib.hid (And.intro hok (And.intro (srt_perm hpm) hon))
      clear h1 h2 h3 h4 h5 h6 hM hK hB hj hok hpm ht hjn hlt hon
      go_wp2_with fail
      clear q1 q3
      have s23_0 := (HR23.out _ (Bt.refl _ _)).2.1.c0
      have s23_1 := (HR23.out _ (Bt.refl _ _)).1.c0
      have s23_2 := (HR23.out _ (Bt.refl _ _)).2.2.1.c0
      go_region_held3 (fun w' => w'.cell? ⟨bG, 0, none⟩ = some (.pointer pg) ∧ w'.cell? ⟨bX, 0, none⟩ = some (.pointer pX) ∧ w'.cell? ⟨bO, 0, none⟩ = some (.pointer po)) (go_keep)
        (first | (go_at_call 33; ((with_reducible refine (sameIs vs vp _ _ _ (HR30.out _ (Bt.refl _ _)).2.1 (HR30.out _ (Bt.refl _ _)).1 (by rw [srt_length, Lh.all_length]; have := HT.out; have := HS.out; omega) HT.out.2.1).mono ?_); rintro e w31 ⟨rfl, hb⟩); have HM31 := Lib.hid (HM30.out.stay hb); have HR31 := Lib.hid (fun W (hz : Bt (some kb) w31 W) => HR30.out W ((Bt.ofBelow hb).trans hz)); have s31_0 := (HR31.out _ (Bt.refl _ _)).2.2.2.1.c0; have s31_1 := (HR31.out _ (Bt.refl _ _)).2.2.1.c0; have s31_2 := (HR31.out _ (Bt.refl _ _)).2.2.2.2.1.c0; clear hb) | (go_at_call 27; ((with_reducible refine (show_any (ofL xs) pg _ (HR23.out _ ((Bt.refl _ _).drew)).2.2.2.2.2.2.2.env (HR23.out _ ((Bt.refl _ _).drew)).2.2.2.2.1 (good_of HRW.out.2).fit (by rw [ofL_size, ← HN.out]; have := HS.out; omega)).mono ?_); rintro e w24 ⟨rfl, hb⟩); have HM24 := Lib.hid (HM23.out.drew.stay hb); have HR24 := Lib.hid (fun W (hz : Bt (some kb) w24 W) => HR23.out W ((((Bt.refl (some kb) wr).drew).trans (Bt.ofBelow hb)).trans hz)); have s24_0 := (HR24.out _ (Bt.refl _ _)).2.1.c0; have s24_1 := (HR24.out _ (Bt.refl _ _)).1.c0; have s24_2 := (HR24.out _ (Bt.refl _ _)).2.2.1.c0; clear hb) | (go_at_call 27; ((with_reducible refine (show_any (ofL xs) pX _ (HR24.out _ (Bt.refl _ _)).2.2.2.2.2.2.2.env (HR24.out _ (Bt.refl _ _)).2.2.2.1 (good_of HRW.out.2).fit (by rw [ofL_size, ← HN.out]; have := HS.out; omega)).mono ?_); rintro e w25 ⟨rfl, hb⟩); have HM25 := Lib.hid (HM24.out.stay hb); have HR25 := Lib.hid (fun W (hz : Bt (some kb) w25 W) => HR24.out W ((Bt.ofBelow hb).trans hz)); have s25_0 := (HR25.out _ (Bt.refl _ _)).2.1.c0; have s25_1 := (HR25.out _ (Bt.refl _ _)).1.c0; have s25_2 := (HR25.out _ (Bt.refl _ _)).2.2.1.c0; clear hb) | (go_at_call 24; ((with_reducible refine (mSteps mm (P : Int) (R : Int) _ (HR25.out _ (Bt.refl _ _)).2.2.2.2.2.2.1 (by omega) (by have := HP.out; omega) (by omega) (by have := HP.out; have := HS.out; omega)).mono ?_); rintro e w26 ⟨rfl, hb⟩); have HM26 := Lib.hid (HM25.out.stay hb); have HR26 := Lib.hid (fun W (hz : Bt (some kb) w26 W) => HR25.out W ((Bt.ofBelow hb).trans hz)); have s26_0 := (HR26.out _ (Bt.refl _ _)).2.1.c0; have s26_1 := (HR26.out _ (Bt.refl _ _)).1.c0; have s26_2 := (HR26.out _ (Bt.refl _ _)).2.2.1.c0; clear hb) | (go_at_call 24; ((with_reducible refine (mSteps kb (P : Int) (R : Int) _ (HM26.out) (by omega) (by have := HP.out; omega) (by omega) (by have := HP.out; have := HS.out; omega)).mono ?_); rintro e w27 ⟨rfl, hb⟩); have HM27 := Lib.hid (HM26.out.stay hb); have HR27 := Lib.hid (fun W (hz : Bt (some kb) w27 W) => HR26.out W ((Bt.ofBelow hb).trans hz)); have s27_0 := (HR27.out _ (Bt.refl _ _)).2.1.c0; have s27_1 := (HR27.out _ (Bt.refl _ _)).1.c0; have s27_2 := (HR27.out _ (Bt.refl _ _)).2.2.1.c0; clear hb) | (go_at_call 29; ((with_reducible refine (size_any o po _ (HR27.out _ (Bt.refl _ _)).2.2.2.2.2.1).mono ?_); rintro e w28 ⟨rfl, hb⟩); rw [HT.out.2.2]; have HM28 := Lib.hid (HM27.out.stay hb); have HR28 := Lib.hid (fun W (hz : Bt (some kb) w28 W) => HR27.out W ((Bt.ofBelow hb).trans hz)); have s28_0 := (HR28.out _ (Bt.refl _ _)).2.1.c0; have s28_1 := (HR28.out _ (Bt.refl _ _)).1.c0; have s28_2 := (HR28.out _ (Bt.refl _ _)).2.2.1.c0; clear hb) | (go_at_call 32; ((with_reducible refine (drainRw o po 200 _ (HR28.out _ (Bt.refl _ _)).2.2.2.2.2.1 HT.out.1 (by have := HT.out; have := HS.out; omega) (by decide) (by have := HT.out; have := HS.out; omega)).mono ?_); rintro e w29 ⟨vs, rfl, ht, hb⟩); have HM29 := Lib.hid (HM28.out.stay hb); have HR29 := Lib.hid (on_inv (mo := (some kb)) HR28.out (Bt.ofBelow hb) (fun W hz => ht.bt hz HM29.out)); have s29_0 := (HR29.out _ (Bt.refl _ _)).2.2.1.c0; have s29_1 := (HR29.out _ (Bt.refl _ _)).2.1.c0; have s29_2 := (HR29.out _ (Bt.refl _ _)).2.2.2.1.c0; clear hb ht) | (go_at_call 31; ((with_reducible refine (sortRow A xs n c w _ HRW.out.1 HN.out (by have := HS.out; omega) (HR29.out _ (Bt.refl _ _)).2.2.2.2.2.2.2.2.below).mono ?_); rintro e w30 ⟨vp, rfl, ht, hb⟩); have HM30 := Lib.hid (HM29.out.stay hb); have HR30 := Lib.hid (on_inv (mo := (some kb)) HR29.out (Bt.ofBelow hb) (fun W hz => ht.bt hz HM30.out)); have s30_0 := (HR30.out _ (Bt.refl _ _)).2.2.2.1.c0; have s30_1 := (HR30.out _ (Bt.refl _ _)).2.2.1.c0; have s30_2 := (HR30.out _ (Bt.refl _ _)).2.2.2.2.1.c0; clear hb ht))
      clear s23_0 s23_1 s23_2 s24_0 s24_1 s24_2 s25_0 s25_1 s25_2 s26_0 s26_1 s26_2 s27_0 s27_1 s27_2 s28_0 s28_1 s28_2 s29_0 s29_1 s29_2 s30_0 s30_1 s30_2 s31_0 s31_1 s31_2 HR23 HM23 HR24 HM24 HR25 HM25 HR26 HM26 HR27 HM27 HR28 HM28 HR29 HM29 HR30 HM30
      go_wp2_with fail
      go_ret
      exact ⟨rfl, (HR31.out _ (Bt.refl _ _)).2.2.2.2.2.2.2.2.2.below⟩

end Go.Proofs.YtlmokendajgbdaaGreatDoor.Bo
