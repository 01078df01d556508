/-
  The walk of the statement BootDoubles: for any row and any byte it returns true, and nothing that was there has changed, in any world where the library's table is as it is laid.
-/
import Derived.Test.YtlmokendajgbdaaGreatDoorWwake
import Derived.Deep.LoopGhost
namespace Go.Proofs.YtlmokendajgbdaaGreatDoor.Bo
open Go.Sort Go.RowKit

set_option maxRecDepth 100000 in
set_option maxHeartbeats 4000000 in
theorem doubles_any (A : Option Addr) (xs : List (Int × Int)) (c : Nat) (k0 : Nat) (w : World) (he : Env w) (hr1 : Row w A xs) (hk0 : k0 < 256) :
    Calls Tryz.prog 9 #[.slice A xs.length c, .int .u8 (k0 : Int)] w fun e w' => e = .returned (.bool true) ∧ Below w.heap.size w w' := by
  obtain ⟨n, hn⟩ : ∃ k, k = xs.length := ⟨_, rfl⟩
  rw [← hn]
  have HN := Lib.hid hn
  have HRW := Lib.hid hr1
  clear hn hr1
  have HE := Lib.hid he
  have HM0 := Lib.hid (show MAt w (none : Option Nat) 0 0 from trivial)
  have HR0 := Lib.hid (fun W (hb : Bt none w W) => Bas.bt (Bas.first he) he hb (fun _ e => by cases e))
  clear he
  go_enter Tryz.func9, Tryz.ntmps9
  go_wp2_with fail
  ((with_reducible refine (awake_any _ HE.out).mono ?_); rintro e w1 ⟨rfl, hb⟩)
  have HM1 := Lib.hid (show MAt w1 (none : Option Nat) 0 0 from trivial)
  have HR1 := Lib.hid (fun W (hz : Bt none w1 W) => HR0.out W ((Bt.ofBelow hb).trans hz))
  clear HR0 HM0 
  clear hb
  by_cases hb0 : 12 < n
  · have qa : decide ((12 : Int) < (n : Int)) = true := by simp; omega
    have qb : (12 : Int) < (n : Int) := by omega
    go_wp2_with fail
    go_ret
    exact ⟨rfl, (HR1.out _ (Bt.refl _ _)).below⟩
  have qa0 : decide ((12 : Int) < (n : Int)) = false := by simp; omega
  have qb0 : ¬ (12 : Int) < (n : Int) := by omega
  go_wp2_with fail
  clear qa0 qb0
  have HS := Lib.hid (And.intro (Nat.le_of_not_lt hb0) (trivial))
  clear hb0
  have hX : (ofL xs).size = n := by rw [ofL_size, HN.out]
  have HX := Lib.hid hX
  clear hX
  ((with_reducible refine (ofRow A xs n c w _ HRW.out HN.out (by have := HS.out; omega) (HR1.out _ (Bt.refl _ _)).below).mono ?_); rintro e w2 ⟨pX, rfl, ht, hb⟩)
  have HM2 := Lib.hid (show MAt w2 (none : Option Nat) 0 0 from trivial)
  have HR2 := Lib.hid (on_inv (mo := none) HR1.out (Bt.ofBelow hb) (fun W hz => ht.bt hz HM2.out))
  clear HR1 HM1 
  clear ht hb
  go_wp2_with fail
  have hs_bX := (HR2.out _ (Bt.refl _ _)).2.below.size
  have HM3 := Lib.hid (show MAt (w2.alloc (.cells #[.pointer pX] 29)) (none : Option Nat) 0 0 from trivial)
  have HR3 := Lib.hid (on_inv (mo := none) HR2.out ((Bt.refl none w2).alloc (.cells #[.pointer pX] 29)) (fun W hz => (HVar.new w2 pX rfl).bt hz HM3.out))
  clear HR2 HM2 
  generalize w2.alloc (.cells #[.pointer pX] 29) = w3 at *
  obtain ⟨bX, hbX⟩ : ∃ b, b = w2.heap.size := ⟨_, rfl⟩
  rw [← hbX] at HR3 ⊢
  have B_bX := Lib.hid (show w.heap.size ≤ bX by rw [hbX]; exact hs_bX)
  clear hbX hs_bX 
  ((with_reducible refine (sortRow A xs n c w _ HRW.out HN.out (by have := HS.out; omega) (HR3.out _ (Bt.refl _ _)).2.2.below).mono ?_); rintro e w4 ⟨vp, rfl, ht, hb⟩)
  have HM4 := Lib.hid (show MAt w4 (none : Option Nat) 0 0 from trivial)
  have HR4 := Lib.hid (on_inv (mo := none) HR3.out (Bt.ofBelow hb) (fun W hz => ht.bt hz HM4.out))
  clear HR3 HM3 
  clear ht hb
  obtain ⟨N, hN⟩ : ∃ N, N = k0 % 4 := ⟨_, rfl⟩
  have hm1 : (k0 : Int) % 4 = (N : Int) := by omega
  have hm2 : (k0 : Int).tmod 4 = (N : Int) := by rw [Int.tmod_eq_emod_of_nonneg (by omega)]; exact hm1
  have hN3 : N ≤ 3 := by omega
  have HNN := Lib.hid hN3
  clear hN hN3
  go_wp2_with fail
  go_loopg [7, 8] N (fun k v i wr => ∃ (j : Nat) (t : Lh) (p : Option Addr), i = .int .i64 (j : Int) ∧ j + k = N ∧ HVar wr bX p ∧ LAt wr t p ∧ Rw wr v (srt t.all) ∧ t.ok ∧ t.size * 2 ^ k ≤ 96 ∧ Bas w wr)
  case atStart => exact ⟨0, ofL xs, pX, rfl, by omega, (HR4.out _ (Bt.refl _ _)).2.1, (HR4.out _ (Bt.refl _ _)).2.2.1, (srt_of xs).symm ▸ (HR4.out _ (Bt.refl _ _)).1, ofL_ok xs, by rw [HX.out]; have h1 : 2 ^ N ≤ 2 ^ 3 := Nat.pow_le_pow_right (by omega) HNN.out; have h2 : n * 2 ^ N ≤ 12 * 2 ^ 3 := Nat.mul_le_mul HS.out.1 h1; exact h2, (HR4.out _ (Bt.refl _ _)).2.2.2⟩
  case round =>
    clear HR4 HM4
    obtain ⟨j, t, p, rfl, hj, hv, ht, hrw, hok, hsz, hB⟩ := hrel
    by_cases hlt : j < N
    · have q1 : (j : Int) < (N : Int) := by omega
      have q3 : decide ((j : Int) < (N : Int)) = true := by simp; omega
      obtain ⟨k1, rfl⟩ : ∃ k1, gk = k1 + 1 := ⟨gk - 1, by omega⟩
      have hsz2 : (t.size + t.size) * 2 ^ k1 ≤ 96 := by rw [Nat.pow_succ, Nat.mul_two, Nat.mul_add] at hsz; rw [Nat.add_mul]; exact hsz
      have hp1 : 1 ≤ 2 ^ k1 := Nat.one_le_two_pow
      have hsm : t.size + t.size ≤ 96 := Nat.le_trans (Nat.le_mul_of_pos_right _ hp1) hsz2
      have HM5 := Lib.hid (show MAt wr (none : Option Nat) 0 0 from trivial)
      have HR5 := Lib.hid (fun W (hz : Bt none wr W) => And.intro ((hv).bt hz HM5.out) ( And.intro ((ht).bt hz HM5.out) ( And.intro ((hrw).bt hz HM5.out) ((hB).bt HE.out hz (fun _ e => by cases e)))))
      have X := Lib.hid (And.intro hj (And.intro hok (And.intro hsz2 hsm)))
      clear hv ht hrw hB hj hok hsz hsz2 hp1 hsm
      have c1 : wr.cell? ⟨bX, 0, none⟩ = some (.pointer p) := (HR5.out _ (Bt.refl _ _)).1.c0
      go_wp2_with fail
      ((with_reducible refine (meldNm t t p p _ (HR5.out _ (Bt.refl _ _)).2.1 (HR5.out _ (Bt.refl _ _)).2.1 (by have := X.out; omega)).mono ?_); rintro e w6 ⟨p2, rfl, ht, hb⟩)
      have HM6 := Lib.hid (show MAt w6 (none : Option Nat) 0 0 from trivial)
      have HR6 := Lib.hid (on_inv (mo := none) HR5.out (Bt.ofBelow hb) (fun W hz => ht.bt hz HM6.out))
      clear HR5 HM5 c1
      clear ht hb
      have pv := (HR6.out _ (Bt.refl _ _)).2.1
      have pc := pv.c0
      have pz := pv.z0
      have PV := Lib.hid pv
      clear pv
      go_wp2_with fail
      have HM7 := Lib.hid (show MAt (w6.setCell ⟨bX, 0, none⟩ (.pointer p2)) (none : Option Nat) 0 0 from trivial)
      have HR7 := Lib.hid (fun W (hz : Bt none (w6.setCell ⟨bX, 0, none⟩ (.pointer p2)) W) => And.intro (((HR6.out _ (Bt.refl _ _)).1.set PV.out (.pointer p2)).bt hz HM7.out) ( And.intro ((PV.out.put p2).bt hz HM7.out) ( And.intro (((HR6.out _ (Bt.refl _ _)).2.2.2.1.set PV.out (.pointer p2)).bt hz HM7.out) (((HR6.out _ (Bt.refl _ _)).2.2.2.2.set HE.out B_bX.out 0 (.pointer p2)).bt HE.out hz (fun _ e => by cases e)))))
      clear HR6 HM6 PV pc pz 
      generalize w6.setCell ⟨bX, 0, none⟩ (.pointer p2) = w7 at *
      ((with_reducible refine (sumRw _ _ _ _ _ (HR7.out _ (Bt.refl _ _)).2.2.1 (HR7.out _ (Bt.refl _ _)).2.2.1 (by rw [srt_length, Lh.all_length]; have := X.out; omega) (by rw [srt_length, Lh.all_length]; have := X.out; omega)).mono ?_); rintro e w8 ⟨v2, rfl, hr, hb⟩)
      have HM8 := Lib.hid (show MAt w8 (none : Option Nat) 0 0 from trivial)
      have HR8 := Lib.hid (on_inv (mo := none) HR7.out (Bt.ofBelow hb) (fun W hz => hr.bt hz HM8.out))
      clear HR7 HM7 
      clear hr hb
      go_wp2_with fail
      go_roundg k1
      case measure => omega
      case rel => exact ⟨j + 1, meld t t, p2, by congr 1, by have := X.out.1; omega, (HR8.out _ (Bt.refl _ _)).2.2.1, (HR8.out _ (Bt.refl _ _)).2.1, (show srt (meld t t).all = (srt t.all).foldl putL (srt t.all) by rw [srt_meld, sum_srt]) ▸ (HR8.out _ (Bt.refl _ _)).1, meld_ok _ _ X.out.2.1 X.out.2.1, by rw [meld_size]; exact X.out.2.2.1, (HR8.out _ (Bt.refl _ _)).2.2.2.2⟩
    · have q1 : ¬ (j : Int) < (N : Int) := by omega
      have q3 : decide ((j : Int) < (N : Int)) = false := by simp; omega
      have HM19 := Lib.hid (show MAt wr (none : Option Nat) 0 0 from trivial)
      have HR19 := Lib.hid (fun W (hz : Bt none wr W) => And.intro ((hv).bt hz HM19.out) ( And.intro ((ht).bt hz HM19.out) ( And.intro ((hrw).bt hz HM19.out) ((hB).bt HE.out hz (fun _ e => by cases e)))))
      obtain ⟨Av, kv, hvv, -⟩ := hrw.form
      subst hvv
      have hs96 : t.size ≤ 96 := Nat.le_trans (Nat.le_mul_of_pos_right _ (Nat.pow_pos (by decide))) hsz
      obtain ⟨L, hL⟩ : ∃ L, L = (srt t.all).length := ⟨_, rfl⟩
      have hLt : L = t.size := by rw [hL, srt_length, Lh.all_length]
      rw [← hL]
      have X := Lib.hid (And.intro hok (And.intro hs96 hLt))
      clear hv ht hrw hB hj hok hsz hs96 hL hLt
      have c2 : wr.cell? ⟨bX, 0, none⟩ = some (.pointer p) := (HR19.out _ (Bt.refl _ _)).1.c0
      go_wp2_with fail
      ((with_reducible refine (size_any t p _ (HR19.out _ (Bt.refl _ _)).2.1).mono ?_); rintro e w20 ⟨rfl, hb⟩)
      have HM20 := Lib.hid (show MAt w20 (none : Option Nat) 0 0 from trivial)
      have HR20 := Lib.hid (fun W (hz : Bt none w20 W) => HR19.out W ((Bt.ofBelow hb).trans hz))
      clear HR19 HM19 c2
      clear hb
      rw [← X.out.2.2]
      have c3 : w20.cell? ⟨bX, 0, none⟩ = some (.pointer p) := (HR20.out _ (Bt.refl _ _)).1.c0
      go_wp2_with fail
      ((with_reducible refine (drainRw t p 200 _ (HR20.out _ (Bt.refl _ _)).2.1 X.out.1 (by have := X.out; omega) (by decide) (by have := X.out; omega)).mono ?_); rintro e w21 ⟨vs, rfl, hr, hb⟩)
      have HM21 := Lib.hid (show MAt w21 (none : Option Nat) 0 0 from trivial)
      have HR21 := Lib.hid (on_inv (mo := none) HR20.out (Bt.ofBelow hb) (fun W hz => hr.bt hz HM21.out))
      clear HR20 HM20 c3
      clear hr hb
      go_wp2_with fail
      have HSI := sameIs vs (.slice Av (srt t.all).length kv) _ _ w21 (HR21.out _ (Bt.refl _ _)).1 (HR21.out _ (Bt.refl _ _)).2.2.2.1 (by rw [srt_length, Lh.all_length]; have := X.out; omega) rfl
      rw [srt_length, Lh.all_length, ← X.out.2.2] at HSI
      ((with_reducible refine (HSI).mono ?_); rintro e w22 ⟨rfl, hb⟩)
      have HM22 := Lib.hid (show MAt w22 (none : Option Nat) 0 0 from trivial)
      have HR22 := Lib.hid (fun W (hz : Bt none w22 W) => HR21.out W ((Bt.ofBelow hb).trans hz))
      clear HR21 HM21 
      clear hb
      go_wp2_with fail
      go_ret
      exact ⟨rfl, (HR22.out _ (Bt.refl _ _)).2.2.2.2.below⟩

end Go.Proofs.YtlmokendajgbdaaGreatDoor.Bo
