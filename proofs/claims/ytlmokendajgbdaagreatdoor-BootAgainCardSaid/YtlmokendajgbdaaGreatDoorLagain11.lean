/-
  The walk of the statement BootAgain: for any row and any two bytes it returns true, and nothing that was there has changed, in any world where the library's table is as it is laid.
-/
import Derived.Test.YtlmokendajgbdaaGreatDoorWagain0
import Derived.Test.YtlmokendajgbdaaGreatDoorWof
import Derived.Deep.LoopGhost
namespace Go.Proofs.YtlmokendajgbdaaGreatDoor.Bo
open Go.Sort Go.RowKit

set_option maxRecDepth 100000 in
set_option maxHeartbeats 4000000 in
theorem again_any (A : Option Addr) (xs : List (Int × Int)) (c : Nat) (k0 y0 : Nat) (w : World) (he : Env w) (hr1 : Row w A xs) (hk0 : k0 < 256) (hy0 : y0 < 256) :
    Calls Tryz.prog 12 #[.slice A xs.length c, .int .u8 (k0 : Int), .int .u8 (y0 : Int)] w fun e w' => e = .returned (.bool true) ∧ Below w.heap.size w w' := by
  obtain ⟨n, hn⟩ : ∃ k, k = xs.length := ⟨_, rfl⟩
  rw [← hn]
  have HN := Lib.hid hn
  have HRW := Lib.hid hr1
  clear hn hr1
  have HE := Lib.hid he
  have HM0 := Lib.hid (show MAt w (none : Option Nat) 0 0 from trivial)
  have HR0 := Lib.hid (fun W (hb : Bt none w W) => Bas.bt (Bas.first he) he hb (fun _ e => by cases e))
  clear he
  go_enter Tryz.func12, Tryz.ntmps12
  go_wp2_with fail
  ((with_reducible refine (awake_any _ HE.out).mono ?_); rintro e w1 ⟨rfl, hb⟩)
  have HM1 := Lib.hid (show MAt w1 (none : Option Nat) 0 0 from trivial)
  have HR1 := Lib.hid (fun W (hz : Bt none w1 W) => HR0.out W ((Bt.ofBelow hb).trans hz))
  clear HR0 HM0 
  clear hb
  by_cases hb0 : 40 < n
  · have qa : decide ((40 : Int) < (n : Int)) = true := by simp; omega
    have qb : (40 : Int) < (n : Int) := by omega
    go_wp2_with fail
    go_ret
    exact ⟨rfl, (HR1.out _ (Bt.refl _ _)).below⟩
  have qa0 : decide ((40 : Int) < (n : Int)) = false := by simp; omega
  have qb0 : ¬ (40 : Int) < (n : Int) := by omega
  go_wp2_with fail
  clear qa0 qb0
  have HS := Lib.hid (And.intro (Nat.le_of_not_lt hb0) (trivial))
  clear hb0
  have hX : (ofL xs).size = n := by rw [ofL_size, HN.out]
  have HX := Lib.hid hX
  clear hX
  ((with_reducible refine (ofRow A xs n c w _ HRW.out HN.out (by have := HS.out; omega) (HR1.out _ (Bt.refl _ _)).below).mono ?_); rintro e w2 ⟨pX, rfl, ht, hb⟩)
  have HM2 := Lib.hid (show MAt w2 (none : Option Nat) 0 0 from trivial)
  have HR2 := Lib.hid (on_inv (mo := none) HR1.out (Bt.ofBelow hb) (fun W hz => ht.bt hz HM2.out))
  clear HR1 HM1 
  clear ht hb
  obtain ⟨N, hN⟩ : ∃ N, N = k0 % 12 := ⟨_, rfl⟩
  have hm1 : (k0 : Int) % 12 = (N : Int) := by omega
  have hm2 : (k0 : Int).tmod 12 = (N : Int) := by rw [Int.tmod_eq_emod_of_nonneg (by omega)]; exact hm1
  have hN12 : N < 12 := by omega
  clear hN
  go_wp2_with fail
  have hs_bH := (HR2.out _ (Bt.refl _ _)).2.below.size
  have HM3 := Lib.hid (show MAt (w2.alloc (.cells #[.pointer pX] 29)) (none : Option Nat) 0 0 from trivial)
  have HR3 := Lib.hid (on_inv (mo := none) HR2.out ((Bt.refl none w2).alloc (.cells #[.pointer pX] 29)) (fun W hz => (HVar.new w2 pX rfl).bt hz HM3.out))
  clear HR2 HM2 
  generalize w2.alloc (.cells #[.pointer pX] 29) = w3 at *
  obtain ⟨bH, hbH⟩ : ∃ b, b = w2.heap.size := ⟨_, rfl⟩
  rw [← hbH] at HR3 ⊢
  have B_bH := Lib.hid (show w.heap.size ≤ bH by rw [hbH]; exact hs_bH)
  clear hbH hs_bH 
  go_loopg [9, 10] N (fun k v i wr => ∃ (j : Nat) (t : Lh) (p : Option Addr) (outs : List (Int × Int)), i = .int .i64 (j : Int) ∧ j + k = N ∧ HVar wr bH p ∧ LAt wr t p ∧ Own wr w.heap.size v outs ∧ t.ok ∧ outs ++ srt t.all = srt xs ∧ outs.length + t.size = n ∧ Bas w wr)
  case atStart => exact ⟨0, ofL xs, pX, [], rfl, by omega, (HR3.out _ (Bt.refl _ _)).1, (HR3.out _ (Bt.refl _ _)).2.1, Own.none _ _, ofL_ok xs, by rw [srt_of]; rfl, by rw [HX.out]; simp, (HR3.out _ (Bt.refl _ _)).2.2⟩
  case round =>
    clear HR3 HM3
    obtain ⟨j, t, p, outs, rfl, hj, hv, ht, hown, hok, hall, hsz, hB⟩ := hrel
    by_cases hlt : j < N
    · have q1 : (j : Int) < (N : Int) := by omega
      have q3 : decide ((j : Int) < (N : Int)) = true := by simp; omega
      have HM4 := Lib.hid (show MAt wr (none : Option Nat) 0 0 from trivial)
      have HR4 := Lib.hid (fun W (hz : Bt none wr W) => And.intro ((hv).bt hz HM4.out) ( And.intro ((ht).bt hz HM4.out) ( And.intro ((hown).bt hz HM4.out) ((hB).bt HE.out hz (fun _ e => by cases e)))))
      have Q := Lib.hid (And.intro hj (And.intro hok (And.intro hall (And.intro hsz hN12))))
      clear hv ht hown hB hj hok hall hsz
      have c1 : wr.cell? ⟨bH, 0, none⟩ = some (.pointer p) := (HR4.out _ (Bt.refl _ _)).1.c0
      go_wp2_with fail
      ((with_reducible refine (min_any t p _ _ (HR4.out _ (Bt.refl _ _)).2.1).mono ?_); rintro e w5 ⟨rfl, hb⟩)
      have HM5 := Lib.hid (show MAt w5 (none : Option Nat) 0 0 from trivial)
      have HR5 := Lib.hid (fun W (hz : Bt none w5 W) => HR4.out W ((Bt.ofBelow hb).trans hz))
      clear HR4 HM4 c1
      clear hb
      obtain ⟨⟨⟨m1, m2⟩, mb⟩, hmm⟩ : ∃ mm, t.min = mm := ⟨_, rfl⟩
      rw [show minV t = .tuple #[el (m1, m2), .bool mb] by simp only [minV, hmm]]
      obtain ⟨s, hs⟩ : ∃ s, s = t.size := ⟨_, rfl⟩
      have HMM := Lib.hid (And.intro hmm (show s = t.size ∧ s ≤ 40 from ⟨hs, by have := Q.out; have := HS.out; omega⟩))
      clear hmm hs
      have c2 : (w5.alloc (.cells #[.int .i64 m1, .int .i64 m2] 32)).cell? ⟨bH, 0, none⟩ = some (.pointer p) := (HR5.out _ ((Bt.refl _ _).alloc _)).1.c0
      go_wp2_with fail
      have hs_be := (HR5.out _ (Bt.refl _ _)).2.2.2.below.size
      have hl_bH := (HR5.out _ (Bt.refl _ _)).1.lt
      have HM6 := Lib.hid (show MAt (w5.alloc (.cells #[.int .i64 m1, .int .i64 m2] 32)) (none : Option Nat) 0 0 from trivial)
      have HR6 := Lib.hid (on_inv (mo := none) HR5.out ((Bt.refl none w5).alloc (.cells #[.int .i64 m1, .int .i64 m2] 32)) (fun W hz => (EVar.new w5 m1 m2 rfl).bt hz HM6.out))
      clear HR5 HM5 c2
      generalize w5.alloc (.cells #[.int .i64 m1, .int .i64 m2] 32) = w6 at *
      obtain ⟨be, hbe⟩ : ∃ b, b = w5.heap.size := ⟨_, rfl⟩
      rw [← hbe] at HR6 ⊢
      have B_be := Lib.hid (show w.heap.size ≤ be by rw [hbe]; exact hs_be)
      have N_bH_be := Lib.hid (show bH ≠ be by omega)
      clear hbe hs_be hl_bH
      ((with_reducible refine (popN t p _ (HR6.out _ (Bt.refl _ _)).2.2.1 (by have := HMM.out; omega)).mono ?_); rintro e w7 ⟨p2, rfl, ht, hb⟩)
      have HM7 := Lib.hid (show MAt w7 (none : Option Nat) 0 0 from trivial)
      have HR7 := Lib.hid (on_inv (mo := none) HR6.out (Bt.ofBelow hb) (fun W hz => ht.bt hz HM7.out))
      clear HR6 HM6 
      rw [show t.some = mb by rw [← min_some, HMM.out.1]]
      clear ht hb
      have c3 : (w7.alloc (.cells #[.pointer p2] 29)).cell? ⟨bH, 0, none⟩ = some (.pointer p) := (HR7.out _ ((Bt.refl _ _).alloc _)).2.2.1.c0
      have hmbs : mb = decide (0 < s) := by have h1 := min_two t; rw [HMM.out.1, ← HMM.out.2.1] at h1; exact h1
      have HMB := Lib.hid hmbs
      clear hmbs
      cases mb with
      | false =>
        have hs0 : s = 0 := by have h1 := HMB.out; simp at h1; omega
        go_wp2_with fail
        have hs_bG := (HR7.out _ (Bt.refl _ _)).2.2.2.2.2.below.size
        have hl_bH := (HR7.out _ (Bt.refl _ _)).2.2.1.lt
        have HM8 := Lib.hid (show MAt (w7.alloc (.cells #[.pointer p2] 29)) (none : Option Nat) 0 0 from trivial)
        have HR8 := Lib.hid (on_inv (mo := none) HR7.out ((Bt.refl none w7).alloc (.cells #[.pointer p2] 29)) (fun W hz => (HVar.new w7 p2 rfl).bt hz HM8.out))
        clear HR7 HM7 c3
        generalize w7.alloc (.cells #[.pointer p2] 29) = w8 at *
        obtain ⟨bG, hbG⟩ : ∃ b, b = w7.heap.size := ⟨_, rfl⟩
        rw [← hbG] at HR8 ⊢
        have B_bG := Lib.hid (show w.heap.size ≤ bG by rw [hbG]; exact hs_bG)
        have N_bH_bG := Lib.hid (show bH ≠ bG by omega)
        clear hbG hs_bG hl_bH
        ((with_reducible refine (size_any t p _ (HR8.out _ (Bt.refl _ _)).2.2.2.2.1).mono ?_); rintro e w9 ⟨rfl, hb⟩)
        have HM9 := Lib.hid (show MAt w9 (none : Option Nat) 0 0 from trivial)
        have HR9 := Lib.hid (fun W (hz : Bt none w9 W) => HR8.out W ((Bt.ofBelow hb).trans hz))
        clear HR8 HM8 
        clear hb
        rw [← HMM.out.2.1, hs0]
        have c4 : w9.cell? ⟨bG, 0, none⟩ = some (.pointer p2) := (HR9.out _ (Bt.refl _ _)).1.c0
        have pv := (HR9.out _ (Bt.refl _ _)).2.2.2.1
        have pc := pv.c0
        have pz := pv.z0
        have PV := Lib.hid pv
        clear pv
        go_wp2_with fail
        have HM10 := Lib.hid (show MAt (w9.setCell ⟨bH, 0, none⟩ (.pointer p2)) (none : Option Nat) 0 0 from trivial)
        have HR10 := Lib.hid (fun W (hz : Bt none (w9.setCell ⟨bH, 0, none⟩ (.pointer p2)) W) => And.intro ((((HR9.out _ (Bt.refl _ _)).2.1.set PV.out (.pointer p2))).bt hz HM10.out) ( And.intro (((PV.out.put p2)).bt hz HM10.out) ( And.intro ((((HR9.out _ (Bt.refl _ _)).2.2.2.2.2.1.set PV.out (.pointer p2))).bt hz HM10.out) ((((HR9.out _ (Bt.refl _ _)).2.2.2.2.2.2.set HE.out B_bH.out 0 (.pointer p2))).bt HE.out hz (fun _ e => by cases e)))))
        clear HR9 HM9 PV pc pz c4
        generalize w9.setCell ⟨bH, 0, none⟩ (.pointer p2) = w10 at *
        go_roundg (N - 1 - j)
        case measure => have := Q.out.1; omega
        case rel => exact ⟨j + 1, t.pop, p2, outs, by first | rfl | (congr 1; unfold wrap64; have := Q.out; omega), by have := Q.out.1; omega, (HR10.out _ (Bt.refl _ _)).2.1, (HR10.out _ (Bt.refl _ _)).1, (HR10.out _ (Bt.refl _ _)).2.2.1, pop_ok Q.out.2.1, by rw [← Q.out.2.2.1, srt_pop Q.out.2.1]; congr 1; rw [List.eq_nil_of_length_eq_zero (show (srt t.all).length = 0 by rw [srt_length, Lh.all_length, ← HMM.out.2.1]; exact hs0)]; rfl, by have h1 := Q.out.2.2.2.1; rw [pop_size Q.out.2.1]; have := HMM.out.2; omega, (HR10.out _ (Bt.refl _ _)).2.2.2⟩
      | true =>
        have hs0 : 0 < s := by have h1 := HMB.out; simp at h1; omega
        go_wp2_with fail
        have hs_bG := (HR7.out _ (Bt.refl _ _)).2.2.2.2.2.below.size
        have hl_bH := (HR7.out _ (Bt.refl _ _)).2.2.1.lt
        have HM8 := Lib.hid (show MAt (w7.alloc (.cells #[.pointer p2] 29)) (none : Option Nat) 0 0 from trivial)
        have HR8 := Lib.hid (on_inv (mo := none) HR7.out ((Bt.refl none w7).alloc (.cells #[.pointer p2] 29)) (fun W hz => (HVar.new w7 p2 rfl).bt hz HM8.out))
        clear HR7 HM7 c3
        generalize w7.alloc (.cells #[.pointer p2] 29) = w8 at *
        obtain ⟨bG, hbG⟩ : ∃ b, b = w7.heap.size := ⟨_, rfl⟩
        rw [← hbG] at HR8 ⊢
        have B_bG := Lib.hid (show w.heap.size ≤ bG by rw [hbG]; exact hs_bG)
        have N_bH_bG := Lib.hid (show bH ≠ bG by omega)
        clear hbG hs_bG hl_bH
        ((with_reducible refine (size_any t p _ (HR8.out _ (Bt.refl _ _)).2.2.2.2.1).mono ?_); rintro e w9 ⟨rfl, hb⟩)
        have HM9 := Lib.hid (show MAt w9 (none : Option Nat) 0 0 from trivial)
        have HR9 := Lib.hid (fun W (hz : Bt none w9 W) => HR8.out W ((Bt.ofBelow hb).trans hz))
        clear HR8 HM8 
        clear hb
        rw [← HMM.out.2.1]
        have r1 : decide ((0 : Int) < (s : Int)) = true := by simp; omega
        have r2 : (0 : Int) < (s : Int) := by omega
        obtain ⟨v4, w4, hrun, hown4, hb4, hk4⟩ := append_keep w9 w.heap.size _ outs (m1, m2) (HR9.out _ (Bt.refl _ _)).2.2.2.2.2.1 (by have := Q.out; have := HS.out; omega) (HR9.out _ (Bt.refl _ _)).2.2.2.2.2.2.below.size
        have HSZ4 : w9.heap.size ≤ w4.heap.size := hb4.size
        have hv4 : HVar w4 bH p := hk4 _ _ _ _ (HR9.out _ (Bt.refl _ _)).2.2.2.1 (by decide)
        have hg4 : HVar w4 bG p2 := hk4 _ _ _ _ (HR9.out _ (Bt.refl _ _)).1 (by decide)
        have hB4 : Bas w w4 := ⟨(HR9.out _ (Bt.refl _ _)).2.2.2.2.2.2.below.trans hb4, HE.out.below ((HR9.out _ (Bt.refl _ _)).2.2.2.2.2.2.below.trans hb4)⟩
        have ht4 : LAt w4 t.pop p2 := (HR9.out _ (Bt.refl _ _)).2.1.kps (fun k cs ty hn hh => hk4 k cs ty _ hh (by intro e; subst e; exact elemT_ne hn)) HSZ4
        have c4 : w9.cell? ⟨be, 0, none⟩ = some (.int .i64 m1) := (HR9.out _ (Bt.refl _ _)).2.2.1.c0
        have c5 : w9.cell? ⟨be, 1, none⟩ = some (.int .i64 m2) := (HR9.out _ (Bt.refl _ _)).2.2.1.c1
        have d0 := hg4.c0
        have d1 := hv4.c0
        have d2 := hv4.z0
        have HRUN := Lib.hid hrun
        have X4 := Lib.hid (And.intro (hv4.put p2) (And.intro (ht4.set hv4 (.pointer p2)) (And.intro (hown4.set hv4 (.pointer p2)) (hB4.set HE.out B_bH.out 0 (.pointer p2)))))
        clear HSZ4 hrun hown4 hb4 hk4 hv4 hg4 hB4 ht4 HR9 HM9
        go_wp2_with (at_builtin; refine wpList_append_run rfl _ _ _ rfl _ _ _ _ rfl rfl HRUN.out ?_)
        clear d0 d1 d2 r1 r2 c4 c5
        go_roundg (N - 1 - j)
        case measure => have := Q.out.1; omega
        case rel => exact ⟨j + 1, t.pop, p2, outs ++ [(m1, m2)], by first | rfl | (congr 1; unfold wrap64; have := Q.out; omega), by have := Q.out.1; omega, X4.out.1, X4.out.2.1, X4.out.2.2.1, pop_ok Q.out.2.1, by rw [← Q.out.2.2.1, srt_pop Q.out.2.1, List.append_assoc]; congr 1; exact (srt_head Q.out.2.1 HMM.out.1).symm, by have h1 := Q.out.2.2.2.1; rw [pop_size Q.out.2.1, List.length_append]; simp only [List.length_cons, List.length_nil]; have := HMM.out.2; omega, X4.out.2.2.2⟩
    · have q1 : ¬ (j : Int) < (N : Int) := by omega
      have q3 : decide ((j : Int) < (N : Int)) = false := by simp; omega
      have HM20 := Lib.hid (show MAt wr (none : Option Nat) 0 0 from trivial)
      have HR20 := Lib.hid (fun W (hz : Bt none wr W) => And.intro ((hv).bt hz HM20.out) ( And.intro ((ht).bt hz HM20.out) ( And.intro ((hown).bt hz HM20.out) ((hB).bt HE.out hz (fun _ e => by cases e)))))
      have Q := Lib.hid (And.intro hok (And.intro hall hsz))
      obtain ⟨Av, cv, hvv, -⟩ := hown.form
      subst hvv
      obtain ⟨L, hL⟩ : ∃ L, L = outs.length := ⟨_, rfl⟩
      rw [← hL] at HR20 ⊢
      have HLL := Lib.hid hL
      clear hv ht hown hB hj hok hall hsz hlt hL
      have c6 : wr.cell? ⟨bH, 0, none⟩ = some (.pointer p) := (HR20.out _ (Bt.refl _ _)).1.c0
      have c7 : (wr.alloc (.cells #[.pointer none] 29)).cell? ⟨bH, 0, none⟩ = some (.pointer p) := (HR20.out _ ((Bt.refl _ _).alloc _)).1.c0
      go_wp2_with fail
      clear q1 q3 hm1 hm2 hN12
      have hl9 := (HR20.out _ (Bt.refl _ _)).1.lt
      have hs_bO := (HR20.out _ (Bt.refl _ _)).2.2.2.below.size
      have HM21 := Lib.hid (show MAt ((wr.alloc (.cells #[.pointer none] 29)).alloc (.cells #[.pointer p] 29)) (none : Option Nat) 0 0 from trivial)
      have hvs := two_vars wr none p
      have HR21 := Lib.hid (fun W (hz : Bt none ((wr.alloc (.cells #[.pointer none] 29)).alloc (.cells #[.pointer p] 29)) W) => And.intro ((hvs.1).bt hz HM21.out) ( And.intro ((hvs.2).bt hz HM21.out) (HR20.out W ((((Bt.refl none wr).alloc (.cells #[.pointer none] 29)).alloc (.cells #[.pointer p] 29)).trans hz))))
      clear HR20 HM20 hvs c6 c7
      generalize (wr.alloc (.cells #[.pointer none] 29)).alloc (.cells #[.pointer p] 29) = w21 at *
      obtain ⟨bO, h0⟩ : ∃ b, b = wr.heap.size := ⟨_, rfl⟩
      rw [← h0] at HR21 ⊢
      obtain ⟨bB, h1⟩ : ∃ b, b = bO + 1 := ⟨_, rfl⟩
      rw [← h1] at HR21 ⊢
      have B_bO := Lib.hid (show w.heap.size ≤ bO by omega)
      have N_bO_bB := Lib.hid (show bO ≠ bB by omega)
      have B_bB := Lib.hid (show w.heap.size ≤ bB by omega)
      have NHO := Lib.hid (show bH ≠ bO by omega)
      have NHB := Lib.hid (show bH ≠ bB by omega)
      clear hl9
      clear hs_bO h0 h1
      go_loopg [17] L (fun k i wr => ∃ (j : Nat) (o bk : Lh) (po pb : Option Addr), i = .int .i64 (j : Int) ∧ j + k = L ∧ HVar wr bH p ∧ HVar wr bO po ∧ HVar wr bB pb ∧ LAt wr t p ∧ LAt wr o po ∧ LAt wr bk pb ∧ Own wr w.heap.size (.slice Av L cv) outs ∧ o.ok ∧ o.all.Perm (rotTo outs y0 j) ∧ bk.ok ∧ bk.all.Perm (t.all ++ outs.reverse.take j) ∧ Bas w wr)
      case atStart => exact ⟨0, .nil, t, none, p, rfl, by omega, (HR21.out _ (Bt.refl _ _)).2.2.1, (HR21.out _ (Bt.refl _ _)).1, (HR21.out _ (Bt.refl _ _)).2.1, (HR21.out _ (Bt.refl _ _)).2.2.2.1, LAt.none _, (HR21.out _ (Bt.refl _ _)).2.2.2.1, (HR21.out _ (Bt.refl _ _)).2.2.2.2.1, ok_nil, List.Perm.refl _, Q.out.1, by simp, (HR21.out _ (Bt.refl _ _)).2.2.2.2.2⟩
      case round =>
        clear HR21 HM21
        obtain ⟨i, o, bk, po, pb, rfl, hj, h1, h2, h3, h4, h5, h6, h7, ho1, ho2, hb1, hb2, hB⟩ := hrel
        by_cases hlt2 : i < L
        · have hLo : L = outs.length := HLL.out
          have hLn : L ≤ 40 := by have := Q.out.2.2; have := HS.out; omega
          obtain ⟨q, hq⟩ : ∃ q, q = (i + y0) % L := ⟨_, rfl⟩
          have hqL : q < L := by rw [hq]; exact Nat.mod_lt _ (by omega)
          obtain ⟨r, hr⟩ : ∃ r, r = L - 1 - i := ⟨_, rfl⟩
          have hrL : r < L := by omega
          have eR := rotTo_succ outs y0 i (by rw [← hLo, ← hq]; exact hqL)
          have eV := rev_succ outs i (by rw [← hLo]; exact hlt2)
          have eq1 : outs[(i + y0) % outs.length]'(by rw [← hLo, ← hq]; exact hqL) = outs[q]'(by rw [← hLo]; exact hqL) := by congr 1; rw [hq, hLo]
          have er1 : outs[outs.length - 1 - i]'(by omega) = outs[r]'(by rw [← hLo]; exact hrL) := by congr 1; rw [hr, hLo]
          rw [eq1] at eR
          rw [er1] at eV
          obtain ⟨ag, hag, -, -⟩ := h7.at q (by rw [← hLo]; exact hqL)
          subst hag
          have hcq := fun (W : World) (ho : Own W w.heap.size (.slice (some ⟨ag, 0, none⟩) L cv) outs) => (show W.cell? ⟨ag, q * 2, none⟩ = some (.int .i64 (outs[q]'(by rw [← hLo]; exact hqL)).1) ∧ W.cell? ⟨ag, q * 2 + 1, none⟩ = some (.int .i64 (outs[q]'(by rw [← hLo]; exact hqL)).2) from by obtain ⟨g2, e2, k1, k2⟩ := ho.at q (by rw [← hLo]; exact hqL); cases e2; exact ⟨k1, k2⟩)
          have hcr := fun (W : World) (ho : Own W w.heap.size (.slice (some ⟨ag, 0, none⟩) L cv) outs) => (show W.cell? ⟨ag, r * 2, none⟩ = some (.int .i64 (outs[r]'(by rw [← hLo]; exact hrL)).1) ∧ W.cell? ⟨ag, r * 2 + 1, none⟩ = some (.int .i64 (outs[r]'(by rw [← hLo]; exact hrL)).2) from by obtain ⟨g2, e2, k1, k2⟩ := ho.at r (by rw [← hLo]; exact hrL); cases e2; exact ⟨k1, k2⟩)
          have HCQ := Lib.hid hcq
          have HCR := Lib.hid hcr
          have hos : o.size = i := by rw [← Lh.all_length, ho2.length_eq, rotTo_length]
          have hbs : bk.size ≤ 100 := by have h9 := hb2.length_eq; rw [Lh.all_length, List.length_append, List.length_take, List.length_reverse, Lh.all_length] at h9; have := Q.out.2.2; have := HS.out; omega
          have HOS := Lib.hid (show o.size < 16777216 ∧ bk.size < 16777216 from ⟨by omega, by omega⟩)
          have HM32 := Lib.hid (show MAt wr (none : Option Nat) 0 0 from trivial)
          have HR32 := Lib.hid (fun W (hz : Bt none wr W) => And.intro ((h1).bt hz HM32.out) ( And.intro ((h2).bt hz HM32.out) ( And.intro ((h3).bt hz HM32.out) ( And.intro ((h4).bt hz HM32.out) ( And.intro ((h5).bt hz HM32.out) ( And.intro ((h6).bt hz HM32.out) ( And.intro ((h7).bt hz HM32.out) ((hB).bt HE.out hz (fun _ e => by cases e)))))))))
          generalize outs[q]'(by rw [← hLo]; exact hqL) = xq at *
          generalize outs[r]'(by rw [← hLo]; exact hrL) = xr at *
          obtain ⟨u1, u2⟩ := xq
          obtain ⟨v1, v2⟩ := xr
          have Z := Lib.hid (And.intro hj (And.intro ho1 (And.intro ho2 (And.intro hb1 (And.intro hb2 (And.intro eR (And.intro eV (And.intro hos (And.intro hbs hLn)))))))))
          obtain ⟨a1, a2, a3, a4, a5, a6, a7, a8, a9, b1, b2, b3, b4, b5, b6, b7, b8, b9, d1, d2, d3⟩ := again_nums i y0 L q r hlt2 hLn hy0 hq hr
          clear h1 h2 h3 h4 h5 h6 h7 hB hj ho1 ho2 hb1 hb2 eR eV hos hbs hcq hcr eq1 er1 hq hr hLo
          have c8 : wr.cell? ⟨bO, 0, none⟩ = some (.pointer po) := (HR32.out _ (Bt.refl _ _)).2.1.c0
          have x0 := (HCQ.out _ (HR32.out _ (Bt.refl _ _)).2.2.2.2.2.2.1).1
          have x1 := (HCQ.out _ (HR32.out _ (Bt.refl _ _)).2.2.2.2.2.2.1).2
          go_wp2_with fail
          refine wp_region_noPanic ?_
          refine wp_region_held_drew (S := fun w' => w'.cell? ⟨ag, q * 2, none⟩ = some (.int .i64 u1) ∧ w'.cell? ⟨ag, q * 2 + 1, none⟩ = some (.int .i64 u2)) (by kernel_rfl) ⟨x0, x1⟩ (fun hH => ?_)
          refine wpAnyH_take (i := 1) (oi := { dst := some 68, op := Go.Op.move (Go.Operand.tmp 9), type := 37, pos := "law.go:414", after := #[], guard := none }) (v := ?v1_1) rfl (by as_aux_lemma => kernel_rfl) (by as_aux_lemma => kernel_rfl) (by as_aux_lemma => kernel_rfl) (fun _ _ _ h => h) (Or.inl ⟨(by as_aux_lemma => kernel_rfl), ?hy1_1⟩) hH ?rest1_1
          case hy1_1 => (intro w hSw; (try dsimp only at hSw); go_simp; try with_reducible rfl)
          try simp only [Act.put, List.setIfInBounds_toArray, List.set_cons_zero, List.set_cons_succ]
          refine wpAnyH_take (i := 2) (oi := { dst := some 69, op := Go.Op.move (Go.Operand.tmp 17), type := 3, pos := "law.go:414", after := #[], guard := none }) (v := ?v1_2) rfl (by as_aux_lemma => kernel_rfl) (by as_aux_lemma => kernel_rfl) (by as_aux_lemma => kernel_rfl) (fun _ _ _ h => h) (Or.inl ⟨(by as_aux_lemma => kernel_rfl), ?hy1_2⟩) hH ?rest1_2
          case hy1_2 => (intro w hSw; (try dsimp only at hSw); go_simp; try with_reducible rfl)
          try simp only [Act.put, List.setIfInBounds_toArray, List.set_cons_zero, List.set_cons_succ]
          refine wpAnyH_take (i := 3) (oi := { dst := some 70, op := Go.Op.move (Go.Operand.tmp 2), type := 5, pos := "law.go:414", after := #[], guard := none }) (v := ?v1_3) rfl (by as_aux_lemma => kernel_rfl) (by as_aux_lemma => kernel_rfl) (by as_aux_lemma => kernel_rfl) (fun _ _ _ h => h) (Or.inl ⟨(by as_aux_lemma => kernel_rfl), ?hy1_3⟩) hH ?rest1_3
          case hy1_3 => (intro w hSw; (try dsimp only at hSw); go_simp; try with_reducible rfl)
          try simp only [Act.put, List.setIfInBounds_toArray, List.set_cons_zero, List.set_cons_succ]
          refine wpAnyH_take (i := 4) (oi := { dst := some 71, op := Go.Op.convert 5 3 (Go.Operand.tmp 70), type := 3, pos := "law.go:414", after := #[{ on := 3, ground := Go.Ground.data }], guard := none }) (v := ?v1_4) rfl (by as_aux_lemma => kernel_rfl) (by as_aux_lemma => kernel_rfl) (by as_aux_lemma => kernel_rfl) (fun _ _ _ h => h) (Or.inl ⟨(by as_aux_lemma => kernel_rfl), ?hy1_4⟩) hH ?rest1_4
          case hy1_4 => (intro w hSw; (try dsimp only at hSw); go_simp; try with_reducible rfl)
          try simp only [Act.put, List.setIfInBounds_toArray, List.set_cons_zero, List.set_cons_succ]
          refine wpAnyH_take (i := 5) (oi := { dst := some 72, op := Go.Op.binOp Go.BinOp.add 3 (Go.Operand.tmp 69) (Go.Operand.tmp 71) 3, type := 3, pos := "law.go:414", after := #[{ on := 2, ground := Go.Ground.data }, { on := 4, ground := Go.Ground.data }], guard := none }) (v := ?v1_5) rfl (by as_aux_lemma => kernel_rfl) (by as_aux_lemma => kernel_rfl) (by as_aux_lemma => kernel_rfl) (fun _ _ _ h => h) (Or.inl ⟨(by as_aux_lemma => kernel_rfl), ?hy1_5⟩) hH ?rest1_5
          case hy1_5 => (intro w hSw; (try dsimp only at hSw); go_simp; try with_reducible rfl)
          try simp only [Act.put, List.setIfInBounds_toArray, List.set_cons_zero, List.set_cons_succ]
          refine wpAnyH_take (i := 6) (oi := { dst := some 73, op := Go.Op.move (Go.Operand.tmp 9), type := 37, pos := "law.go:414", after := #[], guard := none }) (v := ?v1_6) rfl (by as_aux_lemma => kernel_rfl) (by as_aux_lemma => kernel_rfl) (by as_aux_lemma => kernel_rfl) (fun _ _ _ h => h) (Or.inl ⟨(by as_aux_lemma => kernel_rfl), ?hy1_6⟩) hH ?rest1_6
          case hy1_6 => (intro w hSw; (try dsimp only at hSw); go_simp; try with_reducible rfl)
          try simp only [Act.put, List.setIfInBounds_toArray, List.set_cons_zero, List.set_cons_succ]
          refine wpAnyH_take (i := 7) (oi := { dst := some 74, op := Go.Op.call { callee := Go.Callee.builtin Go.Builtin.len, args := #[Go.Operand.tmp 73], argTypes := #[37] }, type := 3, pos := "law.go:414", after := #[{ on := 6, ground := Go.Ground.data }], guard := none }) (v := ?v1_7) rfl (by as_aux_lemma => kernel_rfl) (by as_aux_lemma => kernel_rfl) (by as_aux_lemma => kernel_rfl) (fun _ _ _ h => h) (Or.inl ⟨(by as_aux_lemma => kernel_rfl), ?hy1_7⟩) hH ?rest1_7
          case hy1_7 => (intro w hSw; (try dsimp only at hSw); go_simp; try with_reducible rfl)
          try simp only [Act.put, List.setIfInBounds_toArray, List.set_cons_zero, List.set_cons_succ]
          refine wpAnyH_take (i := 8) (oi := { dst := some 75, op := Go.Op.binOp Go.BinOp.rem 3 (Go.Operand.tmp 72) (Go.Operand.tmp 74) 3, type := 3, pos := "law.go:414", after := #[{ on := 5, ground := Go.Ground.data }, { on := 7, ground := Go.Ground.data }], guard := none }) (v := ?v1_8) rfl (by as_aux_lemma => kernel_rfl) (by as_aux_lemma => kernel_rfl) (by as_aux_lemma => kernel_rfl) (fun _ _ _ h => h) (Or.inl ⟨(by as_aux_lemma => kernel_rfl), ?hy1_8⟩) hH ?rest1_8
          case hy1_8 => (intro w hSw; (try dsimp only at hSw); go_simp; try with_reducible rfl)
          try simp only [Act.put, List.setIfInBounds_toArray, List.set_cons_zero, List.set_cons_succ]
          refine wpAnyH_take (i := 9) (oi := { dst := some 76, op := Go.Op.indexAddr 37 (Go.Operand.tmp 68) (Go.Operand.tmp 75), type := 0, pos := "law.go:414", after := #[{ on := 1, ground := Go.Ground.data }, { on := 8, ground := Go.Ground.data }], guard := none }) (v := ?v1_9) rfl (by as_aux_lemma => kernel_rfl) (by as_aux_lemma => kernel_rfl) (by as_aux_lemma => kernel_rfl) (fun _ _ _ h => h) (Or.inl ⟨(by as_aux_lemma => kernel_rfl), ?hy1_9⟩) hH ?rest1_9
          case hy1_9 => (intro w hSw; (try dsimp only at hSw); go_simp; try with_reducible rfl)
          try simp only [Act.put, List.setIfInBounds_toArray, List.set_cons_zero, List.set_cons_succ]
          refine wpAnyH_take (i := 10) (oi := { dst := some 77, op := Go.Op.load 32 (Go.Operand.tmp 76), type := 32, pos := "law.go:414", after := #[{ on := 9, ground := Go.Ground.data }], guard := none }) (v := ?v1_10) rfl (by as_aux_lemma => kernel_rfl) (by as_aux_lemma => kernel_rfl) (by as_aux_lemma => kernel_rfl) (fun _ _ _ h => h) (Or.inl ⟨(by as_aux_lemma => kernel_rfl), ?hy1_10⟩) hH ?rest1_10
          case hy1_10 => (intro w hSw; (try dsimp only at hSw); go_simp; try with_reducible rfl)
          try simp only [Act.put, List.setIfInBounds_toArray, List.set_cons_zero, List.set_cons_succ]
          refine wpAnyH_ready (rs := [0]) (by as_aux_lemma => kernel_rfl) (by simp) ?_
          refine AllReadyH.cons (o := { dst := some 67, op := Go.Op.load 29 (Go.Operand.tmp 15), type := 29, pos := "law.go:414", after := #[], guard := none }) rfl (fun K hK => ?_) AllReadyH.nil
          go_simp
          refine hK.out _ _ ?_ (fun hH2 => ?_)
          · exact hH
          clear hK K hH
          have hH := hH2
          clear hH2
          try simp only [Act.put, List.setIfInBounds_toArray, List.set_cons_zero, List.set_cons_succ]
          refine wpAnyH_ready (rs := [11]) (by as_aux_lemma => kernel_rfl) (by simp) ?_
          refine AllReadyH.cons (o := { dst := some 78, op := Go.Op.call { callee := Go.Callee.value (Go.Operand.func 17), args := #[Go.Operand.tmp 67, Go.Operand.const (Go.Value.pointer none), Go.Operand.tmp 77], argTypes := #[29, 25, 32] }, type := 29, pos := "law.go:414", after := #[{ on := 0, ground := Go.Ground.data }, { on := 10, ground := Go.Ground.data }], guard := none }) rfl (fun K hK => ?_) AllReadyH.nil
          go_simp
          go_at_call 17
          (with_reducible refine (insertNm o (u1, u2) po _ (HR32.out _ ((Bt.refl _ _).drew)).2.2.2.2.1 HOS.out.1).mono ?_)
          rintro e w33 ⟨po2, rfl, ht, hb⟩
          have HM33 := Lib.hid (show MAt w33 (none : Option Nat) 0 0 from trivial)
          have HR33 := Lib.hid (on_inv (mo := none) HR32.out (((Bt.refl none wr).drew).trans (Bt.ofBelow hb)) (fun W hz => ht.bt hz HM33.out))
          have pv := (HR33.out _ (Bt.refl _ _)).2.2.1
          have pc := pv.c0
          have pz := pv.z0
          have PV := Lib.hid pv
          clear ht hb pv HR32 HM32 x0 x1
          go_wp2_with fail
          refine hK.out _ _ ?_ (fun hH2 => ?_)
          · exact (HCQ.out _ (HR33.out _ (Bt.refl _ _)).2.2.2.2.2.2.2.1)
          clear hK K hH
          have hH := hH2
          clear hH2
          try simp only [Act.put, List.setIfInBounds_toArray, List.set_cons_zero, List.set_cons_succ]
          refine wpAnyH_ready (rs := [12]) (by as_aux_lemma => kernel_rfl) (by simp) ?_
          refine AllReadyH.cons (o := { dst := none, op := Go.Op.store 29 (Go.Operand.tmp 15) (Go.Operand.tmp 78), type := 0, pos := "law.go:414", after := #[{ on := 11, ground := Go.Ground.data }, { on := 11, ground := Go.Ground.chain }, { on := 0, ground := Go.Ground.phase }, { on := 1, ground := Go.Ground.phase }, { on := 2, ground := Go.Ground.phase }, { on := 3, ground := Go.Ground.phase }, { on := 4, ground := Go.Ground.phase }, { on := 5, ground := Go.Ground.phase }, { on := 6, ground := Go.Ground.phase }, { on := 7, ground := Go.Ground.phase }, { on := 8, ground := Go.Ground.phase }, { on := 9, ground := Go.Ground.phase }, { on := 10, ground := Go.Ground.phase }, { on := 11, ground := Go.Ground.phase }], guard := none }) rfl (fun K hK => ?_) AllReadyH.nil
          go_simp
          refine hK.out _ _ ?_ (fun hH2 => ?_)
          · exact (HCQ.out _ ((HR33.out _ (Bt.refl _ _)).2.2.2.2.2.2.2.1.set PV.out _))
          clear hK K hH
          have hH := hH2
          clear hH2
          try simp only [Act.put, List.setIfInBounds_toArray, List.set_cons_zero, List.set_cons_succ]
          refine wpAnyH_done (by as_aux_lemma => kernel_rfl) ?_ _
          refine NoPanic.normal ?_
          clear hH
          have N_bH_bO := Lib.hid (show bH ≠ bO from NHO.out)
          have HM34 := Lib.hid (show MAt (w33.setCell ⟨bO, 0, none⟩ (.pointer po2)) (none : Option Nat) 0 0 from trivial)
          have HR34 := Lib.hid (fun W (hz : Bt none (w33.setCell ⟨bO, 0, none⟩ (.pointer po2)) W) => And.intro ((((HR33.out _ (Bt.refl _ _)).1.set PV.out (.pointer po2))).bt hz HM34.out) ( And.intro ((((HR33.out _ (Bt.refl _ _)).2.1.set NHO.out 0 (.pointer po2))).bt hz HM34.out) ( And.intro (((PV.out.put po2)).bt hz HM34.out) ( And.intro ((((HR33.out _ (Bt.refl _ _)).2.2.2.1.set N_bO_bB.out.symm 0 (.pointer po2))).bt hz HM34.out) ( And.intro ((((HR33.out _ (Bt.refl _ _)).2.2.2.2.1.set PV.out (.pointer po2))).bt hz HM34.out) ( And.intro ((((HR33.out _ (Bt.refl _ _)).2.2.2.2.2.2.1.set PV.out (.pointer po2))).bt hz HM34.out) ( And.intro ((((HR33.out _ (Bt.refl _ _)).2.2.2.2.2.2.2.1.set PV.out (.pointer po2))).bt hz HM34.out) ((((HR33.out _ (Bt.refl _ _)).2.2.2.2.2.2.2.2.set HE.out B_bO.out 0 (.pointer po2))).bt HE.out hz (fun _ e => by cases e)))))))))
          clear HR33 HM33 PV pc pz c8
          generalize w33.setCell ⟨bO, 0, none⟩ (.pointer po2) = w34 at *
          have c9 : w34.cell? ⟨bB, 0, none⟩ = some (.pointer pb) := (HR34.out _ (Bt.refl _ _)).2.2.2.1.c0
          have x0 := (HCR.out _ (HR34.out _ (Bt.refl _ _)).2.2.2.2.2.2.1).1
          have x1 := (HCR.out _ (HR34.out _ (Bt.refl _ _)).2.2.2.2.2.2.1).2
          go_wp2_with fail
          refine wp_region_noPanic ?_
          refine wp_region_held_drew (S := fun w' => w'.cell? ⟨ag, r * 2, none⟩ = some (.int .i64 v1) ∧ w'.cell? ⟨ag, r * 2 + 1, none⟩ = some (.int .i64 v2)) (by kernel_rfl) ⟨x0, x1⟩ (fun hH => ?_)
          refine wpAnyH_take (i := 1) (oi := { dst := some 80, op := Go.Op.move (Go.Operand.tmp 9), type := 37, pos := "law.go:415", after := #[], guard := none }) (v := ?v2_1) rfl (by as_aux_lemma => kernel_rfl) (by as_aux_lemma => kernel_rfl) (by as_aux_lemma => kernel_rfl) (fun _ _ _ h => h) (Or.inl ⟨(by as_aux_lemma => kernel_rfl), ?hy2_1⟩) hH ?rest2_1
          case hy2_1 => (intro w hSw; (try dsimp only at hSw); go_simp; try with_reducible rfl)
          try simp only [Act.put, List.setIfInBounds_toArray, List.set_cons_zero, List.set_cons_succ]
          refine wpAnyH_take (i := 2) (oi := { dst := some 81, op := Go.Op.move (Go.Operand.tmp 9), type := 37, pos := "law.go:415", after := #[], guard := none }) (v := ?v2_2) rfl (by as_aux_lemma => kernel_rfl) (by as_aux_lemma => kernel_rfl) (by as_aux_lemma => kernel_rfl) (fun _ _ _ h => h) (Or.inl ⟨(by as_aux_lemma => kernel_rfl), ?hy2_2⟩) hH ?rest2_2
          case hy2_2 => (intro w hSw; (try dsimp only at hSw); go_simp; try with_reducible rfl)
          try simp only [Act.put, List.setIfInBounds_toArray, List.set_cons_zero, List.set_cons_succ]
          refine wpAnyH_take (i := 3) (oi := { dst := some 82, op := Go.Op.call { callee := Go.Callee.builtin Go.Builtin.len, args := #[Go.Operand.tmp 81], argTypes := #[37] }, type := 3, pos := "law.go:415", after := #[{ on := 2, ground := Go.Ground.data }], guard := none }) (v := ?v2_3) rfl (by as_aux_lemma => kernel_rfl) (by as_aux_lemma => kernel_rfl) (by as_aux_lemma => kernel_rfl) (fun _ _ _ h => h) (Or.inl ⟨(by as_aux_lemma => kernel_rfl), ?hy2_3⟩) hH ?rest2_3
          case hy2_3 => (intro w hSw; (try dsimp only at hSw); go_simp; try with_reducible rfl)
          try simp only [Act.put, List.setIfInBounds_toArray, List.set_cons_zero, List.set_cons_succ]
          refine wpAnyH_take (i := 4) (oi := { dst := some 83, op := Go.Op.binOp Go.BinOp.sub 3 (Go.Operand.tmp 82) (Go.Operand.const (Go.Value.int Go.IntKind.i64 1)) 3, type := 3, pos := "law.go:415", after := #[{ on := 3, ground := Go.Ground.data }], guard := none }) (v := ?v2_4) rfl (by as_aux_lemma => kernel_rfl) (by as_aux_lemma => kernel_rfl) (by as_aux_lemma => kernel_rfl) (fun _ _ _ h => h) (Or.inl ⟨(by as_aux_lemma => kernel_rfl), ?hy2_4⟩) hH ?rest2_4
          case hy2_4 => (intro w hSw; (try dsimp only at hSw); go_simp; try with_reducible rfl)
          try simp only [Act.put, List.setIfInBounds_toArray, List.set_cons_zero, List.set_cons_succ]
          refine wpAnyH_take (i := 5) (oi := { dst := some 84, op := Go.Op.move (Go.Operand.tmp 17), type := 3, pos := "law.go:415", after := #[], guard := none }) (v := ?v2_5) rfl (by as_aux_lemma => kernel_rfl) (by as_aux_lemma => kernel_rfl) (by as_aux_lemma => kernel_rfl) (fun _ _ _ h => h) (Or.inl ⟨(by as_aux_lemma => kernel_rfl), ?hy2_5⟩) hH ?rest2_5
          case hy2_5 => (intro w hSw; (try dsimp only at hSw); go_simp; try with_reducible rfl)
          try simp only [Act.put, List.setIfInBounds_toArray, List.set_cons_zero, List.set_cons_succ]
          refine wpAnyH_take (i := 6) (oi := { dst := some 85, op := Go.Op.binOp Go.BinOp.sub 3 (Go.Operand.tmp 83) (Go.Operand.tmp 84) 3, type := 3, pos := "law.go:415", after := #[{ on := 4, ground := Go.Ground.data }, { on := 5, ground := Go.Ground.data }], guard := none }) (v := ?v2_6) rfl (by as_aux_lemma => kernel_rfl) (by as_aux_lemma => kernel_rfl) (by as_aux_lemma => kernel_rfl) (fun _ _ _ h => h) (Or.inl ⟨(by as_aux_lemma => kernel_rfl), ?hy2_6⟩) hH ?rest2_6
          case hy2_6 => (intro w hSw; (try dsimp only at hSw); go_simp; try with_reducible rfl)
          try simp only [Act.put, List.setIfInBounds_toArray, List.set_cons_zero, List.set_cons_succ]
          refine wpAnyH_take (i := 7) (oi := { dst := some 86, op := Go.Op.indexAddr 37 (Go.Operand.tmp 80) (Go.Operand.tmp 85), type := 0, pos := "law.go:415", after := #[{ on := 1, ground := Go.Ground.data }, { on := 6, ground := Go.Ground.data }], guard := none }) (v := ?v2_7) rfl (by as_aux_lemma => kernel_rfl) (by as_aux_lemma => kernel_rfl) (by as_aux_lemma => kernel_rfl) (fun _ _ _ h => h) (Or.inl ⟨(by as_aux_lemma => kernel_rfl), ?hy2_7⟩) hH ?rest2_7
          case hy2_7 => (intro w hSw; (try dsimp only at hSw); go_simp; try with_reducible rfl)
          try simp only [Act.put, List.setIfInBounds_toArray, List.set_cons_zero, List.set_cons_succ]
          refine wpAnyH_take (i := 8) (oi := { dst := some 87, op := Go.Op.load 32 (Go.Operand.tmp 86), type := 32, pos := "law.go:415", after := #[{ on := 7, ground := Go.Ground.data }], guard := none }) (v := ?v2_8) rfl (by as_aux_lemma => kernel_rfl) (by as_aux_lemma => kernel_rfl) (by as_aux_lemma => kernel_rfl) (fun _ _ _ h => h) (Or.inl ⟨(by as_aux_lemma => kernel_rfl), ?hy2_8⟩) hH ?rest2_8
          case hy2_8 => (intro w hSw; (try dsimp only at hSw); go_simp; try with_reducible rfl)
          try simp only [Act.put, List.setIfInBounds_toArray, List.set_cons_zero, List.set_cons_succ]
          refine wpAnyH_ready (rs := [0]) (by as_aux_lemma => kernel_rfl) (by simp) ?_
          refine AllReadyH.cons (o := { dst := some 79, op := Go.Op.load 29 (Go.Operand.tmp 16), type := 29, pos := "law.go:415", after := #[], guard := none }) rfl (fun K hK => ?_) AllReadyH.nil
          go_simp
          refine hK.out _ _ ?_ (fun hH2 => ?_)
          · exact hH
          clear hK K hH
          have hH := hH2
          clear hH2
          try simp only [Act.put, List.setIfInBounds_toArray, List.set_cons_zero, List.set_cons_succ]
          refine wpAnyH_ready (rs := [9]) (by as_aux_lemma => kernel_rfl) (by simp) ?_
          refine AllReadyH.cons (o := { dst := some 88, op := Go.Op.call { callee := Go.Callee.value (Go.Operand.func 17), args := #[Go.Operand.tmp 79, Go.Operand.const (Go.Value.pointer none), Go.Operand.tmp 87], argTypes := #[29, 25, 32] }, type := 29, pos := "law.go:415", after := #[{ on := 0, ground := Go.Ground.data }, { on := 8, ground := Go.Ground.data }], guard := none }) rfl (fun K hK => ?_) AllReadyH.nil
          go_simp
          go_at_call 17
          (with_reducible refine (insertNm bk (v1, v2) pb _ (HR34.out _ ((Bt.refl _ _).drew)).2.2.2.2.2.1 HOS.out.2).mono ?_)
          rintro e w35 ⟨pb2, rfl, ht, hb⟩
          have HM35 := Lib.hid (show MAt w35 (none : Option Nat) 0 0 from trivial)
          have HR35 := Lib.hid (on_inv (mo := none) HR34.out (((Bt.refl none w34).drew).trans (Bt.ofBelow hb)) (fun W hz => ht.bt hz HM35.out))
          have pv := (HR35.out _ (Bt.refl _ _)).2.2.2.2.1
          have pc := pv.c0
          have pz := pv.z0
          have PV := Lib.hid pv
          clear ht hb pv HR34 HM34 x0 x1
          go_wp2_with fail
          refine hK.out _ _ ?_ (fun hH2 => ?_)
          · exact (HCR.out _ (HR35.out _ (Bt.refl _ _)).2.2.2.2.2.2.2.1)
          clear hK K hH
          have hH := hH2
          clear hH2
          try simp only [Act.put, List.setIfInBounds_toArray, List.set_cons_zero, List.set_cons_succ]
          refine wpAnyH_ready (rs := [10]) (by as_aux_lemma => kernel_rfl) (by simp) ?_
          refine AllReadyH.cons (o := { dst := none, op := Go.Op.store 29 (Go.Operand.tmp 16) (Go.Operand.tmp 88), type := 0, pos := "law.go:415", after := #[{ on := 9, ground := Go.Ground.data }, { on := 9, ground := Go.Ground.chain }, { on := 0, ground := Go.Ground.phase }, { on := 1, ground := Go.Ground.phase }, { on := 2, ground := Go.Ground.phase }, { on := 3, ground := Go.Ground.phase }, { on := 4, ground := Go.Ground.phase }, { on := 5, ground := Go.Ground.phase }, { on := 6, ground := Go.Ground.phase }, { on := 7, ground := Go.Ground.phase }, { on := 8, ground := Go.Ground.phase }, { on := 9, ground := Go.Ground.phase }], guard := none }) rfl (fun K hK => ?_) AllReadyH.nil
          go_simp
          refine hK.out _ _ ?_ (fun hH2 => ?_)
          · exact (HCR.out _ ((HR35.out _ (Bt.refl _ _)).2.2.2.2.2.2.2.1.set PV.out _))
          clear hK K hH
          have hH := hH2
          clear hH2
          try simp only [Act.put, List.setIfInBounds_toArray, List.set_cons_zero, List.set_cons_succ]
          refine wpAnyH_done (by as_aux_lemma => kernel_rfl) ?_ _
          refine NoPanic.normal ?_
          clear hH
          have HM36 := Lib.hid (show MAt (w35.setCell ⟨bB, 0, none⟩ (.pointer pb2)) (none : Option Nat) 0 0 from trivial)
          have HR36 := Lib.hid (fun W (hz : Bt none (w35.setCell ⟨bB, 0, none⟩ (.pointer pb2)) W) => And.intro ((((HR35.out _ (Bt.refl _ _)).1.set PV.out (.pointer pb2))).bt hz HM36.out) ( And.intro ((((HR35.out _ (Bt.refl _ _)).2.1.set PV.out (.pointer pb2))).bt hz HM36.out) ( And.intro ((((HR35.out _ (Bt.refl _ _)).2.2.1.set NHB.out 0 (.pointer pb2))).bt hz HM36.out) ( And.intro ((((HR35.out _ (Bt.refl _ _)).2.2.2.1.set N_bO_bB.out 0 (.pointer pb2))).bt hz HM36.out) ( And.intro (((PV.out.put pb2)).bt hz HM36.out) ( And.intro ((((HR35.out _ (Bt.refl _ _)).2.2.2.2.2.1.set PV.out (.pointer pb2))).bt hz HM36.out) ( And.intro ((((HR35.out _ (Bt.refl _ _)).2.2.2.2.2.2.2.1.set PV.out (.pointer pb2))).bt hz HM36.out) ((((HR35.out _ (Bt.refl _ _)).2.2.2.2.2.2.2.2.set HE.out B_bB.out 0 (.pointer pb2))).bt HE.out hz (fun _ e => by cases e)))))))))
          clear HR35 HM35 PV pc pz c9
          generalize w35.setCell ⟨bB, 0, none⟩ (.pointer pb2) = w36 at *
          clear a1 a2 a3 a4 a5 a6 a7 a8 b1 d1 d2 d3 b5 b6 b8 b9
          go_wp2_with fail
          go_roundg (L - 1 - i)
          case measure => have := Z.out.1; omega
          case rel => exact ⟨i + 1, o.insert (u1, u2), bk.insert (v1, v2), po2, pb2, by first | rfl | (congr 1; unfold wrap64; omega), by have := Z.out.1; omega, (HR36.out _ (Bt.refl _ _)).2.2.1, (HR36.out _ (Bt.refl _ _)).2.2.2.1, (HR36.out _ (Bt.refl _ _)).2.2.2.2.1, (HR36.out _ (Bt.refl _ _)).2.2.2.2.2.1, (HR36.out _ (Bt.refl _ _)).2.1, (HR36.out _ (Bt.refl _ _)).1, (HR36.out _ (Bt.refl _ _)).2.2.2.2.2.2.1, insert_ok _ Z.out.2.1, Z.out.2.2.2.2.2.1 ▸ ((insert_all o (u1, u2)).trans ((Z.out.2.2.1.cons (u1, u2)).trans (List.perm_append_comm (l₁ := [(u1, u2)])))), insert_ok _ Z.out.2.2.2.1, Z.out.2.2.2.2.2.2.1 ▸ ((insert_all bk (v1, v2)).trans ((Z.out.2.2.2.2.1.cons (v1, v2)).trans ((List.perm_append_comm (l₁ := [(v1, v2)])).trans (List.append_assoc _ _ _ ▸ List.Perm.refl _)))), (HR36.out _ (Bt.refl _ _)).2.2.2.2.2.2.2⟩
        · have hiL : i = L := by omega
          have hpo : o.all.Perm outs := by have h9 := ho2; rw [hiL, HLL.out] at h9; exact h9.trans (rot_perm outs y0)
          have hpb : bk.all.Perm (t.all ++ outs) := by have h9 := hb2; rw [hiL, HLL.out, List.take_of_length_le (by rw [List.length_reverse]; exact Nat.le_refl _)] at h9; exact h9.trans ((List.reverse_perm outs).append_left _)
          have HM47 := Lib.hid (show MAt wr (none : Option Nat) 0 0 from trivial)
          have HR47 := Lib.hid (fun W (hz : Bt none wr W) => And.intro ((h1).bt hz HM47.out) ( And.intro ((h2).bt hz HM47.out) ( And.intro ((h3).bt hz HM47.out) ( And.intro ((h4).bt hz HM47.out) ( And.intro ((h5).bt hz HM47.out) ( And.intro ((h6).bt hz HM47.out) ( And.intro ((h7).bt hz HM47.out) ((hB).bt HE.out hz (fun _ e => by cases e)))))))))
          have hsz2 : (meld o t).size = n ∧ bk.size = n := by have h8 := hpo.length_eq; have h9 := hpb.length_eq; rw [List.length_append] at h9; rw [Lh.all_length] at h8 h9; rw [Lh.all_length] at h9; rw [meld_size]; have := Q.out.2.2; omega
          have hw1 : srt (meld o t).all = srt xs := by rw [srt_meld, srt_perm ((hpo.append_right t.all)), ← srt_srt xs, ← Q.out.2.1]; exact srt_perm (((srt_spec t.all).2.append_left outs).symm)
          have hw2 : srt bk.all = srt xs := by rw [srt_perm hpb, ← srt_srt xs, ← Q.out.2.1]; exact srt_perm (List.perm_append_comm.trans ((srt_spec t.all).2.append_left outs).symm)
          have hw3 : (srt xs).take L = outs := by rw [← Q.out.2.1, HLL.out, List.take_left]
          have Z := Lib.hid (And.intro (meld_ok _ _ ho1 Q.out.1) (And.intro hb1 (And.intro hsz2 (And.intro hw1 (And.intro hw2 hw3)))))
          have q1 : ¬ (i : Int) < (L : Int) := by omega
          have q3 : decide ((i : Int) < (L : Int)) = false := by simp; omega
          have HLn := Lib.hid (show L ≤ n ∧ n ≤ 40 from ⟨by have := Q.out.2.2; have := HLL.out; omega, HS.out.1⟩)
          clear h1 h2 h3 h4 h5 h6 h7 hB hj ho1 ho2 hb1 hb2 hiL hpo hpb hsz2 hw1 hw2 hw3 hlt2
          go_wp2_with fail
          clear q1 q3
          ((with_reducible refine (sortRow A xs n c w _ HRW.out HN.out (by have := HS.out; omega) (HR47.out _ (Bt.refl _ _)).2.2.2.2.2.2.2.below).mono ?_); rintro e w48 ⟨vp, rfl, ht, hb⟩)
          have HM48 := Lib.hid (show MAt w48 (none : Option Nat) 0 0 from trivial)
          have HR48 := Lib.hid (on_inv (mo := none) HR47.out (Bt.ofBelow hb) (fun W hz => ht.bt hz HM48.out))
          clear HR47 HM47 
          clear ht hb
          have hvp := (HR48.out _ (Bt.refl _ _)).1
          rcases hvp with ⟨hv1, hv2⟩ | ⟨b1, o1, c1, cs1, hv1, hv2, hv3, -, -⟩
          · subst hv1
            have hL0 : L = 0 := by
              have h9 : (srt xs).length = 0 := by rw [hv2]; rfl
              rw [srt_length] at h9; have := HN.out; have := HLn.out; omega
            subst hL0
            have HPR := Lib.hid (fun W (hw : Rw W (.slice none 0 0) (srt xs)) => (show Rw W (.slice none 0 0) ((srt xs).take 0) from by rw [List.take_zero]; exact Rw.none W))
            go_wp2_with fail
            ((with_reducible refine (sameIs (.slice none 0 0) (.slice Av 0 cv) _ _ _ (HPR.out _ (HR48.out _ (Bt.refl _ _)).1) ((HR48.out _ (Bt.refl _ _)).2.2.2.2.2.2.2.1).rw (by rw [List.length_take]; have := HLn.out; omega) Z.out.2.2.2.2.2).mono ?_); rintro e w49 ⟨rfl, hb⟩)
            have HM49 := Lib.hid (show MAt w49 (none : Option Nat) 0 0 from trivial)
            have HR49 := Lib.hid (fun W (hz : Bt none w49 W) => HR48.out W ((Bt.ofBelow hb).trans hz))
            clear HR48 HM48 
            clear hb
            have c10 : w49.cell? ⟨bO, 0, none⟩ = some (.pointer po) := (HR49.out _ (Bt.refl _ _)).2.2.1.c0
            have c11 : w49.cell? ⟨bH, 0, none⟩ = some (.pointer p) := (HR49.out _ (Bt.refl _ _)).2.1.c0
            go_wp2_with fail
            ((with_reducible refine (meldNm o t po p _ (HR49.out _ (Bt.refl _ _)).2.2.2.2.2.1 (HR49.out _ (Bt.refl _ _)).2.2.2.2.1 (by have := Z.out.2.2.1; rw [meld_size] at this; have := HLn.out; omega)).mono ?_); rintro e w50 ⟨pm, rfl, ht, hb⟩)
            have HM50 := Lib.hid (show MAt w50 (none : Option Nat) 0 0 from trivial)
            have HR50 := Lib.hid (on_inv (mo := none) HR49.out (Bt.ofBelow hb) (fun W hz => ht.bt hz HM50.out))
            clear HR49 HM49 c10 c11
            clear ht hb
            go_wp2_with fail
            ((with_reducible refine (drainRw (meld o t) pm 200 _ (HR50.out _ (Bt.refl _ _)).1 Z.out.1 (by have := Z.out.2.2.1; have := HLn.out; omega) (by decide) (by have := Z.out.2.2.1; have := HLn.out; omega)).mono ?_); rintro e w51 ⟨vs, rfl, ht, hb⟩)
            have HM51 := Lib.hid (show MAt w51 (none : Option Nat) 0 0 from trivial)
            have HR51 := Lib.hid (on_inv (mo := none) HR50.out (Bt.ofBelow hb) (fun W hz => ht.bt hz HM51.out))
            clear HR50 HM50 
            clear ht hb
            go_wp2_with fail
            ((with_reducible refine (sameIs vs (.slice none 0 0) _ _ _ (HR51.out _ (Bt.refl _ _)).1 (HR51.out _ (Bt.refl _ _)).2.2.1 (by rw [srt_length, Lh.all_length]; have := Z.out.2.2.1; have := HLn.out; omega) Z.out.2.2.2.1).mono ?_); rintro e w52 ⟨rfl, hb⟩)
            have HM52 := Lib.hid (show MAt w52 (none : Option Nat) 0 0 from trivial)
            have HR52 := Lib.hid (fun W (hz : Bt none w52 W) => HR51.out W ((Bt.ofBelow hb).trans hz))
            clear HR51 HM51 
            clear hb
            have c12 : w52.cell? ⟨bB, 0, none⟩ = some (.pointer pb) := (HR52.out _ (Bt.refl _ _)).2.2.2.2.2.1.c0
            go_wp2_with fail
            ((with_reducible refine (drainRw bk pb 200 _ (HR52.out _ (Bt.refl _ _)).2.2.2.2.2.2.2.2.1 Z.out.2.1 (by have := Z.out.2.2.1; have := HLn.out; omega) (by decide) (by have := Z.out.2.2.1; have := HLn.out; omega)).mono ?_); rintro e w53 ⟨vt, rfl, ht, hb⟩)
            have HM53 := Lib.hid (show MAt w53 (none : Option Nat) 0 0 from trivial)
            have HR53 := Lib.hid (on_inv (mo := none) HR52.out (Bt.ofBelow hb) (fun W hz => ht.bt hz HM53.out))
            clear HR52 HM52 c12
            clear ht hb
            go_wp2_with fail
            ((with_reducible refine (sameIs vt (.slice none 0 0) _ _ _ (HR53.out _ (Bt.refl _ _)).1 (HR53.out _ (Bt.refl _ _)).2.2.2.1 (by rw [srt_length, Lh.all_length]; have := Z.out.2.2.1; have := HLn.out; omega) Z.out.2.2.2.2.1).mono ?_); rintro e w54 ⟨rfl, hb⟩)
            have HM54 := Lib.hid (show MAt w54 (none : Option Nat) 0 0 from trivial)
            have HR54 := Lib.hid (fun W (hz : Bt none w54 W) => HR53.out W ((Bt.ofBelow hb).trans hz))
            clear HR53 HM53 
            clear hb
            go_wp2_with fail
            go_ret
            exact ⟨rfl, (HR54.out _ (Bt.refl _ _)).2.2.2.2.2.2.2.2.2.2.2.below⟩
          · have hc1n : n ≤ c1 := by rw [srt_length, ← HN.out] at hv2; exact hv2
            have hvn : vp = .slice (some ⟨b1, o1, none⟩) n c1 := by rw [hv1, srt_length, ← HN.out]
            subst hvn
            have hLc : L ≤ c1 := by have := HLn.out; omega
            have hLc2 : (L : Int) ≤ (c1 : Int) := by omega
            have HPR := Lib.hid (fun W (hw : Rw W (.slice (some ⟨b1, o1, none⟩) n c1) (srt xs)) => rw_take hw L (by rw [srt_length, ← HN.out]; exact HLn.out.1))
            clear hv1 hv2 hv3 hc1n
            go_wp2_with fail
            ((with_reducible refine (sameIs (.slice (some ⟨b1, o1, none⟩) L c1) (.slice Av L cv) _ _ _ (HPR.out _ (HR48.out _ (Bt.refl _ _)).1) ((HR48.out _ (Bt.refl _ _)).2.2.2.2.2.2.2.1).rw (by rw [List.length_take]; have := HLn.out; omega) Z.out.2.2.2.2.2).mono ?_); rintro e w49 ⟨rfl, hb⟩)
            have HM49 := Lib.hid (show MAt w49 (none : Option Nat) 0 0 from trivial)
            have HR49 := Lib.hid (fun W (hz : Bt none w49 W) => HR48.out W ((Bt.ofBelow hb).trans hz))
            clear HR48 HM48 
            clear hb
            have c10 : w49.cell? ⟨bO, 0, none⟩ = some (.pointer po) := (HR49.out _ (Bt.refl _ _)).2.2.1.c0
            have c11 : w49.cell? ⟨bH, 0, none⟩ = some (.pointer p) := (HR49.out _ (Bt.refl _ _)).2.1.c0
            go_wp2_with fail
            ((with_reducible refine (meldNm o t po p _ (HR49.out _ (Bt.refl _ _)).2.2.2.2.2.1 (HR49.out _ (Bt.refl _ _)).2.2.2.2.1 (by have := Z.out.2.2.1; rw [meld_size] at this; have := HLn.out; omega)).mono ?_); rintro e w50 ⟨pm, rfl, ht, hb⟩)
            have HM50 := Lib.hid (show MAt w50 (none : Option Nat) 0 0 from trivial)
            have HR50 := Lib.hid (on_inv (mo := none) HR49.out (Bt.ofBelow hb) (fun W hz => ht.bt hz HM50.out))
            clear HR49 HM49 c10 c11
            clear ht hb
            go_wp2_with fail
            ((with_reducible refine (drainRw (meld o t) pm 200 _ (HR50.out _ (Bt.refl _ _)).1 Z.out.1 (by have := Z.out.2.2.1; have := HLn.out; omega) (by decide) (by have := Z.out.2.2.1; have := HLn.out; omega)).mono ?_); rintro e w51 ⟨vs, rfl, ht, hb⟩)
            have HM51 := Lib.hid (show MAt w51 (none : Option Nat) 0 0 from trivial)
            have HR51 := Lib.hid (on_inv (mo := none) HR50.out (Bt.ofBelow hb) (fun W hz => ht.bt hz HM51.out))
            clear HR50 HM50 
            clear ht hb
            go_wp2_with fail
            ((with_reducible refine (sameIs vs (.slice (some ⟨b1, o1, none⟩) n c1) _ _ _ (HR51.out _ (Bt.refl _ _)).1 (HR51.out _ (Bt.refl _ _)).2.2.1 (by rw [srt_length, Lh.all_length]; have := Z.out.2.2.1; have := HLn.out; omega) Z.out.2.2.2.1).mono ?_); rintro e w52 ⟨rfl, hb⟩)
            have HM52 := Lib.hid (show MAt w52 (none : Option Nat) 0 0 from trivial)
            have HR52 := Lib.hid (fun W (hz : Bt none w52 W) => HR51.out W ((Bt.ofBelow hb).trans hz))
            clear HR51 HM51 
            clear hb
            have c12 : w52.cell? ⟨bB, 0, none⟩ = some (.pointer pb) := (HR52.out _ (Bt.refl _ _)).2.2.2.2.2.1.c0
            go_wp2_with fail
            ((with_reducible refine (drainRw bk pb 200 _ (HR52.out _ (Bt.refl _ _)).2.2.2.2.2.2.2.2.1 Z.out.2.1 (by have := Z.out.2.2.1; have := HLn.out; omega) (by decide) (by have := Z.out.2.2.1; have := HLn.out; omega)).mono ?_); rintro e w53 ⟨vt, rfl, ht, hb⟩)
            have HM53 := Lib.hid (show MAt w53 (none : Option Nat) 0 0 from trivial)
            have HR53 := Lib.hid (on_inv (mo := none) HR52.out (Bt.ofBelow hb) (fun W hz => ht.bt hz HM53.out))
            clear HR52 HM52 c12
            clear ht hb
            go_wp2_with fail
            ((with_reducible refine (sameIs vt (.slice (some ⟨b1, o1, none⟩) n c1) _ _ _ (HR53.out _ (Bt.refl _ _)).1 (HR53.out _ (Bt.refl _ _)).2.2.2.1 (by rw [srt_length, Lh.all_length]; have := Z.out.2.2.1; have := HLn.out; omega) Z.out.2.2.2.2.1).mono ?_); rintro e w54 ⟨rfl, hb⟩)
            have HM54 := Lib.hid (show MAt w54 (none : Option Nat) 0 0 from trivial)
            have HR54 := Lib.hid (fun W (hz : Bt none w54 W) => HR53.out W ((Bt.ofBelow hb).trans hz))
            clear HR53 HM53 
            clear hb
            go_wp2_with fail
            go_ret
            exact ⟨rfl, (HR54.out _ (Bt.refl _ _)).2.2.2.2.2.2.2.2.2.2.2.below⟩

end Go.Proofs.YtlmokendajgbdaaGreatDoor.Bo
