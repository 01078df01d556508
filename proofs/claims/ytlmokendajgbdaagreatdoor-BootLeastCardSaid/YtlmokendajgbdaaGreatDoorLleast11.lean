/-
  The walk of the statement BootLeast: for any row, element and byte it returns true, and nothing that was there has changed, in any world where the library's table is as it is laid.
-/
import Derived.Test.YtlmokendajgbdaaGreatDoorWwake
import Derived.Test.YtlmokendajgbdaaGreatDoorBo
import Derived.Deep.LoopGhost
namespace Go.Proofs.YtlmokendajgbdaaGreatDoor.Bo
open Go.Sort Go.RowKit

set_option maxRecDepth 100000 in
set_option maxHeartbeats 4000000 in
theorem least_any (A : Option Addr) (xs : List (Int × Int)) (c : Nat) (x1 x2 : Int) (k0 : Nat) (w : World) (he : Env w) (hr1 : Row w A xs) (hk0 : k0 < 256) :
    Calls Tryz.prog 7 #[.slice A xs.length c, el (x1, x2), .int .u8 (k0 : Int)] w fun e w' => e = .returned (.bool true) ∧ Below w.heap.size w w' := by
  obtain ⟨n, hn⟩ : ∃ k, k = xs.length := ⟨_, rfl⟩
  rw [← hn]
  have HN := Lib.hid hn
  have HRW := Lib.hid hr1
  clear hn hr1
  have HE := Lib.hid he
  have HM0 := Lib.hid (show MAt w (none : Option Nat) 0 0 from trivial)
  have HR0 := Lib.hid (fun W (hb : Bt none w W) => Bas.bt (Bas.first he) he hb (fun _ e => by cases e))
  clear he
  go_enter Tryz.func7, Tryz.ntmps7
  go_wp2_with fail
  have hs_bx := (HR0.out _ (Bt.refl _ _)).below.size
  have HM1 := Lib.hid (show MAt (w.alloc (.cells #[.int .i64 x1, .int .i64 x2] 32)) (none : Option Nat) 0 0 from trivial)
  have HR1 := Lib.hid (on_inv (mo := none) HR0.out ((Bt.refl none w).alloc (.cells #[.int .i64 x1, .int .i64 x2] 32)) (fun W hz => (EVar.new w x1 x2 rfl).bt hz HM1.out))
  clear HR0 HM0 
  generalize w.alloc (.cells #[.int .i64 x1, .int .i64 x2] 32) = w1 at *
  obtain ⟨bx, hbx⟩ : ∃ b, b = w.heap.size := ⟨_, rfl⟩
  rw [← hbx] at HR1 ⊢
  have B_bx := Lib.hid (show w.heap.size ≤ bx by rw [hbx]; exact hs_bx)
  clear hbx hs_bx 
  ((with_reducible refine (awake_any _ (HR1.out _ (Bt.refl _ _)).2.env).mono ?_); rintro e w2 ⟨rfl, hb⟩)
  have HM2 := Lib.hid (show MAt w2 (none : Option Nat) 0 0 from trivial)
  have HR2 := Lib.hid (fun W (hz : Bt none w2 W) => HR1.out W ((Bt.ofBelow hb).trans hz))
  clear HR1 HM1 
  clear hb
  by_cases hb0 : 60 < n
  · have qa : decide ((60 : Int) < (n : Int)) = true := by simp; omega
    have qb : (60 : Int) < (n : Int) := by omega
    go_wp2_with fail
    go_ret
    exact ⟨rfl, (HR2.out _ (Bt.refl _ _)).2.below⟩
  have qa0 : decide ((60 : Int) < (n : Int)) = false := by simp; omega
  have qb0 : ¬ (60 : Int) < (n : Int) := by omega
  go_wp2_with fail
  clear qa0 qb0
  have HS := Lib.hid (And.intro (Nat.le_of_not_lt hb0) (trivial))
  clear hb0
  have hX : (ofL xs).size = n := by rw [ofL_size, HN.out]
  have HX := Lib.hid hX
  clear hX
  ((with_reducible refine (ofRow A xs n c w _ HRW.out HN.out (by have := HS.out; omega) (HR2.out _ (Bt.refl _ _)).2.below).mono ?_); rintro e w3 ⟨pX, rfl, ht, hb⟩)
  have HM3 := Lib.hid (show MAt w3 (none : Option Nat) 0 0 from trivial)
  have HR3 := Lib.hid (on_inv (mo := none) HR2.out (Bt.ofBelow hb) (fun W hz => ht.bt hz HM3.out))
  clear HR2 HM2 
  clear ht hb
  obtain ⟨N, hN⟩ : ∃ N, N = k0 % 6 := ⟨_, rfl⟩
  have hm1 : (k0 : Int) % 6 = (N : Int) := by omega
  have hm2 : (k0 : Int).tmod 6 = (N : Int) := by rw [Int.tmod_eq_emod_of_nonneg (by omega)]; exact hm1
  clear hN
  go_wp2_with fail
  have hs_bX := (HR3.out _ (Bt.refl _ _)).2.2.below.size
  have hl_bx := (HR3.out _ (Bt.refl _ _)).2.1.lt
  have HM4 := Lib.hid (show MAt (w3.alloc (.cells #[.pointer pX] 29)) (none : Option Nat) 0 0 from trivial)
  have HR4 := Lib.hid (on_inv (mo := none) HR3.out ((Bt.refl none w3).alloc (.cells #[.pointer pX] 29)) (fun W hz => (HVar.new w3 pX rfl).bt hz HM4.out))
  clear HR3 HM3 
  generalize w3.alloc (.cells #[.pointer pX] 29) = w4 at *
  obtain ⟨bX, hbX⟩ : ∃ b, b = w3.heap.size := ⟨_, rfl⟩
  rw [← hbX] at HR4 ⊢
  have B_bX := Lib.hid (show w.heap.size ≤ bX by rw [hbX]; exact hs_bX)
  have N_bx_bX := Lib.hid (show bx ≠ bX by omega)
  clear hbX hs_bX hl_bx
  go_loopg [9] N (fun k i wr => ∃ (j : Nat) (t : Lh) (p : Option Addr), i = .int .i64 (j : Int) ∧ j + k = N ∧ HVar wr bX p ∧ LAt wr t p ∧ EVar wr bx (x1, x2) ∧ t.ok ∧ t.size ≤ 60 ∧ Bas w wr)
  case atStart => exact ⟨0, ofL xs, pX, rfl, by omega, (HR4.out _ (Bt.refl _ _)).1, (HR4.out _ (Bt.refl _ _)).2.1, (HR4.out _ (Bt.refl _ _)).2.2.1, ofL_ok xs, by rw [HX.out]; exact HS.out.1, (HR4.out _ (Bt.refl _ _)).2.2.2⟩
  case round =>
    clear HR4 HM4
    obtain ⟨j, t, p, rfl, hj, hv, ht, hx, hok, hsz, hB⟩ := hrel
    by_cases hlt : j < N
    · have q1 : (j : Int) < (N : Int) := by omega
      have q3 : decide ((j : Int) < (N : Int)) = true := by simp; omega
      have HM5 := Lib.hid (show MAt wr (none : Option Nat) 0 0 from trivial)
      have HR5 := Lib.hid (fun W (hz : Bt none wr W) => And.intro ((hv).bt hz HM5.out) ( And.intro ((ht).bt hz HM5.out) ( And.intro ((hx).bt hz HM5.out) ((hB).bt HE.out hz (fun _ e => by cases e)))))
      have Q := Lib.hid (And.intro hj (And.intro hok hsz))
      clear hv ht hx hB hj hok hsz
      have c1 : wr.cell? ⟨bX, 0, none⟩ = some (.pointer p) := (HR5.out _ (Bt.refl _ _)).1.c0
      go_wp2_with fail
      obtain ⟨sb, hsb⟩ : ∃ sb, sb = t.some := ⟨_, rfl⟩
      ((with_reducible refine (popN t p _ (HR5.out _ (Bt.refl _ _)).2.1 (by have := Q.out; omega)).mono ?_); rintro e w6 ⟨p2, rfl, ht, hb⟩)
      have HM6 := Lib.hid (show MAt w6 (none : Option Nat) 0 0 from trivial)
      have HR6 := Lib.hid (on_inv (mo := none) HR5.out (Bt.ofBelow hb) (fun W hz => ht.bt hz HM6.out))
      clear HR5 HM5 c1
      rw [← hsb]
      clear ht hb hsb
      have pv := (HR6.out _ (Bt.refl _ _)).2.1
      have pc := pv.c0
      have pz := pv.z0
      have PV := Lib.hid pv
      clear pv
      go_wp2_with fail
      have HM7 := Lib.hid (show MAt (w6.setCell ⟨bX, 0, none⟩ (.pointer p2)) (none : Option Nat) 0 0 from trivial)
      have HR7 := Lib.hid (fun W (hz : Bt none (w6.setCell ⟨bX, 0, none⟩ (.pointer p2)) W) => And.intro ((((HR6.out _ (Bt.refl _ _)).1.set PV.out (.pointer p2))).bt hz HM7.out) ( And.intro (((PV.out.put p2)).bt hz HM7.out) ( And.intro ((((HR6.out _ (Bt.refl _ _)).2.2.2.1.set N_bx_bX.out 0 (.pointer p2))).bt hz HM7.out) ((((HR6.out _ (Bt.refl _ _)).2.2.2.2.set HE.out B_bX.out 0 (.pointer p2))).bt HE.out hz (fun _ e => by cases e)))))
      clear HR6 HM6 PV pc pz 
      generalize w6.setCell ⟨bX, 0, none⟩ (.pointer p2) = w7 at *
      go_roundg (N - 1 - j)
      case measure => have := Q.out.1; omega
      case rel => exact ⟨j + 1, t.pop, p2, by congr 1, by have := Q.out.1; omega, (HR7.out _ (Bt.refl _ _)).2.1, (HR7.out _ (Bt.refl _ _)).1, (HR7.out _ (Bt.refl _ _)).2.2.1, pop_ok Q.out.2.1, by rw [pop_size Q.out.2.1]; have := Q.out.2.2; omega, (HR7.out _ (Bt.refl _ _)).2.2.2⟩
    · have q1 : ¬ (j : Int) < (N : Int) := by omega
      have q3 : decide ((j : Int) < (N : Int)) = false := by simp; omega
      have HM18 := Lib.hid (show MAt wr (none : Option Nat) 0 0 from trivial)
      have HR18 := Lib.hid (fun W (hz : Bt none wr W) => And.intro ((hv).bt hz HM18.out) ( And.intro ((ht).bt hz HM18.out) ( And.intro ((hx).bt hz HM18.out) ((hB).bt HE.out hz (fun _ e => by cases e)))))
      have Q := Lib.hid (And.intro hok hsz)
      clear hv ht hx hB hj hok hsz hlt
      have c2 : wr.cell? ⟨bX, 0, none⟩ = some (.pointer p) := (HR18.out _ (Bt.refl _ _)).1.c0
      go_wp2_with fail
      clear q1 q3 hm1 hm2
      ((with_reducible refine (min_any t p _ _ (HR18.out _ (Bt.refl _ _)).2.1).mono ?_); rintro e w19 ⟨rfl, hb⟩)
      have HM19 := Lib.hid (show MAt w19 (none : Option Nat) 0 0 from trivial)
      have HR19 := Lib.hid (fun W (hz : Bt none w19 W) => HR18.out W ((Bt.ofBelow hb).trans hz))
      clear HR18 HM18 c2
      clear hb
      obtain ⟨⟨⟨m1, m2⟩, mb⟩, hmm⟩ : ∃ mm, t.min = mm := ⟨_, rfl⟩
      rw [show minV t = .tuple #[el (m1, m2), .bool mb] by simp only [minV, hmm]]
      obtain ⟨s, hs⟩ : ∃ s, s = t.size := ⟨_, rfl⟩
      have HMM := Lib.hid (And.intro hmm (show s = t.size ∧ s ≤ 60 from ⟨hs, by have := Q.out; omega⟩))
      clear hmm hs
      have c3 : (w19.alloc (.cells #[.int .i64 m1, .int .i64 m2] 32)).cell? ⟨bX, 0, none⟩ = some (.pointer p) := (HR19.out _ ((Bt.refl _ _).alloc _)).1.c0
      have c4 : (w19.alloc (.cells #[.int .i64 m1, .int .i64 m2] 32)).cell? ⟨bx, 0, none⟩ = some (.int .i64 x1) := (HR19.out _ ((Bt.refl _ _).alloc _)).2.2.1.c0
      have c5 : (w19.alloc (.cells #[.int .i64 m1, .int .i64 m2] 32)).cell? ⟨bx, 1, none⟩ = some (.int .i64 x2) := (HR19.out _ ((Bt.refl _ _).alloc _)).2.2.1.c1
      go_wp2_with fail
      have hs_bo := (HR19.out _ (Bt.refl _ _)).2.2.2.below.size
      have HM20 := Lib.hid (show MAt (w19.alloc (.cells #[.int .i64 m1, .int .i64 m2] 32)) (none : Option Nat) 0 0 from trivial)
      have HR20 := Lib.hid (on_inv (mo := none) HR19.out ((Bt.refl none w19).alloc (.cells #[.int .i64 m1, .int .i64 m2] 32)) (fun W hz => (EVar.new w19 m1 m2 rfl).bt hz HM20.out))
      clear HR19 HM19 c3 c4 c5
      generalize w19.alloc (.cells #[.int .i64 m1, .int .i64 m2] 32) = w20 at *
      obtain ⟨bo, hbo⟩ : ∃ b, b = w19.heap.size := ⟨_, rfl⟩
      rw [← hbo] at HR20 ⊢
      have B_bo := Lib.hid (show w.heap.size ≤ bo by rw [hbo]; exact hs_bo)
      clear hbo hs_bo 
      ((with_reducible refine (insertNm t (x1, x2) p _ (HR20.out _ (Bt.refl _ _)).2.2.1 (by have := Q.out; omega)).mono ?_); rintro e w21 ⟨pG, rfl, ht, hb⟩)
      have HM21 := Lib.hid (show MAt w21 (none : Option Nat) 0 0 from trivial)
      have HR21 := Lib.hid (on_inv (mo := none) HR20.out (Bt.ofBelow hb) (fun W hz => ht.bt hz HM21.out))
      clear HR20 HM20 
      clear ht hb
      go_wp2_with fail
      have hs_bG := (HR21.out _ (Bt.refl _ _)).2.2.2.2.2.below.size
      have HM22 := Lib.hid (show MAt (w21.alloc (.cells #[.pointer pG] 29)) (none : Option Nat) 0 0 from trivial)
      have HR22 := Lib.hid (on_inv (mo := none) HR21.out ((Bt.refl none w21).alloc (.cells #[.pointer pG] 29)) (fun W hz => (HVar.new w21 pG rfl).bt hz HM22.out))
      clear HR21 HM21 
      generalize w21.alloc (.cells #[.pointer pG] 29) = w22 at *
      obtain ⟨bG, hbG⟩ : ∃ b, b = w21.heap.size := ⟨_, rfl⟩
      rw [← hbG] at HR22 ⊢
      have B_bG := Lib.hid (show w.heap.size ≤ bG by rw [hbG]; exact hs_bG)
      clear hbG hs_bG 
      ((with_reducible refine (min_any (t.insert (x1, x2)) pG _ _ (HR22.out _ (Bt.refl _ _)).2.1).mono ?_); rintro e w23 ⟨rfl, hb⟩)
      have HM23 := Lib.hid (show MAt w23 (none : Option Nat) 0 0 from trivial)
      have HR23 := Lib.hid (fun W (hz : Bt none w23 W) => HR22.out W ((Bt.ofBelow hb).trans hz))
      clear HR22 HM22 
      clear hb
      cases mb with
      | false =>
        have hmin : (t.insert (x1, x2)).min = ((x1, x2), true) := min_first Q.out.1 (.inl (by rw [HMM.out.1]))
        rw [show minV (t.insert (x1, x2)) = .tuple #[el (x1, x2), .bool true] by simp only [minV, hmin]]
        clear hmin
        go_wp2_with fail
        have hs_bq := (HR23.out _ (Bt.refl _ _)).2.2.2.2.2.2.below.size
        have HM24 := Lib.hid (show MAt (w23.alloc (.cells #[.int .i64 x1, .int .i64 x2] 32)) (none : Option Nat) 0 0 from trivial)
        have HR24 := Lib.hid (on_inv (mo := none) HR23.out ((Bt.refl none w23).alloc (.cells #[.int .i64 x1, .int .i64 x2] 32)) (fun W hz => (EVar.new w23 x1 x2 rfl).bt hz HM24.out))
        clear HR23 HM23 
        generalize w23.alloc (.cells #[.int .i64 x1, .int .i64 x2] 32) = w24 at *
        obtain ⟨bq, hbq⟩ : ∃ b, b = w23.heap.size := ⟨_, rfl⟩
        rw [← hbq] at HR24 ⊢
        have B_bq := Lib.hid (show w.heap.size ≤ bq by rw [hbq]; exact hs_bq)
        clear hbq hs_bq 
        have w1 : IntKind.i64.wrap ((s : Int) + 1) = (s : Int) + 1 := by rw [IntKind.wrap_i64]; have := HMM.out; omega
        have w2 : wrap64 ((s : Int) + 1) = (s : Int) + 1 := by unfold wrap64; have := HMM.out; omega
        have kc0 := fun d os => cell_regrown (HR24.out _ (Bt.refl _ _)).1.c0 d os
        have kc1 := fun d os => cell_regrown (HR24.out _ (Bt.refl _ _)).1.c1 d os
        have kc2 := fun d os => cell_regrown (HR24.out _ (Bt.refl _ _)).2.2.2.2.2.2.1.c0 d os
        have kc3 := fun d os => cell_regrown (HR24.out _ (Bt.refl _ _)).2.2.2.2.2.2.1.c1 d os
        have kc4 := fun d os => cell_regrown (HR24.out _ (Bt.refl _ _)).2.1.c0 d os
        have kc5 := fun d os => cell_regrown (HR24.out _ (Bt.refl _ _)).2.2.2.2.1.c0 d os
        have HC1 := Lib.hid (fun d os => in_class (w := w24) (fun W hb => ((size_any (t.insert (x1, x2)) pG W (HR24.out _ (Bt.ofBelow hb)).2.2.1).mono fun _ _ ⟨he, hb2⟩ => ⟨(show _ = Ending.returned (.int .i64 ((s : Int) + 1)) by rw [he, insert_size, ← HMM.out.2.1]; rfl), hb2⟩)) d os)
        have HC2 := Lib.hid (fun d os => in_class (w := w24) (fun W hb => ((size_any t p W (HR24.out _ (Bt.ofBelow hb)).2.2.2.2.2.1).mono fun _ _ ⟨he, hb2⟩ => ⟨(show _ = Ending.returned (.int .i64 (s : Int)) by rw [he, ← HMM.out.2.1]), hb2⟩)) d os)
        rw [world_self w24]
        generalize w24.drawn = d0
        generalize (#[] : Array Obj) = os0
        refine wp_region_class (by kernel_rfl) (by kernel_rfl) ?_
        repeat (go_big_quiet_step (first | (with_reducible exact HC1.out _ _) | (with_reducible exact HC2.out _ _) | fail))
        refine wpQuiet_nil ?_
        intro _ hw'
        obtain ⟨⟨dq, osq⟩, hw''⟩ := hw'
        subst hw''
        have hb := below_regrown w24 dq osq
        have HM25 := Lib.hid (show MAt (grow (redrawn w24 dq) osq) (none : Option Nat) 0 0 from trivial)
        have HR25 := Lib.hid (fun W (hz : Bt none (grow (redrawn w24 dq) osq) W) => HR24.out W ((Bt.ofBelow hb).trans hz))
        clear HR24 HM24 hb kc0 kc1 kc2 kc3 kc4 kc5 HC1 HC2 
        generalize grow (redrawn w24 dq) osq = w25 at *
        have c6 : w25.cell? ⟨bG, 0, none⟩ = some (.pointer pG) := (HR25.out _ (Bt.refl _ _)).2.1.c0
        go_wp2_with fail
        clear w1 w2
        ((with_reducible refine (popN (t.insert (x1, x2)) pG _ (HR25.out _ (Bt.refl _ _)).2.2.1 (by rw [insert_size]; have := Q.out; omega)).mono ?_); rintro e w26 ⟨pK, rfl, ht, hb⟩)
        have HM26 := Lib.hid (show MAt w26 (none : Option Nat) 0 0 from trivial)
        have HR26 := Lib.hid (on_inv (mo := none) HR25.out (Bt.ofBelow hb) (fun W hz => ht.bt hz HM26.out))
        clear HR25 HM25 c6
        rw [show (t.insert (x1, x2)).some = true by rw [some_pos, insert_size]; simp]
        clear ht hb
        go_wp2_with fail
        have hs_bK := (HR26.out _ (Bt.refl _ _)).2.2.2.2.2.2.2.2.below.size
        have HM27 := Lib.hid (show MAt (w26.alloc (.cells #[.pointer pK] 29)) (none : Option Nat) 0 0 from trivial)
        have HR27 := Lib.hid (on_inv (mo := none) HR26.out ((Bt.refl none w26).alloc (.cells #[.pointer pK] 29)) (fun W hz => (HVar.new w26 pK rfl).bt hz HM27.out))
        clear HR26 HM26 
        generalize w26.alloc (.cells #[.pointer pK] 29) = w27 at *
        obtain ⟨bK, hbK⟩ : ∃ b, b = w26.heap.size := ⟨_, rfl⟩
        rw [← hbK] at HR27 ⊢
        have B_bK := Lib.hid (show w.heap.size ≤ bK by rw [hbK]; exact hs_bK)
        clear hbK hs_bK 
        have kc0 := fun d os => cell_regrown (HR27.out _ (Bt.refl _ _)).1.c0 d os
        have kc1 := fun d os => cell_regrown (HR27.out _ (Bt.refl _ _)).2.2.2.2.2.2.1.c0 d os
        have HC1 := Lib.hid (fun d os => in_class (w := w27) (fun W hb => ((size_any (t.insert (x1, x2)).pop pK W (HR27.out _ (Bt.ofBelow hb)).2.1).mono fun _ _ ⟨he, hb2⟩ => ⟨(show _ = Ending.returned (.int .i64 (s : Int)) by rw [he, pop_size (insert_ok _ Q.out.1), insert_size, ← HMM.out.2.1]; rfl), hb2⟩)) d os)
        have HC2 := Lib.hid (fun d os => in_class (w := w27) (fun W hb => ((size_any t p W (HR27.out _ (Bt.ofBelow hb)).2.2.2.2.2.2.2.1).mono fun _ _ ⟨he, hb2⟩ => ⟨(show _ = Ending.returned (.int .i64 (s : Int)) by rw [he, ← HMM.out.2.1]), hb2⟩)) d os)
        rw [world_self w27]
        generalize w27.drawn = d0
        generalize (#[] : Array Obj) = os0
        refine wp_region_class (by kernel_rfl) (by kernel_rfl) ?_
        repeat (go_big_quiet_step (first | (with_reducible exact HC1.out _ _) | (with_reducible exact HC2.out _ _) | fail))
        refine wpQuiet_nil ?_
        intro _ hw'
        obtain ⟨⟨dq, osq⟩, hw''⟩ := hw'
        subst hw''
        have hb := below_regrown w27 dq osq
        have HM28 := Lib.hid (show MAt (grow (redrawn w27 dq) osq) (none : Option Nat) 0 0 from trivial)
        have HR28 := Lib.hid (fun W (hz : Bt none (grow (redrawn w27 dq) osq) W) => HR27.out W ((Bt.ofBelow hb).trans hz))
        clear HR27 HM27 hb kc0 kc1 HC1 HC2 
        generalize grow (redrawn w27 dq) osq = w28 at *
        have c7 : w28.cell? ⟨bX, 0, none⟩ = some (.pointer p) := (HR28.out _ (Bt.refl _ _)).2.2.2.2.2.2.1.c0
        go_wp2_with fail
        ((with_reducible refine (drainRw t p 200 _ (HR28.out _ (Bt.refl _ _)).2.2.2.2.2.2.2.1 Q.out.1 (by have := Q.out; omega) (by decide) (by have := Q.out; omega)).mono ?_); rintro e w29 ⟨vw, rfl, ht, hb⟩)
        have HM29 := Lib.hid (show MAt w29 (none : Option Nat) 0 0 from trivial)
        have HR29 := Lib.hid (on_inv (mo := none) HR28.out (Bt.ofBelow hb) (fun W hz => ht.bt hz HM29.out))
        clear HR28 HM28 c7
        clear ht hb
        have c8 : w29.cell? ⟨bK, 0, none⟩ = some (.pointer pK) := (HR29.out _ (Bt.refl _ _)).2.1.c0
        go_wp2_with fail
        ((with_reducible refine (drainRw (t.insert (x1, x2)).pop pK 200 _ (HR29.out _ (Bt.refl _ _)).2.2.1 (pop_ok (insert_ok _ Q.out.1)) (by rw [pop_size (insert_ok _ Q.out.1), insert_size]; have := Q.out; omega) (by decide) (by rw [pop_size (insert_ok _ Q.out.1), insert_size]; have := Q.out; omega)).mono ?_); rintro e w30 ⟨vk, rfl, ht, hb⟩)
        have HM30 := Lib.hid (show MAt w30 (none : Option Nat) 0 0 from trivial)
        have HR30 := Lib.hid (on_inv (mo := none) HR29.out (Bt.ofBelow hb) (fun W hz => ht.bt hz HM30.out))
        clear HR29 HM29 c8
        clear ht hb
        go_wp2_with fail
        ((with_reducible refine (sameIs vk vw _ _ _ (HR30.out _ (Bt.refl _ _)).1 (HR30.out _ (Bt.refl _ _)).2.1 (by rw [srt_length, Lh.all_length, pop_size (insert_ok _ Q.out.1), insert_size]; have := Q.out; omega) (left_first Q.out.1 (x := (x1, x2)) (.inl (by rw [HMM.out.1])))).mono ?_); rintro e w31 ⟨rfl, hb⟩)
        have HM31 := Lib.hid (show MAt w31 (none : Option Nat) 0 0 from trivial)
        have HR31 := Lib.hid (fun W (hz : Bt none w31 W) => HR30.out W ((Bt.ofBelow hb).trans hz))
        clear HR30 HM30 
        clear hb
        go_wp2_with fail
        go_ret
        exact ⟨rfl, (HR31.out _ (Bt.refl _ _)).2.2.2.2.2.2.2.2.2.2.2.below⟩
      | true =>
        cases hlx : ltE (x1, x2) (m1, m2) with
        | true =>
          have hmin : (t.insert (x1, x2)).min = ((x1, x2), true) := min_first Q.out.1 (.inr (by rw [HMM.out.1]; exact hlx))
          rw [show minV (t.insert (x1, x2)) = .tuple #[el (x1, x2), .bool true] by simp only [minV, hmin]]
          clear hmin
          have c6 : (w23.alloc (.cells #[.int .i64 x1, .int .i64 x2] 32)).cell? ⟨bx, 0, none⟩ = some (.int .i64 x1) := (HR23.out _ ((Bt.refl _ _).alloc _)).2.2.2.2.2.1.c0
          have c7 : (w23.alloc (.cells #[.int .i64 x1, .int .i64 x2] 32)).cell? ⟨bx, 1, none⟩ = some (.int .i64 x2) := (HR23.out _ ((Bt.refl _ _).alloc _)).2.2.2.2.2.1.c1
          have c8 : (w23.alloc (.cells #[.int .i64 x1, .int .i64 x2] 32)).cell? ⟨bo, 0, none⟩ = some (.int .i64 m1) := (HR23.out _ ((Bt.refl _ _).alloc _)).2.2.1.c0
          have c9 : (w23.alloc (.cells #[.int .i64 x1, .int .i64 x2] 32)).cell? ⟨bo, 1, none⟩ = some (.int .i64 m2) := (HR23.out _ ((Bt.refl _ _).alloc _)).2.2.1.c1
          go_wp2_with fail
          have hs_bq := (HR23.out _ (Bt.refl _ _)).2.2.2.2.2.2.below.size
          have HM24 := Lib.hid (show MAt (w23.alloc (.cells #[.int .i64 x1, .int .i64 x2] 32)) (none : Option Nat) 0 0 from trivial)
          have HR24 := Lib.hid (on_inv (mo := none) HR23.out ((Bt.refl none w23).alloc (.cells #[.int .i64 x1, .int .i64 x2] 32)) (fun W hz => (EVar.new w23 x1 x2 rfl).bt hz HM24.out))
          clear HR23 HM23 c6 c7 c8 c9
          generalize w23.alloc (.cells #[.int .i64 x1, .int .i64 x2] 32) = w24 at *
          obtain ⟨bq, hbq⟩ : ∃ b, b = w23.heap.size := ⟨_, rfl⟩
          rw [← hbq] at HR24 ⊢
          have B_bq := Lib.hid (show w.heap.size ≤ bq by rw [hbq]; exact hs_bq)
          clear hbq hs_bq 
          ((with_reducible refine (refLess_below x1 x2 m1 m2 _).mono ?_); rintro e w25 ⟨rfl, hb⟩)
          have HM25 := Lib.hid (show MAt w25 (none : Option Nat) 0 0 from trivial)
          have HR25 := Lib.hid (fun W (hz : Bt none w25 W) => HR24.out W ((Bt.ofBelow hb).trans hz))
          clear HR24 HM24 
          clear hb
          rw [show ltI x1 x2 m1 m2 = true from hlx]
          go_wp2_with fail
          have w1 : IntKind.i64.wrap ((s : Int) + 1) = (s : Int) + 1 := by rw [IntKind.wrap_i64]; have := HMM.out; omega
          have w2 : wrap64 ((s : Int) + 1) = (s : Int) + 1 := by unfold wrap64; have := HMM.out; omega
          have kc0 := fun d os => cell_regrown (HR25.out _ (Bt.refl _ _)).1.c0 d os
          have kc1 := fun d os => cell_regrown (HR25.out _ (Bt.refl _ _)).1.c1 d os
          have kc2 := fun d os => cell_regrown (HR25.out _ (Bt.refl _ _)).2.2.2.2.2.2.1.c0 d os
          have kc3 := fun d os => cell_regrown (HR25.out _ (Bt.refl _ _)).2.2.2.2.2.2.1.c1 d os
          have kc4 := fun d os => cell_regrown (HR25.out _ (Bt.refl _ _)).2.1.c0 d os
          have kc5 := fun d os => cell_regrown (HR25.out _ (Bt.refl _ _)).2.2.2.2.1.c0 d os
          have HC1 := Lib.hid (fun d os => in_class (w := w25) (fun W hb => ((size_any (t.insert (x1, x2)) pG W (HR25.out _ (Bt.ofBelow hb)).2.2.1).mono fun _ _ ⟨he, hb2⟩ => ⟨(show _ = Ending.returned (.int .i64 ((s : Int) + 1)) by rw [he, insert_size, ← HMM.out.2.1]; rfl), hb2⟩)) d os)
          have HC2 := Lib.hid (fun d os => in_class (w := w25) (fun W hb => ((size_any t p W (HR25.out _ (Bt.ofBelow hb)).2.2.2.2.2.1).mono fun _ _ ⟨he, hb2⟩ => ⟨(show _ = Ending.returned (.int .i64 (s : Int)) by rw [he, ← HMM.out.2.1]), hb2⟩)) d os)
          rw [world_self w25]
          generalize w25.drawn = d0
          generalize (#[] : Array Obj) = os0
          refine wp_region_class (by kernel_rfl) (by kernel_rfl) ?_
          repeat (go_big_quiet_step (first | (with_reducible exact HC1.out _ _) | (with_reducible exact HC2.out _ _) | fail))
          refine wpQuiet_nil ?_
          intro _ hw'
          obtain ⟨⟨dq, osq⟩, hw''⟩ := hw'
          subst hw''
          have hb := below_regrown w25 dq osq
          have HM26 := Lib.hid (show MAt (grow (redrawn w25 dq) osq) (none : Option Nat) 0 0 from trivial)
          have HR26 := Lib.hid (fun W (hz : Bt none (grow (redrawn w25 dq) osq) W) => HR25.out W ((Bt.ofBelow hb).trans hz))
          clear HR25 HM25 hb kc0 kc1 kc2 kc3 kc4 kc5 HC1 HC2 
          generalize grow (redrawn w25 dq) osq = w26 at *
          have c10 : w26.cell? ⟨bG, 0, none⟩ = some (.pointer pG) := (HR26.out _ (Bt.refl _ _)).2.1.c0
          go_wp2_with fail
          clear w1 w2
          ((with_reducible refine (popN (t.insert (x1, x2)) pG _ (HR26.out _ (Bt.refl _ _)).2.2.1 (by rw [insert_size]; have := Q.out; omega)).mono ?_); rintro e w27 ⟨pK, rfl, ht, hb⟩)
          have HM27 := Lib.hid (show MAt w27 (none : Option Nat) 0 0 from trivial)
          have HR27 := Lib.hid (on_inv (mo := none) HR26.out (Bt.ofBelow hb) (fun W hz => ht.bt hz HM27.out))
          clear HR26 HM26 c10
          rw [show (t.insert (x1, x2)).some = true by rw [some_pos, insert_size]; simp]
          clear ht hb
          go_wp2_with fail
          have hs_bK := (HR27.out _ (Bt.refl _ _)).2.2.2.2.2.2.2.2.below.size
          have HM28 := Lib.hid (show MAt (w27.alloc (.cells #[.pointer pK] 29)) (none : Option Nat) 0 0 from trivial)
          have HR28 := Lib.hid (on_inv (mo := none) HR27.out ((Bt.refl none w27).alloc (.cells #[.pointer pK] 29)) (fun W hz => (HVar.new w27 pK rfl).bt hz HM28.out))
          clear HR27 HM27 
          generalize w27.alloc (.cells #[.pointer pK] 29) = w28 at *
          obtain ⟨bK, hbK⟩ : ∃ b, b = w27.heap.size := ⟨_, rfl⟩
          rw [← hbK] at HR28 ⊢
          have B_bK := Lib.hid (show w.heap.size ≤ bK by rw [hbK]; exact hs_bK)
          clear hbK hs_bK 
          have kc0 := fun d os => cell_regrown (HR28.out _ (Bt.refl _ _)).1.c0 d os
          have kc1 := fun d os => cell_regrown (HR28.out _ (Bt.refl _ _)).2.2.2.2.2.2.1.c0 d os
          have HC1 := Lib.hid (fun d os => in_class (w := w28) (fun W hb => ((size_any (t.insert (x1, x2)).pop pK W (HR28.out _ (Bt.ofBelow hb)).2.1).mono fun _ _ ⟨he, hb2⟩ => ⟨(show _ = Ending.returned (.int .i64 (s : Int)) by rw [he, pop_size (insert_ok _ Q.out.1), insert_size, ← HMM.out.2.1]; rfl), hb2⟩)) d os)
          have HC2 := Lib.hid (fun d os => in_class (w := w28) (fun W hb => ((size_any t p W (HR28.out _ (Bt.ofBelow hb)).2.2.2.2.2.2.2.1).mono fun _ _ ⟨he, hb2⟩ => ⟨(show _ = Ending.returned (.int .i64 (s : Int)) by rw [he, ← HMM.out.2.1]), hb2⟩)) d os)
          rw [world_self w28]
          generalize w28.drawn = d0
          generalize (#[] : Array Obj) = os0
          refine wp_region_class (by kernel_rfl) (by kernel_rfl) ?_
          repeat (go_big_quiet_step (first | (with_reducible exact HC1.out _ _) | (with_reducible exact HC2.out _ _) | fail))
          refine wpQuiet_nil ?_
          intro _ hw'
          obtain ⟨⟨dq, osq⟩, hw''⟩ := hw'
          subst hw''
          have hb := below_regrown w28 dq osq
          have HM29 := Lib.hid (show MAt (grow (redrawn w28 dq) osq) (none : Option Nat) 0 0 from trivial)
          have HR29 := Lib.hid (fun W (hz : Bt none (grow (redrawn w28 dq) osq) W) => HR28.out W ((Bt.ofBelow hb).trans hz))
          clear HR28 HM28 hb kc0 kc1 HC1 HC2 
          generalize grow (redrawn w28 dq) osq = w29 at *
          have c11 : w29.cell? ⟨bX, 0, none⟩ = some (.pointer p) := (HR29.out _ (Bt.refl _ _)).2.2.2.2.2.2.1.c0
          go_wp2_with fail
          ((with_reducible refine (drainRw t p 200 _ (HR29.out _ (Bt.refl _ _)).2.2.2.2.2.2.2.1 Q.out.1 (by have := Q.out; omega) (by decide) (by have := Q.out; omega)).mono ?_); rintro e w30 ⟨vw, rfl, ht, hb⟩)
          have HM30 := Lib.hid (show MAt w30 (none : Option Nat) 0 0 from trivial)
          have HR30 := Lib.hid (on_inv (mo := none) HR29.out (Bt.ofBelow hb) (fun W hz => ht.bt hz HM30.out))
          clear HR29 HM29 c11
          clear ht hb
          have c12 : w30.cell? ⟨bK, 0, none⟩ = some (.pointer pK) := (HR30.out _ (Bt.refl _ _)).2.1.c0
          go_wp2_with fail
          ((with_reducible refine (drainRw (t.insert (x1, x2)).pop pK 200 _ (HR30.out _ (Bt.refl _ _)).2.2.1 (pop_ok (insert_ok _ Q.out.1)) (by rw [pop_size (insert_ok _ Q.out.1), insert_size]; have := Q.out; omega) (by decide) (by rw [pop_size (insert_ok _ Q.out.1), insert_size]; have := Q.out; omega)).mono ?_); rintro e w31 ⟨vk, rfl, ht, hb⟩)
          have HM31 := Lib.hid (show MAt w31 (none : Option Nat) 0 0 from trivial)
          have HR31 := Lib.hid (on_inv (mo := none) HR30.out (Bt.ofBelow hb) (fun W hz => ht.bt hz HM31.out))
          clear HR30 HM30 c12
          clear ht hb
          go_wp2_with fail
          ((with_reducible refine (sameIs vk vw _ _ _ (HR31.out _ (Bt.refl _ _)).1 (HR31.out _ (Bt.refl _ _)).2.1 (by rw [srt_length, Lh.all_length, pop_size (insert_ok _ Q.out.1), insert_size]; have := Q.out; omega) (left_first Q.out.1 (x := (x1, x2)) (.inr (by rw [HMM.out.1]; exact hlx)))).mono ?_); rintro e w32 ⟨rfl, hb⟩)
          have HM32 := Lib.hid (show MAt w32 (none : Option Nat) 0 0 from trivial)
          have HR32 := Lib.hid (fun W (hz : Bt none w32 W) => HR31.out W ((Bt.ofBelow hb).trans hz))
          clear HR31 HM31 
          clear hb
          go_wp2_with fail
          go_ret
          exact ⟨rfl, (HR32.out _ (Bt.refl _ _)).2.2.2.2.2.2.2.2.2.2.2.below⟩
        | false =>
          have hmin : (t.insert (x1, x2)).min = ((m1, m2), true) := by have hz := min_other (t := t) Q.out.1 (x := (x1, x2)) (by rw [HMM.out.1]) (by rw [HMM.out.1]; exact hlx); rw [HMM.out.1] at hz; exact hz
          rw [show minV (t.insert (x1, x2)) = .tuple #[el (m1, m2), .bool true] by simp only [minV, hmin]]
          clear hmin
          have c6 : (w23.alloc (.cells #[.int .i64 m1, .int .i64 m2] 32)).cell? ⟨bx, 0, none⟩ = some (.int .i64 x1) := (HR23.out _ ((Bt.refl _ _).alloc _)).2.2.2.2.2.1.c0
          have c7 : (w23.alloc (.cells #[.int .i64 m1, .int .i64 m2] 32)).cell? ⟨bx, 1, none⟩ = some (.int .i64 x2) := (HR23.out _ ((Bt.refl _ _).alloc _)).2.2.2.2.2.1.c1
          have c8 : (w23.alloc (.cells #[.int .i64 m1, .int .i64 m2] 32)).cell? ⟨bo, 0, none⟩ = some (.int .i64 m1) := (HR23.out _ ((Bt.refl _ _).alloc _)).2.2.1.c0
          have c9 : (w23.alloc (.cells #[.int .i64 m1, .int .i64 m2] 32)).cell? ⟨bo, 1, none⟩ = some (.int .i64 m2) := (HR23.out _ ((Bt.refl _ _).alloc _)).2.2.1.c1
          go_wp2_with fail
          have hs_bq := (HR23.out _ (Bt.refl _ _)).2.2.2.2.2.2.below.size
          have HM24 := Lib.hid (show MAt (w23.alloc (.cells #[.int .i64 m1, .int .i64 m2] 32)) (none : Option Nat) 0 0 from trivial)
          have HR24 := Lib.hid (on_inv (mo := none) HR23.out ((Bt.refl none w23).alloc (.cells #[.int .i64 m1, .int .i64 m2] 32)) (fun W hz => (EVar.new w23 m1 m2 rfl).bt hz HM24.out))
          clear HR23 HM23 c6 c7 c8 c9
          generalize w23.alloc (.cells #[.int .i64 m1, .int .i64 m2] 32) = w24 at *
          obtain ⟨bq, hbq⟩ : ∃ b, b = w23.heap.size := ⟨_, rfl⟩
          rw [← hbq] at HR24 ⊢
          have B_bq := Lib.hid (show w.heap.size ≤ bq by rw [hbq]; exact hs_bq)
          clear hbq hs_bq 
          ((with_reducible refine (refLess_below x1 x2 m1 m2 _).mono ?_); rintro e w25 ⟨rfl, hb⟩)
          have HM25 := Lib.hid (show MAt w25 (none : Option Nat) 0 0 from trivial)
          have HR25 := Lib.hid (fun W (hz : Bt none w25 W) => HR24.out W ((Bt.ofBelow hb).trans hz))
          clear HR24 HM24 
          clear hb
          rw [show ltI x1 x2 m1 m2 = false from hlx]
          go_wp2_with fail
          have w1 : IntKind.i64.wrap ((s : Int) + 1) = (s : Int) + 1 := by rw [IntKind.wrap_i64]; have := HMM.out; omega
          have w2 : wrap64 ((s : Int) + 1) = (s : Int) + 1 := by unfold wrap64; have := HMM.out; omega
          have kc0 := fun d os => cell_regrown (HR25.out _ (Bt.refl _ _)).1.c0 d os
          have kc1 := fun d os => cell_regrown (HR25.out _ (Bt.refl _ _)).1.c1 d os
          have kc2 := fun d os => cell_regrown (HR25.out _ (Bt.refl _ _)).2.2.2.1.c0 d os
          have kc3 := fun d os => cell_regrown (HR25.out _ (Bt.refl _ _)).2.2.2.1.c1 d os
          have kc4 := fun d os => cell_regrown (HR25.out _ (Bt.refl _ _)).2.1.c0 d os
          have kc5 := fun d os => cell_regrown (HR25.out _ (Bt.refl _ _)).2.2.2.2.1.c0 d os
          have HC1 := Lib.hid (fun d os => in_class (w := w25) (fun W hb => ((size_any (t.insert (x1, x2)) pG W (HR25.out _ (Bt.ofBelow hb)).2.2.1).mono fun _ _ ⟨he, hb2⟩ => ⟨(show _ = Ending.returned (.int .i64 ((s : Int) + 1)) by rw [he, insert_size, ← HMM.out.2.1]; rfl), hb2⟩)) d os)
          have HC2 := Lib.hid (fun d os => in_class (w := w25) (fun W hb => ((size_any t p W (HR25.out _ (Bt.ofBelow hb)).2.2.2.2.2.1).mono fun _ _ ⟨he, hb2⟩ => ⟨(show _ = Ending.returned (.int .i64 (s : Int)) by rw [he, ← HMM.out.2.1]), hb2⟩)) d os)
          rw [world_self w25]
          generalize w25.drawn = d0
          generalize (#[] : Array Obj) = os0
          refine wp_region_class (by kernel_rfl) (by kernel_rfl) ?_
          repeat (go_big_quiet_step (first | (with_reducible exact HC1.out _ _) | (with_reducible exact HC2.out _ _) | fail))
          refine wpQuiet_nil ?_
          intro _ hw'
          obtain ⟨⟨dq, osq⟩, hw''⟩ := hw'
          subst hw''
          have hb := below_regrown w25 dq osq
          have HM26 := Lib.hid (show MAt (grow (redrawn w25 dq) osq) (none : Option Nat) 0 0 from trivial)
          have HR26 := Lib.hid (fun W (hz : Bt none (grow (redrawn w25 dq) osq) W) => HR25.out W ((Bt.ofBelow hb).trans hz))
          clear HR25 HM25 hb kc0 kc1 kc2 kc3 kc4 kc5 HC1 HC2 
          generalize grow (redrawn w25 dq) osq = w26 at *
          have c10 : w26.cell? ⟨bG, 0, none⟩ = some (.pointer pG) := (HR26.out _ (Bt.refl _ _)).2.1.c0
          go_wp2_with fail
          clear w1 w2
          ((with_reducible refine (popN (t.insert (x1, x2)) pG _ (HR26.out _ (Bt.refl _ _)).2.2.1 (by rw [insert_size]; have := Q.out; omega)).mono ?_); rintro e w27 ⟨pK, rfl, ht, hb⟩)
          have HM27 := Lib.hid (show MAt w27 (none : Option Nat) 0 0 from trivial)
          have HR27 := Lib.hid (on_inv (mo := none) HR26.out (Bt.ofBelow hb) (fun W hz => ht.bt hz HM27.out))
          clear HR26 HM26 c10
          rw [show (t.insert (x1, x2)).some = true by rw [some_pos, insert_size]; simp]
          clear ht hb
          go_wp2_with fail
          have hs_bK := (HR27.out _ (Bt.refl _ _)).2.2.2.2.2.2.2.2.below.size
          have HM28 := Lib.hid (show MAt (w27.alloc (.cells #[.pointer pK] 29)) (none : Option Nat) 0 0 from trivial)
          have HR28 := Lib.hid (on_inv (mo := none) HR27.out ((Bt.refl none w27).alloc (.cells #[.pointer pK] 29)) (fun W hz => (HVar.new w27 pK rfl).bt hz HM28.out))
          clear HR27 HM27 
          generalize w27.alloc (.cells #[.pointer pK] 29) = w28 at *
          obtain ⟨bK, hbK⟩ : ∃ b, b = w27.heap.size := ⟨_, rfl⟩
          rw [← hbK] at HR28 ⊢
          have B_bK := Lib.hid (show w.heap.size ≤ bK by rw [hbK]; exact hs_bK)
          clear hbK hs_bK 
          have kc0 := fun d os => cell_regrown (HR28.out _ (Bt.refl _ _)).1.c0 d os
          have kc1 := fun d os => cell_regrown (HR28.out _ (Bt.refl _ _)).2.2.2.2.2.2.1.c0 d os
          have HC1 := Lib.hid (fun d os => in_class (w := w28) (fun W hb => ((size_any (t.insert (x1, x2)).pop pK W (HR28.out _ (Bt.ofBelow hb)).2.1).mono fun _ _ ⟨he, hb2⟩ => ⟨(show _ = Ending.returned (.int .i64 (s : Int)) by rw [he, pop_size (insert_ok _ Q.out.1), insert_size, ← HMM.out.2.1]; rfl), hb2⟩)) d os)
          have HC2 := Lib.hid (fun d os => in_class (w := w28) (fun W hb => ((size_any t p W (HR28.out _ (Bt.ofBelow hb)).2.2.2.2.2.2.2.1).mono fun _ _ ⟨he, hb2⟩ => ⟨(show _ = Ending.returned (.int .i64 (s : Int)) by rw [he, ← HMM.out.2.1]), hb2⟩)) d os)
          rw [world_self w28]
          generalize w28.drawn = d0
          generalize (#[] : Array Obj) = os0
          refine wp_region_class (by kernel_rfl) (by kernel_rfl) ?_
          repeat (go_big_quiet_step (first | (with_reducible exact HC1.out _ _) | (with_reducible exact HC2.out _ _) | fail))
          refine wpQuiet_nil ?_
          intro _ hw'
          obtain ⟨⟨dq, osq⟩, hw''⟩ := hw'
          subst hw''
          have hb := below_regrown w28 dq osq
          have HM29 := Lib.hid (show MAt (grow (redrawn w28 dq) osq) (none : Option Nat) 0 0 from trivial)
          have HR29 := Lib.hid (fun W (hz : Bt none (grow (redrawn w28 dq) osq) W) => HR28.out W ((Bt.ofBelow hb).trans hz))
          clear HR28 HM28 hb kc0 kc1 HC1 HC2 
          generalize grow (redrawn w28 dq) osq = w29 at *
          have c11 : w29.cell? ⟨bX, 0, none⟩ = some (.pointer p) := (HR29.out _ (Bt.refl _ _)).2.2.2.2.2.2.1.c0
          go_wp2_with fail
          ((with_reducible refine (drainRw t p 200 _ (HR29.out _ (Bt.refl _ _)).2.2.2.2.2.2.2.1 Q.out.1 (by have := Q.out; omega) (by decide) (by have := Q.out; omega)).mono ?_); rintro e w30 ⟨vw, rfl, ht, hb⟩)
          have HM30 := Lib.hid (show MAt w30 (none : Option Nat) 0 0 from trivial)
          have HR30 := Lib.hid (on_inv (mo := none) HR29.out (Bt.ofBelow hb) (fun W hz => ht.bt hz HM30.out))
          clear HR29 HM29 c11
          clear ht hb
          have hne : srt t.all ≠ [] := by intro e; have hz := congrArg List.length e; rw [srt_length, Lh.all_length] at hz; have hy := min_two t; rw [HMM.out.1] at hy; simp at hz hy; omega
          obtain ⟨bw, ow, cw, hvw, hcw1, hcw2, hrest⟩ := (HR30.out _ (Bt.refl _ _)).1.rest hne
          subst hvw
          clear hne
          obtain ⟨L, hL⟩ : ∃ L, L = (srt t.all).length := ⟨_, rfl⟩
          have hLs : L = s ∧ 1 ≤ L := by have hy := min_two t; rw [HMM.out.1] at hy; simp at hy; rw [hL, srt_length, Lh.all_length, HMM.out.2.1]; omega
          rw [← hL] at hcw1 ⊢
          have HRS := Lib.hid hrest
          have HRL := Lib.hid (And.intro hL hLs)
          have l1 : 1 ≤ L := hLs.2
          have l2 : L < 1000 := by have := HMM.out; omega
          clear hrest hL hLs
          have c12 : w30.cell? ⟨bx, 0, none⟩ = some (.int .i64 x1) := (HR30.out _ (Bt.refl _ _)).2.2.2.2.2.2.2.2.2.1.c0
          have c13 : w30.cell? ⟨bx, 1, none⟩ = some (.int .i64 x2) := (HR30.out _ (Bt.refl _ _)).2.2.2.2.2.2.2.2.2.1.c1
          by_cases hc1 : cw = 1
          · subst hc1
            have hL1 : L = 1 := by omega
            subst hL1
            have hE : (srt t.all).tail = [] := List.eq_nil_of_length_eq_zero (by rw [List.length_tail, ← HRL.out.1])
            have HPT := Lib.hid (fun W (hz : Below w30.heap.size w30 W) => putRw _ [] (x1, x2) W (HRS.out _ hz).1 (by decide))
            go_wp2_with fail
            go_region_held3 (fun w' => w'.cell? ⟨bx, 0, none⟩ = some (.int .i64 x1) ∧ w'.cell? ⟨bx, 1, none⟩ = some (.int .i64 x2)) (go_keep)
              (first | (go_at_call 35; ((with_reducible refine (HPT.out _ ((Below.refl _ _).drew)).mono ?_); rintro e w31 ⟨vp, rfl, ht, hb⟩); have HM31 := Lib.hid (show MAt w31 (none : Option Nat) 0 0 from trivial); have HR31 := Lib.hid (on_inv (mo := none) HR30.out (((Bt.refl none w30).drew).trans (Bt.ofBelow hb)) (fun W hz => ht.bt hz HM31.out)); have y0 := (HR31.out _ (Bt.refl _ _)).2.2.2.2.2.2.2.2.2.2.1.c0; have y1 := (HR31.out _ (Bt.refl _ _)).2.2.2.2.2.2.2.2.2.2.1.c1; clear ht hb))
            clear c12 c13 y0 y1 HR30 HM30 HPT HRS
            have c14 : w31.cell? ⟨bK, 0, none⟩ = some (.pointer pK) := (HR31.out _ (Bt.refl _ _)).2.2.1.c0
            go_wp2_with fail
            ((with_reducible refine (drainRw (t.insert (x1, x2)).pop pK 200 _ (HR31.out _ (Bt.refl _ _)).2.2.2.1 (pop_ok (insert_ok _ Q.out.1)) (by rw [pop_size (insert_ok _ Q.out.1), insert_size]; have := Q.out; omega) (by decide) (by rw [pop_size (insert_ok _ Q.out.1), insert_size]; have := Q.out; omega)).mono ?_); rintro e w32 ⟨vk, rfl, ht, hb⟩)
            have HM32 := Lib.hid (show MAt w32 (none : Option Nat) 0 0 from trivial)
            have HR32 := Lib.hid (on_inv (mo := none) HR31.out (Bt.ofBelow hb) (fun W hz => ht.bt hz HM32.out))
            clear HR31 HM31 c14
            clear ht hb
            go_wp2_with fail
            ((with_reducible refine (sameIs vk vp _ _ _ (HR32.out _ (Bt.refl _ _)).1 (HR32.out _ (Bt.refl _ _)).2.1 (by rw [srt_length, Lh.all_length, pop_size (insert_ok _ Q.out.1), insert_size]; have := Q.out; omega) ((left_other Q.out.1 (x := (x1, x2)) (by rw [HMM.out.1]) (by rw [HMM.out.1]; exact hlx)).trans (by rw [hE]))).mono ?_); rintro e w33 ⟨rfl, hb⟩)
            have HM33 := Lib.hid (show MAt w33 (none : Option Nat) 0 0 from trivial)
            have HR33 := Lib.hid (fun W (hz : Bt none w33 W) => HR32.out W ((Bt.ofBelow hb).trans hz))
            clear HR32 HM32 
            clear hb
            go_wp2_with fail
            go_ret
            exact ⟨rfl, (HR33.out _ (Bt.refl _ _)).2.2.2.2.2.2.2.2.2.2.2.2.below⟩
          · have l3 : ¬ cw = 1 := hc1
            have l4 : 1 ≤ cw := by omega
            have m0 : 0 < L := by omega
            have m1 : ¬ L < 1 := by omega
            have m2 : ¬ L = 0 := by omega
            have m3 : (1 : Int) ≤ (L : Int) := by omega
            have m4 : ¬ (L : Int) < 1 := by omega
            have m5 : ¬ 1 = cw := by omega
            have m6 : 0 < cw := by omega
            have m7 : L ≤ cw := by omega
            have m8 : (L : Int) ≤ (cw : Int) := by omega
            have m9 : (1 : Int) ≤ (cw : Int) := by omega
            have m10 : ¬ cw - 1 = 0 := by omega
            have m11 : ¬ cw ≤ 1 := by omega
            have m12 : 1 < cw := by omega
            have m13 : (0 : Int) < (L : Int) := by omega
            have HPT := Lib.hid (fun W (hz : Below w30.heap.size w30 W) => putRw _ (srt t.all).tail (x1, x2) W (HRL.out.1 ▸ (HRS.out _ hz).2) (by rw [List.length_tail, ← HRL.out.1]; omega))
            go_wp2_with fail
            go_region_held3 (fun w' => w'.cell? ⟨bx, 0, none⟩ = some (.int .i64 x1) ∧ w'.cell? ⟨bx, 1, none⟩ = some (.int .i64 x2)) (go_keep)
              (first | (go_at_call 35; ((with_reducible refine (HPT.out _ ((Below.refl _ _).drew)).mono ?_); rintro e w31 ⟨vp, rfl, ht, hb⟩); have HM31 := Lib.hid (show MAt w31 (none : Option Nat) 0 0 from trivial); have HR31 := Lib.hid (on_inv (mo := none) HR30.out (((Bt.refl none w30).drew).trans (Bt.ofBelow hb)) (fun W hz => ht.bt hz HM31.out)); have y0 := (HR31.out _ (Bt.refl _ _)).2.2.2.2.2.2.2.2.2.2.1.c0; have y1 := (HR31.out _ (Bt.refl _ _)).2.2.2.2.2.2.2.2.2.2.1.c1; clear ht hb))
            clear c12 c13 y0 y1 HR30 HM30 HPT HRS
            have c14 : w31.cell? ⟨bK, 0, none⟩ = some (.pointer pK) := (HR31.out _ (Bt.refl _ _)).2.2.1.c0
            go_wp2_with fail
            ((with_reducible refine (drainRw (t.insert (x1, x2)).pop pK 200 _ (HR31.out _ (Bt.refl _ _)).2.2.2.1 (pop_ok (insert_ok _ Q.out.1)) (by rw [pop_size (insert_ok _ Q.out.1), insert_size]; have := Q.out; omega) (by decide) (by rw [pop_size (insert_ok _ Q.out.1), insert_size]; have := Q.out; omega)).mono ?_); rintro e w32 ⟨vk, rfl, ht, hb⟩)
            have HM32 := Lib.hid (show MAt w32 (none : Option Nat) 0 0 from trivial)
            have HR32 := Lib.hid (on_inv (mo := none) HR31.out (Bt.ofBelow hb) (fun W hz => ht.bt hz HM32.out))
            clear HR31 HM31 c14
            clear ht hb
            go_wp2_with fail
            ((with_reducible refine (sameIs vk vp _ _ _ (HR32.out _ (Bt.refl _ _)).1 (HR32.out _ (Bt.refl _ _)).2.1 (by rw [srt_length, Lh.all_length, pop_size (insert_ok _ Q.out.1), insert_size]; have := Q.out; omega) ((left_other Q.out.1 (x := (x1, x2)) (by rw [HMM.out.1]) (by rw [HMM.out.1]; exact hlx)))).mono ?_); rintro e w33 ⟨rfl, hb⟩)
            have HM33 := Lib.hid (show MAt w33 (none : Option Nat) 0 0 from trivial)
            have HR33 := Lib.hid (fun W (hz : Bt none w33 W) => HR32.out W ((Bt.ofBelow hb).trans hz))
            clear HR32 HM32 
            clear hb
            go_wp2_with fail
            go_ret
            exact ⟨rfl, (HR33.out _ (Bt.refl _ _)).2.2.2.2.2.2.2.2.2.2.2.2.below⟩

end Go.Proofs.YtlmokendajgbdaaGreatDoor.Bo
