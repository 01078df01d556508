/-
  The walk of the statement SkewSteps: for any row and any byte it returns true, and nothing that was there has changed, in any world where the library's table is as it is laid.
-/
import Derived.Test.YtlaohkflnkjamaaDoorSwake
import Derived.Test.YtlaohkflnkjamaaDoorSof
import Derived.Test.YtlaohkflnkjamaaDoorSagain0
import Derived.Deep.LoopGhost
namespace Go.Proofs.YtlaohkflnkjamaaDoor.Hp
open Go.Sort Go.RowKit

/-- Of no elements. -/
theorem ofNil (w : World) : Calls Tryd.prog 14 #[.pointer none, .slice none 0 0] w (GaveN .nil w) := ofN none [] 0 w (fun h => by simp at h) (by decide)
/-- Sort, of a slice of the call's own. -/
theorem sortOwn (v : Value) (xs : List (Int × Int)) (base : Nat) (w : World) (h : Own w base v xs) (hs : xs.length < 16777216) : Calls Tryd.prog 16 #[v] w fun e w' => ∃ v', e = .returned v' ∧ Rw w' v' (srt xs) ∧ Below w.heap.size w w' := by
  obtain ⟨A, c, rfl, hr, -⟩ := h.form
  exact sortRw A xs c w hr hs
theorem half_nums (b d h : Nat) (hd : d ≤ 100) (hb : b ≤ 100) (hh : h = d / 2) :
    IntKind.i64.wrap ((b : Int) + 1) = ((b + 1 : Nat) : Int) ∧ wrap64 ((b : Int) + 1) = ((b + 1 : Nat) : Int) ∧ IntKind.i64.wrap (h : Int) = (h : Int) ∧ (d : Int).tdiv 2 = (h : Int) ∧ (d : Int) / 2 = (h : Int) := by
  refine ⟨?_, ?_, ?_, ?_, ?_⟩
  · rw [IntKind.wrap_i64]; omega
  · unfold wrap64; omega
  · rw [IntKind.wrap_i64]; omega
  · rw [Int.tdiv_eq_ediv_of_nonneg (by omega)]; omega
  · omega
theorem fits_take {xs : List (Int × Int)} (h : fits xs) (k : Nat) : fits (xs.take k) := fun e he => h e (List.mem_of_mem_take he)

set_option maxRecDepth 100000 in
set_option maxHeartbeats 4000000 in
theorem steps_any (A : Option Addr) (xs : List (Int × Int)) (c : Nat) (k0 : Nat) (w : World) (he : Env w) (hr1 : Row w A xs) (hf : fits xs) (hk0 : k0 < 256) :
    Calls Tryd.prog 5 #[.slice A xs.length c, .int .u8 (k0 : Int)] w fun e w' => e = .returned (.bool true) ∧ Below w.heap.size w w' := by
  obtain ⟨n, hn⟩ : ∃ k, k = xs.length := ⟨_, rfl⟩
  rw [← hn]
  have HN := Lib.hid hn
  have HRW := Lib.hid (And.intro hr1 hf)
  clear hn hr1 hf
  have HE := Lib.hid he
  have HM0 := Lib.hid (show MAt w (none : Option Nat) 0 0 from trivial)
  have HR0 := Lib.hid (fun W (hb : Bt none w W) => Bas.bt (Bas.first he) he hb (fun _ e => by cases e))
  clear he
  go_enter Tryd.func5, Tryd.ntmps5
  go_wp2_with fail
  ((with_reducible refine (awake_any _ HE.out).mono ?_); rintro e w1 ⟨rfl, hb⟩)
  have HM1 := Lib.hid (show MAt w1 (none : Option Nat) 0 0 from trivial)
  have HR1 := Lib.hid (fun W (hz : Bt none w1 W) => HR0.out W ((Bt.ofBelow hb).trans hz))
  clear HR0 HM0 
  clear hb
  by_cases hb0 : 100 < n
  · have qa : decide ((100 : Int) < (n : Int)) = true := by simp; omega
    have qb : (100 : Int) < (n : Int) := by omega
    go_wp2_with fail
    go_ret
    exact ⟨rfl, (HR1.out _ (Bt.refl _ _)).below⟩
  have qa0 : decide ((100 : Int) < (n : Int)) = false := by simp; omega
  have qb0 : ¬ (100 : Int) < (n : Int) := by omega
  go_wp2_with fail
  clear qa0 qb0
  have HS := Lib.hid (And.intro (Nat.le_of_not_lt hb0) (trivial))
  clear hb0
  ((with_reducible refine (ofNil _).mono ?_); rintro e w2 ⟨pX, rfl, ht, hb⟩)
  have HM2 := Lib.hid (show MAt w2 (none : Option Nat) 0 0 from trivial)
  have HR2 := Lib.hid (on_inv (mo := none) HR1.out (Bt.ofBelow hb) (fun W hz => ht.bt hz HM2.out))
  clear HR1 HM1 
  clear ht hb
  go_wp2_with fail
  have hs_bX := (HR2.out _ (Bt.refl _ _)).2.below.size
  have HM3 := Lib.hid (show MAt (w2.alloc (.cells #[.pointer pX.q, .int .i64 pX.n] 28)) (none : Option Nat) 0 0 from trivial)
  have HR3 := Lib.hid (on_inv (mo := none) HR2.out ((Bt.refl none w2).alloc (.cells #[.pointer pX.q, .int .i64 pX.n] 28)) (fun W hz => (HVar.new w2 pX rfl).bt hz HM3.out))
  clear HR2 HM2 
  generalize w2.alloc (.cells #[.pointer pX.q, .int .i64 pX.n] 28) = w3 at *
  obtain ⟨bX, hbX⟩ : ∃ b, b = w2.heap.size := ⟨_, rfl⟩
  rw [← hbX] at HR3 ⊢
  have B_bX := Lib.hid (show w.heap.size ≤ bX by rw [hbX]; exact hs_bX)
  clear hbX hs_bX 
  ((with_reducible refine (mNew _).mono ?_); rintro e w4 ⟨rfl, hm, hb⟩)
  obtain ⟨mb, hmb⟩ : ∃ b, b = w3.heap.size := ⟨_, rfl⟩
  rw [← hmb] at hm ⊢
  have B_mb := Lib.hid (show w.heap.size ≤ mb by rw [hmb]; exact (HR3.out _ (Bt.refl _ _)).2.2.below.size)
  clear hmb
  have HM4 := Lib.hid hm
  have HR4 := Lib.hid (fun W (hz : Bt (some mb) w4 W) => And.intro (((HR3.out _ (Bt.ofBelow hb)).1).bt hz HM4.out) ( And.intro (((HR3.out _ (Bt.ofBelow hb)).2.1).bt hz HM4.out) (((HR3.out _ (Bt.ofBelow hb)).2.2).bt HE.out hz (fun b e => by cases e; exact B_mb.out))))
  clear HR3 HM3 hm hb 
  obtain ⟨N, hN⟩ : ∃ N, N = k0 % 9 := ⟨_, rfl⟩
  have hm1 : (k0 : Int) % 9 = (N : Int) := by omega
  have hm2 : (k0 : Int).tmod 9 = (N : Int) := by rw [Int.tmod_eq_emod_of_nonneg (by omega)]; exact hm1
  have HN9 := Lib.hid (show N < 9 ∧ (k0 : Int).tmod 9 = (N : Int) ∧ (k0 : Int) % 9 = (N : Int) from ⟨by omega, hm2, hm1⟩)
  clear hN hm1 hm2
  go_wp2_with fail
  go_loopg [8] n (fun k i wr => ∃ (j : Nat) (p : HP) (C M : Int), i = .int .i64 (j : Int) ∧ j + k = n ∧ 0 ≤ C ∧ C ≤ 4 * (j : Int) ∧ 0 ≤ M ∧ M ≤ 4 * (j : Int) ∧ HVar wr bX p ∧ LAt wr (ofL (xs.take j)) p ∧ MAt wr (some mb) C M ∧ Bas w wr)
  case atStart => exact ⟨0, pX, 0, 0, rfl, by omega, by omega, by omega, by omega, by omega, (HR4.out _ (Bt.refl _ _)).1, (HR4.out _ (Bt.refl _ _)).2.1, HM4.out, (HR4.out _ (Bt.refl _ _)).2.2⟩
  case round =>
    clear HR4 HM4
    obtain ⟨j, p, C, M, rfl, hj, hc1, hc2, hc3, hc4, hv, ht, hM, hB⟩ := hrel
    by_cases hlt : j < n
    · have q1 : (j : Int) < (n : Int) := by omega
      have q3 : decide ((j : Int) < (n : Int)) = true := by simp; omega
      have q2 : (0 : Int) ≤ (j : Int) := by omega
      have hjx : j < xs.length := by rw [← HN.out]; exact hlt
      have HM5 := Lib.hid (hM)
      have HR5 := Lib.hid (fun W (hz : Bt (some mb) wr W) => And.intro ((hv).bt hz HM5.out) ( And.intro ((ht).bt hz HM5.out) ((hB).bt HE.out hz (fun b e => by cases e; exact B_mb.out))))
      have hG : (ofL (xs.take j)).size = j := by rw [ofL_size, List.length_take]; omega
      have eO := ofL_take xs j hjx
      have hci := insC_le (ofL (xs.take j))
      have hmi := insM_le (ofL (xs.take j))
      obtain ⟨b, ob, rfl, hc⟩ := HRW.out.1 (by omega)
      have hx := row_at hc j hjx
      have HXC := Lib.hid (fun W (hz : Below w.heap.size w W) => And.intro ((hz.cell (block_lt_of_cell hx.1)).trans hx.1) ((hz.cell (block_lt_of_cell hx.2)).trans hx.2))
      have HBL := Lib.hid (show b < w.heap.size from block_lt_of_cell hx.1)
      clear hx hc
      generalize xs[j] = x at *
      obtain ⟨y1, y2⟩ := x
      have Q := Lib.hid (show j + gk = n ∧ (0 ≤ C ∧ C ≤ 4 * (j : Int) ∧ 0 ≤ M ∧ M ≤ 4 * (j : Int)) ∧ (ofL (xs.take j)).size = j ∧ ofL (xs.take (j + 1)) = (ofL (xs.take j)).insert (y1, y2) ∧ (ofL (xs.take j)).insC ≤ 2 ∧ (ofL (xs.take j)).insM ≤ 2 from ⟨hj, ⟨hc1, hc2, hc3, hc4⟩, hG, eO, hci, hmi⟩)
      clear hv ht hB hM hj hc1 hc2 hc3 hc4 hG eO hci hmi hjx
      go_wp2_with fail
      ((with_reducible refine (mSteps mb C M _ HM5.out (by have := Q.out; omega) (by have := Q.out; have := HS.out; omega) (by have := Q.out; omega) (by have := Q.out; have := HS.out; omega)).mono ?_); rintro e w6 ⟨rfl, hb⟩)
      have HM6 := Lib.hid (HM5.out.stay hb)
      have HR6 := Lib.hid (fun W (hz : Bt (some mb) w6 W) => HR5.out W ((Bt.ofBelow hb).trans hz))
      clear HR5 HM5 
      clear hb
      have c1 : w6.cell? ⟨bX, 0, none⟩ = some (.pointer p.q) := (HR6.out _ (Bt.refl _ _)).1.c0
      have c2 : w6.cell? ⟨bX, 1, none⟩ = some (.int .i64 p.n) := (HR6.out _ (Bt.refl _ _)).1.c1
      have x0 := (HXC.out _ (HR6.out _ (Bt.refl _ _)).2.2.below).1
      have x1 := (HXC.out _ (HR6.out _ (Bt.refl _ _)).2.2.below).2
      have n1 : ¬ b = bX := by have := B_bX.out; have := HBL.out; omega
      have n2 : ¬ bX = b := by have := B_bX.out; have := HBL.out; omega
      go_wp2_with fail
      go_region_with (go_at_call 23; ((with_reducible refine (insert_any (some mb) _ _ (ofL (xs.take j)) (y1, y2) p _ (by have := Q.out; have := HS.out; omega) HM6.out.drew (by have := Q.out; omega) (by have := Q.out; have := HS.out; omega) (by have := Q.out; omega) (by have := Q.out; have := HS.out; omega) (HR6.out _ ((Bt.refl _ _).drew)).2.1).mono ?_); rintro e w7 ⟨p2, rfl, ht, hm, hb⟩); have HM7 := Lib.hid hm; have HR7 := Lib.hid (on_inv (mo := (some mb)) HR6.out (((Bt.refl (some mb) w6).drew).trans hb) (fun W hz => ht.bt hz HM7.out)); have pv := (HR7.out _ (Bt.refl _ _)).2.1; have pc := pv.c0; have pd := pv.c1; have pz := pv.z0; have py := pv.z1; have PV := Lib.hid pv; have y0 := (HXC.out _ (HR7.out _ (Bt.refl _ _)).2.2.2.below).1; have y9 := (HXC.out _ (HR7.out _ (Bt.refl _ _)).2.2.2.below).2; clear ht hm hb pv)
      all_goals
        have HM8 := Lib.hid (MAt.set HM7.out PV.out (.pointer p2.q) (.int .i64 p2.n))
        have HR8 := Lib.hid (fun W (hz : Bt (some mb) ((w7.setCell ⟨bX, 0, none⟩ (.pointer p2.q)).setCell ⟨bX, 1, none⟩ (.int .i64 p2.n)) W) => And.intro ((((HR7.out _ (Bt.refl _ _)).1.set PV.out (.pointer p2.q) (.int .i64 p2.n))).bt hz HM8.out) ( And.intro (((HVar.put PV.out p2)).bt hz HM8.out) ((((HR7.out _ (Bt.refl _ _)).2.2.2.set HE.out B_bX.out (.pointer p2.q) (.int .i64 p2.n))).bt HE.out hz (fun b e => by cases e; exact B_mb.out))))
        clear HR7 HM7 PV pc pd pz py c1 c2 x0 x1 y0 y9 HR6 HM6
        generalize (w7.setCell ⟨bX, 0, none⟩ (.pointer p2.q)).setCell ⟨bX, 1, none⟩ (.int .i64 p2.n) = w8 at *
        clear n1 n2
        obtain ⟨cc, hcc⟩ : ∃ cc, cc = (ofL (xs.take j)).insC := ⟨_, rfl⟩
        obtain ⟨cm, hcm⟩ : ∃ cm, cm = (ofL (xs.take j)).insM := ⟨_, rfl⟩
        rw [← hcc, ← hcm] at HM8
        have HCC := Lib.hid (show cc ≤ 2 ∧ cm ≤ 2 from ⟨by have := Q.out; omega, by have := Q.out; omega⟩)
        clear hcc hcm
        go_wp2_with fail
        ((with_reducible refine (mSince mb (C + (cc : Nat)) (M + (cm : Nat)) (C + M) _ HM8.out (by have := Q.out; have := HCC.out; have := HS.out; omega) (by have := Q.out; have := HCC.out; have := HS.out; omega) (by have := Q.out; have := HCC.out; have := HS.out; omega) (by have := Q.out; have := HCC.out; have := HS.out; omega) (by have := Q.out; have := HCC.out; have := HS.out; omega) (by have := Q.out; have := HCC.out; have := HS.out; omega)).mono ?_); rintro e w9 ⟨rfl, hb⟩)
        have HM9 := Lib.hid (HM8.out.stay hb)
        have HR9 := Lib.hid (fun W (hz : Bt (some mb) w9 W) => HR8.out W ((Bt.ofBelow hb).trans hz))
        clear HR8 HM8 
        clear hb
        have v1 : decide ((4 : Int) < C + (cc : Nat) + (M + (cm : Nat)) - (C + M)) = false := by simp; have := HCC.out; omega
        have v2 : ¬ (4 : Int) < C + (cc : Nat) + (M + (cm : Nat)) - (C + M) := by have := HCC.out; omega
        have c3 : w9.cell? ⟨bX, 0, none⟩ = some (.pointer p2.q) := (HR9.out _ (Bt.refl _ _)).2.1.c0
        have c4 : w9.cell? ⟨bX, 1, none⟩ = some (.int .i64 p2.n) := (HR9.out _ (Bt.refl _ _)).2.1.c1
        go_wp2_with fail
        ((with_reducible refine (size_any ((ofL (xs.take j)).insert (y1, y2)) p2 _ (HR9.out _ (Bt.refl _ _)).1).mono ?_); rintro e w10 ⟨rfl, hb⟩)
        have HM10 := Lib.hid (HM9.out.stay hb)
        have HR10 := Lib.hid (fun W (hz : Bt (some mb) w10 W) => HR9.out W ((Bt.ofBelow hb).trans hz))
        clear HR9 HM9 c3 c4
        clear hb
        rw [show ((((ofL (xs.take j)).insert (y1, y2)).size : Nat) : Int) = (j : Int) + 1 from by rw [insert_size, Q.out.2.2.1]; omega]
        have v3 : IntKind.i64.wrap ((j : Int) + 1) = (j : Int) + 1 := by rw [IntKind.wrap_i64]; have := Q.out; have := HS.out; omega
        have v4 : wrap64 ((j : Int) + 1) = (j : Int) + 1 := by unfold wrap64; have := Q.out; have := HS.out; omega
        go_wp2_with fail
        go_roundg (n - 1 - j)
        case measure => have := Q.out.1; omega
        case rel => exact ⟨j + 1, p2, C + (cc : Nat), M + (cm : Nat), by first | rfl | (congr 1; have := Q.out; have := HS.out; first | omega | (unfold wrap64; omega)), by have := Q.out.1; omega, by have := Q.out; omega, by have := Q.out; have := HCC.out; omega, by have := Q.out; omega, by have := Q.out; have := HCC.out; omega, (HR10.out _ (Bt.refl _ _)).2.1, Q.out.2.2.2.1 ▸ (HR10.out _ (Bt.refl _ _)).1, HM10.out, (HR10.out _ (Bt.refl _ _)).2.2⟩
    · have q1 : ¬ (j : Int) < (n : Int) := by omega
      have q3 : decide ((j : Int) < (n : Int)) = false := by simp; omega
      have htx : xs.take j = xs := List.take_of_length_le (by have := HN.out; omega)
      rw [htx] at ht
      have HM21 := Lib.hid (hM)
      have HR21 := Lib.hid (fun W (hz : Bt (some mb) wr W) => And.intro ((hv).bt hz HM21.out) ( And.intro ((ht).bt hz HM21.out) ((hB).bt HE.out hz (fun b e => by cases e; exact B_mb.out))))
      have HC0 := Lib.hid (show 0 ≤ C ∧ C ≤ 400 ∧ 0 ≤ M ∧ M ≤ 400 from ⟨hc1, by have := HS.out; omega, hc3, by have := HS.out; omega⟩)
      have HG := Lib.hid (show (ofL xs).good ∧ (ofL xs).size ≤ 100 from ⟨good_of HRW.out.2, by rw [ofL_size, ← HN.out]; have := HS.out; omega⟩)
      clear hv ht hB hM hj hc1 hc2 hc3 hc4 hlt htx
      have c5 : wr.cell? ⟨bX, 0, none⟩ = some (.pointer p.q) := (HR21.out _ (Bt.refl _ _)).1.c0
      have c6 : wr.cell? ⟨bX, 1, none⟩ = some (.int .i64 p.n) := (HR21.out _ (Bt.refl _ _)).1.c1
      go_wp2_with fail
      clear q1 q3
      ((with_reducible refine (allH_any (ofL xs) p _ (HR21.out _ (Bt.refl _ _)).2.1 (by have := HG.out; omega)).mono ?_); rintro e w22 ⟨va, rfl, ho, hb⟩)
      have HM22 := Lib.hid (HM21.out.stay hb)
      have HR22 := Lib.hid (on_inv (mo := (some mb)) HR21.out (Bt.ofBelow hb) (fun W hz => ho.bt hz HM22.out))
      clear HR21 HM21 c5 c6
      clear ho hb
      go_wp2_with fail
      ((with_reducible refine (sortOwn va (ofL xs).all _ _ (HR22.out _ (Bt.refl _ _)).1 (by rw [Lh.all_length]; have := HG.out; omega)).mono ?_); rintro e w23 ⟨vs, rfl, hs, hb⟩)
      have HM23 := Lib.hid (HM22.out.stay hb)
      have HR23 := Lib.hid (on_inv (mo := (some mb)) HR22.out (Bt.ofBelow hb) (fun W hz => hs.bt hz HM23.out))
      clear HR22 HM22 
      clear hs hb
      go_wp2_with fail
      ((with_reducible refine (sortRow A xs n c w _ HRW.out.1 HN.out (by have := HS.out; omega) (HR23.out _ (Bt.refl _ _)).2.2.2.2.below).mono ?_); rintro e w24 ⟨vp, rfl, hp, hb⟩)
      have HM24 := Lib.hid (HM23.out.stay hb)
      have HR24 := Lib.hid (on_inv (mo := (some mb)) HR23.out (Bt.ofBelow hb) (fun W hz => hp.bt hz HM24.out))
      clear HR23 HM23 
      clear hp hb
      go_wp2_with fail
      ((with_reducible refine (sameIs vs vp _ _ _ (HR24.out _ (Bt.refl _ _)).2.1 (HR24.out _ (Bt.refl _ _)).1 (by rw [srt_length, Lh.all_length]; have := HG.out; omega) (srt_of xs)).mono ?_); rintro e w25 ⟨rfl, hb⟩)
      have HM25 := Lib.hid (HM24.out.stay hb)
      have HR25 := Lib.hid (fun W (hz : Bt (some mb) w25 W) => HR24.out W ((Bt.ofBelow hb).trans hz))
      clear HR24 HM24 
      clear hb
      have hm1 := HN9.out.2.1
      have hm2 := HN9.out.2.2
      go_wp2_with fail
      go_loopg [10] N (fun k i wr => ∃ (j : Nat) (t : Lh) (p : HP) (C M : Int), i = .int .i64 (j : Int) ∧ j + k = N ∧ t.good ∧ t.size ≤ 100 ∧ 0 ≤ C ∧ C ≤ 400 + 2000 * (j : Int) ∧ 0 ≤ M ∧ M ≤ 400 + 2000 * (j : Int) ∧ HVar wr bX p ∧ LAt wr t p ∧ MAt wr (some mb) C M ∧ Bas w wr)
      case atStart => exact ⟨0, ofL xs, p, C, M, rfl, by omega, HG.out.1, HG.out.2, by have := HC0.out; omega, by have := HC0.out; omega, by have := HC0.out; omega, by have := HC0.out; omega, (HR25.out _ (Bt.refl _ _)).2.2.2.1, (HR25.out _ (Bt.refl _ _)).2.2.2.2.1, HM25.out, (HR25.out _ (Bt.refl _ _)).2.2.2.2.2⟩
      case round =>
        clear HR25 HM25 HC0 HG
        obtain ⟨j, t, p, C, M, rfl, hj, hgd, hsz, hc1, hc2, hc3, hc4, hv, ht, hM, hB⟩ := hrel
        by_cases hlt : j < N
        · have q1 : (j : Int) < (N : Int) := by omega
          have q3 : decide ((j : Int) < (N : Int)) = true := by simp; omega
          have HM36 := Lib.hid (hM)
          have HR36 := Lib.hid (fun W (hz : Bt (some mb) wr W) => And.intro ((hv).bt hz HM36.out) ( And.intro ((ht).bt hz HM36.out) ((hB).bt HE.out hz (fun b e => by cases e; exact B_mb.out))))
          obtain ⟨s, hs⟩ : ∃ s, s = t.size := ⟨_, rfl⟩
          have Q := Lib.hid (show j + gk = N ∧ t.good ∧ s = t.size ∧ s ≤ 100 ∧ (0 ≤ C ∧ C ≤ 400 + 2000 * (j : Int) ∧ 0 ≤ M ∧ M ≤ 400 + 2000 * (j : Int)) ∧ j < N from ⟨hj, hgd, hs, by omega, ⟨hc1, hc2, hc3, hc4⟩, hlt⟩)
          clear hv ht hB hM hj hgd hsz hc1 hc2 hc3 hc4 hs hlt
          have c7 : wr.cell? ⟨bX, 0, none⟩ = some (.pointer p.q) := (HR36.out _ (Bt.refl _ _)).1.c0
          have c8 : wr.cell? ⟨bX, 1, none⟩ = some (.int .i64 p.n) := (HR36.out _ (Bt.refl _ _)).1.c1
          go_wp2_with fail
          clear q1 q3 hm1 hm2
          ((with_reducible refine (size_any t p _ (HR36.out _ (Bt.refl _ _)).2.1).mono ?_); rintro e w37 ⟨rfl, hb⟩)
          have HM37 := Lib.hid (HM36.out.stay hb)
          have HR37 := Lib.hid (fun W (hz : Bt (some mb) w37 W) => HR36.out W ((Bt.ofBelow hb).trans hz))
          clear HR36 HM36 c7 c8
          clear hb
          rw [← Q.out.2.2.1]
          go_wp2_with fail
          go_loopg [11, 12] s (fun k v d wz => ∃ (b d0 : Nat), v = .int .i64 (b : Int) ∧ d = .int .i64 (d0 : Int) ∧ k = d0 ∧ s < (d0 + 1) * 2 ^ b ∧ b + d0 ≤ s ∧ w37 = wz)
          case atStart => exact ⟨0, s, rfl, rfl, rfl, by omega, by omega, rfl⟩
          case round =>
            obtain ⟨b, d, rfl, rfl, hk, hlt, hbd, rfl⟩ := hrel
            by_cases h1 : 0 < d
            · have r1 : decide ((0 : Int) < (d : Int)) = true := by simp; omega
              have r2 : (0 : Int) < (d : Int) := by omega
              obtain ⟨h, hh⟩ : ∃ h, h = d / 2 := ⟨_, rfl⟩
              have HHH := Lib.hid (show h = d / 2 ∧ d ≤ 100 ∧ b ≤ 100 from ⟨hh, by have := Q.out; omega, by have := Q.out; omega⟩)
              obtain ⟨W1, W2, W3, W4, W5⟩ := half_nums b d h (by have := Q.out; omega) (by have := Q.out; omega) hh
              have Z := Lib.hid (And.intro hk (And.intro hbd hlt))
              clear hh hbd hlt hk
              go_wp2_with fail
              clear W1 W2 W3 W4 W5 r1 r2
              go_roundg h
              case measure => have := Z.out.1; have := HHH.out; omega
              case rel => exact ⟨b + 1, h, by first | rfl | (congr 1; (first | omega | (unfold wrap64; omega))), rfl, rfl, HHH.out.1 ▸ half_step Z.out.2.2, by have := Z.out; have := HHH.out; omega, rfl⟩
            have hd0 : d = 0 := by omega
            have r1 : decide ((0 : Int) < (d : Int)) = false := by simp; omega
            have r2 : ¬ (0 : Int) < (d : Int) := by omega
            have hsb : s < 2 ^ b := by rw [hd0, Nat.zero_add, Nat.one_mul] at hlt; exact hlt
            have hpn : t.popC + t.popM ≤ 8 * b := good_popN Q.out.2.1 (Q.out.2.2.1 ▸ hsb)
            have htl : t.ts.length ≤ b + 1 := good_trees_le Q.out.2.1 (Q.out.2.2.1 ▸ hsb)
            obtain ⟨P, hP⟩ : ∃ P, P = t.popC := ⟨_, rfl⟩
            obtain ⟨R, hR⟩ : ∃ R, R = t.popM := ⟨_, rfl⟩
            obtain ⟨T, hT⟩ : ∃ T, T = t.tellN := ⟨_, rfl⟩
            have Z := Lib.hid (show P = t.popC ∧ R = t.popM ∧ T = t.tellN ∧ P + R ≤ 8 * b ∧ T ≤ b ∧ b ≤ 100 from ⟨hP, hR, hT, by omega, by have h9 : t.tellN = t.ts.length - 1 := rfl; omega, by have := Q.out; omega⟩)
            clear hk hlt hbd hd0 h1 hsb hpn htl hP hR hT
            go_wp2_with fail
            ((with_reducible refine (mSteps mb C M _ HM37.out (by have := Q.out; omega) (by have := Q.out; have := Z.out; have := HN9.out; omega) (by have := Q.out; omega) (by have := Q.out; have := Z.out; have := HN9.out; omega)).mono ?_); rintro e w38 ⟨rfl, hb⟩)
            have HM38 := Lib.hid (HM37.out.stay hb)
            have HR38 := Lib.hid (fun W (hz : Bt (some mb) w38 W) => HR37.out W ((Bt.ofBelow hb).trans hz))
            clear HR37 HM37 
            clear hb
            clear r1 r2
            have c9 : w38.cell? ⟨bX, 0, none⟩ = some (.pointer p.q) := (HR38.out _ (Bt.refl _ _)).1.c0
            have c10 : w38.cell? ⟨bX, 1, none⟩ = some (.int .i64 p.n) := (HR38.out _ (Bt.refl _ _)).1.c1
            go_wp2_with fail
            ((with_reducible refine (min_any (some mb) C M t p _ HM38.out (by have := Q.out; omega) (by have := Q.out; have := Z.out; have := HN9.out; omega) (HR38.out _ (Bt.refl _ _)).2.1).mono ?_); rintro e w39 ⟨rfl, hm, hb⟩)
            have HM39 := Lib.hid (show MAt w39 (some mb) (C + (T : Nat)) M from by rw [Z.out.2.2.1]; exact hm)
            have HR39 := Lib.hid (fun W (hz : Bt (some mb) w39 W) => HR38.out W (hb.trans hz))
            clear HR38 HM38 c9 c10
            clear hm hb
            obtain ⟨⟨⟨m1, m2⟩, mq⟩, hmm⟩ : ∃ mm, t.min = mm := ⟨_, rfl⟩
            rw [show minV t = .tuple #[el (m1, m2), .bool mq] by simp only [minV, hmm]]
            clear hmm
            go_wp2_with fail
            ((with_reducible refine (mSince mb (C + (T : Nat)) M (C + M) _ HM39.out (by have := Q.out; have := Z.out; have := HN9.out; omega) (by have := Q.out; have := Z.out; have := HN9.out; omega) (by have := Q.out; have := Z.out; have := HN9.out; omega) (by have := Q.out; have := Z.out; have := HN9.out; omega) (by have := Q.out; have := Z.out; have := HN9.out; omega) (by have := Q.out; have := Z.out; have := HN9.out; omega)).mono ?_); rintro e w40 ⟨rfl, hb⟩)
            have HM40 := Lib.hid (HM39.out.stay hb)
            have HR40 := Lib.hid (fun W (hz : Bt (some mb) w40 W) => HR39.out W ((Bt.ofBelow hb).trans hz))
            clear HR39 HM39 
            clear hb
            have v1 : decide ((b : Int) < C + (T : Nat) + M - (C + M)) = false := by simp; have := Z.out; omega
            have v2 : ¬ (b : Int) < C + (T : Nat) + M - (C + M) := by have := Z.out; omega
            go_wp2_with fail
            clear v1 v2
            ((with_reducible refine (mSteps mb (C + (T : Nat)) M _ HM40.out (by have := Q.out; omega) (by have := Q.out; have := Z.out; have := HN9.out; omega) (by have := Q.out; omega) (by have := Q.out; have := Z.out; have := HN9.out; omega)).mono ?_); rintro e w41 ⟨rfl, hb⟩)
            have HM41 := Lib.hid (HM40.out.stay hb)
            have HR41 := Lib.hid (fun W (hz : Bt (some mb) w41 W) => HR40.out W ((Bt.ofBelow hb).trans hz))
            clear HR40 HM40 
            clear hb
            have c11 : w41.cell? ⟨bX, 0, none⟩ = some (.pointer p.q) := (HR41.out _ (Bt.refl _ _)).1.c0
            have c12 : w41.cell? ⟨bX, 1, none⟩ = some (.int .i64 p.n) := (HR41.out _ (Bt.refl _ _)).1.c1
            go_wp2_with fail
            ((with_reducible refine (pop_any (some mb) (C + (T : Nat)) M t p _ (by have := Q.out; omega) HM41.out (by have := Q.out; omega) (by have := Q.out; have := Z.out; have := HN9.out; omega) (by have := Q.out; omega) (by have := Q.out; have := Z.out; have := HN9.out; omega) (HR41.out _ (Bt.refl _ _)).2.1).mono ?_); rintro e w42 ⟨pG, rfl, ht, hm, hb⟩)
            have HM42 := Lib.hid (show MAt w42 (some mb) (C + (T : Nat) + ((P : Nat) + (T : Nat) : Nat)) (M + (R : Nat)) from by rw [Z.out.1, Z.out.2.1, Z.out.2.2.1]; rw [← Z.out.2.2.1] at hm ⊢; exact hm)
            have HR42 := Lib.hid (on_inv (mo := (some mb)) HR41.out hb (fun W hz => ht.bt hz HM42.out))
            clear HR41 HM41 c11 c12
            clear ht hm hb
            obtain ⟨sb, hsb⟩ : ∃ sb, sb = t.some := ⟨_, rfl⟩
            rw [← hsb]
            have hsb2 : sb = decide (0 < s) := by rw [hsb, some_pos, ← Q.out.2.2.1]
            clear hsb
            go_wp2_with fail
            have hs_bG := (HR42.out _ (Bt.refl _ _)).2.2.2.below.size
            have hl_bX := (HR42.out _ (Bt.refl _ _)).2.1.lt
            have HM43 := Lib.hid (HM42.out.alloc (.cells #[.pointer pG.q, .int .i64 pG.n] 28))
            have HR43 := Lib.hid (on_inv (mo := (some mb)) HR42.out ((Bt.refl (some mb) w42).alloc (.cells #[.pointer pG.q, .int .i64 pG.n] 28)) (fun W hz => (HVar.new w42 pG rfl).bt hz HM43.out))
            clear HR42 HM42 
            generalize w42.alloc (.cells #[.pointer pG.q, .int .i64 pG.n] 28) = w43 at *
            obtain ⟨bG, hbG⟩ : ∃ b, b = w42.heap.size := ⟨_, rfl⟩
            rw [← hbG] at HR43 ⊢
            have B_bG := Lib.hid (show w.heap.size ≤ bG by rw [hbG]; exact hs_bG)
            have N_bX_bG := Lib.hid (show bX ≠ bG by omega)
            clear hbG hs_bG hl_bX
            ((with_reducible refine (mSince mb (C + (T : Nat) + ((P : Nat) + (T : Nat) : Nat)) (M + (R : Nat)) (C + (T : Nat) + M) _ HM43.out (by have := Q.out; have := Z.out; have := HN9.out; omega) (by have := Q.out; have := Z.out; have := HN9.out; omega) (by have := Q.out; have := Z.out; have := HN9.out; omega) (by have := Q.out; have := Z.out; have := HN9.out; omega) (by have := Q.out; have := Z.out; have := HN9.out; omega) (by have := Q.out; have := Z.out; have := HN9.out; omega)).mono ?_); rintro e w44 ⟨rfl, hb⟩)
            have HM44 := Lib.hid (HM43.out.stay hb)
            have HR44 := Lib.hid (fun W (hz : Bt (some mb) w44 W) => HR43.out W ((Bt.ofBelow hb).trans hz))
            clear HR43 HM43 
            clear hb
            have y1 : IntKind.i64.wrap (14 * (b : Int)) = 14 * (b : Int) := by rw [IntKind.wrap_i64]; have := Z.out; omega
            have y2 : wrap64 (14 * (b : Int)) = 14 * (b : Int) := by unfold wrap64; have := Z.out; omega
            have v4 : decide (14 * (b : Int) < C + (T : Nat) + ((P : Nat) + (T : Nat) : Nat) + (M + (R : Nat)) - (C + (T : Nat) + M)) = false := by simp; have := Z.out; omega
            have v5 : ¬ 14 * (b : Int) < C + (T : Nat) + ((P : Nat) + (T : Nat) : Nat) + (M + (R : Nat)) - (C + (T : Nat) + M) := by have := Z.out; omega
            have c13 : w44.cell? ⟨bX, 0, none⟩ = some (.pointer p.q) := (HR44.out _ (Bt.refl _ _)).2.2.1.c0
            have c14 : w44.cell? ⟨bX, 1, none⟩ = some (.int .i64 p.n) := (HR44.out _ (Bt.refl _ _)).2.2.1.c1
            go_wp2_with fail
            ((with_reducible refine (size_any t p _ (HR44.out _ (Bt.refl _ _)).2.2.2.1).mono ?_); rintro e w45 ⟨rfl, hb⟩)
            have HM45 := Lib.hid (HM44.out.stay hb)
            have HR45 := Lib.hid (fun W (hz : Bt (some mb) w45 W) => HR44.out W ((Bt.ofBelow hb).trans hz))
            clear HR44 HM44 c13 c14
            clear hb
            rw [← Q.out.2.2.1]
            clear y1 y2 v4 v5
            by_cases hs0 : 0 < s
            · have v1 : decide ((0 : Int) < (s : Int)) = true := by simp; omega
              have v2 : (0 : Int) < (s : Int) := by omega
              have v3 : sb = true := by rw [hsb2]; simp; omega
              subst v3
              clear hsb2
              have pv := (HR45.out _ (Bt.refl _ _)).2.2.1
              have pc := pv.c0
              have pd := pv.c1
              have pz := pv.z0
              have py := pv.z1
              have PV := Lib.hid pv
              clear pv
              have c15 : w45.cell? ⟨bG, 0, none⟩ = some (.pointer pG.q) := (HR45.out _ (Bt.refl _ _)).1.c0
              have c16 : w45.cell? ⟨bG, 1, none⟩ = some (.int .i64 pG.n) := (HR45.out _ (Bt.refl _ _)).1.c1
              go_wp2_with fail
              clear v1 v2
              have HM46 := Lib.hid (MAt.set HM45.out PV.out (.pointer pG.q) (.int .i64 pG.n))
              have HR46 := Lib.hid (fun W (hz : Bt (some mb) ((w45.setCell ⟨bX, 0, none⟩ (.pointer pG.q)).setCell ⟨bX, 1, none⟩ (.int .i64 pG.n)) W) => And.intro ((((HR45.out _ (Bt.refl _ _)).2.1.set PV.out (.pointer pG.q) (.int .i64 pG.n))).bt hz HM46.out) ( And.intro (((HVar.put PV.out pG)).bt hz HM46.out) ((((HR45.out _ (Bt.refl _ _)).2.2.2.2.set HE.out B_bX.out (.pointer pG.q) (.int .i64 pG.n))).bt HE.out hz (fun b e => by cases e; exact B_mb.out))))
              clear HR45 HM45 PV pc pd pz py c15 c16
              generalize (w45.setCell ⟨bX, 0, none⟩ (.pointer pG.q)).setCell ⟨bX, 1, none⟩ (.int .i64 pG.n) = w46 at *
              go_roundg (N - 1 - j)
              case measure => have := Q.out; omega
              case rel => exact ⟨j + 1, t.pop, pG, C + (T : Nat) + ((P : Nat) + (T : Nat) : Nat), M + (R : Nat), by first | rfl | (congr 1; have := Q.out; have := HN9.out; first | omega | (unfold wrap64; omega)), by have := Q.out; omega, good_pop Q.out.2.1, by rw [pop_size Q.out.2.1.ok]; have := Q.out; omega, by have := Q.out; omega, by have := Q.out; have := Z.out; omega, by have := Q.out; omega, by have := Q.out; have := Z.out; omega, (HR46.out _ (Bt.refl _ _)).2.1, (HR46.out _ (Bt.refl _ _)).1, HM46.out, (HR46.out _ (Bt.refl _ _)).2.2⟩
            · have v1 : decide ((0 : Int) < (s : Int)) = false := by simp; omega
              have v2 : ¬ (0 : Int) < (s : Int) := by omega
              have v3 : sb = false := by rw [hsb2]; simp; omega
              subst v3
              clear hsb2
              have pv := (HR45.out _ (Bt.refl _ _)).2.2.1
              have pc := pv.c0
              have pd := pv.c1
              have pz := pv.z0
              have py := pv.z1
              have PV := Lib.hid pv
              clear pv
              have c15 : w45.cell? ⟨bG, 0, none⟩ = some (.pointer pG.q) := (HR45.out _ (Bt.refl _ _)).1.c0
              have c16 : w45.cell? ⟨bG, 1, none⟩ = some (.int .i64 pG.n) := (HR45.out _ (Bt.refl _ _)).1.c1
              go_wp2_with fail
              clear v1 v2
              have HM46 := Lib.hid (MAt.set HM45.out PV.out (.pointer pG.q) (.int .i64 pG.n))
              have HR46 := Lib.hid (fun W (hz : Bt (some mb) ((w45.setCell ⟨bX, 0, none⟩ (.pointer pG.q)).setCell ⟨bX, 1, none⟩ (.int .i64 pG.n)) W) => And.intro ((((HR45.out _ (Bt.refl _ _)).2.1.set PV.out (.pointer pG.q) (.int .i64 pG.n))).bt hz HM46.out) ( And.intro (((HVar.put PV.out pG)).bt hz HM46.out) ((((HR45.out _ (Bt.refl _ _)).2.2.2.2.set HE.out B_bX.out (.pointer pG.q) (.int .i64 pG.n))).bt HE.out hz (fun b e => by cases e; exact B_mb.out))))
              clear HR45 HM45 PV pc pd pz py c15 c16
              generalize (w45.setCell ⟨bX, 0, none⟩ (.pointer pG.q)).setCell ⟨bX, 1, none⟩ (.int .i64 pG.n) = w46 at *
              go_roundg (N - 1 - j)
              case measure => have := Q.out; omega
              case rel => exact ⟨j + 1, t.pop, pG, C + (T : Nat) + ((P : Nat) + (T : Nat) : Nat), M + (R : Nat), by first | rfl | (congr 1; have := Q.out; have := HN9.out; first | omega | (unfold wrap64; omega)), by have := Q.out; omega, good_pop Q.out.2.1, by rw [pop_size Q.out.2.1.ok]; have := Q.out; omega, by have := Q.out; omega, by have := Q.out; have := Z.out; omega, by have := Q.out; omega, by have := Q.out; have := Z.out; omega, (HR46.out _ (Bt.refl _ _)).2.1, (HR46.out _ (Bt.refl _ _)).1, HM46.out, (HR46.out _ (Bt.refl _ _)).2.2⟩
        · have q1 : ¬ (j : Int) < (N : Int) := by omega
          have q3 : decide ((j : Int) < (N : Int)) = false := by simp; omega
          have HBB := Lib.hid hB.below
          clear hv ht hM hB hj hgd hsz hc1 hc2 hc3 hc4 hlt
          go_wp2_with fail
          go_ret
          exact ⟨rfl, HBB.out⟩

end Go.Proofs.YtlaohkflnkjamaaDoor.Hp
