/-
  The walk of the statement BinomialBits: for any row and any byte it returns true, and nothing that was there has changed, in any world where the library's table is as it is laid.
-/
import Derived.Test.YtkilmflcgljgeaaDoorHwake
import Derived.Test.YtkilmflcgljgeaaDoorHbits
import Derived.Deep.LoopGhost
namespace Go.Proofs.YtkilmflcgljgeaaDoor.Hp
open Go.Sort Go.RowKit

theorem bits_nums (a b d h o : Nat) (hd : d ≤ 100) (ha : a ≤ 100) (hb : b ≤ 100) (hh : h = d / 2) (ho : o = d % 2) :
    IntKind.i64.wrap ((a : Int) + (o : Int)) = ((a + o : Nat) : Int) ∧ IntKind.i64.wrap ((b : Int) + 1) = ((b + 1 : Nat) : Int) ∧ wrap64 ((a : Int) + (o : Int)) = ((a + o : Nat) : Int) ∧ wrap64 ((b : Int) + 1) = ((b + 1 : Nat) : Int) ∧ IntKind.i64.wrap (h : Int) = (h : Int) ∧ IntKind.i64.wrap (o : Int) = (o : Int) ∧
    (d : Int).tdiv 2 = (h : Int) ∧ (d : Int) / 2 = (h : Int) ∧ (d : Int).tmod 2 = (o : Int) ∧ (d : Int) % 2 = (o : Int) := by
  refine ⟨?_, ?_, ?_, ?_, ?_, ?_, ?_, ?_, ?_, ?_⟩
  · rw [IntKind.wrap_i64]; omega
  · rw [IntKind.wrap_i64]; omega
  · unfold wrap64; omega
  · unfold wrap64; omega
  · rw [IntKind.wrap_i64]; omega
  · rw [IntKind.wrap_i64]; omega
  · rw [Int.tdiv_eq_ediv_of_nonneg (by omega)]; omega
  · omega
  · rw [Int.tmod_eq_emod_of_nonneg (by omega)]; omega
  · omega

set_option maxRecDepth 100000 in
set_option maxHeartbeats 4000000 in
theorem bits_any (A : Option Addr) (xs : List (Int × Int)) (c : Nat) (k0 : Nat) (w : World) (he : Env w) (hr1 : Row w A xs) (hf : fits xs) (hk0 : k0 < 256) :
    Calls Tryd.prog 6 #[.slice A xs.length c, .int .u8 (k0 : Int)] w fun e w' => e = .returned (.bool true) ∧ Below w.heap.size w w' := by
  obtain ⟨n, hn⟩ : ∃ k, k = xs.length := ⟨_, rfl⟩
  rw [← hn]
  have HN := Lib.hid hn
  have HRW := Lib.hid hr1
  have HG := Lib.hid (good_of hf)
  clear hn hr1 hf
  have HE := Lib.hid he
  have HM0 := Lib.hid (show MAt w (none : Option Nat) 0 0 from trivial)
  have HR0 := Lib.hid (fun W (hb : Bt none w W) => Bas.bt (Bas.first he) he hb (fun _ e => by cases e))
  clear he
  go_enter Tryd.func6, Tryd.ntmps6
  go_wp2_with fail
  ((with_reducible refine (awake_any _ HE.out).mono ?_); rintro e w1 ⟨rfl, hb⟩)
  have HM1 := Lib.hid (show MAt w1 (none : Option Nat) 0 0 from trivial)
  have HR1 := Lib.hid (fun W (hz : Bt none w1 W) => HR0.out W ((Bt.ofBelow hb).trans hz))
  clear HR0 HM0 
  clear hb
  by_cases hb0 : 100 < n
  · have qa : decide ((100 : Int) < (n : Int)) = true := by simp; omega
    have qb : (100 : Int) < (n : Int) := by omega
    go_wp2_with fail
    go_ret
    exact ⟨rfl, (HR1.out _ (Bt.refl _ _)).below⟩
  have qa0 : decide ((100 : Int) < (n : Int)) = false := by simp; omega
  have qb0 : ¬ (100 : Int) < (n : Int) := by omega
  go_wp2_with fail
  clear qa0 qb0
  have HS := Lib.hid (And.intro (Nat.le_of_not_lt hb0) (trivial))
  clear hb0
  have hX : (ofL xs).size = n := by rw [ofL_size, HN.out]
  have HX := Lib.hid hX
  clear hX
  ((with_reducible refine (ofRow A xs n c w _ HRW.out HN.out (by have := HS.out; omega) (HR1.out _ (Bt.refl _ _)).below).mono ?_); rintro e w2 ⟨pX, rfl, ht, hb⟩)
  have HM2 := Lib.hid (show MAt w2 (none : Option Nat) 0 0 from trivial)
  have HR2 := Lib.hid (on_inv (mo := none) HR1.out (Bt.ofBelow hb) (fun W hz => ht.bt hz HM2.out))
  clear HR1 HM1 
  clear ht hb
  obtain ⟨N, hN⟩ : ∃ N, N = k0 % 8 := ⟨_, rfl⟩
  have hm1 : (k0 : Int) % 8 = (N : Int) := by omega
  have hm2 : (k0 : Int).tmod 8 = (N : Int) := by rw [Int.tmod_eq_emod_of_nonneg (by omega)]; exact hm1
  have hN8 : N < 8 := by omega
  have HN8 := Lib.hid hN8
  clear hN hN8
  go_wp2_with fail
  have hs_bX := (HR2.out _ (Bt.refl _ _)).2.below.size
  have HM3 := Lib.hid (show MAt (w2.alloc (.cells #[.pointer pX.q, .int .i64 pX.n] 31)) (none : Option Nat) 0 0 from trivial)
  have HR3 := Lib.hid (on_inv (mo := none) HR2.out ((Bt.refl none w2).alloc (.cells #[.pointer pX.q, .int .i64 pX.n] 31)) (fun W hz => (HVar.new w2 pX rfl).bt hz HM3.out))
  clear HR2 HM2 
  generalize w2.alloc (.cells #[.pointer pX.q, .int .i64 pX.n] 31) = w3 at *
  obtain ⟨bX, hbX⟩ : ∃ b, b = w2.heap.size := ⟨_, rfl⟩
  rw [← hbX] at HR3 ⊢
  have B_bX := Lib.hid (show w.heap.size ≤ bX by rw [hbX]; exact hs_bX)
  clear hbX hs_bX 
  go_loopg [7] N (fun k i wr => ∃ (j : Nat) (t : Lh) (p : HP), i = .int .i64 (j : Int) ∧ j + k = N ∧ HVar wr bX p ∧ LAt wr t p ∧ t.good ∧ t.size = n - j ∧ Bas w wr)
  case atStart => exact ⟨0, ofL xs, pX, rfl, by omega, (HR3.out _ (Bt.refl _ _)).1, (HR3.out _ (Bt.refl _ _)).2.1, HG.out, HX.out, (HR3.out _ (Bt.refl _ _)).2.2⟩
  case round =>
    clear HR3 HM3
    obtain ⟨j, t, p, rfl, hj, hv, ht, hgd, hsz, hB⟩ := hrel
    by_cases hlt : j < N
    · have q1 : (j : Int) < (N : Int) := by omega
      have q3 : decide ((j : Int) < (N : Int)) = true := by simp; omega
      have HM4 := Lib.hid (show MAt wr (none : Option Nat) 0 0 from trivial)
      have HR4 := Lib.hid (fun W (hz : Bt none wr W) => And.intro ((hv).bt hz HM4.out) ( And.intro ((ht).bt hz HM4.out) ((hB).bt HE.out hz (fun _ e => by cases e))))
      have Q := Lib.hid (And.intro hj (And.intro hgd hsz))
      clear hv ht hB hj hgd hsz
      have c1 : wr.cell? ⟨bX, 0, none⟩ = some (.pointer p.q) := (HR4.out _ (Bt.refl _ _)).1.c0
      have c2 : wr.cell? ⟨bX, 1, none⟩ = some (.int .i64 p.n) := (HR4.out _ (Bt.refl _ _)).1.c1
      go_wp2_with fail
      obtain ⟨sb, hsb⟩ : ∃ sb, sb = t.some := ⟨_, rfl⟩
      ((with_reducible refine (popN t p _ (HR4.out _ (Bt.refl _ _)).2.1 (by have := Q.out; have := HS.out; omega)).mono ?_); rintro e w5 ⟨p2, rfl, ht, hb⟩)
      have HM5 := Lib.hid (show MAt w5 (none : Option Nat) 0 0 from trivial)
      have HR5 := Lib.hid (on_inv (mo := none) HR4.out (Bt.ofBelow hb) (fun W hz => ht.bt hz HM5.out))
      clear HR4 HM4 c1 c2
      rw [← hsb]
      clear ht hb hsb
      have HM6 := Lib.hid (show MAt (w5.alloc (.cells #[.pointer p2.q, .int .i64 p2.n] 31)) (none : Option Nat) 0 0 from trivial)
      have HR6 := Lib.hid (fun W (hz : Bt none (w5.alloc (.cells #[.pointer p2.q, .int .i64 p2.n] 31)) W) => HR5.out W (((Bt.refl none w5).alloc (.cells #[.pointer p2.q, .int .i64 p2.n] 31)).trans hz))
      clear HR5 HM5
      have pv := (HR6.out _ (Bt.refl _ _)).2.1
      have pc := pv.c0
      have pd := pv.c1
      have pz := pv.z0
      have py := pv.z1
      have PV := Lib.hid pv
      clear pv
      go_wp2_with fail
      have HM7 := Lib.hid (show MAt (((w5.alloc (.cells #[.pointer p2.q, .int .i64 p2.n] 31)).setCell ⟨bX, 0, none⟩ (.pointer p2.q)).setCell ⟨bX, 1, none⟩ (.int .i64 p2.n)) (none : Option Nat) 0 0 from trivial)
      have HR7 := Lib.hid (fun W (hz : Bt none (((w5.alloc (.cells #[.pointer p2.q, .int .i64 p2.n] 31)).setCell ⟨bX, 0, none⟩ (.pointer p2.q)).setCell ⟨bX, 1, none⟩ (.int .i64 p2.n)) W) => And.intro (((LAt.set (HR6.out _ (Bt.refl _ _)).1 PV.out (.pointer p2.q) (.int .i64 p2.n))).bt hz HM7.out) ( And.intro (((HVar.put PV.out p2)).bt hz HM7.out) ((((HR6.out _ (Bt.refl _ _)).2.2.2.set HE.out B_bX.out (.pointer p2.q) (.int .i64 p2.n))).bt HE.out hz (fun _ e => by cases e))))
      clear HR6 HM6 PV pc pd pz py 
      generalize ((w5.alloc (.cells #[.pointer p2.q, .int .i64 p2.n] 31)).setCell ⟨bX, 0, none⟩ (.pointer p2.q)).setCell ⟨bX, 1, none⟩ (.int .i64 p2.n) = w7 at *
      go_roundg (N - 1 - j)
      case measure => have := Q.out.1; omega
      case rel => exact ⟨j + 1, t.pop, p2, by congr 1, by have := Q.out.1; omega, (HR7.out _ (Bt.refl _ _)).2.1, (HR7.out _ (Bt.refl _ _)).1, good_pop Q.out.2.1, by rw [pop_size Q.out.2.1.ok]; have := Q.out.2.2; omega, (HR7.out _ (Bt.refl _ _)).2.2⟩
    · have q1 : ¬ (j : Int) < (N : Int) := by omega
      have q3 : decide ((j : Int) < (N : Int)) = false := by simp; omega
      have HM18 := Lib.hid (show MAt wr (none : Option Nat) 0 0 from trivial)
      have HR18 := Lib.hid (fun W (hz : Bt none wr W) => And.intro ((hv).bt hz HM18.out) ( And.intro ((ht).bt hz HM18.out) ((hB).bt HE.out hz (fun _ e => by cases e))))
      obtain ⟨s, hs⟩ : ∃ s, s = t.size := ⟨_, rfl⟩
      have hsn : s = n - N := by omega
      have Q := Lib.hid (show t.good ∧ s = t.size ∧ s ≤ 100 ∧ s = n - N ∧ onesN s = t.ts.length from ⟨hgd, hs, by have := HS.out; omega, hsn, by rw [hs]; exact (good_trees hgd).symm⟩)
      have e1 : IntKind.i64.wrap ((n : Int) - (N : Int)) = (n : Int) - (N : Int) := by rw [IntKind.wrap_i64]; have := HS.out; have := HN8.out; omega
      have e2 : max ((n : Int) - (N : Int)) 0 = (s : Int) := by omega
      have e3 : wrap64 ((n : Int) - (N : Int)) = (n : Int) - (N : Int) := by unfold wrap64; have := HS.out; have := HN8.out; omega
      have e4 : (if (n : Int) - (N : Int) < 0 then (0 : Int) else (n : Int) - (N : Int)) = (s : Int) := by split <;> omega
      clear hv ht hB hj hgd hsz hlt hs hsn
      go_wp2_with fail
      clear q1 q3 hm1 hm2 e1 e2 e3 e4
      go_loopg [11, 12, 13] s (fun k u v d wz => ∃ (a b d0 : Nat), u = .int .i64 (a : Int) ∧ v = .int .i64 (b : Int) ∧ d = .int .i64 (d0 : Int) ∧ k = d0 ∧ a + onesN d0 = onesN s ∧ s < (d0 + 1) * 2 ^ b ∧ b + d0 ≤ s ∧ a ≤ b ∧ wr = wz)
      case atStart => exact ⟨0, 0, s, rfl, rfl, rfl, rfl, by omega, by omega, by omega, by omega, rfl⟩
      case round =>
        obtain ⟨a, b, d, rfl, rfl, rfl, hk, ha, hlt, hbd, hab, rfl⟩ := hrel
        by_cases h1 : 0 < d
        · have r1 : decide ((0 : Int) < (d : Int)) = true := by simp; omega
          have r2 : (0 : Int) < (d : Int) := by omega
          obtain ⟨h, hh⟩ : ∃ h, h = d / 2 := ⟨_, rfl⟩
          obtain ⟨o, ho⟩ : ∃ o, o = d % 2 := ⟨_, rfl⟩
          have r7 : (d : Int) ≤ 100 := by have := Q.out; omega
          have hones : a + o + onesN h = onesN s := by rw [← ha, onesN_pos (n := d) (by omega), hh, ho]; omega
          have HHH := Lib.hid (show h = d / 2 ∧ o = d % 2 ∧ d ≤ 100 ∧ a ≤ b ∧ b ≤ 100 ∧ a + o + onesN h = onesN s from ⟨hh, ho, by omega, hab, by have := Q.out; omega, hones⟩)
          obtain ⟨W1, W2, W3, W4, W5, W6, r3, r4, r5, r6⟩ := bits_nums a b d h o (by have := Q.out; omega) (by have := Q.out; omega) (by have := Q.out; omega) hh ho
          have Z := Lib.hid (And.intro hk (And.intro hbd hlt))
          clear hh ho ha hab hbd hlt hones hk
          go_wp2_with fail
          clear W1 W2 W3 W4 W5 W6 r1 r2 r3 r4 r5 r6 r7
          go_roundg h
          case measure => have := Z.out.1; have := HHH.out; omega
          case rel => exact ⟨a + o, b + 1, h, by first | rfl | (congr 1; (first | omega | (unfold wrap64; omega))), by first | rfl | (congr 1; (first | omega | (unfold wrap64; omega))), rfl, rfl, HHH.out.2.2.2.2.2, HHH.out.1 ▸ half_step Z.out.2.2, by have := Z.out; have := HHH.out; omega, by have := HHH.out; omega, rfl⟩
        have hd0 : d = 0 := by omega
        have r1 : decide ((0 : Int) < (d : Int)) = false := by simp; omega
        have r2 : ¬ (0 : Int) < (d : Int) := by omega
        have hao : a = onesN s := by rw [← ha, hd0, onesN_zero]; rfl
        have hsb : s < 2 ^ b := by rw [hd0, Nat.zero_add, Nat.one_mul] at hlt; exact hlt
        have hpn : t.popN ≤ 2 * b := good_popN Q.out.1 (Q.out.2.1 ▸ hsb)
        have htl : t.ts.length ≤ b := good_trees_le Q.out.1 (Q.out.2.1 ▸ hsb)
        obtain ⟨P, hP⟩ : ∃ P, P = t.popN := ⟨_, rfl⟩
        obtain ⟨T, hT⟩ : ∃ T, T = t.tellN := ⟨_, rfl⟩
        have Z := Lib.hid (show P = t.popN ∧ T = t.tellN ∧ P ≤ 2 * b ∧ T ≤ b ∧ b ≤ 100 ∧ T = a - 1 ∧ a ≤ b from ⟨hP, hT, by omega, by have h9 : t.tellN = t.ts.length - 1 := rfl; omega, by have := Q.out; omega, by have h9 : t.tellN = t.ts.length - 1 := rfl; have h8 := Q.out.2.2.2.2; omega, hab⟩)
        clear hk ha hlt hbd hab hd0 h1 hao hsb hpn htl hP hT
        go_wp2_with fail
        ((with_reducible refine (mNew _).mono ?_); rintro e w19 ⟨rfl, hm, hb⟩)
        obtain ⟨mb, hmb⟩ : ∃ b, b = wr.heap.size := ⟨_, rfl⟩
        rw [← hmb] at hm ⊢
        have B_mb := Lib.hid (show w.heap.size ≤ mb by rw [hmb]; exact (HR18.out _ (Bt.refl _ _)).2.2.below.size)
        clear hmb
        have HM19 := Lib.hid hm
        have HR19 := Lib.hid (fun W (hz : Bt (some mb) w19 W) => And.intro (((HR18.out _ (Bt.ofBelow hb)).1).bt hz HM19.out) ( And.intro (((HR18.out _ (Bt.ofBelow hb)).2.1).bt hz HM19.out) (((HR18.out _ (Bt.ofBelow hb)).2.2).bt HE.out hz (fun b e => by cases e; exact B_mb.out))))
        clear HR18 HM18 hm hb 
        clear r1 r2
        have c3 : w19.cell? ⟨bX, 0, none⟩ = some (.pointer p.q) := (HR19.out _ (Bt.refl _ _)).1.c0
        have c4 : w19.cell? ⟨bX, 1, none⟩ = some (.int .i64 p.n) := (HR19.out _ (Bt.refl _ _)).1.c1
        go_wp2_with fail
        ((with_reducible refine (min_any (some mb) 0 0 t p _ HM19.out (by decide) (by decide) (HR19.out _ (Bt.refl _ _)).2.1).mono ?_); rintro e w20 ⟨rfl, hm, hb⟩)
        have HM20 := Lib.hid (show MAt w20 (some mb) (T : Int) 0 from by rw [Z.out.2.1]; simpa using hm)
        have HR20 := Lib.hid (fun W (hz : Bt (some mb) w20 W) => HR19.out W (hb.trans hz))
        clear HR19 HM19 c3 c4
        clear hm hb
        obtain ⟨⟨⟨m1, m2⟩, mq⟩, hmm⟩ : ∃ mm, t.min = mm := ⟨_, rfl⟩
        rw [show minV t = .tuple #[el (m1, m2), .bool mq] by simp only [minV, hmm]]
        have hmbs : mq = decide (0 < s) := by have h1 := min_two t; rw [hmm, ← Q.out.2.1] at h1; exact h1
        clear hmm
        have c5 : (w20.alloc (.cells #[.int .i64 m1, .int .i64 m2] 38)).cell? ⟨bX, 0, none⟩ = some (.pointer p.q) := (HR20.out _ ((Bt.refl _ _).alloc _)).1.c0
        have c6 : (w20.alloc (.cells #[.int .i64 m1, .int .i64 m2] 38)).cell? ⟨bX, 1, none⟩ = some (.int .i64 p.n) := (HR20.out _ ((Bt.refl _ _).alloc _)).1.c1
        go_wp2_with fail
        have hs_bx := (HR20.out _ (Bt.refl _ _)).2.2.below.size
        have HM21 := Lib.hid (HM20.out.alloc (.cells #[.int .i64 m1, .int .i64 m2] 38))
        have HR21 := Lib.hid (on_inv (mo := (some mb)) HR20.out ((Bt.refl (some mb) w20).alloc (.cells #[.int .i64 m1, .int .i64 m2] 38)) (fun W hz => (EVar.new w20 m1 m2 rfl).bt hz HM21.out))
        clear HR20 HM20 c5 c6
        generalize w20.alloc (.cells #[.int .i64 m1, .int .i64 m2] 38) = w21 at *
        obtain ⟨bx, hbx⟩ : ∃ b, b = w20.heap.size := ⟨_, rfl⟩
        rw [← hbx] at HR21 ⊢
        have B_bx := Lib.hid (show w.heap.size ≤ bx by rw [hbx]; exact hs_bx)
        clear hbx hs_bx 
        ((with_reducible refine (size_any t p _ (HR21.out _ (Bt.refl _ _)).2.2.1).mono ?_); rintro e w22 ⟨rfl, hb⟩)
        have HM22 := Lib.hid (HM21.out.stay hb)
        have HR22 := Lib.hid (fun W (hz : Bt (some mb) w22 W) => HR21.out W ((Bt.ofBelow hb).trans hz))
        clear HR21 HM21 
        clear hb
        rw [← Q.out.2.1]
        by_cases hs0 : 0 < s
        · have v1 : decide ((0 : Int) < (s : Int)) = true := by simp; omega
          have v2 : (0 : Int) < (s : Int) := by omega
          have v3 : mq = true := by rw [hmbs]; simp; omega
          subst v3
          clear hmbs
          have x1 : IntKind.i64.wrap ((a : Int) - 1) = (a : Int) - 1 := by rw [IntKind.wrap_i64]; have := Z.out; omega
          have x2 : wrap64 ((a : Int) - 1) = (a : Int) - 1 := by unfold wrap64; have := Z.out; omega
          have x3 : max ((a : Int) - 1) 0 = (T : Int) := by have := Z.out; omega
          have x4 : (if (a : Int) - 1 < 0 then (0 : Int) else (a : Int) - 1) = (T : Int) := by have := Z.out; split <;> omega
          go_wp2_with fail
          ((with_reducible refine (mSteps mb (T : Int) 0 _ HM22.out (by have := Z.out; omega) (by have := Z.out; omega) (by decide) (by decide)).mono ?_); rintro e w23 ⟨rfl, hb⟩)
          have HM23 := Lib.hid (HM22.out.stay hb)
          have HR23 := Lib.hid (fun W (hz : Bt (some mb) w23 W) => HR22.out W ((Bt.ofBelow hb).trans hz))
          clear HR22 HM22 
          clear hb
          rw [show (T : Int) + 0 = (T : Int) from Int.add_zero _]
          go_wp2_with fail
          ((with_reducible refine (mSteps mb (T : Int) 0 _ HM23.out (by have := Z.out; omega) (by have := Z.out; omega) (by decide) (by decide)).mono ?_); rintro e w24 ⟨rfl, hb⟩)
          have HM24 := Lib.hid (HM23.out.stay hb)
          have HR24 := Lib.hid (fun W (hz : Bt (some mb) w24 W) => HR23.out W ((Bt.ofBelow hb).trans hz))
          clear HR23 HM23 
          clear hb
          rw [show (T : Int) + 0 = (T : Int) from Int.add_zero _]
          have c7 : w24.cell? ⟨bX, 0, none⟩ = some (.pointer p.q) := (HR24.out _ (Bt.refl _ _)).2.1.c0
          have c8 : w24.cell? ⟨bX, 1, none⟩ = some (.int .i64 p.n) := (HR24.out _ (Bt.refl _ _)).2.1.c1
          go_wp2_with fail
          clear v1 v2 x1 x2 x3 x4
          ((with_reducible refine (pop_any (some mb) (T : Int) 0 t p _ (by have := Q.out; omega) HM24.out (by have := Z.out; omega) (by have := Z.out; omega) (by decide) (by decide) (HR24.out _ (Bt.refl _ _)).2.2.1).mono ?_); rintro e w25 ⟨pG, rfl, ht, hm, hb⟩)
          have HM25 := Lib.hid (show MAt w25 (some mb) ((T : Int) + ((P : Int) + (T : Int))) (P : Int) from by have h9 := hm; rw [← Z.out.1, ← Z.out.2.1] at h9; simpa using h9)
          have HR25 := Lib.hid (on_inv (mo := (some mb)) HR24.out hb (fun W hz => ht.bt hz HM25.out))
          clear HR24 HM24 c7 c8
          clear ht hm hb
          generalize t.some = sb
          go_wp2_with fail
          ((with_reducible refine (mSince mb ((T : Int) + ((P : Int) + (T : Int))) (P : Int) (T : Int) _ HM25.out (by have := Z.out; omega) (by have := Z.out; omega) (by have := Z.out; omega) (by have := Z.out; omega) (by have := Z.out; omega) (by have := Z.out; omega)).mono ?_); rintro e w26 ⟨rfl, hb⟩)
          have HM26 := Lib.hid (HM25.out.stay hb)
          have HR26 := Lib.hid (fun W (hz : Bt (some mb) w26 W) => HR25.out W ((Bt.ofBelow hb).trans hz))
          clear HR25 HM25 
          clear hb
          have y1 : IntKind.i64.wrap (14 * (b : Int)) = 14 * (b : Int) := by rw [IntKind.wrap_i64]; have := Z.out; omega
          have y2 : wrap64 (14 * (b : Int)) = 14 * (b : Int) := by unfold wrap64; have := Z.out; omega
          have v4 : decide ((T : Int) + ((P : Int) + (T : Int)) + (P : Int) - (T : Int) ≤ 14 * (b : Int)) = true := by simp; have := Z.out; omega
          have v5 : (T : Int) + ((P : Int) + (T : Int)) + (P : Int) - (T : Int) ≤ 14 * (b : Int) := by have := Z.out; omega
          go_wp2_with fail
          go_ret
          exact ⟨rfl, (HR26.out _ (Bt.refl _ _)).2.2.2.2.below⟩
        · have v1 : decide ((0 : Int) < (s : Int)) = false := by simp; omega
          have v2 : ¬ (0 : Int) < (s : Int) := by omega
          have v3 : mq = false := by rw [hmbs]; simp; omega
          subst v3
          clear hmbs
          have x1 : IntKind.i64.wrap ((a : Int) - 1) = (a : Int) - 1 := by rw [IntKind.wrap_i64]; have := Z.out; omega
          have x2 : wrap64 ((a : Int) - 1) = (a : Int) - 1 := by unfold wrap64; have := Z.out; omega
          have x3 : max ((a : Int) - 1) 0 = (T : Int) := by have := Z.out; omega
          have x4 : (if (a : Int) - 1 < 0 then (0 : Int) else (a : Int) - 1) = (T : Int) := by have := Z.out; split <;> omega
          go_wp2_with fail
          ((with_reducible refine (mSteps mb (T : Int) 0 _ HM22.out (by have := Z.out; omega) (by have := Z.out; omega) (by decide) (by decide)).mono ?_); rintro e w23 ⟨rfl, hb⟩)
          have HM23 := Lib.hid (HM22.out.stay hb)
          have HR23 := Lib.hid (fun W (hz : Bt (some mb) w23 W) => HR22.out W ((Bt.ofBelow hb).trans hz))
          clear HR22 HM22 
          clear hb
          rw [show (T : Int) + 0 = (T : Int) from Int.add_zero _]
          go_wp2_with fail
          ((with_reducible refine (mSteps mb (T : Int) 0 _ HM23.out (by have := Z.out; omega) (by have := Z.out; omega) (by decide) (by decide)).mono ?_); rintro e w24 ⟨rfl, hb⟩)
          have HM24 := Lib.hid (HM23.out.stay hb)
          have HR24 := Lib.hid (fun W (hz : Bt (some mb) w24 W) => HR23.out W ((Bt.ofBelow hb).trans hz))
          clear HR23 HM23 
          clear hb
          rw [show (T : Int) + 0 = (T : Int) from Int.add_zero _]
          have c7 : w24.cell? ⟨bX, 0, none⟩ = some (.pointer p.q) := (HR24.out _ (Bt.refl _ _)).2.1.c0
          have c8 : w24.cell? ⟨bX, 1, none⟩ = some (.int .i64 p.n) := (HR24.out _ (Bt.refl _ _)).2.1.c1
          go_wp2_with fail
          clear v1 v2 x1 x2 x3 x4
          ((with_reducible refine (pop_any (some mb) (T : Int) 0 t p _ (by have := Q.out; omega) HM24.out (by have := Z.out; omega) (by have := Z.out; omega) (by decide) (by decide) (HR24.out _ (Bt.refl _ _)).2.2.1).mono ?_); rintro e w25 ⟨pG, rfl, ht, hm, hb⟩)
          have HM25 := Lib.hid (show MAt w25 (some mb) ((T : Int) + ((P : Int) + (T : Int))) (P : Int) from by have h9 := hm; rw [← Z.out.1, ← Z.out.2.1] at h9; simpa using h9)
          have HR25 := Lib.hid (on_inv (mo := (some mb)) HR24.out hb (fun W hz => ht.bt hz HM25.out))
          clear HR24 HM24 c7 c8
          clear ht hm hb
          generalize t.some = sb
          go_wp2_with fail
          ((with_reducible refine (mSince mb ((T : Int) + ((P : Int) + (T : Int))) (P : Int) (T : Int) _ HM25.out (by have := Z.out; omega) (by have := Z.out; omega) (by have := Z.out; omega) (by have := Z.out; omega) (by have := Z.out; omega) (by have := Z.out; omega)).mono ?_); rintro e w26 ⟨rfl, hb⟩)
          have HM26 := Lib.hid (HM25.out.stay hb)
          have HR26 := Lib.hid (fun W (hz : Bt (some mb) w26 W) => HR25.out W ((Bt.ofBelow hb).trans hz))
          clear HR25 HM25 
          clear hb
          have y1 : IntKind.i64.wrap (14 * (b : Int)) = 14 * (b : Int) := by rw [IntKind.wrap_i64]; have := Z.out; omega
          have y2 : wrap64 (14 * (b : Int)) = 14 * (b : Int) := by unfold wrap64; have := Z.out; omega
          have v4 : decide ((T : Int) + ((P : Int) + (T : Int)) + (P : Int) - (T : Int) ≤ 14 * (b : Int)) = true := by simp; have := Z.out; omega
          have v5 : (T : Int) + ((P : Int) + (T : Int)) + (P : Int) - (T : Int) ≤ 14 * (b : Int) := by have := Z.out; omega
          go_wp2_with fail
          go_ret
          exact ⟨rfl, (HR26.out _ (Bt.refl _ _)).2.2.2.2.below⟩

end Go.Proofs.YtkilmflcgljgeaaDoor.Hp
