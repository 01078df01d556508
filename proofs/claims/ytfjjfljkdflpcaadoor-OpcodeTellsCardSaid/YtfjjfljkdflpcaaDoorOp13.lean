/-
  The walk of the statement OpcodeBack: for any numbers, any script and any byte it returns true, and nothing that was there has changed, in any world where the program's table holds what its text lays.
-/
import Derived.Test.YtfjjfljkdflpcaaDoorOp10
import Derived.Test.YtfjjfljkdflpcaaDoorOp11
namespace Go.Proofs.YtfjjfljkdflpcaaDoor
open Go.Sort Go.RowKit

set_option maxRecDepth 100000 in
set_option maxHeartbeats 2000000 in
theorem back_early {A : Option Addr} {n c : Nat} {r : Int} {B : Option Addr} {k d : Nat} {z : Nat} {w : World} (he : Env w) (h : 1600 < n ∨ 256 < k ∨ r < 0 ∨ 64 < r) :
    Calls Tryd.prog 4 #[.slice A n c, .agg #[.int .i64 r, .slice B k d], .int .u8 z] w fun e w' => e = .returned (.bool true) ∧ Below w.heap.size w w' := by
  have hb0 := (Below.refl w.heap.size w).alloc (Nat.le_refl _) (.cells #[.int .i64 r, .slice B k d] 25)
  have E0 := Lib.hid (he.below hb0)
  have B0 := Lib.hid hb0
  have T0 := Lib.hid (Two.new 25 w (.int .i64 r) (.slice B k d))
  clear he hb0
  go_enter Tryd.func4, Tryd.ntmps4
  go_wp2_with fail
  ((with_reducible refine (awake_any _ E0.out).mono ?_); rintro e w1 ⟨rfl, hb1⟩)
  have B1 := Lib.hid (B0.out.trans (hb1.mono B0.out.size))
  have T1 := T0.out.stay hb1
  have t0 := T1.c0
  have t1 := T1.c1
  clear hb1 T1
  by_cases h1 : 1600 < n
  · have d1 : decide ((1600 : Int) < (n : Int)) = true := by simp; omega
    clear h
    go_wp2_with fail
    go_ret
    exact ⟨rfl, B1.out⟩
  · have d1 : decide ((1600 : Int) < (n : Int)) = false := by simp; omega
    by_cases h2 : 256 < k
    · have d2 : decide ((256 : Int) < (k : Int)) = true := by simp; omega
      clear h
      go_wp2_with fail
      go_ret
      exact ⟨rfl, B1.out⟩
    · have d2 : decide ((256 : Int) < (k : Int)) = false := by simp; omega
      by_cases h3 : r < 0
      · have d3 : decide (r < 0) = true := by simpa using h3
        clear h
        go_wp2_with fail
        go_ret
        exact ⟨rfl, B1.out⟩
      · have d3 : decide (r < 0) = false := by simpa using h3
        have d4 : decide (64 < r) = true := by simp; omega
        clear h
        go_wp2_with fail
        go_ret
        exact ⟨rfl, B1.out⟩

theorem RdN.len {w : World} {A : Option Addr} {n c : Nat} {xs : List Int} (h : RdN w A n c xs) : n = xs.length := h.1
theorem flat_ge : ∀ (xs : List OpD), xs.length ≤ (flat xs).length
  | [] => by simp [flat]
  | x :: xs => by have := flat_ge xs; rw [flat_cons]; simp; omega

theorem same_self {A B : Option Addr} {l : List Int} {n m c d : Nat} {w : World} (ha : RdN w A n c l) (hb : RdN w B m d l) (h2 : n < 2147483648) :
    Calls Tryd.prog 11 #[.slice A n c, .slice B m d] w fun e w' => e = .returned (.bool true) ∧ Below w.heap.size w w' := by
  have h := same_any (c := c) (d := d) ha.1 hb.1 ha.2.1 hb.2.1 h2
  rw [show decide (l = l) = true by simp] at h
  exact h

/-- What stands at the head of each round of the laws' own first loop: no operation has been found too long. -/
def LongRel (w wb : World) (q : Nat) (xs : List OpD) (r : Int) (s i : Value) (wr : World) : Prop :=
  ∃ j : Nat, i = .int .i64 j ∧ j ≤ xs.length ∧ (∀ x ∈ xs.take j, x.args.length ≤ q) ∧ Below w.heap.size w wr ∧ Two 25 wr w.heap.size (.int .i64 r) s ∧ wr = wb

theorem long_more {xs : List OpD} {j q : Nat} (h : ∀ x ∈ xs.take j, x.args.length ≤ q) (hj : j < xs.length) (hx : xs[j].args.length ≤ q) : ∀ x ∈ xs.take (j + 1), x.args.length ≤ q := by
  intro x hm
  rw [List.take_succ_eq_append_getElem hj] at hm
  rcases List.mem_append.1 hm with hm | hm
  · exact h x hm
  · simp only [List.mem_singleton] at hm
    rw [hm]; exact hx

set_option maxRecDepth 100000 in
set_option maxHeartbeats 2000000 in
theorem back_late {A : Option Addr} {n c : Nat} {l : List Int} {r : Int} {B : Option Addr} {k d : Nat} {ps : List OpV} {xs : List OpD} {z : Nat} {w : World} (he : Env w) (hl : RdN w A n c l) (ho : OpsAt w B k d ps xs)
    (h : n ≤ 1600 ∧ k ≤ 256 ∧ 0 ≤ r ∧ r ≤ 64) (hz : z < 256) :
    Calls Tryd.prog 4 #[.slice A n c, .agg #[.int .i64 r, .slice B k d], .int .u8 z] w fun e w' => e = .returned (.bool true) ∧ Below w.heap.size w w' := by
  have hb0 := (Below.refl w.heap.size w).alloc (Nat.le_refl _) (.cells #[.int .i64 r, .slice B k d] 25)
  have E0 := Lib.hid (he.below hb0)
  have B0 := Lib.hid hb0
  have T0 := Lib.hid (Two.new 25 w (.int .i64 r) (.slice B k d))
  have HL := Lib.hid hl
  have HO := Lib.hid ho
  have hkx : k = xs.length := ho.n.trans ho.tells.length
  have HX := Lib.hid hkx
  have d1 : decide ((1600 : Int) < (n : Int)) = false := by simp; omega
  have d2 : decide ((256 : Int) < (k : Int)) = false := by simp; omega
  have d3 : decide (r < 0) = false := by simp; omega
  have d4 : decide (64 < r) = false := by simp; omega
  have HN := Lib.hid h
  have k256 : k ≤ 256 := h.2.1
  clear he hb0 hl ho hkx h
  go_enter Tryd.func4, Tryd.ntmps4
  go_wp2_with fail
  ((with_reducible refine (awake_any _ E0.out).mono ?_); rintro e w1 ⟨rfl, hb1⟩)
  have B1 := Lib.hid (B0.out.trans (hb1.mono B0.out.size))
  have T1 := Lib.hid (T0.out.stay hb1)
  have t0 := T1.out.c0
  have t1 := T1.out.c1
  clear hb1
  go_wp2_with fail
  go_loopw [8] (fun i wr => LongRel w w1 4 xs r (.slice B k d) i wr) (fun i _ => k - (intOf i).toNat)
  case atStart => exact ⟨0, rfl, Nat.zero_le _, by simp, B1.out, T1.out, rfl⟩
  case round =>
    obtain ⟨j, rfl, hj, hall, hbl, htw, rfl⟩ := hrel
    have HA := Lib.hid (And.intro hj hall)
    by_cases hjk : j = k
    · have H4 := Lib.hid (show ∀ x ∈ xs, x.args.length ≤ 4 by rw [List.take_of_length_le (by have := HX.out; omega)] at hall; exact hall)
      clear hj hall hbl htw
      subst hjk
      go_wp2_with fail
      with_reducible refine (parse_any (HL.out.stay B1.out) (by have := HN.out; omega)).mono ?_
      rintro e w2 ⟨B2, k2, c2, ps2, rfl, ho2, hb2⟩
      have hbb := B1.out.trans (hb2.mono B1.out.size)
      have hsh := (Below.refl w2.heap.size w2).alloc (Nat.le_refl _) (.cells #[.int .i64 (parse l).room, .slice B2 k2 c2] 25)
      have O2 := Lib.hid (ho2.stay hsh)
      have V2 := Lib.hid (Two.new 25 w2 (.int .i64 (parse l).room) (.slice B2 k2 c2))
      have B2b := Lib.hid (hbb.alloc hbb.size (.cells #[.int .i64 (parse l).room, .slice B2 k2 c2] 25))
      have T2 := Lib.hid ((T1.out.stay hb2).stay hsh)
      have v0 := V2.out.c0
      have v1 := V2.out.c1
      have t2 := T2.out.c0
      have t3 := T2.out.c1
      clear ho2 hb2 hbb hsh
      by_cases herr : (parse l).err = 0
      · have hbd := parse_build l herr
        have g1 : ((parse l).err == 0) = true := by rw [beq_iff_eq]; exact herr
        have g2 : ((parse l).err != 0) = false := by rw [bne_eq_false_iff_eq]; exact herr
        have HBD := Lib.hid hbd
        have FS := Lib.hid (show (flat (parse l).ops).length < 1000000 by have h1 := congrArg List.length hbd; rw [build_length] at h1; have := HL.out.len; have := HN.out; omega)
        clear hbd herr
        go_wp2_with fail
        with_reducible refine (build_any O2.out FS.out (by have h1 := O2.out.n; have h2 := O2.out.tells.length; have := FS.out; have h3 := flat_ge (parse l).ops; omega)).mono ?_
        rintro e w3 ⟨A9, n9, c9, rfl, hr9, hb9⟩
        rw [HBD.out] at hr9
        have L9 := Lib.hid ((HL.out.stay B2b.out).stay hb9)
        have R9 := Lib.hid hr9
        have B9 := Lib.hid (B2b.out.trans (hb9.mono B2b.out.size))
        have T9a := Lib.hid (T2.out.stay hb9)
        clear hr9 hb9
        go_wp2_with fail
        with_reducible refine (same_self R9.out L9.out (by have := R9.out.len; have := HL.out.len; have := HN.out; omega)).mono ?_
        rintro e w9 ⟨rfl, hb9⟩
        have hB9 := B9.out.trans (hb9.mono B9.out.size)
        have T9 := Lib.hid (And.intro (And.intro hB9 (T9a.out.stay hb9)) (HO.out.stay hB9))
        have t4 := T9.out.1.2.c0
        have t5 := T9.out.1.2.c1
        clear hb9 hB9
        go_wp2_with fail
        with_reducible refine (build_any T9.out.2 (by have := flat_short xs 4 H4.out; have := HX.out; omega) (by omega)).mono ?_
        rintro e w4 ⟨A3, n3, c3, rfl, hr3, hb4⟩
        have B4 := Lib.hid (T9.out.1.1.trans (hb4.mono T9.out.1.1.size))
        have R4 := Lib.hid hr3
        have N3 := Lib.hid (show n3 = 1 + (flat xs).length ∧ n3 < 2000 by have h1 := hr3.1; rw [build_length] at h1; have := flat_short xs 4 H4.out; have := HX.out; omega)
        have T4 := Lib.hid (T9.out.1.2.stay hb4)
        clear hr3 hb4
        go_wp2_with fail
        with_reducible refine (parse_any R4.out (by have := N3.out; omega)).mono ?_
        rintro e w5 ⟨B5, k5, c5, ps5, rfl, ho5, hb5⟩
        rw [parse_of_build r xs ⟨HN.out.2.2.1, HN.out.2.2.2⟩ (by have := HX.out; omega) H4.out] at ho5 ⊢
        have hk5 : k5 = j := by have h1 := ho5.n; have h2 := ho5.tells.length; have := HX.out; simp only at h2; omega
        subst hk5
        have hsh5 := hb5.alloc hb5.size (.cells #[.int .i64 r, .slice B5 k5 c5] 25)
        have Bw5 := Lib.hid (B4.out.trans (hsh5.mono B4.out.size))
        have O5 := Lib.hid (ho5.stay ((Below.refl _ _).alloc (Nat.le_refl _) (.cells #[.int .i64 r, .slice B5 k5 c5] 25)))
        have V5 := Lib.hid (Two.new 25 w5 (.int .i64 r) (.slice B5 k5 c5))
        have R5 := Lib.hid (R4.out.stay hsh5)
        have T5 := Lib.hid (T4.out.stay hsh5)
        have x0 := V5.out.c0
        have x1 := V5.out.c1
        clear ho5 hb5 hsh5 R4 T4 B4
        go_wp2_with fail
        with_reducible refine (plain_any (r := r) O5.out (by omega)).mono ?_
        rintro e w6 ⟨B6, c6, ps6, rfl, ho6, hb6⟩
        have B6' := Lib.hid (Bw5.out.trans (hb6.mono Bw5.out.size))
        have O6 := Lib.hid ho6
        have V6 := Lib.hid (V5.out.stay hb6)
        have R6 := Lib.hid (R5.out.stay hb6)
        have T6 := Lib.hid (T5.out.stay hb6)
        clear ho6 hb6 V5 R5 T5 Bw5
        go_wp2_with fail
        with_reducible refine (rbuild_any (r := r) O6.out (by have := flat_short xs 4 H4.out; have := HX.out; omega) (by omega)).mono ?_
        rintro e w7 ⟨A7, n7, c7, rfl, hr7, hb7⟩
        have Bw7 := Lib.hid (B6'.out.trans (hb7.mono B6'.out.size))
        have S7 := Lib.hid hr7
        have V7 := Lib.hid (V6.out.stay hb7)
        have R7 := Lib.hid (R6.out.stay hb7)
        have T7 := Lib.hid (T6.out.stay hb7)
        have N7 := Lib.hid (show n7 < 2000 by have h1 := hr7.1; rw [build_length] at h1; have := N3.out; omega)
        clear hr7 hb7 V6 R6 T6 B6'
        go_wp2_with fail
        with_reducible refine (same_self S7.out R7.out (by have := N7.out; omega)).mono ?_
        rintro e w8 ⟨rfl, hb8⟩
        have B8 := Lib.hid (Bw7.out.trans (hb8.mono Bw7.out.size))
        have V8 := Lib.hid (V7.out.stay hb8)
        have R8 := Lib.hid (R7.out.stay hb8)
        have T8 := Lib.hid (T7.out.stay hb8)
        have y0 := V8.out.c0
        have y1 := V8.out.c1
        have y2 := T8.out.c0
        have y3 := T8.out.c1
        clear hb8 V7 R7 T7 Bw7
        have z1 : ((n3 : Int) == 0) = false := by rw [beq_eq_false_iff_ne]; have := N3.out; omega
        have z2 : ¬ (n3 : Int) = 0 := by have := N3.out; omega
        have z3 : ¬ n3 = 0 := by have := N3.out; omega
        obtain ⟨q, hq⟩ : ∃ q : Nat, (z : Int) % (n3 : Int) = (q : Int) := ⟨z % n3, by simp⟩
        have Q := Lib.hid (show q < n3 by have h1 : (z : Int) % (n3 : Int) < n3 := Int.emod_lt_of_pos _ (by omega); omega)
        have z4 : q ≤ n3 := by have := Q.out; omega
        have z5 : (q : Int) ≤ (n3 : Int) := by omega
        have z6 : q ≤ c3 := by have := R8.out.2.2.1; omega
        go_wp2_with fail
        with_reducible refine (parse_any (R8.out.take q z4) (by have := N3.out; omega)).mono ?_
        rintro e w10 ⟨B10, k10, c10, ps10, rfl, ho10, hb10⟩
        have hcut := parse_cut r xs q ⟨HN.out.2.2.1, HN.out.2.2.2⟩ (by have := HX.out; omega) H4.out (by rw [build_length]; have := N3.out; have := Q.out; omega)
        have hkl : k10 = (parse ((build r xs).take q)).ops.length := ho10.n.trans ho10.tells.length
        have hsh10 := hb10.alloc hb10.size (.cells #[.int .i64 (parse ((build r xs).take q)).room, .slice B10 k10 c10] 25)
        have Bw10 := Lib.hid (B8.out.trans (hsh10.mono B8.out.size))
        have V10 := Two.new 25 w10 (.int .i64 (parse ((build r xs).take q)).room) (.slice B10 k10 c10)
        have T10 := T8.out.stay hsh10
        have u0 := V10.c1
        have u1 := T10.c1
        clear ho10 hb10 hsh10 V10 T10
        rcases hcut with h11 | ⟨h00, hlt⟩
        · rw [h11]
          clear hkl
          go_wp2_with fail
          go_ret
          exact ⟨rfl, Bw10.out⟩
        · rw [h00]
          have hkk : k10 < k5 := by have := HX.out; omega
          have d10 : decide ((k10 : Int) < (k5 : Int)) = true := by simp; exact hkk
          clear hkl hlt
          go_wp2_with fail
          go_ret
          exact ⟨rfl, Bw10.out⟩
      · have hnn := parse_none l herr
        have g1 : ((parse l).err == 0) = false := by rw [beq_eq_false_iff_ne]; exact herr
        have g2 : ((parse l).err != 0) = true := by rw [bne_iff_ne]; exact herr
        have hk2 : k2 = 0 := by have h1 := O2.out.n; have h2 := O2.out.tells.length; rw [hnn.2, List.length_nil] at h2; omega
        have g3 : (parse l).room = 0 := hnn.1
        subst hk2
        rw [g3] at *
        clear hnn herr g3
        have T9 := Lib.hid (And.intro (And.intro B2b.out T2.out) (HO.out.stay B2b.out))
        go_wp2_with fail
        with_reducible refine (build_any T9.out.2 (by have := flat_short xs 4 H4.out; have := HX.out; omega) (by omega)).mono ?_
        rintro e w4 ⟨A3, n3, c3, rfl, hr3, hb4⟩
        have B4 := Lib.hid (T9.out.1.1.trans (hb4.mono T9.out.1.1.size))
        have R4 := Lib.hid hr3
        have N3 := Lib.hid (show n3 = 1 + (flat xs).length ∧ n3 < 2000 by have h1 := hr3.1; rw [build_length] at h1; have := flat_short xs 4 H4.out; have := HX.out; omega)
        have T4 := Lib.hid (T9.out.1.2.stay hb4)
        clear hr3 hb4
        go_wp2_with fail
        with_reducible refine (parse_any R4.out (by have := N3.out; omega)).mono ?_
        rintro e w5 ⟨B5, k5, c5, ps5, rfl, ho5, hb5⟩
        rw [parse_of_build r xs ⟨HN.out.2.2.1, HN.out.2.2.2⟩ (by have := HX.out; omega) H4.out] at ho5 ⊢
        have hk5 : k5 = j := by have h1 := ho5.n; have h2 := ho5.tells.length; have := HX.out; simp only at h2; omega
        subst hk5
        have hsh5 := hb5.alloc hb5.size (.cells #[.int .i64 r, .slice B5 k5 c5] 25)
        have Bw5 := Lib.hid (B4.out.trans (hsh5.mono B4.out.size))
        have O5 := Lib.hid (ho5.stay ((Below.refl _ _).alloc (Nat.le_refl _) (.cells #[.int .i64 r, .slice B5 k5 c5] 25)))
        have V5 := Lib.hid (Two.new 25 w5 (.int .i64 r) (.slice B5 k5 c5))
        have R5 := Lib.hid (R4.out.stay hsh5)
        have T5 := Lib.hid (T4.out.stay hsh5)
        have x0 := V5.out.c0
        have x1 := V5.out.c1
        clear ho5 hb5 hsh5 R4 T4 B4
        go_wp2_with fail
        with_reducible refine (plain_any (r := r) O5.out (by omega)).mono ?_
        rintro e w6 ⟨B6, c6, ps6, rfl, ho6, hb6⟩
        have B6' := Lib.hid (Bw5.out.trans (hb6.mono Bw5.out.size))
        have O6 := Lib.hid ho6
        have V6 := Lib.hid (V5.out.stay hb6)
        have R6 := Lib.hid (R5.out.stay hb6)
        have T6 := Lib.hid (T5.out.stay hb6)
        clear ho6 hb6 V5 R5 T5 Bw5
        go_wp2_with fail
        with_reducible refine (rbuild_any (r := r) O6.out (by have := flat_short xs 4 H4.out; have := HX.out; omega) (by omega)).mono ?_
        rintro e w7 ⟨A7, n7, c7, rfl, hr7, hb7⟩
        have Bw7 := Lib.hid (B6'.out.trans (hb7.mono B6'.out.size))
        have S7 := Lib.hid hr7
        have V7 := Lib.hid (V6.out.stay hb7)
        have R7 := Lib.hid (R6.out.stay hb7)
        have T7 := Lib.hid (T6.out.stay hb7)
        have N7 := Lib.hid (show n7 < 2000 by have h1 := hr7.1; rw [build_length] at h1; have := N3.out; omega)
        clear hr7 hb7 V6 R6 T6 B6'
        go_wp2_with fail
        with_reducible refine (same_self S7.out R7.out (by have := N7.out; omega)).mono ?_
        rintro e w8 ⟨rfl, hb8⟩
        have B8 := Lib.hid (Bw7.out.trans (hb8.mono Bw7.out.size))
        have V8 := Lib.hid (V7.out.stay hb8)
        have R8 := Lib.hid (R7.out.stay hb8)
        have T8 := Lib.hid (T7.out.stay hb8)
        have y0 := V8.out.c0
        have y1 := V8.out.c1
        have y2 := T8.out.c0
        have y3 := T8.out.c1
        clear hb8 V7 R7 T7 Bw7
        have z1 : ((n3 : Int) == 0) = false := by rw [beq_eq_false_iff_ne]; have := N3.out; omega
        have z2 : ¬ (n3 : Int) = 0 := by have := N3.out; omega
        have z3 : ¬ n3 = 0 := by have := N3.out; omega
        obtain ⟨q, hq⟩ : ∃ q : Nat, (z : Int) % (n3 : Int) = (q : Int) := ⟨z % n3, by simp⟩
        have Q := Lib.hid (show q < n3 by have h1 : (z : Int) % (n3 : Int) < n3 := Int.emod_lt_of_pos _ (by omega); omega)
        have z4 : q ≤ n3 := by have := Q.out; omega
        have z5 : (q : Int) ≤ (n3 : Int) := by omega
        have z6 : q ≤ c3 := by have := R8.out.2.2.1; omega
        go_wp2_with fail
        with_reducible refine (parse_any (R8.out.take q z4) (by have := N3.out; omega)).mono ?_
        rintro e w10 ⟨B10, k10, c10, ps10, rfl, ho10, hb10⟩
        have hcut := parse_cut r xs q ⟨HN.out.2.2.1, HN.out.2.2.2⟩ (by have := HX.out; omega) H4.out (by rw [build_length]; have := N3.out; have := Q.out; omega)
        have hkl : k10 = (parse ((build r xs).take q)).ops.length := ho10.n.trans ho10.tells.length
        have hsh10 := hb10.alloc hb10.size (.cells #[.int .i64 (parse ((build r xs).take q)).room, .slice B10 k10 c10] 25)
        have Bw10 := Lib.hid (B8.out.trans (hsh10.mono B8.out.size))
        have V10 := Two.new 25 w10 (.int .i64 (parse ((build r xs).take q)).room) (.slice B10 k10 c10)
        have T10 := T8.out.stay hsh10
        have u0 := V10.c1
        have u1 := T10.c1
        clear ho10 hb10 hsh10 V10 T10
        rcases hcut with h11 | ⟨h00, hlt⟩
        · rw [h11]
          clear hkl
          go_wp2_with fail
          go_ret
          exact ⟨rfl, Bw10.out⟩
        · rw [h00]
          have hkk : k10 < k5 := by have := HX.out; omega
          have d10 : decide ((k10 : Int) < (k5 : Int)) = true := by simp; exact hkk
          clear hkl hlt
          go_wp2_with fail
          go_ret
          exact ⟨rfl, Bw10.out⟩
    · have hj2 : j < k := by have := HX.out; omega
      have hjp : j < ps.length := by have := HO.out.n; omega
      have hjx : j < xs.length := by have := HX.out; omega
      obtain ⟨b, o, rfl, hcell⟩ := HO.out.row (by omega)
      have h0 := (hcell j hjp).2
      have ht := (HO.out.tells.at j hjp hjx).n
      have hmore := fun hx => long_more hall hjx hx
      generalize ps[j] = p at *
      generalize xs[j] = x at *
      have hb := lt_of_cell h0
      have q1 := (hbl.cell (p := ⟨b, o + j * 2 + 1, none⟩) hb).trans h0
      obtain ⟨pc, pA, pn, pcap⟩ := p
      simp only at q1 ht
      have HM := Lib.hid (And.intro hmore ht)
      have n1 : (j : Int) < (k : Int) := by omega
      have n2 : (0 : Int) ≤ (j : Int) := by omega
      clear hcell h0 ht hmore hall hbl htw hj hjp hjx
      by_cases h4 : 4 < pn
      · have d5 : decide ((4 : Int) < (pn : Int)) = true := by simp; omega
        go_wp2_with fail
        go_ret
        exact ⟨rfl, B1.out⟩
      · have d5 : decide ((4 : Int) < (pn : Int)) = false := by simp; omega
        go_wp2_with fail
        exact ⟨⟨j + 1, by go_num, by have := HX.out; omega, HM.out.1 (by have := HM.out.2; omega), B1.out, T1.out, rfl⟩, by simp [intOf]; omega⟩

theorem back_any {A : Option Addr} {n c : Nat} {l : List Int} {r : Int} {B : Option Addr} {k d : Nat} {ps : List OpV} {xs : List OpD} {z : Nat} {w : World} (he : Env w) (hl : RdN w A n c l) (ho : OpsAt w B k d ps xs) (hz : z < 256) :
    Calls Tryd.prog 4 #[.slice A n c, .agg #[.int .i64 r, .slice B k d], .int .u8 z] w fun e w' => e = .returned (.bool true) ∧ Below w.heap.size w w' := by
  by_cases h : n ≤ 1600 ∧ k ≤ 256 ∧ 0 ≤ r ∧ r ≤ 64
  · exact back_late he hl ho h hz
  · exact back_early he (by omega)

end Go.Proofs.YtfjjfljkdflpcaaDoor
