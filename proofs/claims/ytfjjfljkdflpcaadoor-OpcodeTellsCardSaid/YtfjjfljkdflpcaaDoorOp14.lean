/-
  The walk of the statement OpcodeTells: for any numbers, any script and any operation it returns true, and nothing that was there has changed, in any world where the program's table holds what its text lays.
-/
import Derived.Test.YtfjjfljkdflpcaaDoorOp7
import Derived.Test.YtfjjfljkdflpcaaDoorOp13
import Derived.Deep.RegionHeld3
namespace Go.Proofs.YtfjjfljkdflpcaaDoor
open Go.Sort Go.RowKit

set_option maxRecDepth 100000 in
set_option maxHeartbeats 2000000 in
theorem tells_early {A : Option Addr} {n c : Nat} {r : Int} {B : Option Addr} {k d : Nat} {x : Int} {X : Option Addr} {m e : Nat} {w : World} (he : Env w) (h : 1600 < n ∨ 300 < k ∨ 20 < m) :
    Calls Tryd.prog 3 #[.slice A n c, .agg #[.int .i64 r, .slice B k d], .agg #[.int .i64 x, .slice X m e]] w fun e w' => e = .returned (.bool true) ∧ Below w.heap.size w w' := by
  have hb0 := (Below.refl w.heap.size w).alloc (Nat.le_refl _) (.cells #[.int .i64 r, .slice B k d] 25)
  have hb00 := hb0.alloc hb0.size (.cells #[.int .i64 x, .slice X m e] 27)
  have E0 := Lib.hid (he.below hb00)
  have B0 := Lib.hid hb00
  have T0 := Lib.hid ((Two.new 25 w (.int .i64 r) (.slice B k d)).alloc (.cells #[.int .i64 x, .slice X m e] 27))
  have U0 := Two.new 27 (w.alloc (.cells #[.int .i64 r, .slice B k d] 25)) (.int .i64 x) (.slice X m e)
  rw [show (w.alloc (.cells #[.int .i64 r, .slice B k d] 25)).heap.size = w.heap.size + 1 by simp] at U0
  have U0 := Lib.hid U0
  clear he hb0 hb00
  go_enter Tryd.func3, Tryd.ntmps3
  go_wp2_with fail
  ((with_reducible refine (awake_any _ E0.out).mono ?_); rintro e w1 ⟨rfl, hb1⟩)
  have B1 := Lib.hid (B0.out.trans (hb1.mono B0.out.size))
  have T1 := T0.out.stay hb1
  have U1 := U0.out.stay hb1
  have t1 := T1.c1
  have u1 := U1.c1
  clear hb1 T1 U1
  by_cases h1 : 1600 < n
  · have d1 : decide ((1600 : Int) < (n : Int)) = true := by simp; omega
    clear h
    go_wp2_with fail
    go_ret
    exact ⟨rfl, B1.out⟩
  · have d1 : decide ((1600 : Int) < (n : Int)) = false := by simp; omega
    by_cases h2 : 300 < k
    · have d2 : decide ((300 : Int) < (k : Int)) = true := by simp; omega
      clear h
      go_wp2_with fail
      go_ret
      exact ⟨rfl, B1.out⟩
    · have d2 : decide ((300 : Int) < (k : Int)) = false := by simp; omega
      have d4 : decide ((20 : Int) < (m : Int)) = true := by simp; omega
      clear h
      go_wp2_with fail
      go_ret
      exact ⟨rfl, B1.out⟩

set_option maxRecDepth 100000 in
set_option maxHeartbeats 2000000 in
theorem tells_late {A : Option Addr} {n c : Nat} {l : List Int} {r : Int} {B : Option Addr} {k d : Nat} {ps : List OpV} {xs : List OpD} {x : Int} {X : Option Addr} {m ex : Nat} {w : World} (he : Env w) (hl : RdN w A n c l) (ho : OpsAt w B k d ps xs)
    (h : n ≤ 1600 ∧ k ≤ 300 ∧ m ≤ 20) :
    Calls Tryd.prog 3 #[.slice A n c, .agg #[.int .i64 r, .slice B k d], .agg #[.int .i64 x, .slice X m ex]] w fun e w' => e = .returned (.bool true) ∧ Below w.heap.size w w' := by
  have hb0 := (Below.refl w.heap.size w).alloc (Nat.le_refl _) (.cells #[.int .i64 r, .slice B k d] 25)
  have hb00 := hb0.alloc hb0.size (.cells #[.int .i64 x, .slice X m ex] 27)
  have E0 := Lib.hid (he.below hb00)
  have B0 := Lib.hid hb00
  have T0 := Lib.hid ((Two.new 25 w (.int .i64 r) (.slice B k d)).alloc (.cells #[.int .i64 x, .slice X m ex] 27))
  have U0 := Two.new 27 (w.alloc (.cells #[.int .i64 r, .slice B k d] 25)) (.int .i64 x) (.slice X m ex)
  rw [show (w.alloc (.cells #[.int .i64 r, .slice B k d] 25)).heap.size = w.heap.size + 1 by simp] at U0
  have U0 := Lib.hid U0
  have HL := Lib.hid hl
  have HO := Lib.hid ho
  have hkx : k = xs.length := ho.n.trans ho.tells.length
  have HX := Lib.hid hkx
  have HE := Lib.hid he
  have d1 : decide ((1600 : Int) < (n : Int)) = false := by simp; omega
  have d2 : decide ((300 : Int) < (k : Int)) = false := by simp; omega
  have d3 : decide ((20 : Int) < (m : Int)) = false := by simp; omega
  have HN := Lib.hid h
  have k300 : k ≤ 300 := h.2.1
  clear he hb0 hb00 hl ho hkx h
  go_enter Tryd.func3, Tryd.ntmps3
  go_wp2_with fail
  ((with_reducible refine (awake_any _ E0.out).mono ?_); rintro e w1 ⟨rfl, hb1⟩)
  have B1 := Lib.hid (B0.out.trans (hb1.mono B0.out.size))
  have T1 := Lib.hid (T0.out.stay hb1)
  have U1 := Lib.hid (U0.out.stay hb1)
  have t0 := T1.out.c0
  have t1 := T1.out.c1
  have u0 := U1.out.c0
  have u1 := U1.out.c1
  clear hb1
  go_wp2_with fail
  go_loopw [8] (fun i wr => LongRel w w1 20 xs r (.slice B k d) i wr) (fun i _ => k - (intOf i).toNat)
  case atStart => exact ⟨0, rfl, Nat.zero_le _, by simp, B1.out, T1.out, rfl⟩
  case round =>
    obtain ⟨j, rfl, hj, hall, hbl, htw, rfl⟩ := hrel
    have HA := Lib.hid (And.intro hj hall)
    by_cases hjk : j = k
    · have H4 := Lib.hid (show ∀ x ∈ xs, x.args.length ≤ 20 by rw [List.take_of_length_le (by have := HX.out; omega)] at hall; exact hall)
      have FX := Lib.hid (show (flat xs).length < 1000000 by have := flat_short xs 20 H4.out; have := HX.out; have := HN.out; omega)
      clear hj hall hbl htw
      subst hjk
      go_wp2_with fail
      with_reducible refine (parse_any (HL.out.stay B1.out) (by have := HN.out; omega)).mono ?_
      rintro e w2 ⟨B2, k2, c2, ps2, rfl, ho2, hb2⟩
      have hbb := B1.out.trans (hb2.mono B1.out.size)
      have hsh := (Below.refl w2.heap.size w2).alloc (Nat.le_refl _) (.cells #[.int .i64 (parse l).room, .slice B2 k2 c2] 25)
      have O2 := Lib.hid (ho2.stay hsh)
      have V2 := Lib.hid (Two.new 25 w2 (.int .i64 (parse l).room) (.slice B2 k2 c2))
      have Bw2 := Lib.hid (hbb.alloc hbb.size (.cells #[.int .i64 (parse l).room, .slice B2 k2 c2] 25))
      have T2 := Lib.hid ((T1.out.stay hb2).stay hsh)
      have U2 := Lib.hid ((U1.out.stay hb2).stay hsh)
      clear ho2 hb2 hbb hsh
      go_wp2_with fail
      with_reducible refine (rparse_any (HL.out.stay Bw2.out) (by have := HN.out; omega)).mono ?_
      rintro e w3 ⟨B3, k3, c3, ps3, rfl, ho3, hb3⟩
      have hk23 : k3 = k2 := by have h1 := O2.out.n; have h2 := O2.out.tells.length; have h3 := ho3.n; have h4 := ho3.tells.length; omega
      subst hk23
      have hsh := hb3.alloc hb3.size (.cells #[.int .i64 (parse l).room, .slice B3 k3 c3] 34)
      have Bw3 := Lib.hid (Bw2.out.trans (hsh.mono Bw2.out.size))
      have P3 := Lib.hid (ho3.stay ((Below.refl _ _).alloc (Nat.le_refl _) (.cells #[.int .i64 (parse l).room, .slice B3 k3 c3] 34)))
      have W3 := Lib.hid (Two.new 34 w3 (.int .i64 (parse l).room) (.slice B3 k3 c3))
      have O3 := Lib.hid (O2.out.stay hsh)
      have V3 := Lib.hid (V2.out.stay hsh)
      have T3 := Lib.hid (T2.out.stay hsh)
      have U3 := Lib.hid (U2.out.stay hsh)
      have E3 := Lib.hid (HE.out.below Bw3.out)
      have a0 := U3.out.c0
      clear ho3 hb3 hsh O2 V2 T2 U2 Bw2
      go_wp2_with fail
      with_reducible refine (args_any x _ E3.out).mono ?_
      rintro e w4 ⟨rfl, rfl⟩
      go_wp2_with fail
      with_reducible refine (rargs_any x _).mono ?_
      rintro e w4 ⟨rfl, rfl⟩
      have PF := Lib.hid (show (flat (parse l).ops).length < 1000000 by
        by_cases herr : (parse l).err = 0
        · have h1 := congrArg List.length (parse_build l herr)
          rw [build_length] at h1
          have := HL.out.len
          have := HN.out
          omega
        · rw [(parse_none l herr).2]; simp [flat])
      have PK := Lib.hid (show k3 < 1000000 by have h1 := O3.out.n; have h2 := O3.out.tells.length; have h3 := flat_ge (parse l).ops; have := PF.out; omega)
      generalize w3.alloc (.cells #[.int .i64 (parse l).room, .slice B3 k3 c3] 34) = w4 at *
      have b0 := V3.out.c0
      have b1 := V3.out.c1
      have p0 := W3.out.c0
      have p1 := W3.out.c1
      have g1 : ((parse l).err != (parse l).err) = false := by simp
      have g2 : ((k3 : Int) != (k3 : Int)) = false := by simp
      have O4 := Lib.hid (O3.out.stay (Below.refl w4.heap.size w4).drew)
      have BD := Lib.hid ((Below.refl w4.heap.size w4).drew)
      go_wp2_with fail
      go_region_held3 (fun w' => w'.cell? ⟨w2.heap.size, 0, none⟩ = some (.int .i64 (parse l).room) ∧ w'.cell? ⟨w2.heap.size, 1, none⟩ = some (.slice B2 k3 c2) ∧ w'.cell? ⟨w3.heap.size, 0, none⟩ = some (.int .i64 (parse l).room) ∧ w'.cell? ⟨w3.heap.size, 1, none⟩ = some (.slice B3 k3 c3)) (go_keep)
        (first
          | (go_at_call 13; ((with_reducible refine (plain_any (r := (parse l).room) O4.out PK.out).mono ?_); rintro e w5 ⟨B5, c5, ps5, rfl, ho5, hb5⟩; have H5 := Lib.hid (BD.out.trans hb5); have Q5 := Lib.hid ho5; have V5 := V3.out.stay H5.out; have W5 := W3.out.stay H5.out; have b50 := V5.c0; have b51 := V5.c1; have p50 := W5.c0; have p51 := W5.c1; clear ho5 hb5 V5 W5))
          | (go_at_call 12; ((with_reducible refine (rbuild_any (r := (parse l).room) Q5.out PF.out PK.out).mono ?_); rintro e w6 ⟨A6, n6, c6, rfl, hr6, hb6⟩; have H6 := Lib.hid (H5.out.trans (hb6.mono H5.out.size)); have R6 := Lib.hid hr6; have V6 := V3.out.stay H6.out; have W6 := W3.out.stay H6.out; have b60 := V6.c0; have b61 := V6.c1; have p60 := W6.c0; have p61 := W6.c1; clear hr6 hb6 V6 W6))
          | (go_at_call 12; ((with_reducible refine (rbuild_any (r := (parse l).room) (P3.out.stay H6.out) PF.out PK.out).mono ?_); rintro e w7 ⟨A7, n7, c7, rfl, hr7, hb7⟩; have H7 := Lib.hid (H6.out.trans (hb7.mono H6.out.size)); have R7 := Lib.hid (And.intro (R6.out.stay hb7) hr7); have V7 := V3.out.stay H7.out; have W7 := W3.out.stay H7.out; have b70 := V7.c0; have b71 := V7.c1; have p70 := W7.c0; have p71 := W7.c1; clear hr7 hb7 V7 W7))
          | (go_at_call 11; ((with_reducible refine (same_self R7.out.1 R7.out.2 (by have := R7.out.1.len; have h2 := build_length (parse l).room (parse l).ops; have := PF.out; omega)).mono ?_); rintro e w8 ⟨rfl, hb8⟩; have H8 := Lib.hid (H7.out.trans (hb8.mono H7.out.size)); have V8 := V3.out.stay H8.out; have W8 := W3.out.stay H8.out; have b80 := V8.c0; have b81 := V8.c1; have p80 := W8.c0; have p81 := W8.c1; clear hb8 V8 W8)))
      have Bw8 := Lib.hid (Bw3.out.trans (H8.out.mono Bw3.out.size))
      have T8 := Lib.hid (T3.out.stay H8.out)
      have U8 := Lib.hid (U3.out.stay H8.out)
      have c0 := T8.out.c0
      have c1 := T8.out.c1
      have e0 := U8.out.c0
      have e1 := U8.out.c1
      have O8 := Lib.hid (HO.out.stay Bw8.out)
      have JK := Lib.hid (show j < 1000000 by omega)
      have f1 : (decide (0 ≤ toldN x) == decide (0 ≤ toldN x)) = true := by simp
      obtain ⟨tm, htm⟩ : ∃ tm : Int, (if toldN x < 0 then 0 else toldN x) = tm := ⟨_, rfl⟩
      have f2 : (toldV x == tm) = true := by rw [beq_iff_eq, ← htm]; rfl
      have f3 : (rightN x m == rightN x m) = true := by simp
      clear b0 b1 p0 p1 b50 b51 p50 p51 b60 b61 p60 p61 b70 b71 p70 p71 b80 b81 p80 p81
      have D8 := Lib.hid ((Below.refl w8.heap.size w8).drew)
      go_wp2_with fail
      go_region_held3 (fun w' => w'.cell? ⟨w.heap.size, 0, none⟩ = some (.int .i64 r) ∧ w'.cell? ⟨w.heap.size, 1, none⟩ = some (.slice B j d) ∧ w'.cell? ⟨w.heap.size + 1, 0, none⟩ = some (.int .i64 x) ∧ w'.cell? ⟨w.heap.size + 1, 1, none⟩ = some (.slice X m ex)) (go_keep)
        (first
          | (go_at_call 14; ((with_reducible refine (build_any (r := r) (O8.out.stay D8.out) FX.out JK.out).mono ?_); rintro e w9 ⟨A9, n9, c9, rfl, hr9, hb9⟩; have H9 := Lib.hid (D8.out.trans hb9); have R9 := Lib.hid hr9; have V9 := T8.out.stay H9.out; have W9 := U8.out.stay H9.out; have b90 := V9.c0; have b91 := V9.c1; have p90 := W9.c0; have p91 := W9.c1; clear hr9 hb9 V9 W9))
          | (go_at_call 13; ((with_reducible refine (plain_any (r := r) (O8.out.stay H9.out) JK.out).mono ?_); rintro e w10 ⟨B10, c10, ps10, rfl, ho10, hb10⟩; have H10 := Lib.hid (H9.out.trans (hb10.mono H9.out.size)); have Q10 := Lib.hid (And.intro ho10 (R9.out.stay hb10)); have V10 := T8.out.stay H10.out; have W10 := U8.out.stay H10.out; have b100 := V10.c0; have b101 := V10.c1; have p100 := W10.c0; have p101 := W10.c1; clear ho10 hb10 V10 W10))
          | (go_at_call 12; ((with_reducible refine (rbuild_any (r := r) Q10.out.1 FX.out JK.out).mono ?_); rintro e w11 ⟨A11, n11, c11, rfl, hr11, hb11⟩; have H11 := Lib.hid (H10.out.trans (hb11.mono H10.out.size)); have R11 := Lib.hid (And.intro (Q10.out.2.stay hb11) hr11); have V11 := T8.out.stay H11.out; have W11 := U8.out.stay H11.out; have b110 := V11.c0; have b111 := V11.c1; have p110 := W11.c0; have p111 := W11.c1; clear hr11 hb11 V11 W11))
          | (go_at_call 11; ((with_reducible refine (same_self R11.out.1 R11.out.2 (by have := R11.out.1.len; have h2 := build_length r xs; have := FX.out; omega)).mono ?_); rintro e w12 ⟨rfl, hb12⟩; have H12 := Lib.hid (H11.out.trans (hb12.mono H11.out.size)); have V12 := T8.out.stay H12.out; have W12 := U8.out.stay H12.out; have b120 := V12.c0; have b121 := V12.c1; have p120 := W12.c0; have p121 := W12.c1; clear hb12 V12 W12))
          | (go_at_call 15; ((with_reducible refine (right_any x X m ex _ (HE.out.below (Bw8.out.trans (H12.out.mono Bw8.out.size)))).mono ?_); rintro e w13 ⟨rfl, hb13⟩; have H13 := Lib.hid (H12.out.trans (hb13.mono H12.out.size)); have V13 := T8.out.stay H13.out; have W13 := U8.out.stay H13.out; have b130 := V13.c0; have b131 := V13.c1; have p130 := W13.c0; have p131 := W13.c1; clear hb13 V13 W13))
          | (go_at_call 16; ((with_reducible refine (rright_any x X m ex _).mono ?_); rintro e w14 ⟨rfl, hb14⟩; have H14 := Lib.hid (H13.out.trans (hb14.mono H13.out.size)); have V14 := T8.out.stay H14.out; have W14 := U8.out.stay H14.out; have b140 := V14.c0; have b141 := V14.c1; have p140 := W14.c0; have p141 := W14.c1; clear hb14 V14 W14)))
      go_wp2_with fail
      go_ret
      exact ⟨rfl, Bw8.out.trans (H14.out.mono Bw8.out.size)⟩
    · have hj2 : j < k := by have := HX.out; omega
      have hjp : j < ps.length := by have := HO.out.n; omega
      have hjx : j < xs.length := by have := HX.out; omega
      obtain ⟨b, o, rfl, hcell⟩ := HO.out.row (by omega)
      have h0 := (hcell j hjp).2
      have ht := (HO.out.tells.at j hjp hjx).n
      have hmore := fun hx => long_more hall hjx hx
      generalize ps[j] = p at *
      generalize xs[j] = x at *
      have hb := lt_of_cell h0
      have q1 := (hbl.cell (p := ⟨b, o + j * 2 + 1, none⟩) hb).trans h0
      obtain ⟨pc, pA, pn, pcap⟩ := p
      simp only at q1 ht
      have HM := Lib.hid (And.intro hmore ht)
      have n1 : (j : Int) < (k : Int) := by omega
      have n2 : (0 : Int) ≤ (j : Int) := by omega
      clear hcell h0 ht hmore hall hbl htw hj hjp hjx
      by_cases h4 : 20 < pn
      · have d5 : decide ((20 : Int) < (pn : Int)) = true := by simp; omega
        go_wp2_with fail
        go_ret
        exact ⟨rfl, B1.out⟩
      · have d5 : decide ((20 : Int) < (pn : Int)) = false := by simp; omega
        go_wp2_with fail
        exact ⟨⟨j + 1, by go_num, by have := HX.out; omega, HM.out.1 (by have := HM.out.2; omega), B1.out, T1.out, rfl⟩, by simp [intOf]; omega⟩

theorem tells_any {A : Option Addr} {n c : Nat} {l : List Int} {r : Int} {B : Option Addr} {k d : Nat} {ps : List OpV} {xs : List OpD} {x : Int} {X : Option Addr} {m ex : Nat} {ax : List Int} {w : World} (he : Env w) (hl : RdN w A n c l) (ho : OpsAt w B k d ps xs) (_ : RdN w X m ex ax) :
    Calls Tryd.prog 3 #[.slice A n c, .agg #[.int .i64 r, .slice B k d], .agg #[.int .i64 x, .slice X m ex]] w fun e w' => e = .returned (.bool true) ∧ Below w.heap.size w w' := by
  by_cases h : n ≤ 1600 ∧ k ≤ 300 ∧ m ≤ 20
  · exact tells_late he hl ho h
  · exact tells_early he (by omega)

end Go.Proofs.YtfjjfljkdflpcaaDoor
