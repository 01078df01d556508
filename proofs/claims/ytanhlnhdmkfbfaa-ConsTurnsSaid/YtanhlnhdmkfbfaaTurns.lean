/-
  The walk of the statement ConsTurns: for any two rows of texts and any number it returns true, and nothing that was there has changed, in any world.
-/
import Derived.Test.YtanhlnhdmkfbfaaAwake3
import Derived.Test.YtanhlnhdmkfbfaaStr6
import Derived.IntWalk
namespace Go.Proofs.Ytanhlnhdmkfbfaa.Str
open Go.Sort Go.RowKit

theorem LL.drew {w : World} {p : Option Addr} {n : Nat} {xs : List El} (h : LL w p n xs) : LL w.drew p n xs := h.stay (below_drawn w)

attribute [local go_sem ↓] Go.wp_at_zero Go.wp_at_succ

set_option maxHeartbeats 8000000 in
set_option maxRecDepth 100000 in
theorem turns_any (A B : Option Addr) (xs ys : List El) (n m c d : Nat) (z : Int) (w : World) (hn : n = xs.length) (hm : m = ys.length) (hx : Row1 one w A xs) (hy : Row1 one w B ys) (hz0 : -9223372036854775808 ≤ z) (hz1 : z < 9223372036854775808) :
    Calls Try.prog 4 #[.slice A n c, .slice B m d, .int .i64 z] w fun e w' => e = .returned (.bool true) ∧ Below w.heap.size w w' := by
  have HX := Lib.hid hx
  have HY := Lib.hid hy
  have HN := Lib.hid hn
  have HM := Lib.hid hm
  clear hx hy hn hm
  go_enter Try.func4, Try.ntmps4
  go_wp2_with fail
  ((with_reducible refine (awake_any _).mono ?_); rintro e w1 ⟨rfl, hb1⟩)
  have B1 := Lib.hid hb1
  have X1 := Lib.hid (HX.out.stay hb1)
  have Y1 := Lib.hid (HY.out.stay hb1)
  clear hb1 HX HY
  by_cases hna : 60 < n
  · have g1 : decide ((60 : Int) < (n : Int)) = true := by simp; omega
    go_wp2_with fail
    go_ret
    exact ⟨rfl, B1.out⟩
  · have g1 : decide ((60 : Int) < (n : Int)) = false := by simp; omega
    by_cases hnb : 60 < m
    · have g2 : decide ((60 : Int) < (m : Int)) = true := by simp; omega
      go_wp2_with fail
      go_ret
      exact ⟨rfl, B1.out⟩
    · have g2 : decide ((60 : Int) < (m : Int)) = false := by simp; omega
      go_wp2_with fail
      ((with_reducible refine (of_l HN.out X1.out (by omega)).mono ?_); rintro e w2 ⟨p2, n2, rfl, hl2, hb2⟩)
      have hb2' := below_new w2 (.cells #[.pointer p2, .int .i64 n2] 48)
      have P2 := Lib.hid (hl2.stay hb2')
      have U2 := Lib.hid (Box2.new w2 48 (.pointer p2) (.int .i64 n2))
      have X2 := Lib.hid ((X1.out.stay hb2).stay hb2')
      have Y2 := Lib.hid ((Y1.out.stay hb2).stay hb2')
      have B2 := Lib.hid (Below.step (Below.step B1.out hb2) hb2')
      clear hl2 hb2 hb2' X1 Y1 B1
      go_wp2_with fail
      ((with_reducible refine (of_l HM.out Y2.out (by omega)).mono ?_); rintro e w3 ⟨p3, n3, rfl, hl3, hb3⟩)
      have hb3' := below_new w3 (.cells #[.pointer p3, .int .i64 n3] 48)
      have P3 := Lib.hid ((P2.out.stay hb3).stay hb3')
      have Q3 := Lib.hid (hl3.stay hb3')
      have U3 := Lib.hid ((U2.out.stay hb3).stay hb3')
      have V3 := Lib.hid (Box2.new w3 48 (.pointer p3) (.int .i64 n3))
      have X3 := Lib.hid ((X2.out.stay hb3).stay hb3')
      have Y3 := Lib.hid ((Y2.out.stay hb3).stay hb3')
      have B3 := Lib.hid (Below.step (Below.step B2.out hb3) hb3')
      clear hl3 hb3 hb3' X2 Y2 B2 P2 U2
      have c0 := U3.out.c0
      have c1 := U3.out.c1
      go_wp2_with fail
      have N2 := Lib.hid (show n2 ≤ 60 from by have := P3.out.len; have := HN.out; omega)
      have N3 := Lib.hid (show n3 ≤ 60 from by have := Q3.out.len; have := HM.out; omega)
      ((with_reducible refine (join_l P3.out Q3.out (by have := N2.out; have := N3.out; omega)).mono ?_); rintro e w4 ⟨p4, n4, rfl, hl4, hb4⟩)
      clear c0 c1
      generalize w2.heap.size = bx at *
      generalize w3.heap.size = by1 at *
      have P4 := Lib.hid (P3.out.stay hb4)
      have Q4 := Lib.hid (Q3.out.stay hb4)
      have U4 := Lib.hid (U3.out.stay hb4)
      have V4 := Lib.hid (V3.out.stay hb4)
      have X4 := Lib.hid (X3.out.stay hb4)
      have Y4 := Lib.hid (Y3.out.stay hb4)
      have B4 := Lib.hid (Below.step B3.out hb4)
      have J4 := Lib.hid hl4
      clear hl4 hb4 P3 Q3 U3 V3 X3 Y3 B3
      go_wp2_with fail
      ((with_reducible refine (rev_l J4.out).mono ?_); rintro e w5 ⟨p5, n5, rfl, hl5, hb5⟩)
      have P5 := Lib.hid (P4.out.stay hb5)
      have Q5 := Lib.hid (Q4.out.stay hb5)
      have U5 := Lib.hid (U4.out.stay hb5)
      have V5 := Lib.hid (V4.out.stay hb5)
      have X5 := Lib.hid (X4.out.stay hb5)
      have Y5 := Lib.hid (Y4.out.stay hb5)
      have B5 := Lib.hid (Below.step B4.out hb5)
      have J5 := Lib.hid hl5
      clear hl5 hb5 P4 Q4 U4 V4 X4 Y4 B4 J4
      go_wp2_with fail
      ((with_reducible refine (all_l J5.out).mono ?_); rintro e w6 ⟨A6, c6, rfl, -, hr6, -, hb6⟩)
      have P6 := Lib.hid (P5.out.stay hb6)
      have Q6 := Lib.hid (Q5.out.stay hb6)
      have U6 := Lib.hid (U5.out.stay hb6)
      have V6 := Lib.hid (V5.out.stay hb6)
      have X6 := Lib.hid (X5.out.stay hb6)
      have Y6 := Lib.hid (Y5.out.stay hb6)
      have B6 := Lib.hid (Below.step B5.out hb6)
      have K6 := Lib.hid hr6
      have N5 := Lib.hid J5.out.len
      clear hr6 hb6 P5 Q5 U5 V5 X5 Y5 B5 J5
      go_wp2_with fail
      have PD := Lib.hid P6.out.drew
      have QD := Lib.hid Q6.out.drew
      have UD := Lib.hid U6.out.drew
      have VD := Lib.hid V6.out.drew
      have c0 := U6.out.c0
      have c1 := U6.out.c1
      have c2 := V6.out.c0
      have c3 := V6.out.c1
      go_region_held3 (fun w' => w'.cell? ⟨bx, 0, none⟩ = some (.pointer p2) ∧ w'.cell? ⟨bx, 1, none⟩ = some (.int .i64 n2) ∧ w'.cell? ⟨by1, 0, none⟩ = some (.pointer p3) ∧ w'.cell? ⟨by1, 1, none⟩ = some (.int .i64 n3)) (go_keep)
        (first | (go_at_call 24; ((with_reducible refine (rev_l QD.out).mono ?_); rintro e w7 ⟨p7, n7, rfl, hl7, hb7⟩; clear QD; have J7 := Lib.hid hl7; have B7 := Lib.hid hb7; have d0 := (UD.out.stay hb7).c0; have d1 := (UD.out.stay hb7).c1; have d2 := (VD.out.stay hb7).c0; have d3 := (VD.out.stay hb7).c1; clear hl7 hb7)) | (go_at_call 24; ((with_reducible refine (rev_l (PD.out.stay B7.out)).mono ?_); rintro e w8 ⟨p8, n8, rfl, hl8, hb8⟩; have J8 := Lib.hid hl8; have I8 := Lib.hid (J7.out.stay hb8); have B8 := Lib.hid (Below.step B7.out hb8); have e0 := (UD.out.stay (Below.step B7.out hb8)).c0; have e1 := (UD.out.stay (Below.step B7.out hb8)).c1; have e2 := (VD.out.stay (Below.step B7.out hb8)).c0; have e3 := (VD.out.stay (Below.step B7.out hb8)).c1; clear hl8 hb8)) | (go_at_call 23; ((with_reducible refine (join_l I8.out J8.out (by have := I8.out.len; have := J8.out.len; have := P6.out.len; have := Q6.out.len; have := N2.out; have := N3.out; simp at *; omega)).mono ?_); rintro e w9 ⟨p9, n9, rfl, hl9, hb9⟩; have J9 := Lib.hid hl9; have B9 := Lib.hid (Below.step B8.out hb9); have f0 := (UD.out.stay (Below.step B8.out hb9)).c0; have f1 := (UD.out.stay (Below.step B8.out hb9)).c1; have f2 := (VD.out.stay (Below.step B8.out hb9)).c0; have f3 := (VD.out.stay (Below.step B8.out hb9)).c1; clear hl9 hb9)) | (go_at_call 25; ((with_reducible refine (all_l J9.out).mono ?_); rintro e w10 ⟨A10, c10, rfl, -, hr10, -, hb10⟩; have K10 := Lib.hid hr10; have B10 := Lib.hid (Below.step B9.out hb10); have g0 := (UD.out.stay (Below.step B9.out hb10)).c0; have g1 := (UD.out.stay (Below.step B9.out hb10)).c1; have g2 := (VD.out.stay (Below.step B9.out hb10)).c0; have g3 := (VD.out.stay (Below.step B9.out hb10)).c1; clear hr10 hb10)))
      have hbw := Below.step (below_drawn w6) B10.out
      have P11 := Lib.hid (P6.out.stay hbw)
      have Q11 := Lib.hid (Q6.out.stay hbw)
      have U11 := Lib.hid (U6.out.stay hbw)
      have V11 := Lib.hid (V6.out.stay hbw)
      have X11 := Lib.hid (X6.out.stay hbw)
      have Y11 := Lib.hid (Y6.out.stay hbw)
      have K11 := Lib.hid (K6.out.stay hbw)
      have L11 := Lib.hid (show Row1 one w10 A10 (xs ++ ys).reverse from by rw [List.reverse_append]; exact K10.out)
      have N9 := Lib.hid (show n9 = n5 from by have := J9.out.len; have := N5.out; simp at *; omega)
      have B11 := Lib.hid (Below.step B6.out hbw)
      clear hbw P6 Q6 U6 V6 X6 Y6 K6 K10 B6 B7 B8 B9 B10 J7 J8 I8 J9 PD UD VD c0 c1 c2 c3 d0 d1 d2 d3 e0 e1 e2 e3 f0 f1 f2 f3
      rw [N9.out]
      clear N9
      generalize w10 = w11 at *
      have c0 := U11.out.c0
      have c1 := U11.out.c1
      go_wp2_with fail
      ((with_reducible refine (rev_l P11.out).mono ?_); rintro e w12 ⟨p12, n12, rfl, hl12, hb12⟩)
      have J12 := Lib.hid hl12
      have B12 := Lib.hid hb12
      clear hl12 hb12 c0 c1 g0 g1 g2 g3
      go_wp2_with fail
      ((with_reducible refine (rev_l J12.out).mono ?_); rintro e w13 ⟨p13, n13, rfl, hl13, hb13⟩)
      rw [List.reverse_reverse] at hl13
      have J13 := Lib.hid hl13
      have B13 := Lib.hid (Below.step B12.out hb13)
      clear hl13 hb13 B12 J12
      go_wp2_with fail
      ((with_reducible refine (all_l J13.out).mono ?_); rintro e w14 ⟨A14, c14, rfl, -, hr14, -, hb14⟩)
      have hbw := Below.step B13.out hb14
      have P14 := Lib.hid (P11.out.stay hbw)
      have Q14 := Lib.hid (Q11.out.stay hbw)
      have U14 := Lib.hid (U11.out.stay hbw)
      have V14 := Lib.hid (V11.out.stay hbw)
      have X14 := Lib.hid (X11.out.stay hbw)
      have Y14 := Lib.hid (Y11.out.stay hbw)
      have K14 := Lib.hid (K11.out.stay hbw)
      have L14 := Lib.hid (L11.out.stay hbw)
      have Z14 := Lib.hid hr14
      have B14 := Lib.hid (Below.step B11.out hbw)
      have N13 := Lib.hid (show n13 = n from by have := J13.out.len; have := HN.out; omega)
      have N52 := Lib.hid (show n5 = n + m from by have := N5.out; have := HN.out; have := HM.out; simp at *; omega)
      clear hbw hr14 hb14 J13 B13 B11 P11 Q11 U11 V11 X11 Y11 K11 L11
      rw [N13.out, N52.out]
      have g3 : ((n + m : Nat) : Int) = (n : Int) + (m : Int) := by omega
      go_wp2_with fail
      clear g1 g2 g3
      obtain ⟨t, ht⟩ : ∃ t, t = n + m := ⟨_, rfl⟩
      rw [← ht]
      have HT := Lib.hid (show t = (xs ++ ys).reverse.length from by have := HN.out; have := HM.out; simp; omega)
      have ht2 : t ≤ 120 := by omega
      have HZ := Lib.hid ht
      clear ht N5 N13 N52
      go_loopw [13] (fun v wr => SameRel w14 t v wr) (fun v _ => t - (intOf v).toNat)
      case atStart => exact ⟨0, rfl, Nat.zero_le _, Below.refl _ _⟩
      case round =>
        obtain ⟨k, rfl, hk, hw⟩ := hrel
        by_cases hlt : k < t
        · obtain ⟨b, o, rfl, hc⟩ := K14.out (by have := HT.out; omega)
          obtain ⟨b', o', rfl, hc'⟩ := L14.out (by have := HT.out; omega)
          have hx := hc k (by have := HT.out; omega)
          have hy := hc' k (by have := HT.out; omega)
          rw [← hw.cell (p := ⟨b, o + k, none⟩) (lt_of_cell hx)] at hx
          rw [← hw.cell (p := ⟨b', o' + k, none⟩) (lt_of_cell hy)] at hy
          clear hc hc'
          have HW := Lib.hid hw
          by_cases hkm : k < m
          · obtain ⟨b2, o2, rfl, hc2⟩ := Y14.out (by have := HM.out; omega)
            obtain ⟨j, hj⟩ : ∃ j, j = m - 1 - k := ⟨_, rfl⟩
            have hq := hc2 j (by have := HM.out; omega)
            rw [← hw.cell (p := ⟨b2, o2 + j, none⟩) (lt_of_cell hq)] at hq
            have e : (xs ++ ys).reverse[k]'(by have := HT.out; omega) = ys[j]'(by have := HM.out; omega) := by
              have := HM.out
              simp only [List.reverse_append]
              rw [List.getElem_append_left (by simp; omega), List.getElem_reverse]
              congr 1
              omega
            rw [e] at hx hy
            clear hc2 hw e
            generalize ys[j]'(by have := HM.out; omega) = x at hx hy hq
            have g1 : decide ((k : Int) < (m : Int)) = true := by simpa using hkm
            have s2 : IntKind.i64.wrap ((m : Int) - 1 - (k : Int)) = (j : Int) := by rw [IntWalk.i64_in _ (by omega)]; omega
            have s1 : IntKind.i64.wrap ((m : Int) - 1) = (m : Int) - 1 := IntWalk.i64_in _ (by omega)
            have j0 : (0 : Int) ≤ (j : Int) := by omega
            have j1 : (j : Int) < (m : Int) := by omega
            have j2 : j < m := by omega
            clear hj
            go_wp2_with fail
            go_quiet (fail)
            try clear s1 s2 j0 j1 j2
            clear hx hy
            go_wp2_with fail
            exact ⟨⟨k + 1, by simp, hlt, Below.step HW.out (below_drewN wr nq)⟩, by simp [intOf]; omega⟩
          · have g1 : decide ((k : Int) < (m : Int)) = false := by simpa using hkm
            clear hw
            generalize (xs ++ ys).reverse[k]'(by have := HT.out; omega) = x at hx hy
            go_wp2_with fail
            go_quiet (fail)
            try clear s1 s2 j0 j1 j2
            clear hx hy
            go_wp2_with fail
            exact ⟨⟨k + 1, by simp, hlt, Below.step HW.out (below_drewN wr nq)⟩, by simp [intOf]; omega⟩
        · obtain rfl : k = t := by omega
          have P15 := Lib.hid (P14.out.stay hw)
          have Q15 := Lib.hid (Q14.out.stay hw)
          have U15 := Lib.hid (U14.out.stay hw)
          have V15 := Lib.hid (V14.out.stay hw)
          have X15 := Lib.hid (X14.out.stay hw)
          have Z15 := Lib.hid (Z14.out.stay hw)
          have B15 := Lib.hid (Below.step B14.out hw)
          clear hw P14 Q14 U14 V14 X14 Z14 B14 K14 L14 Y14
          generalize wr = w15 at *
          go_wp2_with fail
          go_loopw [14] (fun v wr => SameRel w15 n v wr) (fun v _ => n - (intOf v).toNat)
          case atStart => exact ⟨0, rfl, Nat.zero_le _, Below.refl _ _⟩
          case round =>
            obtain ⟨i, rfl, hi, hv⟩ := hrel
            by_cases hil : i < n
            · obtain ⟨b, o, rfl, hc⟩ := X15.out (by have := HN.out; omega)
              obtain ⟨b', o', rfl, hc'⟩ := Z15.out (by have := HN.out; omega)
              have hx := hc i (by have := HN.out; omega)
              have hy := hc' i (by have := HN.out; omega)
              rw [← hv.cell (p := ⟨b, o + i, none⟩) (lt_of_cell hx)] at hx
              rw [← hv.cell (p := ⟨b', o' + i, none⟩) (lt_of_cell hy)] at hy
              clear hc hc'
              generalize xs[i]'(by have := HN.out; omega) = x at hx hy
              have HV := Lib.hid hv
              clear hv
              go_wp2_with fail
              go_quiet (fail)
              clear hx hy
              go_wp2_with fail
              exact ⟨⟨i + 1, by simp, hil, Below.step HV.out (below_drewN wr nq)⟩, by simp [intOf]; omega⟩
            · obtain rfl : i = n := by omega
              have P16 := Lib.hid (P15.out.stay hv)
              have Q16 := Lib.hid (Q15.out.stay hv)
              have U16 := Lib.hid (U15.out.stay hv)
              have V16 := Lib.hid (V15.out.stay hv)
              have B16 := Lib.hid (Below.step B15.out hv)
              clear hv P15 Q15 U15 V15 X15 Z15 B15
              generalize wr = w16 at *
              have c0 := U16.out.c0
              have c1 := U16.out.c1
              go_wp2_with fail
              ((with_reducible refine (drop_l (i : Int) P16.out (by omega) (by omega)).mono ?_); rintro e w17 ⟨p17, n17, rfl, hl17, hb17⟩)
              have N17 := Lib.hid (show (n17 : Int) = 0 from by have := hl17.len; have := HN.out; simp at *; omega)
              have P17 := Lib.hid (P16.out.stay hb17)
              have Q17 := Lib.hid (Q16.out.stay hb17)
              have U17 := Lib.hid (U16.out.stay hb17)
              have V17 := Lib.hid (V16.out.stay hb17)
              have B17 := Lib.hid (Below.step B16.out hb17)
              clear c0 c1 hl17 hb17 P16 Q16 U16 V16 B16
              go_wp2_with fail
              ((with_reducible refine len_l.mono ?_); rintro e w18 ⟨rfl, hb18⟩)
              have P18 := Lib.hid (P17.out.stay hb18)
              have Q18 := Lib.hid (Q17.out.stay hb18)
              have U18 := Lib.hid (U17.out.stay hb18)
              have V18 := Lib.hid (V17.out.stay hb18)
              have B18 := Lib.hid (Below.step B17.out hb18)
              clear hb18 P17 Q17 U17 V17 B17
              rw [N17.out]
              have c0 := U18.out.c0
              have c1 := U18.out.c1
              have c2 := V18.out.c0
              have c3 := V18.out.c1
              go_wp2_with fail
              ((with_reducible refine (join_l P18.out Q18.out (by have := N2.out; have := N3.out; omega)).mono ?_); rintro e w19 ⟨p19, n19, rfl, hl19, hb19⟩)
              have P19 := Lib.hid (P18.out.stay hb19)
              have U19 := Lib.hid (U18.out.stay hb19)
              have B19 := Lib.hid (Below.step B18.out hb19)
              have J19 := Lib.hid hl19
              clear c0 c1 c2 c3 hl19 hb19 P18 Q18 U18 V18 B18
              go_wp2_with fail
              ((with_reducible refine (drop_l (i : Int) J19.out (by omega) (by omega)).mono ?_); rintro e w20 ⟨p20, n20, rfl, hl20, hb20⟩)
              have N20 := Lib.hid (show (n20 : Int) = (m : Int) from by have := hl20.len; have := HN.out; have := HM.out; simp at *; omega)
              have P20 := Lib.hid (P19.out.stay hb20)
              have U20 := Lib.hid (U19.out.stay hb20)
              have B20 := Lib.hid (Below.step B19.out hb20)
              clear hl20 hb20 P19 U19 B19 J19
              go_wp2_with fail
              ((with_reducible refine len_l.mono ?_); rintro e w21 ⟨rfl, hb21⟩)
              have P21 := Lib.hid (P20.out.stay hb21)
              have U21 := Lib.hid (U20.out.stay hb21)
              have B21 := Lib.hid (Below.step B20.out hb21)
              clear hb21 P20 U20 B20
              rw [N20.out]
              have c0 := U21.out.c0
              have c1 := U21.out.c1
              go_wp2_with fail
              ((with_reducible refine (drop_l z P21.out (by omega) (by omega)).mono ?_); rintro e w22 ⟨p22, n22, rfl, hl22, hb22⟩)
              have N22 := Lib.hid (show n22 = i - z.toNat from by have := hl22.len; have := HN.out; simp at *; omega)
              have B22 := Lib.hid (Below.step B21.out hb22)
              clear c0 c1 hl22 hb22 P21 U21 B21
              go_wp2_with fail
              ((with_reducible refine len_l.mono ?_); rintro e w23 ⟨rfl, hb23⟩)
              have B23 := Lib.hid (Below.step B22.out hb23)
              clear hb23 B22
              clear HT HZ N2 N3 ht2 hk hlt hi hil
              by_cases hzn : z < 0
              · have N23 := Lib.hid (show (n22 : Int) = (i : Int) from by have := N22.out; omega)
                clear N22
                rw [N23.out]
                go_wp2
                all_goals go_ret
                all_goals exact ⟨by simp, B23.out⟩
              · by_cases hzi : (i : Int) < z
                · have N23 := Lib.hid (show (n22 : Int) = 0 from by have := N22.out; omega)
                  clear N22
                  rw [N23.out]
                  go_wp2
                  all_goals go_ret
                  all_goals exact ⟨by simp, B23.out⟩
                · have N23 := Lib.hid (show (n22 : Int) = (i : Int) - z from by have := N22.out; omega)
                  clear N22
                  rw [N23.out]
                  go_wp2
                  all_goals go_ret
                  all_goals exact ⟨by simp, B23.out⟩

end Go.Proofs.Ytanhlnhdmkfbfaa.Str
