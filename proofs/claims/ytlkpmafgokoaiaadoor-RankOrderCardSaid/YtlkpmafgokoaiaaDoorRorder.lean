/-
  The walk of the statement RankOrder: for any three elements it returns true, and nothing that was there has changed, in any world where the library's table is as it is laid.
-/
import Derived.Test.YtlkpmafgokoaiaaDoorTrN
namespace Go.Proofs.YtlkpmafgokoaiaaDoor
open Go.Sort Go.RowKit

theorem pair_right (l o : Int × Int) (h : ltE o l = false) : oright (some ⟨l, [], .cons o [] .nil .nil⟩) = true := by
  simp [oright, Tre.right, besideOk, Wood.right, Wood.len, h]
theorem trio_right (r d o : Int × Int) (h1 : ltE d r = false) (h2 : ltE o r = false) : oright (some ⟨r, [d], .cons o [] .nil .nil⟩) = true := by
  simp [oright, Tre.right, besideOk, Wood.right, Wood.len, h1, h2]
theorem below3 (w : World) (o1 o2 o3 : Obj) : Below w.heap.size w (((w.alloc o1).alloc o2).alloc o3) := (((Below.refl w.heap.size w).alloc (Nat.le_refl _) _).alloc (by simp) _).alloc (by simp; omega) _

set_option maxRecDepth 100000 in
set_option maxHeartbeats 4000000 in
theorem order_tt (x1 x2 y1 y2 z1 z2 : Int) (hv1 : ltE (y1, y2) (x1, x2) = true) (hv2 : ltE (y1, y2) (z1, z2) = true) (w : World) (he : Env w) :
    Calls Tryd.prog 7 #[el (x1, x2), el (y1, y2), el (z1, z2)] w fun e w' => e = .returned (.bool true) ∧ Below w.heap.size w w' := by
  have ho : ltE (x1, x2) (y1, y2) = false := by rw [ltE_not]; rw [ltE_iff] at hv1; simp only at *; omega
  have hT : olnk (some (leafT (x1, x2))) (some (leafT (y1, y2))) = some ⟨(y1, y2), [], .cons (x1, x2) [] .nil .nil⟩ := by
    show some (lnk (leafT (x1, x2)) (leafT (y1, y2))) = _
    rw [lnk_lt (show ltE (y1, y2) (x1, x2) = true from hv1)]
    rfl
  have hS : oskw (z1, z2) (some (leafT (x1, x2))) (some (leafT (y1, y2))) = some ⟨(y1, y2), [(z1, z2)], .cons (x1, x2) [] .nil .nil⟩ := by
    unfold oskw
    rw [hT]
    show some (skw (z1, z2) ⟨(y1, y2), [], .cons (x1, x2) [] .nil .nil⟩) = _
    rw [skw_lt (show ltE (y1, y2) (z1, z2) = true from hv2)]
  have hRT := pair_right (y1, y2) (x1, x2) ho
  have hRS := trio_right (y1, y2) (z1, z2) (x1, x2) (by rw [ltE_not]; rw [ltE_iff] at hv2; simp only at *; omega) (by exact ho)
  have HE := Lib.hid (fun W (hb : Below w.heap.size w W) => he.below hb)
  have HP := Lib.hid (And.intro hT (And.intro hS (And.intro hRT (And.intro hRS (And.intro hv1 hv2)))))
  clear he ho hT hS hRT hRS hv1 hv2
  go_enter Tryd.func7, Tryd.ntmps7
  go_wp2_with fail
  ((with_reducible refine (awake_any _ (HE.out _ (below3 _ _ _ _))).mono ?_); rintro e w1 ⟨rfl, hb1⟩)
  obtain ⟨px, py, pz, hw1⟩ := trio hb1
  have P1 := Lib.hid (And.intro px (And.intro py (And.intro pz hw1)))
  clear hb1 px py pz hw1
  have a0 := P1.out.1.c0
  have a1 := P1.out.1.c1
  have b0 := P1.out.2.1.c0
  have b1 := P1.out.2.1.c1
  have c0 := P1.out.2.2.1.c0
  have c1 := P1.out.2.2.1.c1
  go_wp2_with fail
  go_region_held3 (fun w' => w'.cell? ⟨w.heap.size, 0, none⟩ = some (.int .i64 x1) ∧ w'.cell? ⟨w.heap.size, 1, none⟩ = some (.int .i64 x2) ∧ w'.cell? ⟨w.heap.size + 1, 0, none⟩ = some (.int .i64 y1) ∧ w'.cell? ⟨w.heap.size + 1, 1, none⟩ = some (.int .i64 y2)) (go_keep)
    (first | (go_at_call 12; ((with_reducible refine (linkN p2 p3 (some (leafT (x1, x2))) (some (leafT (y1, y2))) _ T3.out.1 T3.out.2.1 (leaf_lt28 _) (leaf_lt28 _)).mono ?_); rintro e w4 ⟨p4, rfl, ht4, hb4⟩; have T4 := Lib.hid (And.intro ht4 (T3.out.2.2.trans (hb4.mono T3.out.2.2.size))); have f0 := (P1.out.1.below T4.out.2 P1.out.1.lt).c0; have f1 := (P1.out.1.below T4.out.2 P1.out.1.lt).c1; have f2 := (P1.out.2.1.below T4.out.2 P1.out.2.1.lt).c0; have f3 := (P1.out.2.1.below T4.out.2 P1.out.2.1.lt).c1; clear ht4 hb4)) | (go_at_call 11; ((with_reducible refine (leafN (x1, x2) _).mono ?_); rintro e w2 ⟨p2, rfl, ht2, hb2⟩; have T2 := Lib.hid (And.intro ht2 ((Below.refl w1.heap.size w1).drew.trans hb2)); have d0 := (P1.out.1.below T2.out.2 P1.out.1.lt).c0; have d1 := (P1.out.1.below T2.out.2 P1.out.1.lt).c1; have d2 := (P1.out.2.1.below T2.out.2 P1.out.2.1.lt).c0; have d3 := (P1.out.2.1.below T2.out.2 P1.out.2.1.lt).c1; clear ht2 hb2)) | (go_at_call 11; ((with_reducible refine (leafN (y1, y2) _).mono ?_); rintro e w3 ⟨p3, rfl, ht3, hb3⟩; have T3 := Lib.hid (And.intro (T2.out.1.stay hb3) (And.intro ht3 (T2.out.2.trans (hb3.mono T2.out.2.size)))); have e0 := (P1.out.1.below T3.out.2.2 P1.out.1.lt).c0; have e1 := (P1.out.1.below T3.out.2.2 P1.out.1.lt).c1; have e2 := (P1.out.2.1.below T3.out.2.2 P1.out.2.1.lt).c0; have e3 := (P1.out.2.1.below T3.out.2.2 P1.out.2.1.lt).c1; clear ht3 hb3)))
  clear a0 a1 b0 b1 c0 c1 d0 d1 d2 d3 e0 e1 e2 e3 f0 f1 f2 f3 T2 T3
  have Q4 := Lib.hid (show TAt w4 p4 (some ⟨(y1, y2), [], .cons (x1, x2) [] .nil .nil⟩) from HP.out.1 ▸ T4.out.1)
  have P4 := Lib.hid (And.intro (P1.out.1.below T4.out.2 P1.out.1.lt) (And.intro (P1.out.2.1.below T4.out.2 P1.out.2.1.lt) (And.intro (P1.out.2.2.1.below T4.out.2 P1.out.2.2.1.lt) (P1.out.2.2.2.trans (T4.out.2.mono P1.out.2.2.2.size)))))
  clear T4 P1
  have a0 := P4.out.1.c0
  have a1 := P4.out.1.c1
  have b0 := P4.out.2.1.c0
  have b1 := P4.out.2.1.c1
  have c0 := P4.out.2.2.1.c0
  have c1 := P4.out.2.2.1.c1
  go_wp2_with fail
  go_region_held3 (fun w' => w'.cell? ⟨w.heap.size, 0, none⟩ = some (.int .i64 x1) ∧ w'.cell? ⟨w.heap.size, 1, none⟩ = some (.int .i64 x2) ∧ w'.cell? ⟨w.heap.size + 1, 0, none⟩ = some (.int .i64 y1) ∧ w'.cell? ⟨w.heap.size + 1, 1, none⟩ = some (.int .i64 y2) ∧ w'.cell? ⟨w.heap.size + 1 + 1, 0, none⟩ = some (.int .i64 z1) ∧ w'.cell? ⟨w.heap.size + 1 + 1, 1, none⟩ = some (.int .i64 z2)) (go_keep)
    (first | (go_at_call 14; ((with_reducible refine (skewN (z1, z2) p5 p6 (some (leafT (x1, x2))) (some (leafT (y1, y2))) _ T6.out.1 T6.out.2.1 (leaf_lt28 _) (leaf_lt28 _)).mono ?_); rintro e w7 ⟨p7, rfl, ht7, hb7⟩; have T7 := Lib.hid (And.intro ht7 (T6.out.2.2.trans (hb7.mono T6.out.2.2.size))); have f0 := (P4.out.1.below T7.out.2 P4.out.1.lt).c0; have f1 := (P4.out.1.below T7.out.2 P4.out.1.lt).c1; have f2 := (P4.out.2.1.below T7.out.2 P4.out.2.1.lt).c0; have f3 := (P4.out.2.1.below T7.out.2 P4.out.2.1.lt).c1; have f4 := (P4.out.2.2.1.below T7.out.2 P4.out.2.2.1.lt).c0; have f5 := (P4.out.2.2.1.below T7.out.2 P4.out.2.2.1.lt).c1; clear ht7 hb7)) | (go_at_call 11; ((with_reducible refine (leafN (x1, x2) _).mono ?_); rintro e w5 ⟨p5, rfl, ht5, hb5⟩; have T5 := Lib.hid (And.intro ht5 ((Below.refl w4.heap.size w4).drew.trans hb5)); have d0 := (P4.out.1.below T5.out.2 P4.out.1.lt).c0; have d1 := (P4.out.1.below T5.out.2 P4.out.1.lt).c1; have d2 := (P4.out.2.1.below T5.out.2 P4.out.2.1.lt).c0; have d3 := (P4.out.2.1.below T5.out.2 P4.out.2.1.lt).c1; have d4 := (P4.out.2.2.1.below T5.out.2 P4.out.2.2.1.lt).c0; have d5 := (P4.out.2.2.1.below T5.out.2 P4.out.2.2.1.lt).c1; clear ht5 hb5)) | (go_at_call 11; ((with_reducible refine (leafN (y1, y2) _).mono ?_); rintro e w6 ⟨p6, rfl, ht6, hb6⟩; have T6 := Lib.hid (And.intro (T5.out.1.stay hb6) (And.intro ht6 (T5.out.2.trans (hb6.mono T5.out.2.size)))); have e0 := (P4.out.1.below T6.out.2.2 P4.out.1.lt).c0; have e1 := (P4.out.1.below T6.out.2.2 P4.out.1.lt).c1; have e2 := (P4.out.2.1.below T6.out.2.2 P4.out.2.1.lt).c0; have e3 := (P4.out.2.1.below T6.out.2.2 P4.out.2.1.lt).c1; have e4 := (P4.out.2.2.1.below T6.out.2.2 P4.out.2.2.1.lt).c0; have e5 := (P4.out.2.2.1.below T6.out.2.2 P4.out.2.2.1.lt).c1; clear ht6 hb6)))
  clear a0 a1 b0 b1 c0 c1 d0 d1 d2 d3 d4 d5 e0 e1 e2 e3 e4 e5 f0 f1 f2 f3 f4 f5 T5 T6
  have Q7 := Lib.hid (And.intro (Q4.out.stay T7.out.2) (show TAt w7 p7 (some ⟨(y1, y2), [(z1, z2)], .cons (x1, x2) [] .nil .nil⟩) from HP.out.2.1 ▸ T7.out.1))
  have P7 := Lib.hid (And.intro (P4.out.1.below T7.out.2 P4.out.1.lt) (And.intro (P4.out.2.1.below T7.out.2 P4.out.2.1.lt) (And.intro (P4.out.2.2.1.below T7.out.2 P4.out.2.2.1.lt) (P4.out.2.2.2.trans (T7.out.2.mono P4.out.2.2.2.size)))))
  clear T7 P4 Q4
  have a0 := P7.out.1.c0
  have a1 := P7.out.1.c1
  have b0 := P7.out.2.1.c0
  have b1 := P7.out.2.1.c1
  go_wp2_with fail
  ((with_reducible refine (refLessE (y1, y2) (x1, x2) _).mono ?_); rintro e w8 ⟨rfl, hb8⟩)
  rw [HP.out.2.2.2.2.1]
  have Q8 := Lib.hid (And.intro (Q7.out.1.stay hb8) (Q7.out.2.stay hb8))
  have P8 := Lib.hid (And.intro (P7.out.1.below hb8 P7.out.1.lt) (And.intro (P7.out.2.1.below hb8 P7.out.2.1.lt) (And.intro (P7.out.2.2.1.below hb8 P7.out.2.2.1.lt) (P7.out.2.2.2.trans (hb8.mono P7.out.2.2.2.size)))))
  clear a0 a1 b0 b1 hb8 Q7 P7
  have a0 := P8.out.1.c0
  have a1 := P8.out.1.c1
  have b0 := cell_old P8.out.2.1.c0
  have b1 := cell_old P8.out.2.1.c1
  go_wp2_with fail
  clear a0 a1 b0 b1
  have hB9 : Below w8.heap.size w8 (w8.alloc (.cells #[.int .i64 y1, .int .i64 y2] 28)) := (Below.refl _ _).alloc (Nat.le_refl _) _
  have hPL := PairAt.new w8 y1 y2 28
  generalize w8.alloc (.cells #[.int .i64 y1, .int .i64 y2] 28) = w9 at *
  have HR := Lib.hid (fun W (hb : Below w9.heap.size w9 W) => And.intro ((Q8.out.1.stay hB9).stay hb) (And.intro ((Q8.out.2.stay hB9).stay hb) (And.intro ((P8.out.2.2.1.below hB9 P8.out.2.2.1.lt).below hb (Nat.lt_of_lt_of_le P8.out.2.2.1.lt hB9.size)) (And.intro (hPL.below hb hPL.lt) ((P8.out.2.2.2.trans (hB9.mono P8.out.2.2.2.size)).trans (hb.mono (Nat.le_trans P8.out.2.2.2.size hB9.size)))))))
  have B9 := Lib.hid (Below.refl w9.heap.size w9)
  clear hB9 hPL Q8 P8
  ((with_reducible refine (root_any p4 _ _ (HR.out _ B9.out).1).mono ?_); rintro e w10 ⟨rfl, hb10⟩)
  rw [show rootV (some ⟨(y1, y2), [], .cons (x1, x2) [] .nil .nil⟩) = .tuple #[.agg #[.int .i64 y1, .int .i64 y2], .bool true] from rfl]
  have B10 := Lib.hid hb10
  clear hb10
  go_wp2_with fail
  have PA11 := PairAt.new w10 y1 y2 28
  have B11 := Lib.hid (B10.out.trans (((Below.refl w10.heap.size w10).alloc (Nat.le_refl _) (.cells #[.int .i64 y1, .int .i64 y2] 28)).mono B10.out.size))
  generalize w10.alloc (.cells #[.int .i64 y1, .int .i64 y2] 28) = w11 at *
  ((with_reducible refine (root_any p7 _ _ (HR.out _ B11.out).2.1).mono ?_); rintro e w12 ⟨rfl, hb12⟩)
  rw [show rootV (some ⟨(y1, y2), [(z1, z2)], .cons (x1, x2) [] .nil .nil⟩) = .tuple #[.agg #[.int .i64 y1, .int .i64 y2], .bool true] from rfl]
  have PA12 := PA11.below hb12 PA11.lt
  have B12 := Lib.hid (B11.out.trans (hb12.mono B11.out.size))
  clear hb12 PA11 B11
  have a0 := cell_old (HR.out _ B12.out).2.2.2.1.c0
  have a1 := cell_old (HR.out _ B12.out).2.2.2.1.c1
  have b0 := cell_old (HR.out _ B12.out).2.2.1.c0
  have b1 := cell_old (HR.out _ B12.out).2.2.1.c1
  go_wp2_with fail
  clear a0 a1 b0 b1
  have PB13 := PairAt.new w12 y1 y2 28
  have hb13 : Below w12.heap.size w12 (w12.alloc (.cells #[.int .i64 y1, .int .i64 y2] 28)) := (Below.refl w12.heap.size w12).alloc (Nat.le_refl _) _
  generalize w12.alloc (.cells #[.int .i64 y1, .int .i64 y2] 28) = w13 at *
  have PA13 := PA12.below hb13 PA12.lt
  have B13 := Lib.hid (B12.out.trans (hb13.mono B12.out.size))
  clear hb13 PA12 B12
  ((with_reducible refine (refLessE (y1, y2) (z1, z2) _).mono ?_); rintro e w14 ⟨rfl, hb14⟩)
  rw [HP.out.2.2.2.2.2]
  have PA14 := PA13.below hb14 PA13.lt
  have PB14 := PB13.below hb14 PB13.lt
  have B14 := Lib.hid (B13.out.trans (hb14.mono B13.out.size))
  clear hb14 PA13 PB13 B13
  go_wp2_with fail
  ((with_reducible refine (beside_any p7 _ _ (HR.out _ B14.out).2.1 (by simp [osize, Tre.size, Wood.size])).mono ?_); rintro e w15 ⟨v15, rfl, hown15, hb15⟩)
  obtain ⟨A15, k15, rfl, hr15, hk15, -⟩ := hown15.form
  simp only [obeside, List.length_cons, List.length_nil, Nat.zero_add] at hr15 hk15
  obtain ⟨sb, so, rfl, hc15⟩ := hr15 (by simp)
  have hc := row_at hc15 0 (by simp)
  simp only [List.getElem_cons_zero, Nat.zero_mul, Nat.add_zero] at hc
  rw [show (obeside (some ⟨(y1, y2), [(z1, z2)], .cons (x1, x2) [] .nil .nil⟩)).length = 1 from rfl]
  have PA15 := PA14.below hb15 PA14.lt
  have PB15 := PB14.below hb15 PB14.lt
  have B15 := Lib.hid (B14.out.trans (hb15.mono B14.out.size))
  clear hb15 PA14 PB14 B14 hown15 hr15 hc15
  have a0 := (HR.out _ B15.out).2.2.2.1.c0
  have a1 := (HR.out _ B15.out).2.2.2.1.c1
  have b0 := PA15.c0
  have b1 := PA15.c1
  go_wp2_with fail
  ((with_reducible refine (right_any p4 _ _ (HR.out _ B15.out).1 (by simp [osize, Tre.size, Wood.size])).mono ?_); rintro e w16 ⟨rfl, hb16⟩)
  rw [HP.out.2.2.1]
  have B16 := Lib.hid (B15.out.trans (hb16.mono B15.out.size))
  have PB16 := PB15.below hb16 PB15.lt
  have hc16 := And.intro ((hb16.cell (block_lt_of_cell hc.1)).trans hc.1) ((hb16.cell (block_lt_of_cell hc.2)).trans hc.2)
  clear hb16 PA15 PB15 B15 hc a0 a1 b0 b1
  go_wp2_with fail
  ((with_reducible refine (right_any p7 _ _ (HR.out _ B16.out).2.1 (by simp [osize, Tre.size, Wood.size])).mono ?_); rintro e w17 ⟨rfl, hb17⟩)
  rw [HP.out.2.2.2.1]
  have B17 := Lib.hid (B16.out.trans (hb17.mono B16.out.size))
  have PB17 := PB16.below hb17 PB16.lt
  have hc17 := And.intro ((hb17.cell (block_lt_of_cell hc16.1)).trans hc16.1) ((hb17.cell (block_lt_of_cell hc16.2)).trans hc16.2)
  clear hb17 PB16 B16 hc16
  go_wp2_with fail
  have hw := Lib.hid (HR.out _ B17.out).2.2.2.2
  have k0 := fun d os => cell_regrown (HR.out _ B17.out).2.2.2.1.c0 d os
  have k1 := fun d os => cell_regrown (HR.out _ B17.out).2.2.2.1.c1 d os
  have k2 := fun d os => cell_regrown (HR.out _ B17.out).2.2.1.c0 d os
  have k3 := fun d os => cell_regrown (HR.out _ B17.out).2.2.1.c1 d os
  have k4 := fun d os => cell_regrown PB17.c0 d os
  have k5 := fun d os => cell_regrown PB17.c1 d os
  have k6 := fun d os => cell_regrown hc17.1 d os
  have k7 := fun d os => cell_regrown hc17.2 d os
  clear PB17 hc17 HR B17
  rw [world_self w17]
  generalize w17.drawn = d0
  generalize (#[] : Array Obj) = os0
  refine wp_region_class (by kernel_rfl) (by kernel_rfl) ?_
  repeat (go_big_quiet_step (fail))
  refine wpQuiet_nil ?_
  intro _ hw'
  obtain ⟨⟨dq, osq⟩, hw''⟩ := hw'
  subst hw''
  clear k0 k1 k2 k3 k4 k5 k6 k7
  go_wp2
  go_ret
  exact ⟨rfl, hw.out.trans ((below_regrown w17 _ _).mono hw.out.size)⟩

set_option maxRecDepth 100000 in
set_option maxHeartbeats 4000000 in
theorem order_tf (x1 x2 y1 y2 z1 z2 : Int) (hv1 : ltE (y1, y2) (x1, x2) = true) (hv2 : ltE (y1, y2) (z1, z2) = false) (w : World) (he : Env w) :
    Calls Tryd.prog 7 #[el (x1, x2), el (y1, y2), el (z1, z2)] w fun e w' => e = .returned (.bool true) ∧ Below w.heap.size w w' := by
  have ho : ltE (x1, x2) (y1, y2) = false := by rw [ltE_not]; rw [ltE_iff] at hv1; simp only at *; omega
  have hT : olnk (some (leafT (x1, x2))) (some (leafT (y1, y2))) = some ⟨(y1, y2), [], .cons (x1, x2) [] .nil .nil⟩ := by
    show some (lnk (leafT (x1, x2)) (leafT (y1, y2))) = _
    rw [lnk_lt (show ltE (y1, y2) (x1, x2) = true from hv1)]
    rfl
  have hS : oskw (z1, z2) (some (leafT (x1, x2))) (some (leafT (y1, y2))) = some ⟨(z1, z2), [(y1, y2)], .cons (x1, x2) [] .nil .nil⟩ := by
    unfold oskw
    rw [hT]
    show some (skw (z1, z2) ⟨(y1, y2), [], .cons (x1, x2) [] .nil .nil⟩) = _
    rw [skw_ge (show ltE (y1, y2) (z1, z2) = false from hv2)]
  have hRT := pair_right (y1, y2) (x1, x2) ho
  have hRS := trio_right (z1, z2) (y1, y2) (x1, x2) (by exact hv2) (by exact swoE.ntrans _ _ _ ho hv2)
  have HE := Lib.hid (fun W (hb : Below w.heap.size w W) => he.below hb)
  have HP := Lib.hid (And.intro hT (And.intro hS (And.intro hRT (And.intro hRS (And.intro hv1 hv2)))))
  clear he ho hT hS hRT hRS hv1 hv2
  go_enter Tryd.func7, Tryd.ntmps7
  go_wp2_with fail
  ((with_reducible refine (awake_any _ (HE.out _ (below3 _ _ _ _))).mono ?_); rintro e w1 ⟨rfl, hb1⟩)
  obtain ⟨px, py, pz, hw1⟩ := trio hb1
  have P1 := Lib.hid (And.intro px (And.intro py (And.intro pz hw1)))
  clear hb1 px py pz hw1
  have a0 := P1.out.1.c0
  have a1 := P1.out.1.c1
  have b0 := P1.out.2.1.c0
  have b1 := P1.out.2.1.c1
  have c0 := P1.out.2.2.1.c0
  have c1 := P1.out.2.2.1.c1
  go_wp2_with fail
  go_region_held3 (fun w' => w'.cell? ⟨w.heap.size, 0, none⟩ = some (.int .i64 x1) ∧ w'.cell? ⟨w.heap.size, 1, none⟩ = some (.int .i64 x2) ∧ w'.cell? ⟨w.heap.size + 1, 0, none⟩ = some (.int .i64 y1) ∧ w'.cell? ⟨w.heap.size + 1, 1, none⟩ = some (.int .i64 y2)) (go_keep)
    (first | (go_at_call 12; ((with_reducible refine (linkN p2 p3 (some (leafT (x1, x2))) (some (leafT (y1, y2))) _ T3.out.1 T3.out.2.1 (leaf_lt28 _) (leaf_lt28 _)).mono ?_); rintro e w4 ⟨p4, rfl, ht4, hb4⟩; have T4 := Lib.hid (And.intro ht4 (T3.out.2.2.trans (hb4.mono T3.out.2.2.size))); have f0 := (P1.out.1.below T4.out.2 P1.out.1.lt).c0; have f1 := (P1.out.1.below T4.out.2 P1.out.1.lt).c1; have f2 := (P1.out.2.1.below T4.out.2 P1.out.2.1.lt).c0; have f3 := (P1.out.2.1.below T4.out.2 P1.out.2.1.lt).c1; clear ht4 hb4)) | (go_at_call 11; ((with_reducible refine (leafN (x1, x2) _).mono ?_); rintro e w2 ⟨p2, rfl, ht2, hb2⟩; have T2 := Lib.hid (And.intro ht2 ((Below.refl w1.heap.size w1).drew.trans hb2)); have d0 := (P1.out.1.below T2.out.2 P1.out.1.lt).c0; have d1 := (P1.out.1.below T2.out.2 P1.out.1.lt).c1; have d2 := (P1.out.2.1.below T2.out.2 P1.out.2.1.lt).c0; have d3 := (P1.out.2.1.below T2.out.2 P1.out.2.1.lt).c1; clear ht2 hb2)) | (go_at_call 11; ((with_reducible refine (leafN (y1, y2) _).mono ?_); rintro e w3 ⟨p3, rfl, ht3, hb3⟩; have T3 := Lib.hid (And.intro (T2.out.1.stay hb3) (And.intro ht3 (T2.out.2.trans (hb3.mono T2.out.2.size)))); have e0 := (P1.out.1.below T3.out.2.2 P1.out.1.lt).c0; have e1 := (P1.out.1.below T3.out.2.2 P1.out.1.lt).c1; have e2 := (P1.out.2.1.below T3.out.2.2 P1.out.2.1.lt).c0; have e3 := (P1.out.2.1.below T3.out.2.2 P1.out.2.1.lt).c1; clear ht3 hb3)))
  clear a0 a1 b0 b1 c0 c1 d0 d1 d2 d3 e0 e1 e2 e3 f0 f1 f2 f3 T2 T3
  have Q4 := Lib.hid (show TAt w4 p4 (some ⟨(y1, y2), [], .cons (x1, x2) [] .nil .nil⟩) from HP.out.1 ▸ T4.out.1)
  have P4 := Lib.hid (And.intro (P1.out.1.below T4.out.2 P1.out.1.lt) (And.intro (P1.out.2.1.below T4.out.2 P1.out.2.1.lt) (And.intro (P1.out.2.2.1.below T4.out.2 P1.out.2.2.1.lt) (P1.out.2.2.2.trans (T4.out.2.mono P1.out.2.2.2.size)))))
  clear T4 P1
  have a0 := P4.out.1.c0
  have a1 := P4.out.1.c1
  have b0 := P4.out.2.1.c0
  have b1 := P4.out.2.1.c1
  have c0 := P4.out.2.2.1.c0
  have c1 := P4.out.2.2.1.c1
  go_wp2_with fail
  go_region_held3 (fun w' => w'.cell? ⟨w.heap.size, 0, none⟩ = some (.int .i64 x1) ∧ w'.cell? ⟨w.heap.size, 1, none⟩ = some (.int .i64 x2) ∧ w'.cell? ⟨w.heap.size + 1, 0, none⟩ = some (.int .i64 y1) ∧ w'.cell? ⟨w.heap.size + 1, 1, none⟩ = some (.int .i64 y2) ∧ w'.cell? ⟨w.heap.size + 1 + 1, 0, none⟩ = some (.int .i64 z1) ∧ w'.cell? ⟨w.heap.size + 1 + 1, 1, none⟩ = some (.int .i64 z2)) (go_keep)
    (first | (go_at_call 14; ((with_reducible refine (skewN (z1, z2) p5 p6 (some (leafT (x1, x2))) (some (leafT (y1, y2))) _ T6.out.1 T6.out.2.1 (leaf_lt28 _) (leaf_lt28 _)).mono ?_); rintro e w7 ⟨p7, rfl, ht7, hb7⟩; have T7 := Lib.hid (And.intro ht7 (T6.out.2.2.trans (hb7.mono T6.out.2.2.size))); have f0 := (P4.out.1.below T7.out.2 P4.out.1.lt).c0; have f1 := (P4.out.1.below T7.out.2 P4.out.1.lt).c1; have f2 := (P4.out.2.1.below T7.out.2 P4.out.2.1.lt).c0; have f3 := (P4.out.2.1.below T7.out.2 P4.out.2.1.lt).c1; have f4 := (P4.out.2.2.1.below T7.out.2 P4.out.2.2.1.lt).c0; have f5 := (P4.out.2.2.1.below T7.out.2 P4.out.2.2.1.lt).c1; clear ht7 hb7)) | (go_at_call 11; ((with_reducible refine (leafN (x1, x2) _).mono ?_); rintro e w5 ⟨p5, rfl, ht5, hb5⟩; have T5 := Lib.hid (And.intro ht5 ((Below.refl w4.heap.size w4).drew.trans hb5)); have d0 := (P4.out.1.below T5.out.2 P4.out.1.lt).c0; have d1 := (P4.out.1.below T5.out.2 P4.out.1.lt).c1; have d2 := (P4.out.2.1.below T5.out.2 P4.out.2.1.lt).c0; have d3 := (P4.out.2.1.below T5.out.2 P4.out.2.1.lt).c1; have d4 := (P4.out.2.2.1.below T5.out.2 P4.out.2.2.1.lt).c0; have d5 := (P4.out.2.2.1.below T5.out.2 P4.out.2.2.1.lt).c1; clear ht5 hb5)) | (go_at_call 11; ((with_reducible refine (leafN (y1, y2) _).mono ?_); rintro e w6 ⟨p6, rfl, ht6, hb6⟩; have T6 := Lib.hid (And.intro (T5.out.1.stay hb6) (And.intro ht6 (T5.out.2.trans (hb6.mono T5.out.2.size)))); have e0 := (P4.out.1.below T6.out.2.2 P4.out.1.lt).c0; have e1 := (P4.out.1.below T6.out.2.2 P4.out.1.lt).c1; have e2 := (P4.out.2.1.below T6.out.2.2 P4.out.2.1.lt).c0; have e3 := (P4.out.2.1.below T6.out.2.2 P4.out.2.1.lt).c1; have e4 := (P4.out.2.2.1.below T6.out.2.2 P4.out.2.2.1.lt).c0; have e5 := (P4.out.2.2.1.below T6.out.2.2 P4.out.2.2.1.lt).c1; clear ht6 hb6)))
  clear a0 a1 b0 b1 c0 c1 d0 d1 d2 d3 d4 d5 e0 e1 e2 e3 e4 e5 f0 f1 f2 f3 f4 f5 T5 T6
  have Q7 := Lib.hid (And.intro (Q4.out.stay T7.out.2) (show TAt w7 p7 (some ⟨(z1, z2), [(y1, y2)], .cons (x1, x2) [] .nil .nil⟩) from HP.out.2.1 ▸ T7.out.1))
  have P7 := Lib.hid (And.intro (P4.out.1.below T7.out.2 P4.out.1.lt) (And.intro (P4.out.2.1.below T7.out.2 P4.out.2.1.lt) (And.intro (P4.out.2.2.1.below T7.out.2 P4.out.2.2.1.lt) (P4.out.2.2.2.trans (T7.out.2.mono P4.out.2.2.2.size)))))
  clear T7 P4 Q4
  have a0 := P7.out.1.c0
  have a1 := P7.out.1.c1
  have b0 := P7.out.2.1.c0
  have b1 := P7.out.2.1.c1
  go_wp2_with fail
  ((with_reducible refine (refLessE (y1, y2) (x1, x2) _).mono ?_); rintro e w8 ⟨rfl, hb8⟩)
  rw [HP.out.2.2.2.2.1]
  have Q8 := Lib.hid (And.intro (Q7.out.1.stay hb8) (Q7.out.2.stay hb8))
  have P8 := Lib.hid (And.intro (P7.out.1.below hb8 P7.out.1.lt) (And.intro (P7.out.2.1.below hb8 P7.out.2.1.lt) (And.intro (P7.out.2.2.1.below hb8 P7.out.2.2.1.lt) (P7.out.2.2.2.trans (hb8.mono P7.out.2.2.2.size)))))
  clear a0 a1 b0 b1 hb8 Q7 P7
  have a0 := P8.out.1.c0
  have a1 := P8.out.1.c1
  have b0 := cell_old P8.out.2.1.c0
  have b1 := cell_old P8.out.2.1.c1
  go_wp2_with fail
  clear a0 a1 b0 b1
  have hB9 : Below w8.heap.size w8 (w8.alloc (.cells #[.int .i64 y1, .int .i64 y2] 28)) := (Below.refl _ _).alloc (Nat.le_refl _) _
  have hPL := PairAt.new w8 y1 y2 28
  generalize w8.alloc (.cells #[.int .i64 y1, .int .i64 y2] 28) = w9 at *
  have HR := Lib.hid (fun W (hb : Below w9.heap.size w9 W) => And.intro ((Q8.out.1.stay hB9).stay hb) (And.intro ((Q8.out.2.stay hB9).stay hb) (And.intro ((P8.out.2.2.1.below hB9 P8.out.2.2.1.lt).below hb (Nat.lt_of_lt_of_le P8.out.2.2.1.lt hB9.size)) (And.intro (hPL.below hb hPL.lt) ((P8.out.2.2.2.trans (hB9.mono P8.out.2.2.2.size)).trans (hb.mono (Nat.le_trans P8.out.2.2.2.size hB9.size)))))))
  have B9 := Lib.hid (Below.refl w9.heap.size w9)
  clear hB9 hPL Q8 P8
  ((with_reducible refine (root_any p4 _ _ (HR.out _ B9.out).1).mono ?_); rintro e w10 ⟨rfl, hb10⟩)
  rw [show rootV (some ⟨(y1, y2), [], .cons (x1, x2) [] .nil .nil⟩) = .tuple #[.agg #[.int .i64 y1, .int .i64 y2], .bool true] from rfl]
  have B10 := Lib.hid hb10
  clear hb10
  go_wp2_with fail
  have PA11 := PairAt.new w10 y1 y2 28
  have B11 := Lib.hid (B10.out.trans (((Below.refl w10.heap.size w10).alloc (Nat.le_refl _) (.cells #[.int .i64 y1, .int .i64 y2] 28)).mono B10.out.size))
  generalize w10.alloc (.cells #[.int .i64 y1, .int .i64 y2] 28) = w11 at *
  ((with_reducible refine (root_any p7 _ _ (HR.out _ B11.out).2.1).mono ?_); rintro e w12 ⟨rfl, hb12⟩)
  rw [show rootV (some ⟨(z1, z2), [(y1, y2)], .cons (x1, x2) [] .nil .nil⟩) = .tuple #[.agg #[.int .i64 z1, .int .i64 z2], .bool true] from rfl]
  have PA12 := PA11.below hb12 PA11.lt
  have B12 := Lib.hid (B11.out.trans (hb12.mono B11.out.size))
  clear hb12 PA11 B11
  have a0 := cell_old (HR.out _ B12.out).2.2.2.1.c0
  have a1 := cell_old (HR.out _ B12.out).2.2.2.1.c1
  have b0 := cell_old (HR.out _ B12.out).2.2.1.c0
  have b1 := cell_old (HR.out _ B12.out).2.2.1.c1
  go_wp2_with fail
  clear a0 a1 b0 b1
  have PB13 := PairAt.new w12 z1 z2 28
  have hb13 : Below w12.heap.size w12 (w12.alloc (.cells #[.int .i64 z1, .int .i64 z2] 28)) := (Below.refl w12.heap.size w12).alloc (Nat.le_refl _) _
  generalize w12.alloc (.cells #[.int .i64 z1, .int .i64 z2] 28) = w13 at *
  have PA13 := PA12.below hb13 PA12.lt
  have B13 := Lib.hid (B12.out.trans (hb13.mono B12.out.size))
  clear hb13 PA12 B12
  ((with_reducible refine (refLessE (y1, y2) (z1, z2) _).mono ?_); rintro e w14 ⟨rfl, hb14⟩)
  rw [HP.out.2.2.2.2.2]
  have PA14 := PA13.below hb14 PA13.lt
  have PB14 := PB13.below hb14 PB13.lt
  have B14 := Lib.hid (B13.out.trans (hb14.mono B13.out.size))
  clear hb14 PA13 PB13 B13
  go_wp2_with fail
  ((with_reducible refine (beside_any p7 _ _ (HR.out _ B14.out).2.1 (by simp [osize, Tre.size, Wood.size])).mono ?_); rintro e w15 ⟨v15, rfl, hown15, hb15⟩)
  obtain ⟨A15, k15, rfl, hr15, hk15, -⟩ := hown15.form
  simp only [obeside, List.length_cons, List.length_nil, Nat.zero_add] at hr15 hk15
  obtain ⟨sb, so, rfl, hc15⟩ := hr15 (by simp)
  have hc := row_at hc15 0 (by simp)
  simp only [List.getElem_cons_zero, Nat.zero_mul, Nat.add_zero] at hc
  rw [show (obeside (some ⟨(z1, z2), [(y1, y2)], .cons (x1, x2) [] .nil .nil⟩)).length = 1 from rfl]
  have PA15 := PA14.below hb15 PA14.lt
  have PB15 := PB14.below hb15 PB14.lt
  have B15 := Lib.hid (B14.out.trans (hb15.mono B14.out.size))
  clear hb15 PA14 PB14 B14 hown15 hr15 hc15
  have a0 := (HR.out _ B15.out).2.2.2.1.c0
  have a1 := (HR.out _ B15.out).2.2.2.1.c1
  have b0 := PA15.c0
  have b1 := PA15.c1
  go_wp2_with fail
  ((with_reducible refine (right_any p4 _ _ (HR.out _ B15.out).1 (by simp [osize, Tre.size, Wood.size])).mono ?_); rintro e w16 ⟨rfl, hb16⟩)
  rw [HP.out.2.2.1]
  have B16 := Lib.hid (B15.out.trans (hb16.mono B15.out.size))
  have PB16 := PB15.below hb16 PB15.lt
  have hc16 := And.intro ((hb16.cell (block_lt_of_cell hc.1)).trans hc.1) ((hb16.cell (block_lt_of_cell hc.2)).trans hc.2)
  clear hb16 PA15 PB15 B15 hc a0 a1 b0 b1
  go_wp2_with fail
  ((with_reducible refine (right_any p7 _ _ (HR.out _ B16.out).2.1 (by simp [osize, Tre.size, Wood.size])).mono ?_); rintro e w17 ⟨rfl, hb17⟩)
  rw [HP.out.2.2.2.1]
  have B17 := Lib.hid (B16.out.trans (hb17.mono B16.out.size))
  have PB17 := PB16.below hb17 PB16.lt
  have hc17 := And.intro ((hb17.cell (block_lt_of_cell hc16.1)).trans hc16.1) ((hb17.cell (block_lt_of_cell hc16.2)).trans hc16.2)
  clear hb17 PB16 B16 hc16
  go_wp2_with fail
  have hw := Lib.hid (HR.out _ B17.out).2.2.2.2
  have k0 := fun d os => cell_regrown (HR.out _ B17.out).2.2.2.1.c0 d os
  have k1 := fun d os => cell_regrown (HR.out _ B17.out).2.2.2.1.c1 d os
  have k2 := fun d os => cell_regrown (HR.out _ B17.out).2.2.1.c0 d os
  have k3 := fun d os => cell_regrown (HR.out _ B17.out).2.2.1.c1 d os
  have k4 := fun d os => cell_regrown PB17.c0 d os
  have k5 := fun d os => cell_regrown PB17.c1 d os
  have k6 := fun d os => cell_regrown hc17.1 d os
  have k7 := fun d os => cell_regrown hc17.2 d os
  clear PB17 hc17 HR B17
  rw [world_self w17]
  generalize w17.drawn = d0
  generalize (#[] : Array Obj) = os0
  refine wp_region_class (by kernel_rfl) (by kernel_rfl) ?_
  repeat (go_big_quiet_step (fail))
  refine wpQuiet_nil ?_
  intro _ hw'
  obtain ⟨⟨dq, osq⟩, hw''⟩ := hw'
  subst hw''
  clear k0 k1 k2 k3 k4 k5 k6 k7
  go_wp2
  go_ret
  exact ⟨rfl, hw.out.trans ((below_regrown w17 _ _).mono hw.out.size)⟩

set_option maxRecDepth 100000 in
set_option maxHeartbeats 4000000 in
theorem order_ft (x1 x2 y1 y2 z1 z2 : Int) (hv1 : ltE (y1, y2) (x1, x2) = false) (hv2 : ltE (x1, x2) (z1, z2) = true) (w : World) (he : Env w) :
    Calls Tryd.prog 7 #[el (x1, x2), el (y1, y2), el (z1, z2)] w fun e w' => e = .returned (.bool true) ∧ Below w.heap.size w w' := by
  have ho : ltE (y1, y2) (x1, x2) = false := by exact hv1
  have hT : olnk (some (leafT (x1, x2))) (some (leafT (y1, y2))) = some ⟨(x1, x2), [], .cons (y1, y2) [] .nil .nil⟩ := by
    show some (lnk (leafT (x1, x2)) (leafT (y1, y2))) = _
    rw [lnk_ge (show ltE (y1, y2) (x1, x2) = false from hv1)]
    rfl
  have hS : oskw (z1, z2) (some (leafT (x1, x2))) (some (leafT (y1, y2))) = some ⟨(x1, x2), [(z1, z2)], .cons (y1, y2) [] .nil .nil⟩ := by
    unfold oskw
    rw [hT]
    show some (skw (z1, z2) ⟨(x1, x2), [], .cons (y1, y2) [] .nil .nil⟩) = _
    rw [skw_lt (show ltE (x1, x2) (z1, z2) = true from hv2)]
  have hRT := pair_right (x1, x2) (y1, y2) ho
  have hRS := trio_right (x1, x2) (z1, z2) (y1, y2) (by rw [ltE_not]; rw [ltE_iff] at hv2; simp only at *; omega) (by exact ho)
  have HE := Lib.hid (fun W (hb : Below w.heap.size w W) => he.below hb)
  have HP := Lib.hid (And.intro hT (And.intro hS (And.intro hRT (And.intro hRS (And.intro hv1 hv2)))))
  clear he ho hT hS hRT hRS hv1 hv2
  go_enter Tryd.func7, Tryd.ntmps7
  go_wp2_with fail
  ((with_reducible refine (awake_any _ (HE.out _ (below3 _ _ _ _))).mono ?_); rintro e w1 ⟨rfl, hb1⟩)
  obtain ⟨px, py, pz, hw1⟩ := trio hb1
  have P1 := Lib.hid (And.intro px (And.intro py (And.intro pz hw1)))
  clear hb1 px py pz hw1
  have a0 := P1.out.1.c0
  have a1 := P1.out.1.c1
  have b0 := P1.out.2.1.c0
  have b1 := P1.out.2.1.c1
  have c0 := P1.out.2.2.1.c0
  have c1 := P1.out.2.2.1.c1
  go_wp2_with fail
  go_region_held3 (fun w' => w'.cell? ⟨w.heap.size, 0, none⟩ = some (.int .i64 x1) ∧ w'.cell? ⟨w.heap.size, 1, none⟩ = some (.int .i64 x2) ∧ w'.cell? ⟨w.heap.size + 1, 0, none⟩ = some (.int .i64 y1) ∧ w'.cell? ⟨w.heap.size + 1, 1, none⟩ = some (.int .i64 y2)) (go_keep)
    (first | (go_at_call 12; ((with_reducible refine (linkN p2 p3 (some (leafT (x1, x2))) (some (leafT (y1, y2))) _ T3.out.1 T3.out.2.1 (leaf_lt28 _) (leaf_lt28 _)).mono ?_); rintro e w4 ⟨p4, rfl, ht4, hb4⟩; have T4 := Lib.hid (And.intro ht4 (T3.out.2.2.trans (hb4.mono T3.out.2.2.size))); have f0 := (P1.out.1.below T4.out.2 P1.out.1.lt).c0; have f1 := (P1.out.1.below T4.out.2 P1.out.1.lt).c1; have f2 := (P1.out.2.1.below T4.out.2 P1.out.2.1.lt).c0; have f3 := (P1.out.2.1.below T4.out.2 P1.out.2.1.lt).c1; clear ht4 hb4)) | (go_at_call 11; ((with_reducible refine (leafN (x1, x2) _).mono ?_); rintro e w2 ⟨p2, rfl, ht2, hb2⟩; have T2 := Lib.hid (And.intro ht2 ((Below.refl w1.heap.size w1).drew.trans hb2)); have d0 := (P1.out.1.below T2.out.2 P1.out.1.lt).c0; have d1 := (P1.out.1.below T2.out.2 P1.out.1.lt).c1; have d2 := (P1.out.2.1.below T2.out.2 P1.out.2.1.lt).c0; have d3 := (P1.out.2.1.below T2.out.2 P1.out.2.1.lt).c1; clear ht2 hb2)) | (go_at_call 11; ((with_reducible refine (leafN (y1, y2) _).mono ?_); rintro e w3 ⟨p3, rfl, ht3, hb3⟩; have T3 := Lib.hid (And.intro (T2.out.1.stay hb3) (And.intro ht3 (T2.out.2.trans (hb3.mono T2.out.2.size)))); have e0 := (P1.out.1.below T3.out.2.2 P1.out.1.lt).c0; have e1 := (P1.out.1.below T3.out.2.2 P1.out.1.lt).c1; have e2 := (P1.out.2.1.below T3.out.2.2 P1.out.2.1.lt).c0; have e3 := (P1.out.2.1.below T3.out.2.2 P1.out.2.1.lt).c1; clear ht3 hb3)))
  clear a0 a1 b0 b1 c0 c1 d0 d1 d2 d3 e0 e1 e2 e3 f0 f1 f2 f3 T2 T3
  have Q4 := Lib.hid (show TAt w4 p4 (some ⟨(x1, x2), [], .cons (y1, y2) [] .nil .nil⟩) from HP.out.1 ▸ T4.out.1)
  have P4 := Lib.hid (And.intro (P1.out.1.below T4.out.2 P1.out.1.lt) (And.intro (P1.out.2.1.below T4.out.2 P1.out.2.1.lt) (And.intro (P1.out.2.2.1.below T4.out.2 P1.out.2.2.1.lt) (P1.out.2.2.2.trans (T4.out.2.mono P1.out.2.2.2.size)))))
  clear T4 P1
  have a0 := P4.out.1.c0
  have a1 := P4.out.1.c1
  have b0 := P4.out.2.1.c0
  have b1 := P4.out.2.1.c1
  have c0 := P4.out.2.2.1.c0
  have c1 := P4.out.2.2.1.c1
  go_wp2_with fail
  go_region_held3 (fun w' => w'.cell? ⟨w.heap.size, 0, none⟩ = some (.int .i64 x1) ∧ w'.cell? ⟨w.heap.size, 1, none⟩ = some (.int .i64 x2) ∧ w'.cell? ⟨w.heap.size + 1, 0, none⟩ = some (.int .i64 y1) ∧ w'.cell? ⟨w.heap.size + 1, 1, none⟩ = some (.int .i64 y2) ∧ w'.cell? ⟨w.heap.size + 1 + 1, 0, none⟩ = some (.int .i64 z1) ∧ w'.cell? ⟨w.heap.size + 1 + 1, 1, none⟩ = some (.int .i64 z2)) (go_keep)
    (first | (go_at_call 14; ((with_reducible refine (skewN (z1, z2) p5 p6 (some (leafT (x1, x2))) (some (leafT (y1, y2))) _ T6.out.1 T6.out.2.1 (leaf_lt28 _) (leaf_lt28 _)).mono ?_); rintro e w7 ⟨p7, rfl, ht7, hb7⟩; have T7 := Lib.hid (And.intro ht7 (T6.out.2.2.trans (hb7.mono T6.out.2.2.size))); have f0 := (P4.out.1.below T7.out.2 P4.out.1.lt).c0; have f1 := (P4.out.1.below T7.out.2 P4.out.1.lt).c1; have f2 := (P4.out.2.1.below T7.out.2 P4.out.2.1.lt).c0; have f3 := (P4.out.2.1.below T7.out.2 P4.out.2.1.lt).c1; have f4 := (P4.out.2.2.1.below T7.out.2 P4.out.2.2.1.lt).c0; have f5 := (P4.out.2.2.1.below T7.out.2 P4.out.2.2.1.lt).c1; clear ht7 hb7)) | (go_at_call 11; ((with_reducible refine (leafN (x1, x2) _).mono ?_); rintro e w5 ⟨p5, rfl, ht5, hb5⟩; have T5 := Lib.hid (And.intro ht5 ((Below.refl w4.heap.size w4).drew.trans hb5)); have d0 := (P4.out.1.below T5.out.2 P4.out.1.lt).c0; have d1 := (P4.out.1.below T5.out.2 P4.out.1.lt).c1; have d2 := (P4.out.2.1.below T5.out.2 P4.out.2.1.lt).c0; have d3 := (P4.out.2.1.below T5.out.2 P4.out.2.1.lt).c1; have d4 := (P4.out.2.2.1.below T5.out.2 P4.out.2.2.1.lt).c0; have d5 := (P4.out.2.2.1.below T5.out.2 P4.out.2.2.1.lt).c1; clear ht5 hb5)) | (go_at_call 11; ((with_reducible refine (leafN (y1, y2) _).mono ?_); rintro e w6 ⟨p6, rfl, ht6, hb6⟩; have T6 := Lib.hid (And.intro (T5.out.1.stay hb6) (And.intro ht6 (T5.out.2.trans (hb6.mono T5.out.2.size)))); have e0 := (P4.out.1.below T6.out.2.2 P4.out.1.lt).c0; have e1 := (P4.out.1.below T6.out.2.2 P4.out.1.lt).c1; have e2 := (P4.out.2.1.below T6.out.2.2 P4.out.2.1.lt).c0; have e3 := (P4.out.2.1.below T6.out.2.2 P4.out.2.1.lt).c1; have e4 := (P4.out.2.2.1.below T6.out.2.2 P4.out.2.2.1.lt).c0; have e5 := (P4.out.2.2.1.below T6.out.2.2 P4.out.2.2.1.lt).c1; clear ht6 hb6)))
  clear a0 a1 b0 b1 c0 c1 d0 d1 d2 d3 d4 d5 e0 e1 e2 e3 e4 e5 f0 f1 f2 f3 f4 f5 T5 T6
  have Q7 := Lib.hid (And.intro (Q4.out.stay T7.out.2) (show TAt w7 p7 (some ⟨(x1, x2), [(z1, z2)], .cons (y1, y2) [] .nil .nil⟩) from HP.out.2.1 ▸ T7.out.1))
  have P7 := Lib.hid (And.intro (P4.out.1.below T7.out.2 P4.out.1.lt) (And.intro (P4.out.2.1.below T7.out.2 P4.out.2.1.lt) (And.intro (P4.out.2.2.1.below T7.out.2 P4.out.2.2.1.lt) (P4.out.2.2.2.trans (T7.out.2.mono P4.out.2.2.2.size)))))
  clear T7 P4 Q4
  have a0 := P7.out.1.c0
  have a1 := P7.out.1.c1
  have b0 := P7.out.2.1.c0
  have b1 := P7.out.2.1.c1
  go_wp2_with fail
  ((with_reducible refine (refLessE (y1, y2) (x1, x2) _).mono ?_); rintro e w8 ⟨rfl, hb8⟩)
  rw [HP.out.2.2.2.2.1]
  have Q8 := Lib.hid (And.intro (Q7.out.1.stay hb8) (Q7.out.2.stay hb8))
  have P8 := Lib.hid (And.intro (P7.out.1.below hb8 P7.out.1.lt) (And.intro (P7.out.2.1.below hb8 P7.out.2.1.lt) (And.intro (P7.out.2.2.1.below hb8 P7.out.2.2.1.lt) (P7.out.2.2.2.trans (hb8.mono P7.out.2.2.2.size)))))
  clear a0 a1 b0 b1 hb8 Q7 P7
  have a0 := P8.out.1.c0
  have a1 := P8.out.1.c1
  have b0 := cell_old P8.out.2.1.c0
  have b1 := cell_old P8.out.2.1.c1
  go_wp2_with fail
  clear a0 a1 b0 b1
  have hB9 : Below w8.heap.size w8 (w8.alloc (.cells #[.int .i64 x1, .int .i64 x2] 28)) := (Below.refl _ _).alloc (Nat.le_refl _) _
  have hPL := PairAt.new w8 x1 x2 28
  generalize w8.alloc (.cells #[.int .i64 x1, .int .i64 x2] 28) = w9 at *
  have HR := Lib.hid (fun W (hb : Below w9.heap.size w9 W) => And.intro ((Q8.out.1.stay hB9).stay hb) (And.intro ((Q8.out.2.stay hB9).stay hb) (And.intro ((P8.out.2.2.1.below hB9 P8.out.2.2.1.lt).below hb (Nat.lt_of_lt_of_le P8.out.2.2.1.lt hB9.size)) (And.intro (hPL.below hb hPL.lt) ((P8.out.2.2.2.trans (hB9.mono P8.out.2.2.2.size)).trans (hb.mono (Nat.le_trans P8.out.2.2.2.size hB9.size)))))))
  have B9 := Lib.hid (Below.refl w9.heap.size w9)
  clear hB9 hPL Q8 P8
  ((with_reducible refine (root_any p4 _ _ (HR.out _ B9.out).1).mono ?_); rintro e w10 ⟨rfl, hb10⟩)
  rw [show rootV (some ⟨(x1, x2), [], .cons (y1, y2) [] .nil .nil⟩) = .tuple #[.agg #[.int .i64 x1, .int .i64 x2], .bool true] from rfl]
  have B10 := Lib.hid hb10
  clear hb10
  go_wp2_with fail
  have PA11 := PairAt.new w10 x1 x2 28
  have B11 := Lib.hid (B10.out.trans (((Below.refl w10.heap.size w10).alloc (Nat.le_refl _) (.cells #[.int .i64 x1, .int .i64 x2] 28)).mono B10.out.size))
  generalize w10.alloc (.cells #[.int .i64 x1, .int .i64 x2] 28) = w11 at *
  ((with_reducible refine (root_any p7 _ _ (HR.out _ B11.out).2.1).mono ?_); rintro e w12 ⟨rfl, hb12⟩)
  rw [show rootV (some ⟨(x1, x2), [(z1, z2)], .cons (y1, y2) [] .nil .nil⟩) = .tuple #[.agg #[.int .i64 x1, .int .i64 x2], .bool true] from rfl]
  have PA12 := PA11.below hb12 PA11.lt
  have B12 := Lib.hid (B11.out.trans (hb12.mono B11.out.size))
  clear hb12 PA11 B11
  have a0 := cell_old (HR.out _ B12.out).2.2.2.1.c0
  have a1 := cell_old (HR.out _ B12.out).2.2.2.1.c1
  have b0 := cell_old (HR.out _ B12.out).2.2.1.c0
  have b1 := cell_old (HR.out _ B12.out).2.2.1.c1
  go_wp2_with fail
  clear a0 a1 b0 b1
  have PB13 := PairAt.new w12 x1 x2 28
  have hb13 : Below w12.heap.size w12 (w12.alloc (.cells #[.int .i64 x1, .int .i64 x2] 28)) := (Below.refl w12.heap.size w12).alloc (Nat.le_refl _) _
  generalize w12.alloc (.cells #[.int .i64 x1, .int .i64 x2] 28) = w13 at *
  have PA13 := PA12.below hb13 PA12.lt
  have B13 := Lib.hid (B12.out.trans (hb13.mono B12.out.size))
  clear hb13 PA12 B12
  ((with_reducible refine (refLessE (x1, x2) (z1, z2) _).mono ?_); rintro e w14 ⟨rfl, hb14⟩)
  rw [HP.out.2.2.2.2.2]
  have PA14 := PA13.below hb14 PA13.lt
  have PB14 := PB13.below hb14 PB13.lt
  have B14 := Lib.hid (B13.out.trans (hb14.mono B13.out.size))
  clear hb14 PA13 PB13 B13
  go_wp2_with fail
  ((with_reducible refine (beside_any p7 _ _ (HR.out _ B14.out).2.1 (by simp [osize, Tre.size, Wood.size])).mono ?_); rintro e w15 ⟨v15, rfl, hown15, hb15⟩)
  obtain ⟨A15, k15, rfl, hr15, hk15, -⟩ := hown15.form
  simp only [obeside, List.length_cons, List.length_nil, Nat.zero_add] at hr15 hk15
  obtain ⟨sb, so, rfl, hc15⟩ := hr15 (by simp)
  have hc := row_at hc15 0 (by simp)
  simp only [List.getElem_cons_zero, Nat.zero_mul, Nat.add_zero] at hc
  rw [show (obeside (some ⟨(x1, x2), [(z1, z2)], .cons (y1, y2) [] .nil .nil⟩)).length = 1 from rfl]
  have PA15 := PA14.below hb15 PA14.lt
  have PB15 := PB14.below hb15 PB14.lt
  have B15 := Lib.hid (B14.out.trans (hb15.mono B14.out.size))
  clear hb15 PA14 PB14 B14 hown15 hr15 hc15
  have a0 := (HR.out _ B15.out).2.2.2.1.c0
  have a1 := (HR.out _ B15.out).2.2.2.1.c1
  have b0 := PA15.c0
  have b1 := PA15.c1
  go_wp2_with fail
  ((with_reducible refine (right_any p4 _ _ (HR.out _ B15.out).1 (by simp [osize, Tre.size, Wood.size])).mono ?_); rintro e w16 ⟨rfl, hb16⟩)
  rw [HP.out.2.2.1]
  have B16 := Lib.hid (B15.out.trans (hb16.mono B15.out.size))
  have PB16 := PB15.below hb16 PB15.lt
  have hc16 := And.intro ((hb16.cell (block_lt_of_cell hc.1)).trans hc.1) ((hb16.cell (block_lt_of_cell hc.2)).trans hc.2)
  clear hb16 PA15 PB15 B15 hc a0 a1 b0 b1
  go_wp2_with fail
  ((with_reducible refine (right_any p7 _ _ (HR.out _ B16.out).2.1 (by simp [osize, Tre.size, Wood.size])).mono ?_); rintro e w17 ⟨rfl, hb17⟩)
  rw [HP.out.2.2.2.1]
  have B17 := Lib.hid (B16.out.trans (hb17.mono B16.out.size))
  have PB17 := PB16.below hb17 PB16.lt
  have hc17 := And.intro ((hb17.cell (block_lt_of_cell hc16.1)).trans hc16.1) ((hb17.cell (block_lt_of_cell hc16.2)).trans hc16.2)
  clear hb17 PB16 B16 hc16
  go_wp2_with fail
  have hw := Lib.hid (HR.out _ B17.out).2.2.2.2
  have k0 := fun d os => cell_regrown (HR.out _ B17.out).2.2.2.1.c0 d os
  have k1 := fun d os => cell_regrown (HR.out _ B17.out).2.2.2.1.c1 d os
  have k2 := fun d os => cell_regrown (HR.out _ B17.out).2.2.1.c0 d os
  have k3 := fun d os => cell_regrown (HR.out _ B17.out).2.2.1.c1 d os
  have k4 := fun d os => cell_regrown PB17.c0 d os
  have k5 := fun d os => cell_regrown PB17.c1 d os
  have k6 := fun d os => cell_regrown hc17.1 d os
  have k7 := fun d os => cell_regrown hc17.2 d os
  clear PB17 hc17 HR B17
  rw [world_self w17]
  generalize w17.drawn = d0
  generalize (#[] : Array Obj) = os0
  refine wp_region_class (by kernel_rfl) (by kernel_rfl) ?_
  repeat (go_big_quiet_step (fail))
  refine wpQuiet_nil ?_
  intro _ hw'
  obtain ⟨⟨dq, osq⟩, hw''⟩ := hw'
  subst hw''
  clear k0 k1 k2 k3 k4 k5 k6 k7
  go_wp2
  go_ret
  exact ⟨rfl, hw.out.trans ((below_regrown w17 _ _).mono hw.out.size)⟩

set_option maxRecDepth 100000 in
set_option maxHeartbeats 4000000 in
theorem order_ff (x1 x2 y1 y2 z1 z2 : Int) (hv1 : ltE (y1, y2) (x1, x2) = false) (hv2 : ltE (x1, x2) (z1, z2) = false) (w : World) (he : Env w) :
    Calls Tryd.prog 7 #[el (x1, x2), el (y1, y2), el (z1, z2)] w fun e w' => e = .returned (.bool true) ∧ Below w.heap.size w w' := by
  have ho : ltE (y1, y2) (x1, x2) = false := by exact hv1
  have hT : olnk (some (leafT (x1, x2))) (some (leafT (y1, y2))) = some ⟨(x1, x2), [], .cons (y1, y2) [] .nil .nil⟩ := by
    show some (lnk (leafT (x1, x2)) (leafT (y1, y2))) = _
    rw [lnk_ge (show ltE (y1, y2) (x1, x2) = false from hv1)]
    rfl
  have hS : oskw (z1, z2) (some (leafT (x1, x2))) (some (leafT (y1, y2))) = some ⟨(z1, z2), [(x1, x2)], .cons (y1, y2) [] .nil .nil⟩ := by
    unfold oskw
    rw [hT]
    show some (skw (z1, z2) ⟨(x1, x2), [], .cons (y1, y2) [] .nil .nil⟩) = _
    rw [skw_ge (show ltE (x1, x2) (z1, z2) = false from hv2)]
  have hRT := pair_right (x1, x2) (y1, y2) ho
  have hRS := trio_right (z1, z2) (x1, x2) (y1, y2) (by exact hv2) (by exact swoE.ntrans _ _ _ ho hv2)
  have HE := Lib.hid (fun W (hb : Below w.heap.size w W) => he.below hb)
  have HP := Lib.hid (And.intro hT (And.intro hS (And.intro hRT (And.intro hRS (And.intro hv1 hv2)))))
  clear he ho hT hS hRT hRS hv1 hv2
  go_enter Tryd.func7, Tryd.ntmps7
  go_wp2_with fail
  ((with_reducible refine (awake_any _ (HE.out _ (below3 _ _ _ _))).mono ?_); rintro e w1 ⟨rfl, hb1⟩)
  obtain ⟨px, py, pz, hw1⟩ := trio hb1
  have P1 := Lib.hid (And.intro px (And.intro py (And.intro pz hw1)))
  clear hb1 px py pz hw1
  have a0 := P1.out.1.c0
  have a1 := P1.out.1.c1
  have b0 := P1.out.2.1.c0
  have b1 := P1.out.2.1.c1
  have c0 := P1.out.2.2.1.c0
  have c1 := P1.out.2.2.1.c1
  go_wp2_with fail
  go_region_held3 (fun w' => w'.cell? ⟨w.heap.size, 0, none⟩ = some (.int .i64 x1) ∧ w'.cell? ⟨w.heap.size, 1, none⟩ = some (.int .i64 x2) ∧ w'.cell? ⟨w.heap.size + 1, 0, none⟩ = some (.int .i64 y1) ∧ w'.cell? ⟨w.heap.size + 1, 1, none⟩ = some (.int .i64 y2)) (go_keep)
    (first | (go_at_call 12; ((with_reducible refine (linkN p2 p3 (some (leafT (x1, x2))) (some (leafT (y1, y2))) _ T3.out.1 T3.out.2.1 (leaf_lt28 _) (leaf_lt28 _)).mono ?_); rintro e w4 ⟨p4, rfl, ht4, hb4⟩; have T4 := Lib.hid (And.intro ht4 (T3.out.2.2.trans (hb4.mono T3.out.2.2.size))); have f0 := (P1.out.1.below T4.out.2 P1.out.1.lt).c0; have f1 := (P1.out.1.below T4.out.2 P1.out.1.lt).c1; have f2 := (P1.out.2.1.below T4.out.2 P1.out.2.1.lt).c0; have f3 := (P1.out.2.1.below T4.out.2 P1.out.2.1.lt).c1; clear ht4 hb4)) | (go_at_call 11; ((with_reducible refine (leafN (x1, x2) _).mono ?_); rintro e w2 ⟨p2, rfl, ht2, hb2⟩; have T2 := Lib.hid (And.intro ht2 ((Below.refl w1.heap.size w1).drew.trans hb2)); have d0 := (P1.out.1.below T2.out.2 P1.out.1.lt).c0; have d1 := (P1.out.1.below T2.out.2 P1.out.1.lt).c1; have d2 := (P1.out.2.1.below T2.out.2 P1.out.2.1.lt).c0; have d3 := (P1.out.2.1.below T2.out.2 P1.out.2.1.lt).c1; clear ht2 hb2)) | (go_at_call 11; ((with_reducible refine (leafN (y1, y2) _).mono ?_); rintro e w3 ⟨p3, rfl, ht3, hb3⟩; have T3 := Lib.hid (And.intro (T2.out.1.stay hb3) (And.intro ht3 (T2.out.2.trans (hb3.mono T2.out.2.size)))); have e0 := (P1.out.1.below T3.out.2.2 P1.out.1.lt).c0; have e1 := (P1.out.1.below T3.out.2.2 P1.out.1.lt).c1; have e2 := (P1.out.2.1.below T3.out.2.2 P1.out.2.1.lt).c0; have e3 := (P1.out.2.1.below T3.out.2.2 P1.out.2.1.lt).c1; clear ht3 hb3)))
  clear a0 a1 b0 b1 c0 c1 d0 d1 d2 d3 e0 e1 e2 e3 f0 f1 f2 f3 T2 T3
  have Q4 := Lib.hid (show TAt w4 p4 (some ⟨(x1, x2), [], .cons (y1, y2) [] .nil .nil⟩) from HP.out.1 ▸ T4.out.1)
  have P4 := Lib.hid (And.intro (P1.out.1.below T4.out.2 P1.out.1.lt) (And.intro (P1.out.2.1.below T4.out.2 P1.out.2.1.lt) (And.intro (P1.out.2.2.1.below T4.out.2 P1.out.2.2.1.lt) (P1.out.2.2.2.trans (T4.out.2.mono P1.out.2.2.2.size)))))
  clear T4 P1
  have a0 := P4.out.1.c0
  have a1 := P4.out.1.c1
  have b0 := P4.out.2.1.c0
  have b1 := P4.out.2.1.c1
  have c0 := P4.out.2.2.1.c0
  have c1 := P4.out.2.2.1.c1
  go_wp2_with fail
  go_region_held3 (fun w' => w'.cell? ⟨w.heap.size, 0, none⟩ = some (.int .i64 x1) ∧ w'.cell? ⟨w.heap.size, 1, none⟩ = some (.int .i64 x2) ∧ w'.cell? ⟨w.heap.size + 1, 0, none⟩ = some (.int .i64 y1) ∧ w'.cell? ⟨w.heap.size + 1, 1, none⟩ = some (.int .i64 y2) ∧ w'.cell? ⟨w.heap.size + 1 + 1, 0, none⟩ = some (.int .i64 z1) ∧ w'.cell? ⟨w.heap.size + 1 + 1, 1, none⟩ = some (.int .i64 z2)) (go_keep)
    (first | (go_at_call 14; ((with_reducible refine (skewN (z1, z2) p5 p6 (some (leafT (x1, x2))) (some (leafT (y1, y2))) _ T6.out.1 T6.out.2.1 (leaf_lt28 _) (leaf_lt28 _)).mono ?_); rintro e w7 ⟨p7, rfl, ht7, hb7⟩; have T7 := Lib.hid (And.intro ht7 (T6.out.2.2.trans (hb7.mono T6.out.2.2.size))); have f0 := (P4.out.1.below T7.out.2 P4.out.1.lt).c0; have f1 := (P4.out.1.below T7.out.2 P4.out.1.lt).c1; have f2 := (P4.out.2.1.below T7.out.2 P4.out.2.1.lt).c0; have f3 := (P4.out.2.1.below T7.out.2 P4.out.2.1.lt).c1; have f4 := (P4.out.2.2.1.below T7.out.2 P4.out.2.2.1.lt).c0; have f5 := (P4.out.2.2.1.below T7.out.2 P4.out.2.2.1.lt).c1; clear ht7 hb7)) | (go_at_call 11; ((with_reducible refine (leafN (x1, x2) _).mono ?_); rintro e w5 ⟨p5, rfl, ht5, hb5⟩; have T5 := Lib.hid (And.intro ht5 ((Below.refl w4.heap.size w4).drew.trans hb5)); have d0 := (P4.out.1.below T5.out.2 P4.out.1.lt).c0; have d1 := (P4.out.1.below T5.out.2 P4.out.1.lt).c1; have d2 := (P4.out.2.1.below T5.out.2 P4.out.2.1.lt).c0; have d3 := (P4.out.2.1.below T5.out.2 P4.out.2.1.lt).c1; have d4 := (P4.out.2.2.1.below T5.out.2 P4.out.2.2.1.lt).c0; have d5 := (P4.out.2.2.1.below T5.out.2 P4.out.2.2.1.lt).c1; clear ht5 hb5)) | (go_at_call 11; ((with_reducible refine (leafN (y1, y2) _).mono ?_); rintro e w6 ⟨p6, rfl, ht6, hb6⟩; have T6 := Lib.hid (And.intro (T5.out.1.stay hb6) (And.intro ht6 (T5.out.2.trans (hb6.mono T5.out.2.size)))); have e0 := (P4.out.1.below T6.out.2.2 P4.out.1.lt).c0; have e1 := (P4.out.1.below T6.out.2.2 P4.out.1.lt).c1; have e2 := (P4.out.2.1.below T6.out.2.2 P4.out.2.1.lt).c0; have e3 := (P4.out.2.1.below T6.out.2.2 P4.out.2.1.lt).c1; have e4 := (P4.out.2.2.1.below T6.out.2.2 P4.out.2.2.1.lt).c0; have e5 := (P4.out.2.2.1.below T6.out.2.2 P4.out.2.2.1.lt).c1; clear ht6 hb6)))
  clear a0 a1 b0 b1 c0 c1 d0 d1 d2 d3 d4 d5 e0 e1 e2 e3 e4 e5 f0 f1 f2 f3 f4 f5 T5 T6
  have Q7 := Lib.hid (And.intro (Q4.out.stay T7.out.2) (show TAt w7 p7 (some ⟨(z1, z2), [(x1, x2)], .cons (y1, y2) [] .nil .nil⟩) from HP.out.2.1 ▸ T7.out.1))
  have P7 := Lib.hid (And.intro (P4.out.1.below T7.out.2 P4.out.1.lt) (And.intro (P4.out.2.1.below T7.out.2 P4.out.2.1.lt) (And.intro (P4.out.2.2.1.below T7.out.2 P4.out.2.2.1.lt) (P4.out.2.2.2.trans (T7.out.2.mono P4.out.2.2.2.size)))))
  clear T7 P4 Q4
  have a0 := P7.out.1.c0
  have a1 := P7.out.1.c1
  have b0 := P7.out.2.1.c0
  have b1 := P7.out.2.1.c1
  go_wp2_with fail
  ((with_reducible refine (refLessE (y1, y2) (x1, x2) _).mono ?_); rintro e w8 ⟨rfl, hb8⟩)
  rw [HP.out.2.2.2.2.1]
  have Q8 := Lib.hid (And.intro (Q7.out.1.stay hb8) (Q7.out.2.stay hb8))
  have P8 := Lib.hid (And.intro (P7.out.1.below hb8 P7.out.1.lt) (And.intro (P7.out.2.1.below hb8 P7.out.2.1.lt) (And.intro (P7.out.2.2.1.below hb8 P7.out.2.2.1.lt) (P7.out.2.2.2.trans (hb8.mono P7.out.2.2.2.size)))))
  clear a0 a1 b0 b1 hb8 Q7 P7
  have a0 := P8.out.1.c0
  have a1 := P8.out.1.c1
  have b0 := cell_old P8.out.2.1.c0
  have b1 := cell_old P8.out.2.1.c1
  go_wp2_with fail
  clear a0 a1 b0 b1
  have hB9 : Below w8.heap.size w8 (w8.alloc (.cells #[.int .i64 x1, .int .i64 x2] 28)) := (Below.refl _ _).alloc (Nat.le_refl _) _
  have hPL := PairAt.new w8 x1 x2 28
  generalize w8.alloc (.cells #[.int .i64 x1, .int .i64 x2] 28) = w9 at *
  have HR := Lib.hid (fun W (hb : Below w9.heap.size w9 W) => And.intro ((Q8.out.1.stay hB9).stay hb) (And.intro ((Q8.out.2.stay hB9).stay hb) (And.intro ((P8.out.2.2.1.below hB9 P8.out.2.2.1.lt).below hb (Nat.lt_of_lt_of_le P8.out.2.2.1.lt hB9.size)) (And.intro (hPL.below hb hPL.lt) ((P8.out.2.2.2.trans (hB9.mono P8.out.2.2.2.size)).trans (hb.mono (Nat.le_trans P8.out.2.2.2.size hB9.size)))))))
  have B9 := Lib.hid (Below.refl w9.heap.size w9)
  clear hB9 hPL Q8 P8
  ((with_reducible refine (root_any p4 _ _ (HR.out _ B9.out).1).mono ?_); rintro e w10 ⟨rfl, hb10⟩)
  rw [show rootV (some ⟨(x1, x2), [], .cons (y1, y2) [] .nil .nil⟩) = .tuple #[.agg #[.int .i64 x1, .int .i64 x2], .bool true] from rfl]
  have B10 := Lib.hid hb10
  clear hb10
  go_wp2_with fail
  have PA11 := PairAt.new w10 x1 x2 28
  have B11 := Lib.hid (B10.out.trans (((Below.refl w10.heap.size w10).alloc (Nat.le_refl _) (.cells #[.int .i64 x1, .int .i64 x2] 28)).mono B10.out.size))
  generalize w10.alloc (.cells #[.int .i64 x1, .int .i64 x2] 28) = w11 at *
  ((with_reducible refine (root_any p7 _ _ (HR.out _ B11.out).2.1).mono ?_); rintro e w12 ⟨rfl, hb12⟩)
  rw [show rootV (some ⟨(z1, z2), [(x1, x2)], .cons (y1, y2) [] .nil .nil⟩) = .tuple #[.agg #[.int .i64 z1, .int .i64 z2], .bool true] from rfl]
  have PA12 := PA11.below hb12 PA11.lt
  have B12 := Lib.hid (B11.out.trans (hb12.mono B11.out.size))
  clear hb12 PA11 B11
  have a0 := cell_old (HR.out _ B12.out).2.2.2.1.c0
  have a1 := cell_old (HR.out _ B12.out).2.2.2.1.c1
  have b0 := cell_old (HR.out _ B12.out).2.2.1.c0
  have b1 := cell_old (HR.out _ B12.out).2.2.1.c1
  go_wp2_with fail
  clear a0 a1 b0 b1
  have PB13 := PairAt.new w12 z1 z2 28
  have hb13 : Below w12.heap.size w12 (w12.alloc (.cells #[.int .i64 z1, .int .i64 z2] 28)) := (Below.refl w12.heap.size w12).alloc (Nat.le_refl _) _
  generalize w12.alloc (.cells #[.int .i64 z1, .int .i64 z2] 28) = w13 at *
  have PA13 := PA12.below hb13 PA12.lt
  have B13 := Lib.hid (B12.out.trans (hb13.mono B12.out.size))
  clear hb13 PA12 B12
  ((with_reducible refine (refLessE (x1, x2) (z1, z2) _).mono ?_); rintro e w14 ⟨rfl, hb14⟩)
  rw [HP.out.2.2.2.2.2]
  have PA14 := PA13.below hb14 PA13.lt
  have PB14 := PB13.below hb14 PB13.lt
  have B14 := Lib.hid (B13.out.trans (hb14.mono B13.out.size))
  clear hb14 PA13 PB13 B13
  go_wp2_with fail
  ((with_reducible refine (beside_any p7 _ _ (HR.out _ B14.out).2.1 (by simp [osize, Tre.size, Wood.size])).mono ?_); rintro e w15 ⟨v15, rfl, hown15, hb15⟩)
  obtain ⟨A15, k15, rfl, hr15, hk15, -⟩ := hown15.form
  simp only [obeside, List.length_cons, List.length_nil, Nat.zero_add] at hr15 hk15
  obtain ⟨sb, so, rfl, hc15⟩ := hr15 (by simp)
  have hc := row_at hc15 0 (by simp)
  simp only [List.getElem_cons_zero, Nat.zero_mul, Nat.add_zero] at hc
  rw [show (obeside (some ⟨(z1, z2), [(x1, x2)], .cons (y1, y2) [] .nil .nil⟩)).length = 1 from rfl]
  have PA15 := PA14.below hb15 PA14.lt
  have PB15 := PB14.below hb15 PB14.lt
  have B15 := Lib.hid (B14.out.trans (hb15.mono B14.out.size))
  clear hb15 PA14 PB14 B14 hown15 hr15 hc15
  have a0 := (HR.out _ B15.out).2.2.2.1.c0
  have a1 := (HR.out _ B15.out).2.2.2.1.c1
  have b0 := PA15.c0
  have b1 := PA15.c1
  go_wp2_with fail
  ((with_reducible refine (right_any p4 _ _ (HR.out _ B15.out).1 (by simp [osize, Tre.size, Wood.size])).mono ?_); rintro e w16 ⟨rfl, hb16⟩)
  rw [HP.out.2.2.1]
  have B16 := Lib.hid (B15.out.trans (hb16.mono B15.out.size))
  have PB16 := PB15.below hb16 PB15.lt
  have hc16 := And.intro ((hb16.cell (block_lt_of_cell hc.1)).trans hc.1) ((hb16.cell (block_lt_of_cell hc.2)).trans hc.2)
  clear hb16 PA15 PB15 B15 hc a0 a1 b0 b1
  go_wp2_with fail
  ((with_reducible refine (right_any p7 _ _ (HR.out _ B16.out).2.1 (by simp [osize, Tre.size, Wood.size])).mono ?_); rintro e w17 ⟨rfl, hb17⟩)
  rw [HP.out.2.2.2.1]
  have B17 := Lib.hid (B16.out.trans (hb17.mono B16.out.size))
  have PB17 := PB16.below hb17 PB16.lt
  have hc17 := And.intro ((hb17.cell (block_lt_of_cell hc16.1)).trans hc16.1) ((hb17.cell (block_lt_of_cell hc16.2)).trans hc16.2)
  clear hb17 PB16 B16 hc16
  go_wp2_with fail
  have hw := Lib.hid (HR.out _ B17.out).2.2.2.2
  have k0 := fun d os => cell_regrown (HR.out _ B17.out).2.2.2.1.c0 d os
  have k1 := fun d os => cell_regrown (HR.out _ B17.out).2.2.2.1.c1 d os
  have k2 := fun d os => cell_regrown (HR.out _ B17.out).2.2.1.c0 d os
  have k3 := fun d os => cell_regrown (HR.out _ B17.out).2.2.1.c1 d os
  have k4 := fun d os => cell_regrown PB17.c0 d os
  have k5 := fun d os => cell_regrown PB17.c1 d os
  have k6 := fun d os => cell_regrown hc17.1 d os
  have k7 := fun d os => cell_regrown hc17.2 d os
  clear PB17 hc17 HR B17
  rw [world_self w17]
  generalize w17.drawn = d0
  generalize (#[] : Array Obj) = os0
  refine wp_region_class (by kernel_rfl) (by kernel_rfl) ?_
  repeat (go_big_quiet_step (fail))
  refine wpQuiet_nil ?_
  intro _ hw'
  obtain ⟨⟨dq, osq⟩, hw''⟩ := hw'
  subst hw''
  clear k0 k1 k2 k3 k4 k5 k6 k7
  go_wp2
  go_ret
  exact ⟨rfl, hw.out.trans ((below_regrown w17 _ _).mono hw.out.size)⟩

theorem order_any (x1 x2 y1 y2 z1 z2 : Int) (w : World) (he : Env w) :
    Calls Tryd.prog 7 #[el (x1, x2), el (y1, y2), el (z1, z2)] w fun e w' => e = .returned (.bool true) ∧ Below w.heap.size w w' := by
  cases h1 : ltE (y1, y2) (x1, x2) with
  | true =>
    cases h2 : ltE (y1, y2) (z1, z2) with
    | true => exact order_tt x1 x2 y1 y2 z1 z2 h1 h2 w he
    | false => exact order_tf x1 x2 y1 y2 z1 z2 h1 h2 w he
  | false =>
    cases h2 : ltE (x1, x2) (z1, z2) with
    | true => exact order_ft x1 x2 y1 y2 z1 z2 h1 h2 w he
    | false => exact order_ff x1 x2 y1 y2 z1 z2 h1 h2 w he

end Go.Proofs.YtlkpmafgokoaiaaDoor
