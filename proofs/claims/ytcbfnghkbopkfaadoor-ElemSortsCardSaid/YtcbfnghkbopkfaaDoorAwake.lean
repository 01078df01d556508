/-
  The document's example holds: awake returns true, and nothing that was there has changed, in any world where the library's own variables hold what they were laid as.
-/
import Derived.Test.YtcbfnghkbopkfaaDoorAwake1
namespace Go.Proofs.YtcbfnghkbopkfaaDoor
open Go.Sort Go.RowKit

set_option maxHeartbeats 1000000 in
set_option maxRecDepth 100000 in
theorem awake_any (w : World) (he : Env w) : Calls Tryd.prog 9 #[] w fun e w' => e = .returned (.bool true) ∧ Below w.heap.size w w' := by
  have HE := Lib.hid he
  clear he
  go_enter Tryd.func9, Tryd.ntmps9
  go_wp2_with fail
  have hb0 : Below w.heap.size w ((w.alloc (.cells #[.int .i64 (-5), .int .i64 3] 23)).alloc (.cells #[.int .i64 (-5), .int .i64 4] 23)) := ((Below.refl _ _).alloc (Nat.le_refl _) _).alloc (by simp) _
  ((with_reducible refine (parse_a _ (HE.out.below hb0)).mono ?_); rintro e w1 ⟨rfl, hb1⟩)
  have pa := ((PairAt.new w (-5) 3 23).alloc (.cells #[.int .i64 (-5), .int .i64 4] 23)).below hb1 (by simp; omega)
  have pb := (PairAt.new (w.alloc (.cells #[.int .i64 (-5), .int .i64 3] 23)) (-5) 4 23).below hb1 (by simp)
  rw [show (w.alloc (.cells #[.int .i64 (-5), .int .i64 3] 23)).heap.size = w.heap.size + 1 from by simp] at pb
  have hw1 := hb0.trans (hb1.mono (by simp; omega))
  clear hb0 hb1
  have PA1 := Lib.hid pa
  have PB1 := Lib.hid pb
  have HW1 := Lib.hid hw1
  clear pa pb hw1
  go_wp2_with fail
  have hb1' : Below w.heap.size w (w1.alloc (.cells #[.int .i64 (-5), .int .i64 3] 23)) := HW1.out.alloc HW1.out.size _
  ((with_reducible refine (parse_c _ (HE.out.below hb1')).mono ?_); rintro e w2 ⟨rfl, hb2⟩)
  have px := (PairAt.new w1 (-5) 3 23).below hb2 (by simp)
  have pa := (PA1.out.alloc _).below hb2 (by have := PA1.out.2.2.2.2; simp; omega)
  have pb := (PB1.out.alloc _).below hb2 (by have := PB1.out.2.2.2.2; simp; omega)
  have hw2 := hb1'.trans (hb2.mono hb1'.size)
  clear hb1' hb2 PA1 PB1 HW1
  have PX2 := Lib.hid px
  have PA2 := Lib.hid pa
  have PB2 := Lib.hid pb
  have HW2 := Lib.hid hw2
  obtain ⟨a0, a1, _, _, a4⟩ := pa
  obtain ⟨b0, b1, _, _, b4⟩ := pb
  clear px hw2
  go_wp2_with fail
  have hb2' : Below w.heap.size w (w2.alloc (.cells #[.int .i64 0, .int .i64 0] 23)) := HW2.out.alloc HW2.out.size _
  ((with_reducible refine (least_baz (w2.alloc (.cells #[.int .i64 0, .int .i64 0] 23)) (w2.heap.size + 1) (by simp)).mono ?_); rintro e w3 ⟨rfl, hb3⟩)
  clear a0 a1 a4 b0 b1 b4
  have pa := ((PA2.out.alloc (.cells #[.int .i64 0, .int .i64 0] 23)).alloc _).below hb3 (by have := PA2.out.2.2.2.2; simp; omega)
  have pb := ((PB2.out.alloc (.cells #[.int .i64 0, .int .i64 0] 23)).alloc _).below hb3 (by have := PB2.out.2.2.2.2; simp; omega)
  have px := ((PX2.out.alloc (.cells #[.int .i64 0, .int .i64 0] 23)).alloc _).below hb3 (by have := PX2.out.2.2.2.2; simp; omega)
  have hw3 := (hb2'.alloc hb2'.size _).trans (hb3.mono (by have := HW2.out.size; simp; omega))
  clear hb3 hb2' PA2 PB2 PX2 HW2
  have PX3 := Lib.hid px
  have PA3 := Lib.hid pa
  have PB3 := Lib.hid pb
  have HW3 := Lib.hid hw3
  obtain ⟨a0, a1, _, _, a4⟩ := pa
  obtain ⟨b0, b1, _, _, b4⟩ := pb
  clear px hw3
  go_wp2_with fail
  have hb3' : Below w.heap.size w (w3.alloc (.cells #[.int .i64 (-5), .int .i64 3] 23)) := HW3.out.alloc HW3.out.size _
  ((with_reducible refine (sort_zba (w3.alloc (.cells #[.int .i64 (-5), .int .i64 3] 23)) (w3.heap.size + 1) (by simp)).mono ?_); rintro e w4 ⟨g, rfl, ⟨g0, g1, g2, g3⟩, hb4⟩)
  clear a0 a1 a4 b0 b1 b4
  have pa := ((PA3.out.alloc (.cells #[.int .i64 (-5), .int .i64 3] 23)).alloc _).below hb4 (by have := PA3.out.2.2.2.2; simp; omega)
  have pb := ((PB3.out.alloc (.cells #[.int .i64 (-5), .int .i64 3] 23)).alloc _).below hb4 (by have := PB3.out.2.2.2.2; simp; omega)
  have px := ((PX3.out.alloc (.cells #[.int .i64 (-5), .int .i64 3] 23)).alloc _).below hb4 (by have := PX3.out.2.2.2.2; simp; omega)
  have pm := ((PairAt.new w3 (-5) 3 23).alloc _).below hb4 (by simp; omega)
  have hw4 := (hb3'.alloc hb3'.size _).trans (hb4.mono (by have := HW3.out.size; simp; omega))
  clear hb4 hb3' PA3 PB3 PX3 HW3
  have he4 := HE.out.below hw4
  have HW4 := Lib.hid hw4
  clear hw4 HE
  have ka0 := fun d os => cell_regrown pa.1 d os
  have ka1 := fun d os => cell_regrown pa.2.1 d os
  have kb0 := fun d os => cell_regrown pb.1 d os
  have kb1 := fun d os => cell_regrown pb.2.1 d os
  have kx0 := fun d os => cell_regrown px.1 d os
  have kx1 := fun d os => cell_regrown px.2.1 d os
  have km0 := fun d os => cell_regrown pm.1 d os
  have km1 := fun d os => cell_regrown pm.2.1 d os
  have kg0 := fun d os => cell_regrown g0 d os
  have kg1 := fun d os => cell_regrown g1 d os
  have kg2 := fun d os => cell_regrown g2 d os
  have kg3 := fun d os => cell_regrown g3 d os
  have H1 := Lib.hid (fun d os => Calls.regrown_of (less_ab (grow (redrawn w4 d) os)))
  have H2 := Lib.hid (fun d os => Calls.regrown_of (less_ba (grow (redrawn w4 d) os)))
  have H3 := Lib.hid (fun d os => Calls.regrown_of (compare_ba (grow (redrawn w4 d) os)))
  have H4 := Lib.hid (fun d os => Calls.regrown_of (text_b_any (grow (redrawn w4 d) os) (he4.below (below_regrown w4 d os))))
  clear pa pb px pm g0 g1 g2 g3 he4
  go_wp2_with fail
  refine wp_region_quiet_below (by kernel_rfl) (by kernel_rfl) ?_
  repeat (go_big_quiet_step (first | (with_reducible exact H1.out _ _) | (with_reducible exact H2.out _ _) | (with_reducible exact H3.out _ _) | (with_reducible exact H4.out _ _)))
  refine wpQuiet_nil ?_
  intro _ hw'
  obtain ⟨⟨dq, osq⟩, hw''⟩ := hw'
  subst hw''
  go_wp2
  go_ret
  exact ⟨rfl, HW4.out.trans ((below_regrown w4 dq osq).mono HW4.out.size)⟩

end Go.Proofs.YtcbfnghkbopkfaaDoor
