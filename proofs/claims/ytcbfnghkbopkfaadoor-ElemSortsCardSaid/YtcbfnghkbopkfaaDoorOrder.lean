/-
  The walk of the statement ElemOrder: for any two elements and any row it returns true, and nothing that was there has changed, in any world where the library's own variables hold what they were laid as.
-/
import Derived.Test.YtcbfnghkbopkfaaDoorRefSort
import Derived.Test.YtcbfnghkbopkfaaDoorSame
import Derived.Test.YtcbfnghkbopkfaaDoorLeastLaw
namespace Go.Proofs.YtcbfnghkbopkfaaDoor
open Go.Sort Go.RowKit

theorem srt_length (l : List (Int × Int)) : (srt l).length = l.length := by unfold srt; exact List.length_mergeSort _
theorem srt_ordered (l : List (Int × Int)) : ordered (srt l) := by
  have h := fold_spec l [] (by unfold ordered; simp)
  have e := sortTo_end l
  unfold sortTo at e
  rw [List.take_length] at e
  rw [← e]
  exact h.1
theorem srt_perm (l : List (Int × Int)) : (srt l).Perm l := by unfold srt; exact List.mergeSort_perm _ _
/-- The first of a sorted row is the least one. -/
theorem srt_head (l : List (Int × Int)) (h : 0 < (srt l).length) : (srt l)[0] = minOf l := by
  symm
  have ho := srt_ordered l
  have hp := srt_perm l
  generalize srt l = s at *
  cases s with
  | nil => simp at h
  | cons x r =>
    refine minOf_eq (hp.subset (by simp)) fun e he => ?_
    have hm : e ∈ x :: r := hp.symm.subset he
    rcases List.mem_cons.1 hm with rfl | hm
    · exact swoE.irrefl _
    · unfold ordered at ho
      rw [List.pairwise_cons] at ho
      simpa using ho.1 e hm

theorem same_class (w : World) (A B : Option Addr) (xs : List (Int × Int)) (n ca cb : Nat) (hn : n = xs.length) (hx : n < 2147483648) (hA : Row w A xs) (hB : Row w B xs) (d : Nat) (os : Array Obj) :
    Calls Tryd.prog 13 #[.slice A n ca, .slice B n cb] (grow (redrawn w d) os) fun e w'' => e = .returned (.bool true) ∧ ∃ x : Regrown, w'' = grow (redrawn w x.d) x.os := by
  subst hn
  refine in_class (fun W hb => ?_) d os
  have h := same_any A B xs xs ca cb W hx (hA.below hb) (hB.below hb)
  rw [show decide (xs = xs) = true from by simp] at h
  exact h
theorem refCompare_class (w : World) (p q r s : Int) (c : Int) (hc : cmpI p q r s = c) (d : Nat) (os : Array Obj) :
    Calls Tryd.prog 17 #[.agg #[.int .i64 p, .int .i64 q], .agg #[.int .i64 r, .int .i64 s]] (grow (redrawn w d) os) fun e w'' => e = .returned (.int .i64 c) ∧ ∃ x : Regrown, w'' = grow (redrawn w x.d) x.os :=
  in_class (fun W _ => by rw [← hc]; exact refCompare_any p q r s W) d os

set_option maxHeartbeats 1000000 in
theorem order_long (p q r s : Int) (A : Option Addr) (n ca : Nat) (w : World) (he : Env w) (h : 60 < n) (hm : n ≤ 9223372036854775807) :
    Calls Tryd.prog 3 #[.agg #[.int .i64 p, .int .i64 q], .agg #[.int .i64 r, .int .i64 s], .slice A n ca] w fun e w' => e = .returned (.bool true) ∧ Below w.heap.size w w' := by
  have hbx := ((Below.refl w.heap.size w).alloc (Nat.le_refl _) (.cells #[.int .i64 p, .int .i64 q] 23)).alloc (by simp) (.cells #[.int .i64 r, .int .i64 s] 23)
  have HE := Lib.hid (he.below hbx)
  have HB := Lib.hid hbx
  clear hbx he
  go_enter Tryd.func3, Tryd.ntmps3
  go_wp2_with fail
  ((with_reducible refine (awake_any _ HE.out).mono ?_); rintro e w1 ⟨rfl, hb1⟩)
  go_wp2_with fail
  go_ret
  exact ⟨rfl, HB.out.trans (hb1.mono HB.out.size)⟩

set_option maxHeartbeats 2000000 in
set_option maxRecDepth 100000 in
theorem order_short (p q r s cc : Int) (bb ib : Bool) (m : Int × Int) (A : Option Addr) (l : List (Int × Int)) (n ca : Nat) (w : World) (he : Env w) (hn : n = l.length) (h60 : n ≤ 60) (hca : n ≤ ca ∧ ca ≤ 9223372036854775807) (hA0 : A = none → ca = 0)
    (hr : Row w A l) (hbb : ltI p q r s = bb) (hcc : cmpI p q r s = cc) (hm : leastV l = .tuple #[.agg #[.int .i64 m.1, .int .i64 m.2], .bool ib]) (hk : (n = 0 ∧ ib = false ∧ m = (0, 0)) ∨ (0 < n ∧ ib = true ∧ m = minOf l)) :
    Calls Tryd.prog 3 #[.agg #[.int .i64 p, .int .i64 q], .agg #[.int .i64 r, .int .i64 s], .slice A n ca] w fun e w' => e = .returned (.bool true) ∧ Below w.heap.size w w' := by
  have h61 : decide ((60 : Int) < (n : Int)) = false := by simp; omega
  have hls := srt_length l
  have CS := Lib.hid (fun W (h : Row W A l) => sort_any A l ca W (by omega) h)
  have CR := Lib.hid (fun W (h : Row W A l) => show Calls Tryd.prog 11 #[.slice A l.length ca] W (fun e w' => ∃ A4 c4, e = .returned (.slice A4 l.length c4) ∧ Row w' A4 (srt l) ∧ (0 < l.length → ∃ g o, A4 = some ⟨g, o, none⟩) ∧ Below W.heap.size W w') from
    (refSort_any A l ca W (by omega) h).mono fun e w' ⟨A4, c4, h1, h2, h3⟩ => ⟨A4, c4, h1, h2, (fun h0 => by obtain ⟨g, o, e, -⟩ := h2 (by omega); exact ⟨g, o, e⟩), h3⟩)
  have CL := Lib.hid (fun W (h : Row W A l) => hm ▸ least_any A l ca W (by omega) (by omega) hca.2 h)
  rw [← hn] at CR CL
  have HR := Lib.hid hr
  have HN := Lib.hid (And.intro hn hA0)
  have hbx := ((Below.refl w.heap.size w).alloc (Nat.le_refl _) (.cells #[.int .i64 p, .int .i64 q] 23)).alloc (by simp) (.cells #[.int .i64 r, .int .i64 s] 23)
  have HE := Lib.hid (he.below hbx)
  have HK := Lib.hid hk
  have HLS := Lib.hid hls
  have HC := Lib.hid (And.intro hbb hcc)
  clear hbx he hr hn hA0 hbb hcc hm hk hls
  go_enter Tryd.func3, Tryd.ntmps3
  go_wp2_with fail
  ((with_reducible refine (awake_any _ HE.out).mono ?_); rintro e w1 ⟨rfl, hb1⟩)
  obtain ⟨pa1, pb1, hw1⟩ := duo hb1
  obtain ⟨hn, hA0⟩ := HN.out
  obtain ⟨v1, w2, run1, own1, gr1⟩ := append_row w1 w1.heap.size (.slice none 0 0) [] l A ca (Own.none _ _) (HR.out.below hw1) hA0 (by simp; omega) (Nat.le_refl _)
  rw [List.nil_append] at own1
  have hb2 := below_grown (Below.refl w1.heap.size w1) gr1 (Nat.le_refl _) (fun g hg => by simp [Value.ownBlock] at hg)
  obtain ⟨AW, cW, hv1, rowW, -, -, -⟩ := own1.form
  subst hv1
  rw [← hn] at run1
  have RUN1 := Lib.hid run1
  have ROWW := Lib.hid rowW
  have PA := Lib.hid (pa1.below hb2 pa1.2.2.2.2)
  have PB := Lib.hid (pb1.below hb2 pb1.2.2.2.2)
  have hw2 := hw1.trans (hb2.mono hw1.size)
  have ROWA := Lib.hid (HR.out.below hw2)
  have HW2 := Lib.hid hw2
  clear run1 rowW pa1 pb1 hb1 hb2 hw1 hw2 own1 gr1 hn hA0
  go_wp2_with (at_builtin; refine wpList_append_run rfl _ _ _ rfl _ _ _ _ rfl rfl RUN1.out ?_)
  have hcs := CS.out _ ROWA.out
  unfold Sorted at hcs
  rw [← HN.out.1] at hcs
  ((with_reducible refine hcs.mono ?_); rintro e w3 ⟨g, rfl, rowS, hb3⟩)
  have ROWS := Lib.hid rowS
  have ROWW3 := Lib.hid (ROWW.out.below hb3)
  have ROWA3 := Lib.hid (ROWA.out.below hb3)
  have PA3 := Lib.hid (PA.out.below hb3 PA.out.2.2.2.2)
  have PB3 := Lib.hid (PB.out.below hb3 PB.out.2.2.2.2)
  have HW3 := Lib.hid (HW2.out.trans (hb3.mono HW2.out.size))
  clear hcs rowS hb3 RUN1 ROWW ROWA PA PB HW2 CS
  go_wp2_with fail
  rcases HK.out with ⟨h0, hib, hm0⟩ | ⟨h0, hib, hm0⟩
  · have hz : decide ((0 : Int) < (n : Int)) = false := by simp; omega
    have hz2 : decide (0 < n) = false := by simp; omega
    have HM0 := Lib.hid hm0
    subst hib
    clear h0 hm0
    cases bb
    all_goals
      have hm0 := HM0.out
      ((with_reducible refine (CR.out _ ROWA3.out).mono ?_); rintro e w4 ⟨A4, c4, rfl, row4, -, hb4⟩)
      have ROW4 := Lib.hid row4
      have ROWS4 := Lib.hid (ROWS.out.below hb4)
      have ROWW4 := Lib.hid (ROWW3.out.below hb4)
      have ROWA4 := Lib.hid (ROWA3.out.below hb4)
      have PA4 := Lib.hid (PA3.out.below hb4 PA3.out.2.2.2.2)
      have PB4 := Lib.hid (PB3.out.below hb4 PB3.out.2.2.2.2)
      have HW4 := Lib.hid (HW3.out.trans (hb4.mono HW3.out.size))
      clear row4 hb4 ROWS ROWW3 ROWA3 PA3 PB3 HW3
      go_wp2_with fail
      ((with_reducible refine (CL.out _ ROWA4.out).mono ?_); rintro e w5 ⟨rfl, hb5⟩)
      have hbm := (Below.refl w5.heap.size w5).alloc (Nat.le_refl _) (.cells #[.int .i64 m.1, .int .i64 m.2] 23)
      obtain ⟨w6, hw6⟩ : ∃ w6, w6 = w5.alloc (.cells #[.int .i64 m.1, .int .i64 m.2] 23) := ⟨_, rfl⟩
      have pm := PairAt.new w5 m.1 m.2 23
      rw [← hw6] at hbm pm
      have hb6 := hb5.trans (hbm.mono hb5.size)
      have row4 := ROW4.out.below hb6
      have rowS := ROWS4.out.below hb6
      have rowW := ROWW4.out.below hb6
      have rowA := ROWA4.out.below hb6
      have pa := PA4.out.below hb6 PA4.out.2.2.2.2
      have pb := PB4.out.below hb6 PB4.out.2.2.2.2
      have hw := HW4.out.trans (hb6.mono HW4.out.size)
      have hls := HLS.out
      have hn := HN.out.1
      have S1 := Lib.hid (fun d os => same_class w6 (some ⟨g, 0, none⟩) A4 (srt l) n n c4 (by omega) (by omega) rowS row4 d os)
      have S2 := Lib.hid (fun d os => same_class w6 A AW l n ca cW hn (by omega) rowA rowW d os)
      have L1 := Lib.hid (fun d os => less_class w6 p q r s _ HC.out.1 d os)
      have L2 := Lib.hid (fun d os => refLess_class w6 p q r s _ HC.out.1 d os)
      have C1 := Lib.hid (fun d os => compare_class w6 p q r s cc HC.out.2 d os)
      have C2 := Lib.hid (fun d os => refCompare_class w6 p q r s cc HC.out.2 d os)
      have ka0 := fun d os => cell_regrown pa.1 d os
      have ka1 := fun d os => cell_regrown pa.2.1 d os
      have kb0 := fun d os => cell_regrown pb.1 d os
      have kb1 := fun d os => cell_regrown pb.2.1 d os
      have km0 := fun d os => cell_regrown pm.1 d os
      have km1 := fun d os => cell_regrown pm.2.1 d os
      rw [hm0] at km0 km1
      have HW := Lib.hid hw
      have HW6 := Lib.hid hw6
      clear hb5 hbm hw6 pm hb6 row4 rowS rowW rowA pa pb hw hls hn ROW4 ROWS4 ROWW4 ROWA4 PA4 PB4 HW4 hm0
      go_wp2_with fail
      rw [← HW6.out, world_self w6]
      generalize w6.drawn = d0
      generalize (#[] : Array Obj) = os0
      clear HW6
      refine wp_region_class (by kernel_rfl) (by kernel_rfl) ?_
      repeat (go_big_quiet_step (first | (with_reducible exact S1.out _ _) | (with_reducible exact S2.out _ _)))
      refine wpQuiet_nil ?_
      intro _ hw'
      obtain ⟨⟨dq, osq⟩, hw''⟩ := hw'
      subst hw''
      go_wp2_with fail
      refine wp_region_class (by kernel_rfl) (by kernel_rfl) ?_
      repeat (go_big_quiet_step (first | (with_reducible exact L1.out _ _) | (with_reducible exact L2.out _ _) | (with_reducible exact C1.out _ _) | (with_reducible exact C2.out _ _)))
      refine wpQuiet_nil ?_
      intro _ hw'
      obtain ⟨⟨dr, osr⟩, hw''⟩ := hw'
      subst hw''
      go_wp2_with fail
      go_ret
      exact ⟨rfl, HW.out.trans ((below_regrown w6 _ _).mono HW.out.size)⟩
  · have hz : decide ((0 : Int) < (n : Int)) = true := by simp; omega
    have CR2 := Lib.hid (fun W (h : Row W A l) => show Calls Tryd.prog 11 #[.slice A n ca] W (fun e w' => ∃ g4 o4 c4, e = .returned (.slice (some ⟨g4, o4, none⟩) n c4) ∧ Row w' (some ⟨g4, o4, none⟩) (srt l) ∧ Below W.heap.size W w') from
      (CR.out W h).mono fun e w' ⟨A4, c4, h1, h2, h3, h4⟩ => by
        obtain ⟨g4, o4, rfl⟩ := h3 (by have := HN.out.1; omega)
        exact ⟨g4, o4, c4, h1, h2, h4⟩)
    have HM0 := Lib.hid hm0
    subst hib
    clear hm0
    cases bb
    all_goals
      have hm0 := HM0.out
      ((with_reducible refine (CR2.out _ ROWA3.out).mono ?_); rintro e w4 ⟨g4, o4, c4, rfl, row4, hb4⟩)
      have ROW4 := Lib.hid row4
      have ROWS4 := Lib.hid (ROWS.out.below hb4)
      have ROWW4 := Lib.hid (ROWW3.out.below hb4)
      have ROWA4 := Lib.hid (ROWA3.out.below hb4)
      have PA4 := Lib.hid (PA3.out.below hb4 PA3.out.2.2.2.2)
      have PB4 := Lib.hid (PB3.out.below hb4 PB3.out.2.2.2.2)
      have HW4 := Lib.hid (HW3.out.trans (hb4.mono HW3.out.size))
      clear row4 hb4 ROWS ROWW3 ROWA3 PA3 PB3 HW3
      go_wp2_with fail
      ((with_reducible refine (CL.out _ ROWA4.out).mono ?_); rintro e w5 ⟨rfl, hb5⟩)
      have hbm := (Below.refl w5.heap.size w5).alloc (Nat.le_refl _) (.cells #[.int .i64 m.1, .int .i64 m.2] 23)
      obtain ⟨w6, hw6⟩ : ∃ w6, w6 = w5.alloc (.cells #[.int .i64 m.1, .int .i64 m.2] 23) := ⟨_, rfl⟩
      have pm := PairAt.new w5 m.1 m.2 23
      rw [← hw6] at hbm pm
      have hb6 := hb5.trans (hbm.mono hb5.size)
      have row4 := ROW4.out.below hb6
      have rowS := ROWS4.out.below hb6
      have rowW := ROWW4.out.below hb6
      have rowA := ROWA4.out.below hb6
      have pa := PA4.out.below hb6 PA4.out.2.2.2.2
      have pb := PB4.out.below hb6 PB4.out.2.2.2.2
      have hw := HW4.out.trans (hb6.mono HW4.out.size)
      have hls := HLS.out
      have hn := HN.out.1
      have S1 := Lib.hid (fun d os => same_class w6 (some ⟨g, 0, none⟩) (some ⟨g4, o4, none⟩) (srt l) n n c4 (by omega) (by omega) rowS row4 d os)
      have S2 := Lib.hid (fun d os => same_class w6 A AW l n ca cW hn (by omega) rowA rowW d os)
      have L1 := Lib.hid (fun d os => less_class w6 p q r s _ HC.out.1 d os)
      have L2 := Lib.hid (fun d os => refLess_class w6 p q r s _ HC.out.1 d os)
      have C1 := Lib.hid (fun d os => compare_class w6 p q r s cc HC.out.2 d os)
      have C2 := Lib.hid (fun d os => refCompare_class w6 p q r s cc HC.out.2 d os)
      have ka0 := fun d os => cell_regrown pa.1 d os
      have ka1 := fun d os => cell_regrown pa.2.1 d os
      have kb0 := fun d os => cell_regrown pb.1 d os
      have kb1 := fun d os => cell_regrown pb.2.1 d os
      have km0 := fun d os => cell_regrown pm.1 d os
      have km1 := fun d os => cell_regrown pm.2.1 d os
      have hlen0 : 0 < (srt l).length := by omega
      obtain ⟨g', o', e', hc4⟩ := row4 hlen0
      injection e' with e'
      injection e' with e1 e2 _
      subst e1
      subst e2
      have hc0 := row_at hc4 0 hlen0
      rw [srt_head l hlen0, ← hm0] at hc0
      have kw0 := fun d os => cell_regrown (show w6.cell? ⟨g4, o4, none⟩ = some (.int .i64 m.1) from hc0.1) d os
      have kw1 := fun d os => cell_regrown (show w6.cell? ⟨g4, o4 + 1, none⟩ = some (.int .i64 m.2) from hc0.2) d os
      clear hc4 hc0 hlen0
      have HW := Lib.hid hw
      have HW6 := Lib.hid hw6
      clear hb5 hbm hw6 pm hb6 row4 rowS rowW rowA pa pb hw hls hn ROW4 ROWS4 ROWW4 ROWA4 PA4 PB4 HW4 hm0
      go_wp2_with fail
      rw [← HW6.out, world_self w6]
      generalize w6.drawn = d0
      generalize (#[] : Array Obj) = os0
      clear HW6
      refine wp_region_class (by kernel_rfl) (by kernel_rfl) ?_
      repeat (go_big_quiet_step (first | (with_reducible exact S1.out _ _) | (with_reducible exact S2.out _ _)))
      refine wpQuiet_nil ?_
      intro _ hw'
      obtain ⟨⟨dq, osq⟩, hw''⟩ := hw'
      subst hw''
      go_wp2_with fail
      refine wp_region_class (by kernel_rfl) (by kernel_rfl) ?_
      repeat (go_big_quiet_step (first | (with_reducible exact L1.out _ _) | (with_reducible exact L2.out _ _) | (with_reducible exact C1.out _ _) | (with_reducible exact C2.out _ _)))
      refine wpQuiet_nil ?_
      intro _ hw'
      obtain ⟨⟨dr, osr⟩, hw''⟩ := hw'
      subst hw''
      go_wp2_with fail
      go_ret
      exact ⟨rfl, HW.out.trans ((below_regrown w6 _ _).mono HW.out.size)⟩

theorem order_any (p q r s : Int) (A : Option Addr) (l : List (Int × Int)) (ca : Nat) (w : World) (he : Env w) (hca : l.length ≤ ca ∧ ca ≤ 9223372036854775807) (hA0 : A = none → ca = 0) (hr : Row w A l) :
    Calls Tryd.prog 3 #[.agg #[.int .i64 p, .int .i64 q], .agg #[.int .i64 r, .int .i64 s], .slice A l.length ca] w fun e w' => e = .returned (.bool true) ∧ Below w.heap.size w w' := by
  by_cases h60 : 60 < l.length
  · exact order_long p q r s A l.length ca w he h60 (by omega)
  · by_cases h0 : l.length = 0
    · have e : l = [] := List.eq_nil_of_length_eq_zero h0
      subst e
      exact order_short p q r s _ _ false (0, 0) A [] 0 ca w he rfl (by omega) hca hA0 hr rfl rfl rfl (Or.inl ⟨rfl, rfl, rfl⟩)
    · refine order_short p q r s _ _ true (minOf l) A l l.length ca w he rfl (by omega) hca hA0 hr rfl rfl ?_ (Or.inr ⟨by omega, rfl, rfl⟩)
      rw [leastV_eq l]
      simp
      omega

end Go.Proofs.YtcbfnghkbopkfaaDoor
