/-
  The walk of the statement RankNone: for any two elements it returns true, and nothing that was there has changed, in any world where the library's table is as it is laid.
-/
import Derived.Test.YtlkpmafgokoaiaaDoorRawake
import Derived.Test.YtlkpmafgokoaiaaDoorNumberF
import Derived.LaidEqlPtr
namespace Go.Proofs.YtlkpmafgokoaiaaDoor
open Go.Sort Go.RowKit

theorem sizeTree : (Tryd.prog.info? 73).map (·.size) = some 6 := by kernel_rfl
theorem leafT_show (y : Int × Int) : oshow (some (leafT y)) = 40 :: (textOf y.1 y.2 ++ [41]) := by simp [oshow, Tre.show, leafT, Wood.show, besideText]
theorem leafT_fits (y : Int × Int) (h : in64 y.1 ∧ in64 y.2) : fits (oall (some (leafT y))) := by
  intro e he
  simp [oall, Tre.all, leafT, Wood.all] at he
  subst he
  exact h

theorem TAt.none (W : World) : TAt W Option.none Option.none := rfl
theorem TAt.mk {W : World} {b : Nat} {t : Tre} (h : NAt W b t) : TAt W (some ⟨b, 0, Option.none⟩) (some t) := ⟨b, rfl, h⟩
theorem leaf_lt (x : Int × Int) : osize (some (leafT x)) < 268435456 := by simp [osize, leafT_size]

/-- One operation of a region that is walked once, by what its run is known to be. -/
theorem quiet_of_run {P : Program} {C : World → Prop} {ops : Array Oper} {Q : Act → Prop} {a : Act} {o : Oper} {rest : List Oper} (v : Value) (hw : Region.wanted o (yielded ops a.tmps) = true) (hrun : ∀ w, (execOp a.eval o).run P w = .ok (.value v) w) (hk : wpQuiet P ops C Q rest (a.put o.dst v)) : wpQuiet P ops C Q (o :: rest) a :=
  BigFrame.wpQuiet_want hw fun K hK => ⟨v, fun w _ => by unfold Oper.quietAt; rw [hrun w]; exact ⟨rfl, rfl⟩, hK _ hk⟩

/-- Two of one address are the same. -/
theorem exec_eql_ptr {P : Program} {ρ : Operand → Value} {o : Oper} (t te t' : TypeId) (i j : Nat) (hop : o.op = .binOp .eql t (.tmp i) (.tmp j) t') (p : Addr) (hx : ρ (.tmp i) = .pointer (some p)) (hy : ρ (.tmp j) = .pointer (some p)) (k : TypeInfo) (ht : P.underlying t = some (.pointer te)) (hi : P.info? te = some k) (w : World) :
    (execOp ρ o).run P w = .ok (.value (.bool true)) w := by
  have hrun := run_eql_ptr_same w p ht hi
  unfold execOp
  rw [hop]
  have hg : eqGuard .eql t (.tmp i) (.tmp j) (.pointer (some p)) (.pointer (some p)) = (pure () : Sem Unit) := rfl
  simp only [hx, hy, hg, Sem.run_bind, Sem.run_pure, Result.andThen_ok, hrun]

set_option maxHeartbeats 1000000 in
theorem all_none (w : World) : Calls Tryd.prog 26 #[.pointer none] w fun e w' => e = .returned (.slice none 0 0) ∧ w' = w := by
  go_enter Tryd.func26, Tryd.ntmps26
  go_wp2_with fail
  ((with_reducible refine (onto_nil _ _).mono ?_); rintro e w1 ⟨rfl, rfl⟩)
  go_wp2_with fail
  go_ret
  exact ⟨rfl, rfl⟩
set_option maxHeartbeats 1000000 in
theorem kids_none (w : World) : Calls Tryd.prog 29 #[.pointer none] w fun e w' => e = .returned (.slice none 0 0) ∧ w' = w := by
  go_enter Tryd.func29, Tryd.ntmps29
  go_wp2_with fail
  go_ret
  exact ⟨rfl, rfl⟩
set_option maxHeartbeats 1000000 in
theorem beside_none (w : World) : Calls Tryd.prog 28 #[.pointer none] w fun e w' => e = .returned (.slice none 0 0) ∧ w' = w := by
  go_enter Tryd.func28, Tryd.ntmps28
  go_wp2_with fail
  go_ret
  exact ⟨rfl, rfl⟩

set_option maxRecDepth 100000 in
set_option maxHeartbeats 8000000 in
theorem none_any (x1 x2 y1 y2 : Int) (hy : in64 y1 ∧ in64 y2) (w : World) (he : Env w) :
    Calls Tryd.prog 5 #[el (x1, x2), el (y1, y2)] w fun e w' => e = .returned (.bool true) ∧ Below w.heap.size w w' := by
  obtain ⟨j0, hj0, -⟩ := Option.map_eq_some_iff.1 sizeTree
  have hE : ∀ W, Below w.heap.size w W → Env W := fun W hb => he.below hb
  have HE := Lib.hid hE
  have HY := Lib.hid hy
  have HJ := Lib.hid hj0
  clear he hE hy hj0
  go_enter Tryd.func5, Tryd.ntmps5
  go_wp2_with fail
  ((with_reducible refine (awake_any _ (HE.out _ (((Below.refl w.heap.size w).alloc (Nat.le_refl _) _).alloc (by simp) _))).mono ?_); rintro e w1 ⟨rfl, hb1⟩)
  have hblk0 : w1.heap[w.heap.size]? = some (.cells #[.int .i64 x1, .int .i64 x2] 28 (0, 0)) := (hb1.block _ (by simp; omega)).trans ((((Below.refl _ (w.alloc (.cells #[.int .i64 x1, .int .i64 x2] 28))).alloc (Nat.le_refl _) _).block _ (by simp)).trans (new_at rfl))
  have hblk1 : w1.heap[w.heap.size + 1]? = some (.cells #[.int .i64 y1, .int .i64 y2] 28 (0, 0)) := (hb1.block _ (by simp)).trans (new_at (by simp))
  have B1 := Lib.hid (show Below w.heap.size w w1 from (((Below.refl w.heap.size w).alloc (Nat.le_refl _) _).alloc (by simp) _).trans (hb1.mono (by simp; omega)))
  have HX := Lib.hid (And.intro hblk0 hblk1)
  clear hb1 hblk0 hblk1
  go_wp2_with fail
  ((with_reducible refine (mNew _).mono ?_); rintro e w2 ⟨rfl, hm2, hb2⟩)
  have O2 := Lib.hid (show Own1 w w1.heap.size 0 0 w2 from ⟨B1.out.trans (hb2.mono B1.out.size), B1.out.size, hm2⟩)
  have LX2 := Lib.hid (show Loc (some w1.heap.size) w2 w.heap.size x1 x2 from ⟨(hb2.block _ (lt_of_heap HX.out.1)).trans HX.out.1, fun k e => by cases e; have := lt_of_heap HX.out.1; omega⟩)
  have LY2 := Lib.hid (show Loc (some w1.heap.size) w2 (w.heap.size + 1) y1 y2 from ⟨(hb2.block _ (lt_of_heap HX.out.2)).trans HX.out.2, fun k e => by cases e; have := lt_of_heap HX.out.2; omega⟩)
  clear hm2 hb2 HX B1
  generalize w1.heap.size = mb at *
  have c0 := LX2.out.pair.c0
  have c1 := LX2.out.pair.c1
  go_wp2_with fail
  ((with_reducible refine (leaf_any (some mb) 0 0 (x1, x2) _ O2.out.mt (by omega) (by omega)).mono ?_); rintro e w3 ⟨pa, rfl, hta, hm3, hb3⟩)
  have O3 := Lib.hid (O2.out.turn hm3 hb3)
  have LY3 := Lib.hid (LY2.out.turn hb3)
  obtain ⟨ba, rfl, hna⟩ := hta
  have TA3 := Lib.hid hna
  clear hm3 hb3 hna O2 LX2 LY2 c0 c1
  go_wp2_with fail
  ((with_reducible refine (link_left (some mb) (some ⟨ba, 0, none⟩) _).mono ?_); rintro e w4 ⟨rfl, rfl⟩)
  go_wp2_with fail
  ((with_reducible refine (link_right (some mb) ba _).mono ?_); rintro e w4 ⟨rfl, rfl⟩)
  have c0 := LY3.out.pair.c0
  have c1 := LY3.out.pair.c1
  go_wp2_with fail
  ((with_reducible refine (skew_none (some mb) 0 (0 + 1) (y1, y2) _ O3.out.mt (by omega) (by omega)).mono ?_); rintro e w4 ⟨pd, rfl, htd, hm4, hb4⟩)
  have O4 := Lib.hid (O3.out.turn hm4 hb4)
  have LY4 := Lib.hid (LY3.out.turn hb4)
  have TA4 := Lib.hid (And.intro (TA3.out.kp (hb4.kp O3.out.mt)) htd)
  clear hm4 hb4 htd O3 LY3 TA3 c0 c1
  have c0 := LY4.out.pair.c0
  have c1 := LY4.out.pair.c1
  go_wp2_with fail
  ((with_reducible refine (skew_any (some mb) 0 (0 + 1 + 1) (y1, y2) (some ⟨ba, 0, none⟩) none (some (leafT (x1, x2))) none _ O4.out.mt (by omega) (by omega) (by omega) (by omega) (TAt.mk TA4.out.1) (TAt.none _) (leaf_lt _) (by decide)).mono ?_); rintro e w5 ⟨pe, rfl, hte, hm5, hb5⟩)
  have O5 := Lib.hid (show Own1 w mb 1 3 w5 from O4.out.turn hm5 hb5)
  have LY5 := Lib.hid (LY4.out.turn hb5)
  have TA5 := Lib.hid (And.intro (TA4.out.2.kp (hb5.kp O4.out.mt)) (show TAt w5 pe (some (skw (y1, y2) (leafT (x1, x2)))) from hte))
  clear hm5 hb5 hte O4 LY4 TA4 c0 c1
  have HR := Lib.hid (fun W (hb : Below w5.heap.size w5 W) => And.intro (TA5.out.1.stay hb) (And.intro (TA5.out.2.stay hb) (And.intro (O5.out.mt.stay hb) (And.intro (HE.out _ (O5.out.below.trans (hb.mono O5.out.below.size))) (And.intro (O5.out.below.trans (hb.mono O5.out.below.size)) (LY5.out.stay hb).pair)))))
  clear O5 TA5 LY5 HE
  go_wp2_with fail
  ((with_reducible refine (root_any none none _ (TAt.none _)).mono ?_); rintro e w6 ⟨rfl, hb6⟩)
  rw [show rootV none = .tuple #[.agg #[.int .i64 0, .int .i64 0], .bool false] from rfl]
  have B6 := Lib.hid hb6
  clear hb6
  go_wp2_with fail
  have B7 := Lib.hid (B6.out.trans (((Below.refl w6.heap.size w6).alloc (Nat.le_refl _) (.cells #[.int .i64 0, .int .i64 0] 28)).mono B6.out.size))
  generalize w6.alloc (.cells #[.int .i64 0, .int .i64 0] 28) = w7 at *
  have hp := (HR.out _ B7.out).2.2.2.2.2
  have k0 := fun d os => cell_regrown hp.c0 d os
  have k1 := fun d os => cell_regrown hp.c1 d os
  have hw7 := (HR.out _ B7.out).2.2.2.2.1
  have HW := Lib.hid hw7
  have HT := Lib.hid (fun W (hb : Below w7.heap.size w7 W) => HR.out W (B7.out.trans (hb.mono B7.out.size)))
  have hs : oshow (some (leafT (y1, y2))) = ([40] ++ textOf y1 y2) ++ [41] := by rw [leafT_show]; simp
  have C1 := Lib.hid (fun d os => in_class (w := w7) (v := .int .i64 (-1)) (fun W _ => (rank_any none none W (TAt.none _)).mono fun e w' ⟨he, hw⟩ => ⟨he, by rw [hw]; exact Below.refl _ _⟩) d os)
  have C2 := Lib.hid (fun d os => in_class (w := w7) (v := .int .i64 0) (fun W _ => (size_none W).mono fun e w' ⟨he, hw⟩ => ⟨he, by rw [hw]; exact Below.refl _ _⟩) d os)
  have C3 := Lib.hid (fun d os => in_class (w := w7) (v := .slice none 0 0) (fun W _ => (all_none W).mono fun e w' ⟨he, hw⟩ => ⟨he, by rw [hw]; exact Below.refl _ _⟩) d os)
  have C4 := Lib.hid (fun d os => in_class (w := w7) (v := .slice none 0 0) (fun W _ => (kids_none W).mono fun e w' ⟨he, hw⟩ => ⟨he, by rw [hw]; exact Below.refl _ _⟩) d os)
  have C5 := Lib.hid (fun d os => in_class (w := w7) (v := .slice none 0 0) (fun W _ => (beside_none W).mono fun e w' ⟨he, hw⟩ => ⟨he, by rw [hw]; exact Below.refl _ _⟩) d os)
  have C6 := Lib.hid (fun d os => in_class (w := w7) (v := .bool true) (fun W _ => right_any none none W (TAt.none _) (by decide)) d os)
  have C7 := Lib.hid (fun d os => in_class (w := w7) (v := .string ⟨#[46]⟩) (fun W hb => show_any none none W (HT.out W hb).2.2.2.1 (TAt.none _) (by intro e he; simp [oall] at he) (by decide)) d os)
  have C8 := Lib.hid (fun d os => in_class (w := w7) (v := .pointer none) (fun W _ => (link_left (some mb) none W).mono fun e w' ⟨he, hw⟩ => ⟨he, by rw [hw]; exact Below.refl _ _⟩) d os)
  have C9 := Lib.hid (fun d os => in_class (w := w7) (v := .string (((⟨#[40]⟩ : ByteArray) ++ ⟨(textOf y1 y2).toArray⟩) ++ ⟨#[41]⟩)) (fun W hb => by
    rw [show (⟨#[40]⟩ : ByteArray) = ⟨[40].toArray⟩ from rfl, show (⟨#[41]⟩ : ByteArray) = ⟨[41].toArray⟩ from rfl, append_bytes, append_bytes, ← hs]
    exact show_any pd (some (leafT (y1, y2))) W (HT.out W hb).2.2.2.1 (HT.out W hb).1 (leafT_fits _ HY.out) (Nat.lt_trans (leaf_lt _) (by decide))) d os)
  have C10 := Lib.hid (fun d os => in_class (w := w7) (fun W _ => refText_any y1 y2 HY.out.1 HY.out.2 W) d os)
  have C11 := Lib.hid (fun d os => in_class (w := w7) (v := .int .i64 2) (fun W hb => (size_any pe _ W (HT.out W hb).2.1 (by simp [osize, skw_size, leafT_size])).mono fun e w' ⟨he, hw⟩ => ⟨by rw [he]; simp [osize, skw_size, leafT_size], by rw [hw]; exact Below.refl _ _⟩) d os)
  have C12 := Lib.hid (fun d os => in_class (w := w7) (v := .int .i64 0) (fun W hb => (rank_any pe _ W (HT.out W hb).2.1).mono fun e w' ⟨he, hw⟩ => ⟨by rw [he]; cases hv : ltE (x1, x2) (y1, y2) with
    | true => rw [skw_lt (t := leafT (x1, x2)) hv]; rfl
    | false => rw [skw_ge (t := leafT (x1, x2)) hv]; rfl, by rw [hw]; exact Below.refl _ _⟩) d os)
  have C13 := Lib.hid (fun d os => in_class (w := w7) (v := .int .i64 4) (fun W hb => mSteps mb 1 3 W (HT.out W hb).2.2.1 (by decide) (by decide) (by decide) (by decide)) d os)
  have n1 : ¬ 9223372036854775807 < 1 + (textOf y1 y2).length := by have := textOf_length y1 y2 HY.out.1 HY.out.2; omega
  have n2 : ¬ 9223372036854775807 < 1 + (textOf y1 y2).length + 1 := by have := textOf_length y1 y2 HY.out.1 HY.out.2; omega
  clear hp hw7 B6 B7 HR hs HT
  rw [world_self w7]
  generalize w7.drawn = d0
  generalize (#[] : Array Obj) = os0
  simp only [List.append]
  refine wp_region_class (by kernel_rfl) (by kernel_rfl) ?_
  repeat (go_big_quiet_step (first | (with_reducible exact C1.out _ _) | (with_reducible exact C2.out _ _) | (with_reducible exact C3.out _ _) | (with_reducible exact C4.out _ _) | (with_reducible exact C5.out _ _) | (with_reducible exact C6.out _ _) | (with_reducible exact C7.out _ _) | (with_reducible exact C8.out _ _) | (with_reducible exact C9.out _ _) | (with_reducible exact C10.out _ _) | (with_reducible exact C11.out _ _) | (with_reducible exact C12.out _ _) | (with_reducible exact C13.out _ _)))
  refine quiet_of_run (.bool true) rfl (fun w => exec_eql_ptr 36 73 36 _ _ rfl ⟨ba, 0, none⟩ rfl rfl j0 Tryd.underlying36 HJ.out w) ?_
  simp only [Act.put, List.setIfInBounds_toArray, List.set_cons_zero, List.set_cons_succ]
  repeat (go_big_quiet_step (first | (with_reducible exact C1.out _ _) | (with_reducible exact C2.out _ _) | (with_reducible exact C3.out _ _) | (with_reducible exact C4.out _ _) | (with_reducible exact C5.out _ _) | (with_reducible exact C6.out _ _) | (with_reducible exact C7.out _ _) | (with_reducible exact C8.out _ _) | (with_reducible exact C9.out _ _) | (with_reducible exact C10.out _ _) | (with_reducible exact C11.out _ _) | (with_reducible exact C12.out _ _) | (with_reducible exact C13.out _ _)))
  refine quiet_of_run (.bool true) rfl (fun w => exec_eql_ptr 36 73 36 _ _ rfl ⟨ba, 0, none⟩ rfl rfl j0 Tryd.underlying36 HJ.out w) ?_
  simp only [Act.put, List.setIfInBounds_toArray, List.set_cons_zero, List.set_cons_succ]
  repeat (go_big_quiet_step (first | (with_reducible exact C1.out _ _) | (with_reducible exact C2.out _ _) | (with_reducible exact C3.out _ _) | (with_reducible exact C4.out _ _) | (with_reducible exact C5.out _ _) | (with_reducible exact C6.out _ _) | (with_reducible exact C7.out _ _) | (with_reducible exact C8.out _ _) | (with_reducible exact C9.out _ _) | (with_reducible exact C10.out _ _) | (with_reducible exact C11.out _ _) | (with_reducible exact C12.out _ _) | (with_reducible exact C13.out _ _)))
  refine wpQuiet_nil ?_
  intro _ hw'
  obtain ⟨⟨dq, osq⟩, hw''⟩ := hw'
  subst hw''
  clear C1 C2 C3 C4 C5 C6 C7 C8 C9 C10 C11 C12 C13 k0 k1 n1 n2
  go_wp2
  go_ret
  exact ⟨rfl, HW.out.trans ((below_regrown w7 _ _).mono HW.out.size)⟩

end Go.Proofs.YtlkpmafgokoaiaaDoor
