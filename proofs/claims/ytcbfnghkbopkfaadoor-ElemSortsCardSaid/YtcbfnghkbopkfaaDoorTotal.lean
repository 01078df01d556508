/-
  The walk of the statement ElemTotal: for any three elements it returns true, and nothing that was there has changed, in any world where the library's own variables hold what they were laid as.
-/
import Derived.Test.YtcbfnghkbopkfaaDoorAwake
import Derived.Test.YtcbfnghkbopkfaaDoorKit
namespace Go.Proofs.YtcbfnghkbopkfaaDoor
open Go.Sort Go.RowKit

theorem less_class (w : World) (p q r s : Int) (b : Bool) (hb : ltI p q r s = b) (d : Nat) (os : Array Obj) :
    Calls Tryd.prog 14 #[.agg #[.int .i64 p, .int .i64 q], .agg #[.int .i64 r, .int .i64 s]] (grow (redrawn w d) os) fun e w'' => e = .returned (.bool b) ∧ ∃ x : Regrown, w'' = grow (redrawn w x.d) x.os :=
  in_class (fun W _ => by rw [← hb]; exact less_below p q r s W) d os
theorem compare_class (w : World) (p q r s : Int) (c : Int) (hc : cmpI p q r s = c) (d : Nat) (os : Array Obj) :
    Calls Tryd.prog 16 #[.agg #[.int .i64 p, .int .i64 q], .agg #[.int .i64 r, .int .i64 s]] (grow (redrawn w d) os) fun e w'' => e = .returned (.int .i64 c) ∧ ∃ x : Regrown, w'' = grow (redrawn w x.d) x.os :=
  in_class (fun W _ => by rw [← hc]; exact compare_below p q r s W) d os

/-- How two elements may stand: ahead, behind, or the same. -/
theorem stand (p q r s : Int) : (ltI p q r s = true ∧ ltI r s p q = false ∧ cmpI p q r s = -1 ∧ cmpI r s p q = 1 ∧ (p = r → ¬ q = s)) ∨ (ltI p q r s = false ∧ ltI r s p q = true ∧ cmpI p q r s = 1 ∧ cmpI r s p q = -1 ∧ (p = r → ¬ q = s)) ∨ (p = r ∧ q = s) := by
  by_cases e : p = r ∧ q = s
  · exact Or.inr (Or.inr e)
  · cases h : ltI p q r s
    · have h2 : ltI r s p q = true := by rw [ltI_iff]; rw [ltI_not] at h; omega
      refine Or.inr (Or.inl ⟨rfl, h2, ?_, ?_, fun a b => e ⟨a, b⟩⟩)
      · unfold cmpI; rw [if_neg e, h]; simp
      · unfold cmpI; rw [if_neg (fun x => e ⟨x.1.symm, x.2.symm⟩), h2]; simp
    · have h2 : ltI r s p q = false := by rw [ltI_not]; rw [ltI_iff] at h; omega
      refine Or.inl ⟨rfl, h2, ?_, ?_, fun a b => e ⟨a, b⟩⟩
      · unfold cmpI; rw [if_neg e, h]; simp
      · unfold cmpI; rw [if_neg (fun x => e ⟨x.1.symm, x.2.symm⟩), h2]; simp

set_option maxHeartbeats 2000000 in
set_option maxRecDepth 100000 in
/-- The two first elements are not the same: b1 says whether the first stands ahead. -/
theorem total_ne (p q r s t u : Int) (b1 b2 b3 b4 : Bool) (c1 c2 : Int) (hk : (b1 = true ∧ b2 = false ∧ c1 = -1 ∧ c2 = 1 ∧ b3 = true ∧ b4 = true) ∨ (b1 = true ∧ b2 = false ∧ c1 = -1 ∧ c2 = 1 ∧ b3 = false) ∨ (b1 = false ∧ b2 = true ∧ c1 = 1 ∧ c2 = -1)) (h1 : ltI p q r s = b1) (h2 : ltI r s p q = b2) (hc1 : cmpI p q r s = c1) (hc2 : cmpI r s p q = c2) (hne : p = r → ¬ q = s) (h3 : ltI r s t u = b3) (h4 : ltI p q t u = b4) (w : World) (he : Env w) :
    Calls Tryd.prog 5 #[.agg #[.int .i64 p, .int .i64 q], .agg #[.int .i64 r, .int .i64 s], .agg #[.int .i64 t, .int .i64 u]] w fun e w' => e = .returned (.bool true) ∧ Below w.heap.size w w' := by
  have hz : ltI p q p q = false := by rw [ltI_not]; omega
  have H1 := Lib.hid (fun w => less_class w p q r s _ h1)
  have H2 := Lib.hid (fun w => less_class w r s p q _ h2)
  have H3 := Lib.hid (fun w => less_class w p q p q _ hz)
  have H4 := Lib.hid (fun w => compare_class w p q r s _ hc1)
  have H5 := Lib.hid (fun w => compare_class w r s p q _ hc2)
  have H6 := Lib.hid (fun w => less_class w r s t u _ h3)
  have H7 := Lib.hid (fun w => less_class w p q t u _ h4)
  have hE : ∀ W, Below w.heap.size w W → Env W := fun W hb => he.below hb
  have HE := Lib.hid hE
  clear he hE h1 h2 hc1 hc2 hz h3 h4
  rcases hk with ⟨rfl, rfl, rfl, rfl, rfl, rfl⟩ | ⟨rfl, rfl, rfl, rfl, rfl⟩ | ⟨rfl, rfl, rfl, rfl⟩ <;> by_cases e1 : p = r
  all_goals
    (try (subst e1; have e2 := hne rfl))
    clear hne
    go_enter Tryd.func5, Tryd.ntmps5
    go_wp2_with fail
    ((with_reducible refine (awake_any _ (HE.out _ ((((Below.refl w.heap.size w).alloc (Nat.le_refl _) _).alloc (by simp) _).alloc (by simp; omega) _))).mono ?_); rintro e w1 ⟨rfl, hb1⟩)
    obtain ⟨pa, pb, pc, hw1⟩ := trio hb1
    have HW1 := Lib.hid hw1
    have ka0 := fun d os => cell_regrown pa.1 d os
    have ka1 := fun d os => cell_regrown pa.2.1 d os
    have kb0 := fun d os => cell_regrown pb.1 d os
    have kb1 := fun d os => cell_regrown pb.2.1 d os
    have kc0 := fun d os => cell_regrown pc.1 d os
    have kc1 := fun d os => cell_regrown pc.2.1 d os
    clear pa pb pc hw1 hb1
    rw [world_self w1]
    generalize w1.drawn = d0
    generalize (#[] : Array Obj) = os0
    go_wp2_with (first | (go_at_call 14; ((with_reducible refine (H1.out w1 _ _).mono ?_); rintro e w' ⟨rfl, ⟨d, os⟩, rfl⟩)) | (go_at_call 14; ((with_reducible refine (H2.out w1 _ _).mono ?_); rintro e w' ⟨rfl, ⟨d, os⟩, rfl⟩)))
    refine wp_region_class (by kernel_rfl) (by kernel_rfl) ?_
    repeat (go_big_quiet_step (first | (with_reducible exact H1.out w1 _ _) | (with_reducible exact H2.out w1 _ _) | (with_reducible exact H3.out w1 _ _) | (with_reducible exact H4.out w1 _ _) | (with_reducible exact H5.out w1 _ _)))
    refine wpQuiet_nil ?_
    intro _ hw'
    obtain ⟨⟨dq, osq⟩, hw''⟩ := hw'
    subst hw''
    go_wp2_with (first | (go_at_call 14; ((with_reducible refine (H1.out w1 _ _).mono ?_); rintro e w' ⟨rfl, ⟨d, os⟩, rfl⟩)) | (go_at_call 14; ((with_reducible refine (H6.out w1 _ _).mono ?_); rintro e w' ⟨rfl, ⟨d, os⟩, rfl⟩)) | (go_at_call 14; ((with_reducible refine (H7.out w1 _ _).mono ?_); rintro e w' ⟨rfl, ⟨d, os⟩, rfl⟩)))
    go_ret
    exact ⟨rfl, HW1.out.trans ((below_regrown w1 _ _).mono HW1.out.size)⟩

set_option maxHeartbeats 2000000 in
set_option maxRecDepth 100000 in
/-- The two first elements are the same. -/
theorem total_eq (p q t u : Int) (w : World) (he : Env w) :
    Calls Tryd.prog 5 #[.agg #[.int .i64 p, .int .i64 q], .agg #[.int .i64 p, .int .i64 q], .agg #[.int .i64 t, .int .i64 u]] w fun e w' => e = .returned (.bool true) ∧ Below w.heap.size w w' := by
  have hz : ltI p q p q = false := by rw [ltI_not]; omega
  have hc : cmpI p q p q = 0 := by simp [cmpI]
  have H3 := Lib.hid (fun w => less_class w p q p q _ hz)
  have H4 := Lib.hid (fun w => compare_class w p q p q _ hc)
  have hE : ∀ W, Below w.heap.size w W → Env W := fun W hb => he.below hb
  have HE := Lib.hid hE
  clear he hE hz hc
  go_enter Tryd.func5, Tryd.ntmps5
  go_wp2_with fail
  ((with_reducible refine (awake_any _ (HE.out _ ((((Below.refl w.heap.size w).alloc (Nat.le_refl _) _).alloc (by simp) _).alloc (by simp; omega) _))).mono ?_); rintro e w1 ⟨rfl, hb1⟩)
  obtain ⟨pa, pb, pc, hw1⟩ := trio hb1
  have HW1 := Lib.hid hw1
  have ka0 := fun d os => cell_regrown pa.1 d os
  have ka1 := fun d os => cell_regrown pa.2.1 d os
  have kb0 := fun d os => cell_regrown pb.1 d os
  have kb1 := fun d os => cell_regrown pb.2.1 d os
  clear pa pb pc hw1 hb1
  rw [world_self w1]
  generalize w1.drawn = d0
  generalize (#[] : Array Obj) = os0
  go_wp2_with (go_at_call 14; ((with_reducible refine (H3.out w1 _ _).mono ?_); rintro e w' ⟨rfl, ⟨d, os⟩, rfl⟩))
  refine wp_region_class (by kernel_rfl) (by kernel_rfl) ?_
  repeat (go_big_quiet_step (first | (with_reducible exact H3.out w1 _ _) | (with_reducible exact H4.out w1 _ _)))
  refine wpQuiet_nil ?_
  intro _ hw'
  obtain ⟨⟨dq, osq⟩, hw''⟩ := hw'
  subst hw''
  go_wp2_with (go_at_call 14; ((with_reducible refine (H3.out w1 _ _).mono ?_); rintro e w' ⟨rfl, ⟨d, os⟩, rfl⟩))
  go_ret
  exact ⟨rfl, HW1.out.trans ((below_regrown w1 _ _).mono HW1.out.size)⟩

theorem total_any (p q r s t u : Int) (w : World) (he : Env w) :
    Calls Tryd.prog 5 #[.agg #[.int .i64 p, .int .i64 q], .agg #[.int .i64 r, .int .i64 s], .agg #[.int .i64 t, .int .i64 u]] w fun e w' => e = .returned (.bool true) ∧ Below w.heap.size w w' := by
  rcases stand p q r s with ⟨h1, h2, c1, c2, hne⟩ | ⟨h1, h2, c1, c2, hne⟩ | ⟨rfl, rfl⟩
  · cases h3 : ltI r s t u
    · exact total_ne p q r s t u true false false _ _ _ (Or.inr (Or.inl ⟨rfl, rfl, rfl, rfl, rfl⟩)) h1 h2 c1 c2 hne h3 rfl w he
    · have h4 : ltI p q t u = true := by rw [ltI_iff] at *; omega
      exact total_ne p q r s t u true false true true _ _ (Or.inl ⟨rfl, rfl, rfl, rfl, rfl, rfl⟩) h1 h2 c1 c2 hne h3 h4 w he
  · exact total_ne p q r s t u false true _ _ _ _ (Or.inr (Or.inr ⟨rfl, rfl, rfl, rfl⟩)) h1 h2 c1 c2 hne rfl rfl w he
  · exact total_eq p q t u w he

end Go.Proofs.YtcbfnghkbopkfaaDoor
