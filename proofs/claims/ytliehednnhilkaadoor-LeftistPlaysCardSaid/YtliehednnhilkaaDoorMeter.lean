/-
  Contracts of package meter, for a meter at a block (its two counts) and for none (nil): what each method returns, what the counts are behind it, and that nothing else that was there has changed. Conditions: a count that is added to stays below 2 to the 62nd.
-/
import Derived.Test.YtliehednnhilkaaDoorLess
import Derived.Test.YtliehednnhilkaaDoorBut
import Derived.Laws.LoneSync
namespace Go.Proofs.YtliehednnhilkaaDoor
open Go.Sort Go.RowKit

/-- A meter's address. -/
abbrev at0 (b : Nat) : Value := .pointer (some ⟨b, 0, none⟩)

theorem new_any (w : World) : Calls Tryd.prog 16 #[] w fun e w' =>
    e = .returned (at0 w.heap.size) ∧ w' = w.alloc (.cells #[.int .i64 0, .int .i64 0] 77) := by
  go_enter Tryd.func16, Tryd.ntmps16
  go_wp2
  go_ret
  exact ⟨rfl, rfl⟩

theorem load_any (b off : Nat) (v : Int) (w : World) (h : w.cell? ⟨b, off, none⟩ = some (.int .i64 v)) : Calls Tryd.prog 50 #[.pointer (some ⟨b, off, none⟩)] w fun e w' =>
    e = .returned (.int .i64 v) ∧ w' = w := by
  have hl := run_call_load (P := Tryd.prog) Tryd.func56 (by kernel_rfl) (by kernel_rfl) (by kernel_rfl) .i64 (by kernel_rfl) h
  go_enter Tryd.func50, Tryd.ntmps50
  go_wp2
  go_ret
  exact ⟨rfl, rfl⟩

theorem add_any (b off : Nat) (v d : Int) (w : World) (h : w.cell? ⟨b, off, none⟩ = some (.int .i64 v)) (hz : w.frozen? ⟨b, off, none⟩ = false) (h0 : 0 ≤ v + d) (h1 : v + d < 9223372036854775808) : Calls Tryd.prog 48 #[.pointer (some ⟨b, off, none⟩), .int .i64 d] w fun e w' =>
    e = .returned (.int .i64 (v + d)) ∧ w' = w.setCell ⟨b, off, none⟩ (.int .i64 (v + d)) := by
  have hs : (Op.intArith .add .i64 v d).run Tryd.prog w = .ok (.int .i64 (v + d)) w := by
    simp [go_sem, IntKind.wrap_i64]; omega
  have hl := run_call_add (P := Tryd.prog) Tryd.func55 (by kernel_rfl) (by kernel_rfl) (by kernel_rfl) .i64 (by kernel_rfl) h hz hs
  clear hs h0 h1
  go_enter Tryd.func48, Tryd.ntmps48
  go_wp2
  go_ret
  exact ⟨rfl, rfl⟩

/-- Two elements that were boxed, and a meter that was there, behind a call that turned the meter's block alone. -/
theorem duo_but {w w1 : World} {b : Nat} {c m c' m' p q r s : Int} {t : TypeId} (hm : PairAt w b c m) (hb : But b ((w.alloc (.cells #[.int .i64 p, .int .i64 q] t)).alloc (.cells #[.int .i64 r, .int .i64 s] t)) w1) (_ : PairAt w1 b c' m') :
    PairAt w1 w.heap.size p q ∧ PairAt w1 (w.heap.size + 1) r s ∧ But b w w1 := by
  have hlt := hm.2.2.2.2
  obtain ⟨pa, pb, _⟩ := duo (w := w) (p := p) (q := q) (r := r) (s := s) (t := t) (Below.refl _ _)
  exact ⟨hb.pair pa (by omega), hb.pair pb (by omega), (((But.refl b w).alloc _).alloc _).trans hb⟩

set_option maxHeartbeats 1000000 in
/-- Less, by a meter: it counts one comparison more. -/
theorem mless_any (b : Nat) (c m p q r s : Int) (w : World) (h : PairAt w b c m) (h0 : 0 ≤ c) (h1 : c < 4611686018427387904) : Calls Tryd.prog 39 #[at0 b, .agg #[.int .i64 p, .int .i64 q], .agg #[.int .i64 r, .int .i64 s]] w fun e w' =>
    e = .returned (.bool (ltI p q r s)) ∧ PairAt w' b (c + 1) m ∧ But b w w' := by
  have H := Lib.hid h
  have H0 := Lib.hid h0
  have H1 := Lib.hid h1
  clear h h0 h1
  go_enter Tryd.func39, Tryd.ntmps39
  go_wp2_with fail
  ((with_reducible refine (add_any b 0 c 1 _ (PairAt.c0 (((H.out).alloc _).alloc _)) (PairAt.z0 (((H.out).alloc _).alloc _)) (by have := H0.out; omega) (by have := H1.out; omega)).mono ?_); rintro e w1 ⟨rfl, hw1⟩)
  have hm1 : PairAt w1 b (c + 1) m := by rw [hw1]; exact (((H.out).alloc _).alloc _).set0 _
  have hb1 : But b ((w.alloc (.cells #[.int .i64 p, .int .i64 q] 32)).alloc (.cells #[.int .i64 r, .int .i64 s] 32)) w1 := by rw [hw1]; exact But.set _ _ _ _
  obtain ⟨⟨a0, a1, -, -, -⟩, ⟨c0, c1, -, -, -⟩, hw⟩ := duo_but H.out hb1 hm1
  have HM := Lib.hid hm1
  have HW := Lib.hid hw
  clear hw1 hm1 hb1 hw H H0 H1
  go_wp2_with fail
  ((with_reducible refine (less_below _ _ _ _ _).mono ?_); rintro e w2 ⟨rfl, hb2⟩)
  clear a0 a1 c0 c1
  go_wp2
  go_ret
  exact ⟨rfl, HM.out.below hb2 HM.out.2.2.2.2, HW.out.trans (But.ofBelow hb2)⟩

set_option maxHeartbeats 1000000 in
/-- Less, by no meter: it counts nothing. -/
theorem mless_none (p q r s : Int) (w : World) : Calls Tryd.prog 39 #[.pointer none, .agg #[.int .i64 p, .int .i64 q], .agg #[.int .i64 r, .int .i64 s]] w fun e w' =>
    e = .returned (.bool (ltI p q r s)) ∧ Below w.heap.size w w' := by
  go_enter Tryd.func39, Tryd.ntmps39
  go_wp2_with fail
  ((with_reducible refine (less_below _ _ _ _ _).mono ?_); rintro e w2 ⟨rfl, hb2⟩)
  obtain ⟨-, -, hw⟩ := duo hb2
  have HW := Lib.hid hw
  clear hb2 hw
  go_wp2
  go_ret
  exact ⟨rfl, HW.out⟩

set_option maxHeartbeats 1000000 in
/-- Made, by a meter: it counts so many things more, none if n is below 1. -/
theorem made_any (b : Nat) (c m n : Int) (w : World) (h : PairAt w b c m) (h0 : 0 ≤ m) (h1 : m + n < 9223372036854775808) : Calls Tryd.prog 47 #[at0 b, .int .i64 n] w fun e w' =>
    e = .returned (.tuple #[]) ∧ PairAt w' b c (m + max n 0) ∧ But b w w' := by
  by_cases hn : n < 1
  · rw [show m + max n 0 = m by omega]
    have hd : decide (n < 1) = true := by simpa using hn
    have H := Lib.hid h
    clear h h0 h1 hn
    go_enter Tryd.func47, Tryd.ntmps47
    go_wp2_with fail
    first | go_end0 | refine bodyPost_ret (results_none rfl _ _ _) rfl ?_
    exact ⟨rfl, H.out, But.refl _ _⟩
  · rw [show m + max n 0 = m + n by omega]
    have hd : decide (n < 1) = false := by simpa using hn
    have H := Lib.hid h
    have H0 := Lib.hid (show 0 ≤ m + n by omega)
    have H1 := Lib.hid h1
    clear h h0 h1 hn
    go_enter Tryd.func47, Tryd.ntmps47
    go_wp2_with fail
    ((with_reducible refine (add_any b 1 m n _ H.out.c1 H.out.z1 H0.out H1.out).mono ?_); rintro e w1 ⟨rfl, hw1⟩)
    have hm1 : PairAt w1 b c (m + n) := by rw [hw1]; exact H.out.set1 _
    have hb1 : But b w w1 := by rw [hw1]; exact But.set _ _ _ _
    have HM := Lib.hid hm1
    have HW := Lib.hid hb1
    clear hw1 hm1 hb1 H H0 H1
    go_wp2
    first | go_end0 | refine bodyPost_ret (results_none rfl _ _ _) rfl ?_
    exact ⟨rfl, HM.out, HW.out⟩

/-- Made, by no meter. -/
theorem made_none (n : Int) (w : World) : Calls Tryd.prog 47 #[.pointer none, .int .i64 n] w fun e w' => e = .returned (.tuple #[]) ∧ w' = w := by
  go_enter Tryd.func47, Tryd.ntmps47
  go_wp2_with fail
  first | go_end0 | refine bodyPost_ret (results_none rfl _ _ _) rfl ?_
  exact ⟨rfl, rfl⟩

set_option maxHeartbeats 1000000 in
/-- Split: both counts. -/
theorem split_any (b : Nat) (c m : Int) (w : World) (h : PairAt w b c m) : Calls Tryd.prog 41 #[at0 b] w fun e w' =>
    e = .returned (.tuple #[.int .i64 c, .int .i64 m]) ∧ Below w.heap.size w w' := by
  have H1 := Lib.hid (fun d os => Calls.regrown_of ((load_any b 0 c (grow (redrawn w d) os) (h.regrown d os).1).mono fun _ _ ⟨a, e⟩ => ⟨a, by rw [e]; exact Below.refl _ _⟩))
  have H2 := Lib.hid (fun d os => Calls.regrown_of ((load_any b 1 m (grow (redrawn w d) os) (h.regrown d os).2.1).mono fun _ _ ⟨a, e⟩ => ⟨a, by rw [e]; exact Below.refl _ _⟩))
  clear h
  go_enter Tryd.func41, Tryd.ntmps41
  go_wp2_with fail
  rw [world_self w]
  generalize hd0 : w.drawn = d0
  generalize ho0 : (#[] : Array Obj) = os0
  refine wp_region_class (by kernel_rfl) (by kernel_rfl) ?_
  repeat (go_big_quiet_step (first | (with_reducible exact H1.out _ _) | (with_reducible exact H2.out _ _)))
  refine wpQuiet_nil ?_
  intro _ hw'
  obtain ⟨⟨dq, osq⟩, hw''⟩ := hw'
  subst hw''
  go_wp2
  go_ret2
  exact ⟨rfl, below_regrown w _ _⟩

/-- Split, of no meter. -/
theorem split_none (w : World) : Calls Tryd.prog 41 #[.pointer none] w fun e w' =>
    e = .returned (.tuple #[.int .i64 0, .int .i64 0]) ∧ w' = w := by
  go_enter Tryd.func41, Tryd.ntmps41
  go_wp2_with fail
  go_ret2
  exact ⟨rfl, rfl⟩

set_option maxHeartbeats 1000000 in
/-- Steps: both counts together. -/
theorem steps_any (b : Nat) (c m : Int) (w : World) (h : PairAt w b c m) (h0 : -9223372036854775808 ≤ c + m) (h1 : c + m < 9223372036854775808) : Calls Tryd.prog 25 #[at0 b] w fun e w' =>
    e = .returned (.int .i64 (c + m)) ∧ Below w.heap.size w w' := by
  have H := Lib.hid h
  clear h
  go_enter Tryd.func25, Tryd.ntmps25
  go_wp2_with fail
  ((with_reducible refine (split_any b c m _ H.out).mono ?_); rintro e w1 ⟨rfl, hb1⟩)
  have HB := Lib.hid hb1
  clear hb1
  go_wp2
  go_ret
  exact ⟨rfl, HB.out⟩

theorem steps_none (w : World) : Calls Tryd.prog 25 #[.pointer none] w fun e w' => e = .returned (.int .i64 0) ∧ w' = w := by
  go_enter Tryd.func25, Tryd.ntmps25
  go_wp2_with fail
  ((with_reducible refine (split_none _).mono ?_); rintro e w1 ⟨rfl, rfl⟩)
  go_wp2
  go_ret
  exact ⟨rfl, rfl⟩

end Go.Proofs.YtliehednnhilkaaDoor
