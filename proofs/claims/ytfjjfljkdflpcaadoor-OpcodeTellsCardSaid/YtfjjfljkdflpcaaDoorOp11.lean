/-
  The document's example: awake returns true, and nothing that was there has changed, in any world where the program's table holds what its text lays.
-/
import Derived.Test.YtfjjfljkdflpcaaDoorOp3
import Derived.Test.YtfjjfljkdflpcaaDoorOp9
namespace Go.Proofs.YtfjjfljkdflpcaaDoor
open Go.Sort Go.RowKit

/-- A script of one operation in memory. -/
theorem ops_one {w : World} {B : Option Addr} {k c : Nat} {ps : List OpV} {x : OpD} (h : OpsAt w B k c ps [x]) : k = 1 ∧ ∃ b o A m, B = some ⟨b, o, none⟩ ∧ w.cell? ⟨b, o, none⟩ = some (.int .i64 x.code) ∧ w.cell? ⟨b, o + 1, none⟩ = some (.slice A x.args.length m) ∧ Row1 nm w A x.args := by
  have h1 := h.tells.length
  match ps, h, h1 with
  | [p], h, _ =>
    obtain ⟨b, o, e, hc⟩ := h.row (by simp)
    have h2 := hc 0 (by simp)
    have h3 := h.tells.1
    simp only [List.getElem_cons_zero, Nat.zero_mul, Nat.add_zero] at h2
    rw [h3.code, h3.n] at h2
    exact ⟨h.n, b, o, p.A, p.c, e, h2.1, h2.2, h3.row⟩

theorem rd_new (w : World) (ys : List Int) (h : ys.length < 1000) : RdN (w.alloc (.cells (ys.map nm).toArray 2)) (some ⟨w.heap.size, 0, none⟩) ys.length ys.length ys :=
  ⟨rfl, row_new w ys _, Nat.le_refl _, by omega, fun e => by cases e⟩

theorem p1 : parse [5, 1, 1, 3] = ⟨0, 5, [⟨1, [3]⟩]⟩ := by rfl
theorem p2 : parse [5, 1, 1] = ⟨11, 0, []⟩ := by rfl
theorem p3 : parse [65] = ⟨1, 0, []⟩ := by rfl
theorem t20 : toldV 20 = 3 := by decide
theorem t21 : decide (0 ≤ toldN 20) = true := by decide

theorem pa (w : World) (m : Nat) (hm : w.heap.size = m) : Calls Tryd.prog 7 #[.slice (some ⟨m, 0, none⟩) 4 4] (w.alloc (.cells #[.int .i64 5, .int .i64 1, .int .i64 1, .int .i64 3] 2)) (ParsePost ⟨0, 5, [⟨1, [3]⟩]⟩ (w.alloc (.cells #[.int .i64 5, .int .i64 1, .int .i64 1, .int .i64 3] 2))) := by
  have h := parse_any (rd_new w [5, 1, 1, 3] (by decide)) (by decide)
  rw [p1] at h
  subst hm
  exact h
theorem pb (w : World) (m : Nat) (hm : w.heap.size = m) : Calls Tryd.prog 7 #[.slice (some ⟨m, 0, none⟩) 3 3] (w.alloc (.cells #[.int .i64 5, .int .i64 1, .int .i64 1] 2)) (ParsePost ⟨11, 0, []⟩ (w.alloc (.cells #[.int .i64 5, .int .i64 1, .int .i64 1] 2))) := by
  have h := parse_any (rd_new w [5, 1, 1] (by decide)) (by decide)
  rw [p2] at h
  subst hm
  exact h
theorem pc (w : World) (m : Nat) (hm : w.heap.size = m) : Calls Tryd.prog 7 #[.slice (some ⟨m, 0, none⟩) 1 1] (w.alloc (.cells #[.int .i64 65] 2)) (ParsePost ⟨1, 0, []⟩ (w.alloc (.cells #[.int .i64 65] 2))) := by
  have h := parse_any (rd_new w [65] (by decide)) (by decide)
  rw [p3] at h
  subst hm
  exact h
theorem args20 (w : World) (he : Env w) : Calls Tryd.prog 9 #[.int .i64 20] w fun e w' => e = .returned (.tuple #[.int .i64 3, .bool true]) ∧ w' = w := by
  have h := args_any 20 w he
  rw [t20, t21] at h
  exact h
/-- A row that is read beside the four numbers: the same. -/
theorem same4 (w : World) (m : Nat) (hm : w.heap.size = m) {A : Option Addr} {n c : Nat} (h : RdN w A n c [5, 1, 1, 3]) : Calls Tryd.prog 11 #[.slice A n c, .slice (some ⟨m, 0, none⟩) 4 4] (w.alloc (.cells #[.int .i64 5, .int .i64 1, .int .i64 1, .int .i64 3] 2)) fun e w' => e = .returned (.bool true) ∧ Below (w.alloc (.cells #[.int .i64 5, .int .i64 1, .int .i64 1, .int .i64 3] 2)).heap.size (w.alloc (.cells #[.int .i64 5, .int .i64 1, .int .i64 1, .int .i64 3] 2)) w' := by
  have h1 := same_any (A := A) (B := some ⟨w.heap.size, 0, none⟩) (xs := [5, 1, 1, 3]) (ys := [5, 1, 1, 3]) (n := n) (m := 4) (c := c) (d := 4) (w := w.alloc (.cells #[.int .i64 5, .int .i64 1, .int .i64 1, .int .i64 3] 2)) h.1 rfl (h.2.1.stay ((Below.refl _ _).alloc (Nat.le_refl _) _)) (row_new w [5, 1, 1, 3] 2) (by have := h.1; simp at this; omega)
  rw [show decide (([5, 1, 1, 3] : List Int) = [5, 1, 1, 3]) = true by decide] at h1
  subst hm
  exact h1

set_option maxRecDepth 100000 in
set_option maxHeartbeats 8000000 in
theorem awake_any (w : World) (he : Env w) : Calls Tryd.prog 6 #[] w fun e w' => e = .returned (.bool true) ∧ Below w.heap.size w w' := by
  have HE := Lib.hid he
  have B0 := Lib.hid ((Below.refl w.heap.size w).alloc (Nat.le_refl _) (.cells #[.int .i64 5, .int .i64 1, .int .i64 1, .int .i64 3] 2))
  clear he
  go_enter Tryd.func6, Tryd.ntmps6
  go_wp2_with fail
  ((with_reducible refine (pa _ _ rfl).mono ?_); rintro e w1 ⟨B, k, c, ps, rfl, ho, hb⟩)
  have b1 := B0.out.trans (hb.mono B0.out.size)
  have ba1 := b1.alloc b1.size (.cells #[.int .i64 5, .slice B k c] 25)
  have BA1 := Lib.hid (ba1.alloc ba1.size (.cells #[.int .i64 5, .int .i64 1, .int .i64 1] 2))
  have sh1 := (Below.refl w1.heap.size w1).alloc (Nat.le_refl _) (.cells #[.int .i64 5, .slice B k c] 25)
  have sh2 := sh1.alloc sh1.size (.cells #[.int .i64 5, .int .i64 1, .int .i64 1] 2)
  have O1 := Lib.hid (ho.stay sh2)
  have T1 := Lib.hid ((Two.new 25 w1 (.int .i64 5) (.slice B k c)).alloc (.cells #[.int .i64 5, .int .i64 1, .int .i64 1] 2))
  clear ho hb b1 ba1 sh1 sh2
  go_wp2_with fail
  ((with_reducible refine (pb _ _ (by simp)).mono ?_); rintro e w2 ⟨B2, k2, c2, ps2, rfl, -, hb⟩)
  have b2 := BA1.out.trans (hb.mono BA1.out.size)
  have ba2 := b2.alloc b2.size (.cells #[.int .i64 0, .slice B2 k2 c2] 25)
  have BA2 := Lib.hid (ba2.alloc ba2.size (.cells #[.int .i64 65] 2))
  have sh1 := hb.alloc hb.size (.cells #[.int .i64 0, .slice B2 k2 c2] 25)
  have sh2 := sh1.alloc sh1.size (.cells #[.int .i64 65] 2)
  have O2 := Lib.hid (O1.out.stay sh2)
  have T2 := Lib.hid (T1.out.stay sh2)
  clear hb b2 ba2 sh1 sh2 O1 T1
  go_wp2_with fail
  ((with_reducible refine (pc _ _ (by simp)).mono ?_); rintro e w3 ⟨B3, k3, c3, ps3, rfl, -, hb⟩)
  have b3 := BA2.out.trans (hb.mono BA2.out.size)
  have ba3 := b3.alloc b3.size (.cells #[.int .i64 0, .slice B3 k3 c3] 25)
  have BA3 := Lib.hid ba3
  have sh1 := hb.alloc hb.size (.cells #[.int .i64 0, .slice B3 k3 c3] 25)
  have O3 := Lib.hid (O2.out.stay sh1)
  have T3 := Lib.hid (T2.out.stay sh1)
  have E3 := Lib.hid (HE.out.below ba3)
  clear hb b3 ba3 sh1 O2 T2 BA1 BA2
  go_wp2_with fail
  ((with_reducible refine (args20 _ E3.out).mono ?_); rintro e w4 ⟨rfl, rfl⟩)
  obtain ⟨hk, b, o, A, m, hB, q0, q1, hrow⟩ := ops_one O3.out
  subst hk
  subst hB
  obtain ⟨b', o', hA, hc⟩ := hrow (by simp)
  have q2 := hc 0 (by simp)
  subst hA
  simp only [List.getElem_cons_zero, Nat.add_zero, nm_def, List.length_cons, List.length_nil, Nat.zero_add] at q0 q1 q2
  have t0 := T3.out.c0
  have t1 := T3.out.c1
  clear hc hrow
  go_wp2_with fail
  ((with_reducible refine (build_any (r := 5) O3.out (by decide) (by decide)).mono ?_); rintro e w5 ⟨A5, n5, c5, rfl, hr5, hb5⟩)
  have b5 := BA3.out.trans (hb5.mono BA3.out.size)
  have B5 := Lib.hid (b5.alloc b5.size (.cells #[.int .i64 5, .int .i64 1, .int .i64 1, .int .i64 3] 2))
  have R5 := Lib.hid (show RdN w5 A5 n5 c5 [5, 1, 1, 3] from hr5)
  clear hb5 b5 hr5
  go_wp2_with fail
  ((with_reducible refine (same4 _ _ (by simp) R5.out).mono ?_); rintro e w6 ⟨rfl, hb6⟩)
  have B6 := Lib.hid (B5.out.trans (hb6.mono B5.out.size))
  clear hb6
  go_wp2_with fail
  go_ret
  exact ⟨rfl, B6.out⟩

end Go.Proofs.YtfjjfljkdflpcaaDoor
