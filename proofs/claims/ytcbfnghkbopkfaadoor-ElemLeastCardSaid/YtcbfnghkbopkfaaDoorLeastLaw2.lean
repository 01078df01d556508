/-
  The walk of the statement ElemLeast: for any two rows of elements it returns true, and nothing that was there has changed, in any world where the library's own variables hold what they were laid as.
-/
import Derived.Test.YtcbfnghkbopkfaaDoorLeastLaw
namespace Go.Proofs.YtcbfnghkbopkfaaDoor
open Go.Sort Go.RowKit

set_option maxHeartbeats 1000000 in
theorem leastLaw_long (A B : Option Addr) (na nb ca cb : Nat) (w : World) (he : Env w) (h : 60 < na ∨ (na ≤ 60 ∧ 60 < nb)) (ha : na ≤ 9223372036854775807) (hb : nb ≤ 9223372036854775807) :
    Calls Tryd.prog 7 #[.slice A na ca, .slice B nb cb] w fun e w' => e = .returned (.bool true) ∧ Below w.heap.size w w' := by
  rcases h with h | ⟨h, h2⟩
  all_goals
    go_enter Tryd.func7, Tryd.ntmps7
    go_wp2_with fail
    ((with_reducible refine (awake_any _ he).mono ?_); rintro e w1 ⟨rfl, hb1⟩)
    go_wp2_with fail
    go_ret
    exact ⟨rfl, hb1⟩

/-- What holds at each round's head. -/
def MetRel (l : List (Int × Int)) (z : Int × Int) (w7 : World) (met i : Value) (wr : World) : Prop :=
  ∃ k : Nat, k ≤ l.length ∧ i = .int .i64 k ∧ met = .bool (metB l z k) ∧ ∃ p : Regrown, wr = grow (redrawn w7 p.d) p.os

set_option maxHeartbeats 2000000 in
set_option maxRecDepth 100000 in
theorem leastLaw_none (A B : Option Addr) (a b : List (Int × Int)) (na nb n3 ca cb : Nat) (pb qb rb : Bool) (x y z : Int × Int) (w : World) (he : Env w)
    (hna : na = a.length) (hnb : nb = b.length) (hn3 : n3 = (a ++ b).length) (ha : na ≤ 60) (hb : nb ≤ 60)
    (hA : Row w A a) (hB : Row w B b) (hA0 : A = none → ca = 0) (hB0 : B = none → cb = 0) (hca : na ≤ ca ∧ ca ≤ 9223372036854775807) (hcb : nb ≤ cb ∧ cb ≤ 9223372036854775807)
    (va : leastV a = .tuple #[.agg #[.int .i64 x.1, .int .i64 x.2], .bool pb]) (vb : leastV b = .tuple #[.agg #[.int .i64 y.1, .int .i64 y.2], .bool qb]) (vz : leastV (a ++ b) = .tuple #[.agg #[.int .i64 z.1, .int .i64 z.2], .bool rb])
    (hin : (a ++ b) ≠ [] → z ∈ a ++ b) (hno : ∀ e ∈ a ++ b, ltE e z = false)
    (hk : na = 0 ∧ nb = 0 ∧ n3 = 0 ∧ pb = false ∧ qb = false ∧ rb = false) :
    Calls Tryd.prog 7 #[.slice A na ca, .slice B nb cb] w fun e w' => e = .returned (.bool true) ∧ Below w.heap.size w w' := by
  have h60 : decide ((60 : Int) < (na : Int)) = false := by simp; omega
  have h61 : decide ((60 : Int) < (nb : Int)) = false := by simp; omega
  have CA := Lib.hid (fun W (hr : Row W A a) => va ▸ least_any A a ca W (by omega) (by omega) hca.2 hr)
  have CB := Lib.hid (fun W (hr : Row W B b) => vb ▸ least_any B b cb W (by omega) (by omega) hcb.2 hr)
  have CZ := Lib.hid (fun A3 c3 W (h1 : (a ++ b).length ≤ c3) (h2 : c3 ≤ 9223372036854775807) (hr : Row W A3 (a ++ b)) => vz ▸ least_any A3 (a ++ b) c3 W (by rw [List.length_append]; omega) h1 h2 hr)
  rw [← hna] at CA
  rw [← hnb] at CB
  rw [← hn3] at CZ
  have HA := Lib.hid hA
  have HB := Lib.hid hB
  have HL := Lib.hid (And.intro hna (And.intro hnb hn3))
  have HIN := Lib.hid (And.intro hin hno)
  have HN := Lib.hid (And.intro hA0 hB0)
  have HE := Lib.hid he
  clear va vb vz hA hB hna hnb hn3 hin hno hA0 hB0 he
  obtain ⟨rfl, rfl, rfl, rfl, rfl, rfl⟩ := hk
  go_enter Tryd.func7, Tryd.ntmps7
  go_wp2_with fail
  ((with_reducible refine (awake_any _ HE.out).mono ?_); rintro e w1 ⟨rfl, hb1⟩)
  obtain ⟨hna, hnb, hn3⟩ := HL.out
  obtain ⟨v1, w2, run1, own1, gr1⟩ := append_row w1 w1.heap.size (.slice none 0 0) [] a A ca (Own.none _ _) (HA.out.below hb1) HN.out.1 (by simp; omega) (Nat.le_refl _)
  rw [List.nil_append] at own1
  have hb2 := below_grown (Below.refl w1.heap.size w1) gr1 (Nat.le_refl _) (fun g hg => by simp [Value.ownBlock] at hg)
  obtain ⟨v2, w3, run2, own2, gr2⟩ := append_row w2 w1.heap.size v1 a b B cb own1 ((HB.out.below hb1).below hb2) HN.out.2 (by omega) hb2.size
  have hb3 := below_grown hb2 gr2 hb2.size own1.block
  obtain ⟨A3, c3, hv2, row3, hc3, hc3m, -⟩ := own2.form
  subst hv2
  rw [← hna] at run1
  rw [← hnb] at run2
  rw [← hn3] at run2 hc3
  have hw3 := hb1.trans (hb3.mono hb1.size)
  have rowA := (HA.out.below hb1).below hb3
  have rowB := (HB.out.below hb1).below hb3
  have RUN1 := Lib.hid run1
  have RUN2 := Lib.hid run2
  have ROW3 := Lib.hid row3
  have RA := Lib.hid rowA
  have RB := Lib.hid rowB
  have HW3 := Lib.hid hw3
  clear run1 run2 row3 rowA rowB hw3 hb1 hb2 hb3 own1 own2 gr1 gr2 hna hnb hn3
  go_wp2_with (first | (at_builtin; refine wpList_append_run rfl _ _ _ rfl _ _ _ _ rfl rfl RUN1.out ?_) | (at_builtin; refine wpList_append_run rfl _ _ _ rfl _ _ _ _ rfl rfl RUN2.out ?_))
  ((with_reducible refine (CA.out _ RA.out).mono ?_); rintro e w4 ⟨rfl, hb4⟩)
  have rowB4 := Lib.hid (RB.out.below hb4)
  have row34 := Lib.hid (ROW3.out.below hb4)
  have hw4 := Lib.hid (HW3.out.trans (hb4.mono HW3.out.size))
  clear RA RB ROW3 HW3 hb4 RUN1 RUN2
  go_wp2_with fail
  have hbx := (Below.refl w4.heap.size w4).alloc (Nat.le_refl _) (.cells #[.int .i64 x.1, .int .i64 x.2] 23)
  ((with_reducible refine (CB.out _ (rowB4.out.below hbx)).mono ?_); rintro e w5 ⟨rfl, hb5⟩)
  have px5 := Lib.hid ((PairAt.new w4 x.1 x.2 23).below hb5 (by simp))
  have row35 := Lib.hid ((row34.out.below hbx).below hb5)
  have hw5 := Lib.hid (hw4.out.trans ((hbx.trans (hb5.mono hbx.size)).mono hw4.out.size))
  clear rowB4 row34 hw4 hb5 hbx
  go_wp2_with fail
  have hby := (Below.refl w5.heap.size w5).alloc (Nat.le_refl _) (.cells #[.int .i64 y.1, .int .i64 y.2] 23)
  ((with_reducible refine (CZ.out _ _ _ hc3 hc3m (row35.out.below hby)).mono ?_); rintro e w6 ⟨rfl, hb6⟩)
  have py6 := (PairAt.new w5 y.1 y.2 23).below hb6 (by simp)
  have px6 := (px5.out.alloc (.cells #[.int .i64 y.1, .int .i64 y.2] 23)).below hb6 (by have := px5.out.2.2.2.2; simp; omega)
  have row36 := (row35.out.below hby).below hb6
  have hw6 := hw5.out.trans ((hby.trans (hb6.mono hby.size)).mono hw5.out.size)
  obtain ⟨w7, hw7⟩ : ∃ w7, w7 = w6.alloc (.cells #[.int .i64 z.1, .int .i64 z.2] 23) := ⟨_, rfl⟩
  have hb7 : Below w6.heap.size w6 w7 := by rw [hw7]; exact (Below.refl w6.heap.size w6).alloc (Nat.le_refl _) _
  have pz := PairAt.new w6 z.1 z.2 23
  rw [← hw7] at pz
  have px := px6.below hb7 px6.2.2.2.2
  have py := py6.below hb7 py6.2.2.2.2
  have row := row36.below hb7
  have hw := hw6.trans (hb7.mono hw6.size)
  have PX := Lib.hid px
  have PY := Lib.hid py
  have PZ := Lib.hid pz
  have ROW := Lib.hid row
  have HW := Lib.hid hw
  have HW7 := Lib.hid hw7
  clear px5 row35 hw5 hby hb6 py6 px6 row36 hw6 hb7 px py pz row hw hw7
  go_wp2_with fail
  refine wp_loop_rounds 1 ?_
  rw [rounds_succ]
  go_wp2_with fail
  go_ret
  refine ⟨rfl, ?_⟩
  rw [← HW7.out]
  exact HW.out

set_option maxHeartbeats 2000000 in
set_option maxRecDepth 100000 in
theorem leastLaw_core (A B : Option Addr) (a b : List (Int × Int)) (na nb n3 ca cb : Nat) (pb qb rb : Bool) (x y z : Int × Int) (w : World) (he : Env w)
    (hna : na = a.length) (hnb : nb = b.length) (hn3 : n3 = (a ++ b).length) (ha : na ≤ 60) (hb : nb ≤ 60)
    (hA : Row w A a) (hB : Row w B b) (hA0 : A = none → ca = 0) (hB0 : B = none → cb = 0) (hca : na ≤ ca ∧ ca ≤ 9223372036854775807) (hcb : nb ≤ cb ∧ cb ≤ 9223372036854775807)
    (va : leastV a = .tuple #[.agg #[.int .i64 x.1, .int .i64 x.2], .bool pb]) (vb : leastV b = .tuple #[.agg #[.int .i64 y.1, .int .i64 y.2], .bool qb]) (vz : leastV (a ++ b) = .tuple #[.agg #[.int .i64 z.1, .int .i64 z.2], .bool rb])
    (hin : (a ++ b) ≠ [] → z ∈ a ++ b) (hno : ∀ e ∈ a ++ b, ltE e z = false)
    (h3 : 0 < n3) (hk : (na = 0 ∧ 0 < nb ∧ pb = false ∧ qb = true ∧ rb = true) ∨ (0 < na ∧ nb = 0 ∧ pb = true ∧ qb = false ∧ rb = true) ∨
      (0 < na ∧ 0 < nb ∧ pb = true ∧ qb = true ∧ rb = true))
    (hzz : 0 < na → 0 < nb → ((ltI y.1 y.2 x.1 x.2 = true ∧ z = y) ∨ (ltI y.1 y.2 x.1 x.2 = false ∧ z = x))) :
    Calls Tryd.prog 7 #[.slice A na ca, .slice B nb cb] w fun e w' => e = .returned (.bool true) ∧ Below w.heap.size w w' := by
  have h60 : decide ((60 : Int) < (na : Int)) = false := by simp; omega
  have h61 : decide ((60 : Int) < (nb : Int)) = false := by simp; omega
  have CA := Lib.hid (fun W (hr : Row W A a) => va ▸ least_any A a ca W (by omega) (by omega) hca.2 hr)
  have CB := Lib.hid (fun W (hr : Row W B b) => vb ▸ least_any B b cb W (by omega) (by omega) hcb.2 hr)
  have CZ := Lib.hid (fun A3 c3 W (h1 : (a ++ b).length ≤ c3) (h2 : c3 ≤ 9223372036854775807) (hr : Row W A3 (a ++ b)) => vz ▸ least_any A3 (a ++ b) c3 W (by rw [List.length_append]; omega) h1 h2 hr)
  rw [← hna] at CA
  rw [← hnb] at CB
  rw [← hn3] at CZ
  have HA := Lib.hid hA
  have HB := Lib.hid hB
  have HL := Lib.hid (And.intro hna (And.intro hnb hn3))
  have HIN := Lib.hid (And.intro hin hno)
  have HN := Lib.hid (And.intro hA0 hB0)
  have HE := Lib.hid he
  clear va vb vz hA hB hna hnb hn3 hin hno hA0 hB0 he
  have hz3 : ((n3 : Int) == 0) = false := by rw [beq_eq_false_iff_ne]; omega
  have HZ := Lib.hid hzz
  clear hzz
  go_enter Tryd.func7, Tryd.ntmps7
  go_wp2_with fail
  ((with_reducible refine (awake_any _ HE.out).mono ?_); rintro e w1 ⟨rfl, hb1⟩)
  obtain ⟨hna, hnb, hn3⟩ := HL.out
  obtain ⟨v1, w2, run1, own1, gr1⟩ := append_row w1 w1.heap.size (.slice none 0 0) [] a A ca (Own.none _ _) (HA.out.below hb1) HN.out.1 (by simp; omega) (Nat.le_refl _)
  rw [List.nil_append] at own1
  have hb2 := below_grown (Below.refl w1.heap.size w1) gr1 (Nat.le_refl _) (fun g hg => by simp [Value.ownBlock] at hg)
  obtain ⟨v2, w3, run2, own2, gr2⟩ := append_row w2 w1.heap.size v1 a b B cb own1 ((HB.out.below hb1).below hb2) HN.out.2 (by omega) hb2.size
  have hb3 := below_grown hb2 gr2 hb2.size own1.block
  obtain ⟨A3, c3, hv2, row3, hc3, hc3m, -⟩ := own2.form
  subst hv2
  obtain ⟨g3, o3, hA3, -⟩ := row3 (by omega)
  subst hA3
  rw [← hna] at run1
  rw [← hnb] at run2
  rw [← hn3] at run2 hc3
  have hw3 := hb1.trans (hb3.mono hb1.size)
  have rowA := (HA.out.below hb1).below hb3
  have rowB := (HB.out.below hb1).below hb3
  have RUN1 := Lib.hid run1
  have RUN2 := Lib.hid run2
  have ROW3 := Lib.hid row3
  have RA := Lib.hid rowA
  have RB := Lib.hid rowB
  have HW3 := Lib.hid hw3
  clear run1 run2 row3 rowA rowB hw3 hb1 hb2 hb3 own1 own2 gr1 gr2 hna hnb hn3
  go_wp2_with (first | (at_builtin; refine wpList_append_run rfl _ _ _ rfl _ _ _ _ rfl rfl RUN1.out ?_) | (at_builtin; refine wpList_append_run rfl _ _ _ rfl _ _ _ _ rfl rfl RUN2.out ?_))
  ((with_reducible refine (CA.out _ RA.out).mono ?_); rintro e w4 ⟨rfl, hb4⟩)
  have rowB4 := Lib.hid (RB.out.below hb4)
  have row34 := Lib.hid (ROW3.out.below hb4)
  have hw4 := Lib.hid (HW3.out.trans (hb4.mono HW3.out.size))
  clear RA RB ROW3 HW3 hb4 RUN1 RUN2
  go_wp2_with fail
  have hbx := (Below.refl w4.heap.size w4).alloc (Nat.le_refl _) (.cells #[.int .i64 x.1, .int .i64 x.2] 23)
  ((with_reducible refine (CB.out _ (rowB4.out.below hbx)).mono ?_); rintro e w5 ⟨rfl, hb5⟩)
  have px5 := Lib.hid ((PairAt.new w4 x.1 x.2 23).below hb5 (by simp))
  have row35 := Lib.hid ((row34.out.below hbx).below hb5)
  have hw5 := Lib.hid (hw4.out.trans ((hbx.trans (hb5.mono hbx.size)).mono hw4.out.size))
  clear rowB4 row34 hw4 hb5 hbx
  go_wp2_with fail
  have hby := (Below.refl w5.heap.size w5).alloc (Nat.le_refl _) (.cells #[.int .i64 y.1, .int .i64 y.2] 23)
  ((with_reducible refine (CZ.out _ _ _ hc3 hc3m (row35.out.below hby)).mono ?_); rintro e w6 ⟨rfl, hb6⟩)
  have py6 := (PairAt.new w5 y.1 y.2 23).below hb6 (by simp)
  have px6 := (px5.out.alloc (.cells #[.int .i64 y.1, .int .i64 y.2] 23)).below hb6 (by have := px5.out.2.2.2.2; simp; omega)
  have row36 := (row35.out.below hby).below hb6
  have hw6 := hw5.out.trans ((hby.trans (hb6.mono hby.size)).mono hw5.out.size)
  obtain ⟨w7, hw7⟩ : ∃ w7, w7 = w6.alloc (.cells #[.int .i64 z.1, .int .i64 z.2] 23) := ⟨_, rfl⟩
  have hb7 : Below w6.heap.size w6 w7 := by rw [hw7]; exact (Below.refl w6.heap.size w6).alloc (Nat.le_refl _) _
  have pz := PairAt.new w6 z.1 z.2 23
  rw [← hw7] at pz
  have px := px6.below hb7 px6.2.2.2.2
  have py := py6.below hb7 py6.2.2.2.2
  have row := row36.below hb7
  have hw := hw6.trans (hb7.mono hw6.size)
  have PX := Lib.hid px
  have PY := Lib.hid py
  have PZ := Lib.hid pz
  have ROW := Lib.hid row
  have HW := Lib.hid hw
  have HW7 := Lib.hid hw7
  clear px5 row35 hw5 hby hb6 py6 px6 row36 hw6 hb7 px py pz row hw hw7
  go_wp2_with fail
  go_loopw [13, 14] (fun met i wr => MetRel (a ++ b) z w7 met i wr) (fun _ i _ => (a ++ b).length - (intOf i).toNat)
  case atStart =>
    have hlen := HL.out.2.2
    exact ⟨0, Nat.zero_le _, rfl, by rw [show metB (a ++ b) z 0 = false from by unfold metB; rw [← hlen]; simp; omega], ⟨w7.drawn, #[]⟩, by rw [← HW7.out]; exact world_self w7⟩
  case round =>
    obtain ⟨k, hkk, rfl, rfl, ⟨d, os⟩, rfl⟩ := hrel
    have hlen := HL.out.2.2
    by_cases hlt : k < n3
    · have hlt' : k < (a ++ b).length := by omega
      obtain ⟨b', o', e', hc⟩ := ROW.out (by omega)
      injection e' with e'
      injection e' with e1 e2 _
      subst e1
      subst e2
      have hcell := row_at hc k hlt'
      have hle : ltI ((a ++ b)[k]).1 ((a ++ b)[k]).2 z.1 z.2 = false := HIN.out.2 _ (List.getElem_mem hlt')
      have hms := metB_succ (a ++ b) z k hlt'
      generalize (a ++ b)[k] = e at *
      have hcase : ∃ m', metB (a ++ b) z (k + 1) = m' ∧ ((metB (a ++ b) z k = true ∧ m' = true) ∨ (metB (a ++ b) z k = false ∧ e = z ∧ m' = true) ∨ (metB (a ++ b) z k = false ∧ ¬ e.1 = z.1 ∧ m' = false) ∨ (metB (a ++ b) z k = false ∧ e.1 = z.1 ∧ ¬ e.2 = z.2 ∧ m' = false)) := by
        refine ⟨_, hms, ?_⟩
        cases hmk : metB (a ++ b) z k with
        | true => exact Or.inl ⟨rfl, rfl⟩
        | false =>
          by_cases he : e = z
          · exact Or.inr (Or.inl ⟨rfl, he, by simp [he]⟩)
          · by_cases h1 : e.1 = z.1
            · exact Or.inr (Or.inr (Or.inr ⟨rfl, h1, fun h2 => he (Prod.ext h1 h2), by simp [he]⟩))
            · exact Or.inr (Or.inr (Or.inl ⟨rfl, h1, by simp [he]⟩))
      have HL1 := Lib.hid (fun d os => less_class w7 e.1 e.2 z.1 z.2 false hle d os)
      have kz0 := fun d os => cell_regrown PZ.out.1 d os
      have kz1 := fun d os => cell_regrown PZ.out.2.1 d os
      have ke0 := fun d os => cell_regrown hcell.1 d os
      have ke1 := fun d os => cell_regrown hcell.2 d os
      obtain ⟨m', hm', hcs⟩ := hcase
      have HM := Lib.hid hm'
      have HLEN := Lib.hid hlen
      clear hm' hcell hc hms hle hlen
      generalize metB (a ++ b) z k = mk at *
      rcases hcs with ⟨rfl, rfl⟩ | ⟨rfl, rfl, rfl⟩ | ⟨rfl, hne, rfl⟩ | ⟨rfl, heq, hne, rfl⟩
      case' inr.inr.inr =>
        obtain ⟨ep, eq⟩ := e
        simp only at heq hne ke0 ke1 HL1
        subst heq
      all_goals
        go_wp2_with fail
        refine wp_region_class (by kernel_rfl) (by kernel_rfl) ?_
        repeat (go_big_quiet_step (fail))
        refine wpQuiet_nil ?_
        intro _ hw'
        obtain ⟨⟨dq, osq⟩, hw''⟩ := hw'
        subst hw''
        go_wp2_with fail
        refine wp_region_class (by kernel_rfl) (by kernel_rfl) ?_
        repeat (go_big_quiet_step ((with_reducible exact HL1.out _ _)))
        refine wpQuiet_nil ?_
        intro _ hw'
        obtain ⟨⟨dr, osr⟩, hw''⟩ := hw'
        subst hw''
        go_wp2_with fail
        go_roundw
        case rel => exact ⟨k + 1, by omega, by go_num, by rw [HM.out], ⟨dr, osr⟩, rfl⟩
        case measure => have hl := HLEN.out; rw [List.length_append] at hl; simp [intOf]; omega
    · have hk2 : k = (a ++ b).length := by omega
      have hmk : metB (a ++ b) z k = true := by rw [hk2]; exact metB_end _ _ HIN.out.1
      rw [hmk]
      have kx0 := fun d os => cell_regrown PX.out.1 d os
      have kx1 := fun d os => cell_regrown PX.out.2.1 d os
      have ky0 := fun d os => cell_regrown PY.out.1 d os
      have ky1 := fun d os => cell_regrown PY.out.2.1 d os
      have HLEN := Lib.hid hlen
      clear hmk hk2 hlen hkk
      rcases hk with ⟨rfl, hp2, rfl, rfl, rfl⟩ | ⟨hp1, rfl, rfl, rfl, rfl⟩ | ⟨hp1, hp2, rfl, rfl, rfl⟩
      · go_wp2_with fail
        go_ret
        exact ⟨rfl, HW.out.trans ((below_regrown w7 _ _).mono HW.out.size)⟩
      · go_wp2_with fail
        go_ret
        exact ⟨rfl, HW.out.trans ((below_regrown w7 _ _).mono HW.out.size)⟩
      · have hzz := HZ.out hp1 hp2
        have pz := PZ.out
        rcases hzz with ⟨hl, hz⟩ | ⟨hl, hz⟩
        · rw [hz] at pz
          have kz0 := fun d os => cell_regrown pz.1 d os
          have kz1 := fun d os => cell_regrown pz.2.1 d os
          have hne : y.1 = x.1 → ¬ y.2 = x.2 := by rw [ltI_iff] at hl; omega
          have HL1 := Lib.hid (fun d os => less_class w7 y.1 y.2 x.1 x.2 true hl d os)
          clear pz hl hz
          by_cases e1 : y.1 = x.1
          · have e2 := hne e1
            clear hne
            obtain ⟨y1, y2⟩ := y
            obtain ⟨x1, x2⟩ := x
            simp only at e1 e2 kx0 kx1 ky0 ky1 kz0 kz1 HL1
            subst e1
            go_wp2_with (go_at_call 14; ((with_reducible refine (HL1.out _ _).mono ?_); rintro e w' ⟨rfl, ⟨d, os⟩, rfl⟩))
            go_ret
            exact ⟨rfl, HW.out.trans ((below_regrown w7 _ _).mono HW.out.size)⟩
          · clear hne
            go_wp2_with (go_at_call 14; ((with_reducible refine (HL1.out _ _).mono ?_); rintro e w' ⟨rfl, ⟨d, os⟩, rfl⟩))
            go_ret
            exact ⟨rfl, HW.out.trans ((below_regrown w7 _ _).mono HW.out.size)⟩
        · rw [hz] at pz
          have kz0 := fun d os => cell_regrown pz.1 d os
          have kz1 := fun d os => cell_regrown pz.2.1 d os
          have HL1 := Lib.hid (fun d os => less_class w7 y.1 y.2 x.1 x.2 false hl d os)
          clear pz hl hz
          go_wp2_with (go_at_call 14; ((with_reducible refine (HL1.out _ _).mono ?_); rintro e w' ⟨rfl, ⟨d, os⟩, rfl⟩))
          go_ret
          exact ⟨rfl, HW.out.trans ((below_regrown w7 _ _).mono HW.out.size)⟩

end Go.Proofs.YtcbfnghkbopkfaaDoor
