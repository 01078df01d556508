/-
  The contract of the reference's Parse: for any numbers, fewer than 2 to the 30th: what it returns is the script that they are, or the error; nothing that was there has changed.
-/
import Derived.Test.YtfjjfljkdflpcaaDoorOp6
import Derived.Deep.RegionLaw
namespace Go.Proofs.YtfjjfljkdflpcaaDoor
open Go.Sort Go.RowKit

set_option maxRecDepth 100000 in
set_option maxHeartbeats 1000000 in
theorem rparse_nil {A : Option Addr} {c : Nat} {w : World} :
    Calls Tryd.prog 8 #[.slice A 0 c] w (ParsePost ⟨11, 0, []⟩ w) := by
  go_enter Tryd.func8, Tryd.ntmps8
  go_wp2_with fail
  refine bodyPost_ret (v := .tuple #[.agg #[.int .i64 0, .slice none 0 0], .int .i64 11]) (by simp [results, Tryd.results8, go_sem]) rfl ⟨none, 0, 0, [], rfl, OpsAt.none _, ?_⟩
  exact (Below.refl w.heap.size w).alloc (Nat.le_refl _) _

set_option maxRecDepth 100000 in
set_option maxHeartbeats 1000000 in
theorem rparse_arg {A : Option Addr} {n c : Nat} {l : List Int} {w : World} (hr : RdN w A n c l) (h0 : 0 < l.length) (h : l[0] < 0 ∨ (64 : Int) < l[0]) :
    Calls Tryd.prog 8 #[.slice A n c] w (ParsePost ⟨1, 0, []⟩ w) := by
  obtain ⟨hn, hrow, -, -, -⟩ := hr
  obtain ⟨b, o, rfl, hc⟩ := hrow h0
  have hx := hc 0 h0
  have d1 : ((n : Int) == 0) = false := by rw [beq_eq_false_iff_ne]; omega
  have n1 : (0 : Int) < (n : Int) := by omega
  have n7 : 0 < n := by omega
  generalize l[0] = x at *
  rw [nm_def, Nat.add_zero] at hx
  have hb := lt_of_cell hx
  clear hc hrow hn h0
  rcases Int.lt_or_le x 0 with h0 | h0
  · have d2 : decide (x < 0) = true := by simpa using h0
    clear h h0
    go_enter Tryd.func8, Tryd.ntmps8
    go_wp2_with fail
    refine bodyPost_ret (v := .tuple #[.agg #[.int .i64 0, .slice none 0 0], .int .i64 1]) (by simp [results, Tryd.results8, go_sem]) rfl ⟨none, 0, 0, [], rfl, OpsAt.none _, ?_⟩
    exact (Below.refl w.heap.size w).alloc (Nat.le_refl _) _
  · have d2 : decide (x < 0) = false := by simpa using h0
    have d3 : decide (64 < x) = true := by simp; omega
    clear h h0
    go_enter Tryd.func8, Tryd.ntmps8
    go_wp2_with fail
    refine bodyPost_ret (v := .tuple #[.agg #[.int .i64 0, .slice none 0 0], .int .i64 1]) (by simp [results, Tryd.results8, go_sem]) rfl ⟨none, 0, 0, [], rfl, OpsAt.none _, ?_⟩
    exact (Below.refl w.heap.size w).alloc (Nat.le_refl _) _

/-- What stands at the head of each round of the reference's Parse: at number i, with these left. -/
structure RParseAt (w : World) (b o n c : Nat) (l : List Int) (r : Int) (s : ScD) (v : Value) (wr : World) (i : Nat) (B : Option Addr) (k cb : Nat) (ps : List OpV) (done : List OpD) : Prop where
  v : v = .int .i64 i
  le : i ≤ n
  res : Two 34 wr w.heap.size (.int .i64 0) (.slice none 0 0)
  var : Two 34 wr (w.heap.size + 1) (.int .i64 r) (.slice B k cb)
  own : OwnO 46 wr (w.heap.size + 2) (.slice B k cb) ps
  num : k = ps.length
  tells : Tells w ps done
  off : ∀ p ∈ ps, ∀ a, p.A = some a → a.block = b
  below : Below w.heap.size w wr
  few : done.length ≤ 256
  eq : s = scTail r done (l.drop i)
def RParseRel (w : World) (b o n c : Nat) (l : List Int) (r : Int) (s : ScD) (v : Value) (wr : World) : Prop :=
  ∃ i B k cb ps done, RParseAt w b o n c l r s v wr i B k cb ps done

set_option maxRecDepth 100000 in
set_option maxHeartbeats 4000000 in
theorem rparse_some {A : Option Addr} {n c : Nat} {l : List Int} {w : World} (hr : RdN w A n c l) (hl : n < 1073741823) (h0 : 0 < l.length) (h : ¬ (l[0] < 0 ∨ (64 : Int) < l[0])) :
    Calls Tryd.prog 8 #[.slice A n c] w (ParsePost (parse l) w) := by
  have hr0 := hr
  obtain ⟨hn, hrow, hcc, hm, -⟩ := hr
  obtain ⟨b, o, rfl, hc⟩ := hrow h0
  have hx := hc 0 h0
  have hp : parse l = scTail l[0] [] (l.drop 1) := by
    match l, h0, h with
    | r :: t, _, h => exact (parse_cons r t).trans (if_neg h)
  have d1 : ((n : Int) == 0) = false := by rw [beq_eq_false_iff_ne]; omega
  have n1 : (0 : Int) < (n : Int) := by omega
  have n7 : 0 < n := by omega
  generalize l[0] = x at *
  rw [nm_def, Nat.add_zero] at hx
  have hb := lt_of_cell hx
  have ne1 : ¬ b = w.heap.size := by simp only at hb; omega
  have d2 : decide (x < 0) = false := by simp; omega
  have d3 : decide (64 < x) = false := by simp; omega
  have HR := Lib.hid hr0
  have HC := Lib.hid hc
  have HP := Lib.hid hp
  have HN := Lib.hid hn
  clear hc hrow hn h0 h hr0 hp
  go_enter Tryd.func8, Tryd.ntmps8
  go_wp2_with fail
  go_loopw [5] (fun v wr => RParseRel w b o n c l x (parse l) v wr) (fun v _ => n - (intOf v).toNat)
  case atStart =>
    have q0 := (Two.new 34 w (.int .i64 0) (.slice none 0 0)).alloc (.cells #[.int .i64 x, .slice none 0 0] 34)
    have q1 := Two.new 34 (w.alloc (.cells #[.int .i64 0, .slice none 0 0] 34)) (.int .i64 x) (.slice none 0 0)
    exact ⟨1, none, 0, 0, [], [], rfl, by omega, q0, by simpa using q1, OwnO.none _ _ _, rfl, trivial, fun p hp => by simp at hp, ((Below.refl w.heap.size w).alloc (Nat.le_refl _) _).alloc (by simp) _, by simp, HP.out⟩
  case round =>
    obtain ⟨i, B, k, cb, ps, done, hrel⟩ := hrel
    obtain rfl := hrel.v
    have v0 := hrel.var.c0
    have v1 := hrel.var.c1
    have r0 := hrel.res.c0
    have r1 := hrel.res.c1
    have r2 := hrel.res.z0
    have r3 := hrel.res.z1
    have v3 := hrel.var.z1
    have hi := hrel.le
    have H := Lib.hid hrel
    by_cases hin : i = n
    · have e : parse l = ⟨0, x, done⟩ := by
        have h1 := H.out.eq
        rw [hin, HN.out, List.drop_of_length_le (Nat.le_refl _)] at h1
        exact h1.trans (scTail_end x done)
      clear hrel
      subst hin
      go_wp2_with fail
      have q := H.out.res.set (.int .i64 x) (.slice B k cb)
      have c0 := q.c0
      have c1 := q.c1
      refine bodyPost_ret (v := .tuple #[.agg #[.int .i64 x, .slice B k cb], .int .i64 0]) (by simp [results, Tryd.results8, go_sem, c0, c1]) rfl ?_
      rw [e]
      have hbl := (H.out.below.setCell (p := ⟨w.heap.size, 0, none⟩) (Nat.le_refl _) (.int .i64 x)).setCell (p := ⟨w.heap.size, 1, none⟩) (Nat.le_refl _) (.slice B k cb)
      exact ⟨B, k, cb, ps, rfl, OwnO.ops ((H.out.own.set (by simp only; omega) _).set (by simp only; omega) _) (H.out.tells.stay hbl), hbl⟩
    · have hil : i < n := by omega
      have n9 : (i : Int) < (n : Int) := by omega
      obtain ⟨y, t, hyt⟩ : ∃ y t, l.drop i = y :: t := ⟨l[i]'(by have := HN.out; omega), l.drop (i + 1), List.drop_eq_getElem_cons _⟩
      by_cases hd : done.length = 256
      · have hk : k = 256 := by rw [hrel.num, hrel.tells.length, hd]
        subst hk
        clear hrel
        go_wp2_with fail
        have q := H.out.res.set (.int .i64 0) (.slice none 0 0)
        have c0 := q.c0
        have c1 := q.c1
        have e : parse l = ⟨12, 0, []⟩ := H.out.eq.trans (by rw [hyt]; exact scTail_long x done y t (by omega))
        refine bodyPost_ret (v := .tuple #[.agg #[.int .i64 0, .slice none 0 0], .int .i64 12]) (by simp [results, Tryd.results8, go_sem, c0, c1]) rfl ?_
        rw [e]
        exact ⟨none, 0, 0, [], rfl, OpsAt.none _, (H.out.below.setCell (Nat.le_refl _) _).setCell (Nat.le_refl _) _⟩
      · have hk : ((k : Int) == 256) = false := by rw [beq_eq_false_iff_ne]; have := hrel.num; have := hrel.tells.length; omega
        have hd2 : done.length < 256 := by have := hrel.few; omega
        have hlen : t.length + i + 1 = n := by
          have := congrArg List.length hyt
          rw [List.length_drop] at this
          have := HN.out
          simp at *
          omega
        clear hrel
        match t, hyt, hlen with
        | [], hyt, hlen =>
          simp only [List.length_nil] at hlen
          have e1 : n = i + 1 := by omega
          have e : parse l = ⟨11, 0, []⟩ := H.out.eq.trans (by rw [hyt]; exact scTail_one x done y hd2)
          have HE := Lib.hid e
          clear hlen e hyt hin hil n9 hd hd2
          have d5 : ((i : Int) + 1 == (n : Int)) = true := by rw [beq_iff_eq]; omega
          have n9 : (i : Int) < (n : Int) := by omega
          clear e1
          go_wp2_with fail
          have q := H.out.res.set (.int .i64 0) (.slice none 0 0)
          have c0 := q.c0
          have c1 := q.c1
          refine bodyPost_ret (v := .tuple #[.agg #[.int .i64 0, .slice none 0 0], .int .i64 11]) (by simp [results, Tryd.results8, go_sem, c0, c1]) rfl ?_
          rw [HE.out]
          exact ⟨none, 0, 0, [], rfl, OpsAt.none _, (H.out.below.setCell (Nat.le_refl _) _).setCell (Nat.le_refl _) _⟩
        | z :: u, hyt, hlen =>
          simp only [List.length_cons] at hlen
          have d5 : ((i : Int) + 1 == (n : Int)) = false := by rw [beq_eq_false_iff_ne]; omega
          have m1 : (i : Int) + 1 < (n : Int) := by omega
          have hz : w.cell? ⟨b, o + (i + 1), none⟩ = some (.int .i64 z) := by
            have h1 := HC.out (i + 1) (by have := HN.out; omega)
            have h2 : l[i + 1]'(by have := HN.out; omega) = z := by
              have h3 : (l.drop i)[1]? = some z := by rw [hyt]; rfl
              rw [List.getElem?_drop] at h3
              obtain ⟨_, h4⟩ := List.getElem?_eq_some_iff.1 h3
              exact h4
            rw [h2] at h1
            exact h1
          have hz1 := (H.out.below.cell (p := ⟨b, o + (i + 1), none⟩) hb).trans hz
          by_cases hzb : z < 0 ∨ 4 < z
          · have e : parse l = ⟨10, 0, []⟩ := H.out.eq.trans (by rw [hyt]; exact scTail_form x done y z u hd2 hzb)
            have HE := Lib.hid e
            clear hyt hd hd2 hz e hlen
            rcases Int.lt_or_le z 0 with h0 | h0
            · have d6 : decide (z < 0) = true := by simpa using h0
              clear hzb h0
              go_wp2_with fail
              have q := H.out.res.set (.int .i64 0) (.slice none 0 0)
              have c0 := q.c0
              have c1 := q.c1
              refine bodyPost_ret (v := .tuple #[.agg #[.int .i64 0, .slice none 0 0], .int .i64 10]) (by simp [results, Tryd.results8, go_sem, c0, c1]) rfl ?_
              rw [HE.out]
              exact ⟨none, 0, 0, [], rfl, OpsAt.none _, (H.out.below.setCell (Nat.le_refl _) _).setCell (Nat.le_refl _) _⟩
            · have d6 : decide (z < 0) = false := by simpa using h0
              have d7 : decide (4 < z) = true := by simp; omega
              clear hzb h0
              go_wp2_with fail
              have q := H.out.res.set (.int .i64 0) (.slice none 0 0)
              have c0 := q.c0
              have c1 := q.c1
              refine bodyPost_ret (v := .tuple #[.agg #[.int .i64 0, .slice none 0 0], .int .i64 10]) (by simp [results, Tryd.results8, go_sem, c0, c1]) rfl ?_
              rw [HE.out]
              exact ⟨none, 0, 0, [], rfl, OpsAt.none _, (H.out.below.setCell (Nat.le_refl _) _).setCell (Nat.le_refl _) _⟩
          · obtain ⟨g, rfl⟩ : ∃ g : Nat, z = g := ⟨z.toNat, by omega⟩
            have g4 : g ≤ 4 := by omega
            obtain ⟨j, hj⟩ : ∃ j : Nat, (i : Int) + 2 = (j : Int) := ⟨i + 2, by omega⟩
            obtain ⟨m, hm2⟩ : ∃ m : Nat, (j : Int) + (g : Int) = (m : Int) := ⟨j + g, by omega⟩
            have hw1 : IntKind.i64.wrap ((i : Int) + 2) = (j : Int) := by rw [IntKind.wrap_i64]; omega
            have hw2 : IntKind.i64.wrap ((j : Int) + (g : Int)) = (m : Int) := by rw [IntKind.wrap_i64]; omega
            have d6 : decide ((g : Int) < 0) = false := by simp
            have d7 : decide (4 < (g : Int)) = false := by simp; omega
            by_cases hg : u.length < g
            · have e : parse l = ⟨11, 0, []⟩ := H.out.eq.trans (by rw [hyt]; exact scTail_short x done y g u hd2 hzb (by simpa using hg))
              have HE := Lib.hid e
              have d8 : n < m := by omega
              clear hyt hd hd2 hz e hlen hzb hg hj hm2
              go_wp2_with fail
              have q := H.out.res.set (.int .i64 0) (.slice none 0 0)
              have c0 := q.c0
              have c1 := q.c1
              refine bodyPost_ret (v := .tuple #[.agg #[.int .i64 0, .slice none 0 0], .int .i64 11]) (by simp [results, Tryd.results8, go_sem, c0, c1]) rfl ?_
              rw [HE.out]
              exact ⟨none, 0, 0, [], rfl, OpsAt.none _, (H.out.below.setCell (Nat.le_refl _) _).setCell (Nat.le_refl _) _⟩
            · have hmi : m = i + 2 + g := by omega
              have hji : j = i + 2 := by omega
              have hu : u = l.drop j := by
                rw [hji, ← List.drop_drop, hyt]; rfl
              have e : parse l = scTail x (done ++ [⟨y, u.take g⟩]) (l.drop m) := H.out.eq.trans (by
                rw [hyt, scTail_more x done y g u hd2 hzb (by simpa using hg), Int.toNat_natCast, hu, List.drop_drop, hmi, hji])
              have d8 : m ≤ n := by omega
              have d9 : (m : Int) ≤ (n : Int) := by omega
              have hy : w.cell? ⟨b, o + i, none⟩ = some (.int .i64 y) := by
                have h1 := HC.out i (by have := HN.out; omega)
                have h2 : l[i]'(by have := HN.out; omega) = y := by
                  have h3 : (l.drop i)[0]? = some y := by rw [hyt]; rfl
                  rw [List.getElem?_drop] at h3
                  obtain ⟨_, h4⟩ := List.getElem?_eq_some_iff.1 h3
                  exact h4
                rw [h2] at h1
                exact h1
              have hy1 := (H.out.below.cell (p := ⟨b, o + i, none⟩) hb).trans hy
              obtain ⟨o2, e2⟩ := from_at b o c j
              have HT : Tell1 w ⟨y, some ⟨b, o2, none⟩, m - j, c - j⟩ ⟨y, u.take g⟩ := by
                have h1 := (HR.out.drop j (by omega)).take (m - j) (by omega)
                rw [e2, ← hu, show m - j = g by omega] at h1
                rw [show m - j = g by omega]
                exact ⟨rfl, h1.1, h1.2.1, h1.2.2.1, h1.2.2.2.1, h1.2.2.2.2⟩
              have HE := Lib.hid (And.intro e (And.intro HT hmi))
              have HD2 := Lib.hid hd2
              have ne2 : ¬ b = w.heap.size + 1 := by omega
              have ne3 : ¬ w.heap.size + 1 = b := by omega
              have n10 : j ≤ m := by omega
              have n11 : m ≤ c := by omega
              have RUN := Lib.hid (fun W (hO : OwnO 46 W (w.heap.size + 2) (.slice B k cb) ps) (hs : w.heap.size + 2 ≤ W.heap.size) => append_op_at Tryd.underlying32 infoO2 W (w.heap.size + 2) (.slice B k cb) ps ⟨y, some ⟨b, o2, none⟩, m - j, c - j⟩ W.heap.size rfl hO (by have := H.out.tells.length; have := H.out.few; omega) hs)
              have v1a := (H.out.var.alloc (.cells #[.int .i64 y, .slice (some ⟨b, o2, none⟩) (m - j) (c - j)] 46)).c1
              have n12 : (j : Int) ≤ (m : Int) := by omega
              have n13 : (m : Int) ≤ (c : Int) := by omega
              clear hd hd2 hz e hzb hy HT hu hg hyt hmi hji hlen hj hm2
              go_wp2_with fail
              go_region_law
                (first | (refine step_append_ex rfl _ _ _ rfl _ _ rfl rfl (RUN.out wr.drew (H.out.own.stay (Below.refl _ _).drew) H.out.var.lt) ?_; rintro v' w2 ⟨g2, c2, rfl, hy2, hy3, hy4, hy5, hy6, hy7, hy8⟩; have V2 := Lib.hid (Two.far H.out.var.drew (w' := w2) (fun k e => hy4 k (by rw [e]; exact H.out.var.lt) (by rw [e]; intro e2; have := (World.ownsRow.lt H.out.own _ e2.symm).1; omega))); have H2 := Lib.hid (And.intro hy2 (And.intro hy3 (And.intro hy4 (And.intro hy5 (And.intro hy6 (And.intro hy7 hy8)))))); have u0 := V2.out.c0; have u1 := V2.out.c1; have u2 := V2.out.z1; clear hy2 hy3 hy4 hy5 hy6 hy7 hy8))
              all_goals go_wp2_with fail
              all_goals
                obtain ⟨e, HT, hmi⟩ := HE.out
                obtain ⟨hy2, hy3, hy4, hy5, hy6, hy7, hy8⟩ := H2.out
                have R2 : Two 34 w2 w.heap.size (.int .i64 0) (.slice none 0 0) := Two.far H.out.res.drew (w' := w2) (fun k e => hy4 k (by rw [e]; exact H.out.res.lt) (by rw [e]; intro e2; have := (World.ownsRow.lt H.out.own _ e2.symm).1; omega))
                refine ⟨⟨m, some ⟨g2, 0, none⟩, ps.length + 1, c2, ps ++ [⟨y, some ⟨b, o2, none⟩, m - j, c - j⟩], done ++ [⟨y, u.take g⟩], rfl, d8, R2.other (by simp only; omega) _, V2.out.set1 _, hy2.set (by simp only; omega) _, by simp, H.out.tells.append HT, ?_, ?_, ?_, e⟩, ?_⟩
                · intro p hp a ea
                  rcases List.mem_append.1 hp with hp | hp
                  · exact H.out.off p hp a ea
                  · simp only [List.mem_singleton] at hp
                    subst hp
                    injection ea with ea
                    rw [← ea]
                · have h1 : Below w.heap.size w wr.drew := H.out.below.drew
                  exact (h1.trans (hy3.mono (by omega))).setCell (by simp only; omega) _
                · have := HD2.out; simp; omega
                · simp [intOf]; omega

/-- What the reference's Parse does with any numbers. -/
theorem rparse_any {A : Option Addr} {n c : Nat} {l : List Int} {w : World} (hr : RdN w A n c l) (hl : n < 1073741823) :
    Calls Tryd.prog 8 #[.slice A n c] w (ParsePost (parse l) w) := by
  match l, hr with
  | [], hr =>
    obtain rfl : n = 0 := hr.1
    exact rparse_nil
  | r :: t, hr =>
    by_cases h : r < 0 ∨ 64 < r
    · rw [parse_cons, if_pos h]
      exact rparse_arg hr (by simp) h
    · exact rparse_some hr hl (by simp) h

end Go.Proofs.YtfjjfljkdflpcaaDoor
