/-
  The contract of the program's Parse: for any numbers, fewer than 2 to the 30th: what it returns is the script that they are, or the error; nothing that was there has changed.
-/
import Derived.Test.YtfjjfljkdflpcaaDoorOp5
namespace Go.Proofs.YtfjjfljkdflpcaaDoor
open Go.Sort Go.RowKit

/-- The slice at B is a row of operations that read as xs. -/
structure OpsAt (w : World) (B : Option Addr) (k c : Nat) (ps : List OpV) (xs : List OpD) : Prop where
  n : k = ps.length
  row : RowO w B ps
  tells : Tells w ps xs
  le : k ≤ c
  max : c ≤ 9223372036854775807
  nil : B = none → c = 0
theorem OpsAt.stay {w w' : World} {B : Option Addr} {k c : Nat} {ps : List OpV} {xs : List OpD} (h : OpsAt w B k c ps xs) (hb : Below w.heap.size w w') : OpsAt w' B k c ps xs :=
  ⟨h.n, h.row.stay hb, h.tells.stay hb, h.le, h.max, h.nil⟩
theorem OpsAt.none (w : World) : OpsAt w Option.none 0 0 [] [] := ⟨rfl, RowO.nil _ _, trivial, Nat.le_refl _, by omega, fun _ => rfl⟩

/-- What Parse hands back. -/
def ParsePost (s : ScD) (w : World) (e : Ending) (w' : World) : Prop :=
  ∃ (B : Option Addr) (k c : Nat) (ps : List OpV), e = .returned (.tuple #[.agg #[.int .i64 s.room, .slice B k c], .int .i64 s.err]) ∧ OpsAt w' B k c ps s.ops ∧ Below w.heap.size w w'

set_option maxRecDepth 100000 in
set_option maxHeartbeats 1000000 in
theorem parse_nil {A : Option Addr} {c : Nat} {w : World} :
    Calls Tryd.prog 7 #[.slice A 0 c] w (ParsePost ⟨11, 0, []⟩ w) := by
  go_enter Tryd.func7, Tryd.ntmps7
  go_wp2_with fail
  refine bodyPost_ret (v := .tuple #[.agg #[.int .i64 0, .slice none 0 0], .int .i64 11]) (by simp [results, Tryd.results7, go_sem]) rfl ⟨none, 0, 0, [], rfl, OpsAt.none _, ?_⟩
  exact (Below.refl w.heap.size w).alloc (Nat.le_refl _) _

set_option maxRecDepth 100000 in
set_option maxHeartbeats 1000000 in
theorem parse_arg {A : Option Addr} {n c : Nat} {l : List Int} {w : World} (hr : RdN w A n c l) (h0 : 0 < l.length) (h : l[0] < 0 ∨ (64 : Int) < l[0]) :
    Calls Tryd.prog 7 #[.slice A n c] w (ParsePost ⟨1, 0, []⟩ w) := by
  obtain ⟨hn, hrow, -, -, -⟩ := hr
  obtain ⟨b, o, rfl, hc⟩ := hrow h0
  have hx := hc 0 h0
  have d1 : ((n : Int) == 0) = false := by rw [beq_eq_false_iff_ne]; omega
  have n1 : (0 : Int) < (n : Int) := by omega
  have n7 : 0 < n := by omega
  generalize l[0] = x at *
  rw [nm_def, Nat.add_zero] at hx
  have hb := lt_of_cell hx
  clear hc hrow hn h0
  rcases Int.lt_or_le x 0 with h0 | h0
  · have d2 : decide (x < 0) = true := by simpa using h0
    clear h h0
    go_enter Tryd.func7, Tryd.ntmps7
    go_wp2_with fail
    refine bodyPost_ret (v := .tuple #[.agg #[.int .i64 0, .slice none 0 0], .int .i64 1]) (by simp [results, Tryd.results7, go_sem]) rfl ⟨none, 0, 0, [], rfl, OpsAt.none _, ?_⟩
    exact (Below.refl w.heap.size w).alloc (Nat.le_refl _) _
  · have d2 : decide (x < 0) = false := by simpa using h0
    have d3 : decide (64 < x) = true := by simp; omega
    clear h h0
    go_enter Tryd.func7, Tryd.ntmps7
    go_wp2_with fail
    refine bodyPost_ret (v := .tuple #[.agg #[.int .i64 0, .slice none 0 0], .int .i64 1]) (by simp [results, Tryd.results7, go_sem]) rfl ⟨none, 0, 0, [], rfl, OpsAt.none _, ?_⟩
    exact (Below.refl w.heap.size w).alloc (Nat.le_refl _) _

/-- A slice's length. -/
def slen : Value → Nat
  | .slice _ n _ => n
  | _ => 0
theorem slen_slice (A : Option Addr) (n c : Nat) : slen (.slice A n c) = n := rfl

/-- What stands at the head of each round of Parse. -/
structure ParseAt (w : World) (r : Int) (s : ScD) (v : Value) (wr : World) (A : Option Addr) (n c : Nat) (left : List Int) (B : Option Addr) (k cb : Nat) (ps : List OpV) (done : List OpD) : Prop where
  v : v = .slice A n c
  rd : RdN w A n c left
  lt : n < 1073741823
  res : Two 25 wr w.heap.size (.int .i64 0) (.slice none 0 0)
  var : Two 25 wr (w.heap.size + 1) (.int .i64 r) (.slice B k cb)
  own : OwnO 27 wr (w.heap.size + 2) (.slice B k cb) ps
  num : k = ps.length
  tells : Tells wr ps done
  off : ∀ p ∈ ps, ∀ a, p.A = some a → w.heap.size + 2 ≤ a.block ∧ a.block < wr.heap.size ∧ some a.block ≠ (Value.slice B k cb).ownBlock
  below : Below w.heap.size w wr
  le : done.length ≤ 256
  eq : s = scTail r done left
def ParseRel (w : World) (r : Int) (s : ScD) (v : Value) (wr : World) : Prop :=
  ∃ A n c left B k cb ps done, ParseAt w r s v wr A n c left B k cb ps done

theorem OwnO.ops {t : TypeId} {w : World} {base : Nat} {B : Option Addr} {k c : Nat} {ps : List OpV} {xs : List OpD} (h : OwnO t w base (.slice B k c) ps) (ht : Tells w ps xs) : OpsAt w B k c ps xs := by
  obtain ⟨A', c', e, h1, h2, h3, h4, -⟩ := h.form
  injection e with e1 e2 e3
  subst e1; subst e2; subst e3
  exact ⟨rfl, h1, ht, h2, h3, h4⟩
theorem Tells.set {w : World} {ps : List OpV} {xs : List OpD} (h : Tells w ps xs) {p : Addr} (hp : ∀ q ∈ ps, ∀ a, q.A = some a → a.block ≠ p.block) (u : Value) : Tells (w.setCell p u) ps xs :=
  h.keep fun q hq a e => Below.heap_setCell w p u a.block (hp q hq a e)

theorem append_op_at {P : Program} {t ts : TypeId} (ht : P.underlying ts = some (.slice t)) (hinfo : (P.info? t).map (fun i => (i.zero, i.size, i.bytes)) = some (some (.agg #[.int .i64 0, .slice none 0 0]), 2, 32))
    (w : World) (base : Nat) (v : Value) (ps : List OpV) (p : OpV) (m : Nat) (hm : w.heap.size = m) (hown : OwnO t w base v ps) (hlen : ps.length < 1073741824) (hb : base ≤ w.heap.size) :
    ∃ v' w', (Builtin.append_ #[ts, ts] ts #[v, .slice (some ⟨m, 0, none⟩) 1 1]).run P (w.alloc (.cells #[.int .i64 p.code, .slice p.A p.n p.c] t)) = .ok v' w' ∧
      (∃ g c, v' = .slice (some ⟨g, 0, none⟩) (ps.length + 1) c ∧ OwnO t w' base v' (ps ++ [p]) ∧ Below base w w' ∧ (∀ k, k < w.heap.size → some k ≠ v.ownBlock → w'.heap[k]? = w.heap[k]?) ∧ g < w'.heap.size ∧ base ≤ g ∧ w.heap.size ≤ w'.heap.size ∧ (v.ownBlock = some g ∨ w.heap.size ≤ g)) := by
  subst hm
  exact append_op ht hinfo w base v ps p hown hlen hb

set_option maxRecDepth 100000 in
set_option maxHeartbeats 4000000 in
theorem parse_some {A : Option Addr} {n c : Nat} {l : List Int} {w : World} (hr : RdN w A n c l) (hl : n < 1073741823) (h0 : 0 < l.length) (h : ¬ (l[0] < 0 ∨ (64 : Int) < l[0])) :
    Calls Tryd.prog 7 #[.slice A n c] w (ParsePost (parse l) w) := by
  have hr0 := hr
  obtain ⟨hn, hrow, hcc, hm, -⟩ := hr
  obtain ⟨b, o, rfl, hc⟩ := hrow h0
  have hx := hc 0 h0
  have h1 := hr0.drop 1 (by omega)
  obtain ⟨o2, e2⟩ := from_at b o c 1
  rw [e2] at h1
  have hp : parse l = scTail l[0] [] (l.drop 1) := by
    match l, h0, h with
    | r :: t, _, h => exact (parse_cons r t).trans (if_neg h)
  have d1 : ((n : Int) == 0) = false := by rw [beq_eq_false_iff_ne]; omega
  have n1 : (0 : Int) < (n : Int) := by omega
  have n7 : 0 < n := by omega
  have n8 : 1 ≤ n := by omega
  generalize l[0] = x at *
  rw [nm_def, Nat.add_zero] at hx
  have hb := lt_of_cell hx
  have ne1 : ¬ b = w.heap.size := by simp only at hb; omega
  have d2 : decide (x < 0) = false := by simp; omega
  have d3 : decide (64 < x) = false := by simp; omega
  have HR := Lib.hid h1
  have HP := Lib.hid hp
  clear hc hrow hn h0 h hr0 h1 hp
  go_enter Tryd.func7, Tryd.ntmps7
  go_wp2_with fail
  go_loopw [5] (fun v wr => ParseRel w x (parse l) v wr) (fun v _ => slen v)
  case atStart =>
    have q0 := (Two.new 25 w (.int .i64 0) (.slice none 0 0)).alloc (.cells #[.int .i64 x, .slice none 0 0] 25)
    have q1 := Two.new 25 (w.alloc (.cells #[.int .i64 0, .slice none 0 0] 25)) (.int .i64 x) (.slice none 0 0)
    exact ⟨_, _, _, _, none, 0, 0, [], [], rfl, HR.out, by omega, q0, by simpa using q1, OwnO.none _ _ _, rfl, trivial, fun p hp => by simp at hp, ((Below.refl w.heap.size w).alloc (Nat.le_refl _) _).alloc (by simp) _, by simp, HP.out⟩
  case round =>
    obtain ⟨A, n, c, left, B, k, cb, ps, done, hrel⟩ := hrel
    obtain rfl := hrel.v
    have v0 := hrel.var.c0
    have v1 := hrel.var.c1
    have r0 := hrel.res.c0
    have r1 := hrel.res.c1
    have r2 := hrel.res.z0
    have r3 := hrel.res.z1
    have v3 := hrel.var.z1
    have hn := hrel.rd.1
    have H := Lib.hid hrel
    cases left with
    | nil =>
      simp only [List.length_nil] at hn
      subst hn
      clear hrel
      go_wp2_with fail
      have q := H.out.res.set (.int .i64 x) (.slice B k cb)
      have c0 := q.c0
      have c1 := q.c1
      have e : parse l = ⟨0, x, done⟩ := H.out.eq.trans (scTail_end x done)
      refine bodyPost_ret (v := .tuple #[.agg #[.int .i64 x, .slice B k cb], .int .i64 0]) (by simp [results, Tryd.results7, go_sem, c0, c1]) rfl ?_
      rw [e]
      have hlo : ∀ q ∈ ps, ∀ a, q.A = some a → a.block ≠ (⟨w.heap.size, 0, none⟩ : Addr).block := fun q hq a ea => (by have := (H.out.off q hq a ea).1; simp only; omega)
      have ht := (H.out.tells.set (p := ⟨w.heap.size, 0, none⟩) hlo (.int .i64 x)).set (p := ⟨w.heap.size, 1, none⟩) hlo (.slice B k cb)
      exact ⟨B, k, cb, ps, rfl, OwnO.ops ((H.out.own.set (by simp only; omega) _).set (by simp only; omega) _) ht, (H.out.below.setCell (Nat.le_refl _) _).setCell (Nat.le_refl _) _⟩
    | cons y t =>
      have n2 : 0 < n := by simp at hn; omega
      by_cases hd : done.length = 256
      · have hk : k = 256 := by rw [hrel.num, hrel.tells.length, hd]
        subst hk
        clear hrel hn
        go_wp2_with fail
        have q := H.out.res.set (.int .i64 0) (.slice none 0 0)
        have c0 := q.c0
        have c1 := q.c1
        have e : parse l = ⟨12, 0, []⟩ := H.out.eq.trans (scTail_long x done y t (by omega))
        refine bodyPost_ret (v := .tuple #[.agg #[.int .i64 0, .slice none 0 0], .int .i64 12]) (by simp [results, Tryd.results7, go_sem, c0, c1]) rfl ?_
        rw [e]
        exact ⟨none, 0, 0, [], rfl, OpsAt.none _, (H.out.below.setCell (Nat.le_refl _) _).setCell (Nat.le_refl _) _⟩
      · have hk : ((k : Int) == 256) = false := by rw [beq_eq_false_iff_ne]; have := hrel.num; have := hrel.tells.length; omega
        clear hrel hn
        go_wp2_with fail
        refine (first_any H.out.rd H.out.below H.out.lt (by simp)).mono ?_
        rintro e w1 (⟨er, hne, ⟨rfl, hb1⟩, hsc⟩ | ⟨o1, rest, hlt, ⟨p1, A1, n3, c3, rfl, ht1, hr1, hb1, hg1⟩, hsc⟩)
        · have hsc1 := hsc x done (by have := H.out.le; omega)
          have hne1 : (er != 0) = true := by rw [bne_iff_ne]; exact hne
          have R1 := (H.out.res.stay hb1).alloc (.cells #[.int .i64 0, .slice none 0 0] 27)
          have t0 := R1.c0
          have t1 := R1.c1
          have t2 := R1.z0
          have t3 := R1.z1
          have e : parse l = ⟨er, 0, []⟩ := H.out.eq.trans hsc1
          have H1 := Lib.hid (And.intro hb1 (And.intro e R1))
          clear hb1 hsc hsc1 hne e R1
          go_wp2_with fail
          have q := H1.out.2.2.set (.int .i64 0) (.slice none 0 0)
          have c0 := q.c0
          have c1 := q.c1
          refine bodyPost_ret (v := .tuple #[.agg #[.int .i64 0, .slice none 0 0], .int .i64 er]) (by simp [results, Tryd.results7, go_sem, c0, c1]) rfl ?_
          rw [H1.out.2.1]
          have hbb := H.out.below.trans (H1.out.1.mono H.out.below.size)
          exact ⟨none, 0, 0, [], rfl, OpsAt.none _, ((hbb.alloc hbb.size _).setCell (Nat.le_refl _) _).setCell (Nat.le_refl _) _⟩
        · have hsc1 := hsc x done (by have := H.out.le; omega)
          have R1 := (H.out.res.stay hb1).alloc (.cells #[.int .i64 p1.code, .slice p1.A p1.n p1.c] 27)
          have V1 := (H.out.var.stay hb1).alloc (.cells #[.int .i64 p1.code, .slice p1.A p1.n p1.c] 27)
          have O1 := (H.out.own.stay hb1).stay ((Below.refl _ _).alloc (Nat.le_refl _) (.cells #[.int .i64 p1.code, .slice p1.A p1.n p1.c] 27))
          have s0 := V1.c0
          have s1 := V1.c1
          have s2 := V1.z1
          have hsz : w.heap.size + 2 ≤ wr.heap.size := H.out.var.lt
          have hrun := append_op_at Tryd.underlying23 infoO1 (w1.alloc (.cells #[.int .i64 p1.code, .slice p1.A p1.n p1.c] 27)) (w.heap.size + 2) (.slice B k cb) ps p1 (w1.heap.size + 1) (by simp) O1 (by have := H.out.tells.length; have := H.out.le; omega) (by have := hb1.size; simp; omega)
          have H1 := Lib.hid (And.intro hb1 (And.intro (H.out.eq.trans hsc1) (And.intro R1 (And.intro V1 (And.intro O1 (And.intro ht1 (And.intro hr1 hg1)))))))
          have HRUN := Lib.hid hrun
          have HLT := Lib.hid hlt
          clear hb1 hsc hsc1 R1 V1 O1 ht1 hr1 hg1 hlt hrun hsz
          go_wp2_with (at_builtin; refine wpList_append_ex rfl _ _ _ rfl _ _ rfl rfl HRUN.out ?_; rintro v' w2 ⟨g2, c2, rfl, hy2, hy3, hy4, hy5, hy6, hy7, hy8⟩; have H2 := Lib.hid (And.intro hy2 (And.intro hy3 (And.intro hy4 (And.intro hy5 (And.intro hy6 (And.intro hy7 hy8)))))); have V2 := Lib.hid (Two.far H1.out.2.2.2.1 (w' := w2) (fun k e => hy4 k (by rw [e]; exact H1.out.2.2.2.1.lt) (by rw [e]; intro e2; have := (World.ownsRow.lt H1.out.2.2.2.2.1 _ e2.symm).1; omega))); have u0 := V2.out.c0; have u1 := V2.out.c1; have u2 := V2.out.z1; clear hy2 hy3 hy4 hy5 hy6 hy7 hy8)
          obtain ⟨hb1, he, R1, V1, O1, ht1, hr1, hg1⟩ := H1.out
          obtain ⟨hy2, hy3, hy4, hy5, hy6, hy7, hy8⟩ := H2.out
          have hdl := H.out.tells.length
          have hnum := H.out.num
          refine ⟨⟨A1, n3, c3, rest, some ⟨g2, 0, none⟩, ps.length + 1, c2, ps ++ [p1], done ++ [o1], rfl, hr1, ?_, ?_, ?_, ?_, by simp, ?_, ?_, ?_, ?_, he⟩, ?_⟩
          · have := H.out.rd.1; have := hr1.1; have := HLT.out; have := H.out.lt; simp at *; omega
          · have r2 : Two 25 w2 w.heap.size (.int .i64 0) (.slice none 0 0) := R1.far (fun k e => hy4 k (by rw [e]; exact R1.lt) (by rw [e]; intro e2; have := (World.ownsRow.lt O1 _ e2.symm).1; omega))
            exact r2.other (by simp only; omega) _
          · exact V2.out.set1 _
          · exact hy2.set (by simp only; omega) _
          · refine Tells.set ?_ ?_ _
            · refine Tells.append ?_ ?_
              · exact (show Tells w2 [p1] [o1] from Tells.keep (w := w1) (ps := [p1]) (xs := [o1]) ⟨ht1, trivial⟩ (fun p hp a ea => by
                  simp only [List.mem_singleton] at hp
                  subst hp
                  have h1 := hg1 a ea
                  rw [hy4 a.block (by simp; omega) (fun e2 => by have := (World.ownsRow.lt H.out.own _ e2.symm).2; omega)]
                  exact (((Below.refl w1.heap.size w1).alloc (Nat.le_refl _) _).block a.block h1.2))).1
              · refine (H.out.tells.stay hb1).keep (fun p hp a ea => ?_)
                have h1 := H.out.off p hp a ea
                have h2 := hb1.size
                rw [hy4 a.block (by simp; omega) h1.2.2]
                exact (((Below.refl w1.heap.size w1).alloc (Nat.le_refl _) _).block a.block (by omega))
            · intro q hq a ea
              rcases List.mem_append.1 hq with hq | hq
              · have := (H.out.off q hq a ea).1; simp only; omega
              · simp only [List.mem_singleton] at hq
                subst hq
                have := (hg1 a ea).1
                have := H.out.var.lt
                simp only; omega
          · intro q hq a ea
            have hs1 := hb1.size
            have hs2 : w1.heap.size + 1 ≤ w2.heap.size := by simpa using hy7
            have hs3 : (w2.setCell ⟨w.heap.size + 1, 1, none⟩ (.slice (some ⟨g2, 0, none⟩) (ps.length + 1) c2)).heap.size = w2.heap.size := by simp [World.setCell]
            have hs4 : (w1.alloc (.cells #[.int .i64 p1.code, .slice p1.A p1.n p1.c] 27)).heap.size = w1.heap.size + 1 := by simp
            have hso := H.out.var.lt
            rw [hs3]
            rw [hs4] at hy8
            rcases List.mem_append.1 hq with hq | hq
            · have h1 := H.out.off q hq a ea
              refine ⟨h1.1, by omega, fun e2 => ?_⟩
              rcases hy8 with h8 | h8
              · exact h1.2.2 (e2.trans h8.symm)
              · simp [Value.ownBlock] at e2; omega
            · simp only [List.mem_singleton] at hq
              subst hq
              have h1 := hg1 a ea
              refine ⟨by omega, by omega, fun e2 => ?_⟩
              simp [Value.ownBlock] at e2
              rcases hy8 with h8 | h8
              · have := (World.ownsRow.lt H.out.own _ h8).2; omega
              · omega
          · have h1 := H.out.below.trans (hb1.mono H.out.below.size)
            have h2 := h1.alloc h1.size (.cells #[.int .i64 p1.code, .slice p1.A p1.n p1.c] 27)
            exact (h2.trans (hy3.mono (by omega))).setCell (by simp only; omega) _
          · have := H.out.le; simp; omega
          · rw [slen_slice, slen_slice, hr1.1, H.out.rd.1]
            exact HLT.out

/-- What the program's Parse does with any numbers. -/
theorem parse_any {A : Option Addr} {n c : Nat} {l : List Int} {w : World} (hr : RdN w A n c l) (hl : n < 1073741823) :
    Calls Tryd.prog 7 #[.slice A n c] w (ParsePost (parse l) w) := by
  match l, hr with
  | [], hr =>
    obtain rfl : n = 0 := hr.1
    exact parse_nil
  | r :: t, hr =>
    by_cases h : r < 0 ∨ 64 < r
    · rw [parse_cons, if_pos h]
      exact parse_arg hr (by simp) h
    · exact parse_some hr hl (by simp) h

end Go.Proofs.YtfjjfljkdflpcaaDoor
