/-
  The contract of the program's own reading of one operation (first): for any numbers, fewer than 2 to the 30th.
-/
import Derived.Test.YtfjjfljkdflpcaaDoorOp4
namespace Go.Proofs.YtfjjfljkdflpcaaDoor
open Go.Sort Go.RowKit

/-- What first hands back: an error, or an operation and what stands behind it. -/
def FirstNo (er : Int) (w : World) (e : Ending) (w' : World) : Prop :=
  e = .returned (.tuple #[.agg #[.int .i64 0, .slice none 0 0], .slice none 0 0, .int .i64 er]) ∧ Below w.heap.size w w'
def FirstYes (x : OpD) (rest : List Int) (w0 w : World) (e : Ending) (w' : World) : Prop :=
  ∃ (p : OpV) (A : Option Addr) (n c : Nat), e = .returned (.tuple #[.agg #[.int .i64 p.code, .slice p.A p.n p.c], .slice A n c, .int .i64 0]) ∧ Tell1 w' p x ∧ RdN w0 A n c rest ∧ Below w.heap.size w w' ∧
    ∀ a, p.A = some a → w.heap.size ≤ a.block ∧ a.block < w'.heap.size

set_option maxRecDepth 100000 in
set_option maxHeartbeats 1000000 in
theorem first_few {A : Option Addr} {n c : Nat} {w : World} (h2 : n < 2) :
    Calls Tryd.prog 17 #[.slice A n c] w (FirstNo 11 w) := by
  have d1 : decide ((n : Int) < 2) = true := by simp; omega
  go_enter Tryd.func17, Tryd.ntmps17
  go_wp2_with fail
  refine bodyPost_ret (v := .tuple #[.agg #[.int .i64 0, .slice none 0 0], .slice none 0 0, .int .i64 11]) (by simp [results, Tryd.results17, go_sem]) rfl ⟨rfl, ?_⟩
  exact (Below.refl w.heap.size w).alloc (Nat.le_refl _) _

set_option maxRecDepth 100000 in
set_option maxHeartbeats 1000000 in
theorem first_form {A : Option Addr} {n c : Nat} {l : List Int} {w : World} (hr : RdN w A n c l) (h2 : 1 < l.length) (h : l[1] < 0 ∨ 4 < l[1]) :
    Calls Tryd.prog 17 #[.slice A n c] w (FirstNo 10 w) := by
  obtain ⟨hn, hrow, -, -, -⟩ := hr
  obtain ⟨b, o, rfl, hc⟩ := hrow (by omega)
  have hx := hc 1 h2
  have d1 : decide ((n : Int) < 2) = false := by simp; omega
  have n1 : (1 : Int) < (n : Int) := by omega
  generalize l[1] = x at *
  rw [nm_def] at hx
  have hb := lt_of_cell hx
  clear hc hrow hn h2
  rcases Int.lt_or_le x 0 with h0 | h0
  · have d2 : decide (x < 0) = true := by simpa using h0
    clear h h0
    go_enter Tryd.func17, Tryd.ntmps17
    go_wp2_with fail
    refine bodyPost_ret (v := .tuple #[.agg #[.int .i64 0, .slice none 0 0], .slice none 0 0, .int .i64 10]) (by simp [results, Tryd.results17, go_sem]) rfl ⟨rfl, ?_⟩
    exact (Below.refl w.heap.size w).alloc (Nat.le_refl _) _
  · have d2 : decide (x < 0) = false := by simpa using h0
    have d3 : decide (4 < x) = true := by simp; omega
    clear h h0
    go_enter Tryd.func17, Tryd.ntmps17
    go_wp2_with fail
    refine bodyPost_ret (v := .tuple #[.agg #[.int .i64 0, .slice none 0 0], .slice none 0 0, .int .i64 10]) (by simp [results, Tryd.results17, go_sem]) rfl ⟨rfl, ?_⟩
    exact (Below.refl w.heap.size w).alloc (Nat.le_refl _) _

theorem RdN.drop {w : World} {b o n c : Nat} {l : List Int} (h : RdN w (some ⟨b, o, none⟩) n c l) (j : Nat) (hj : j ≤ n) : RdN w (if c = j then some ⟨b, o, none⟩ else some ⟨b, o + j, none⟩) (n - j) (c - j) (l.drop j) := by
  obtain ⟨hn, hrow, hc, hm, hA⟩ := h
  refine ⟨by rw [List.length_drop]; omega, fun h0 => ?_, by omega, by omega, fun e => ?_⟩
  · rw [List.length_drop] at h0
    obtain ⟨b', o', e, hcell⟩ := hrow (by omega)
    injection e with e
    injection e with e1 e2
    subst e1; subst e2
    refine ⟨b, o + j, by rw [if_neg (by omega)], fun i hi => ?_⟩
    rw [List.length_drop] at hi
    rw [List.getElem_drop, Nat.add_assoc]
    exact hcell (j + i) (by omega)
  · split at e <;> cases e
theorem RdN.take {w : World} {A : Option Addr} {n c : Nat} {l : List Int} (h : RdN w A n c l) (j : Nat) (hj : j ≤ n) : RdN w A j c (l.take j) := by
  obtain ⟨hn, hrow, hc, hm, hA⟩ := h
  refine ⟨by rw [List.length_take]; omega, fun h0 => ?_, by omega, hm, hA⟩
  rw [List.length_take] at h0
  obtain ⟨b, o, e, hcell⟩ := hrow (by omega)
  refine ⟨b, o, e, fun i hi => ?_⟩
  rw [List.length_take] at hi
  rw [List.getElem_take]
  exact hcell i (by omega)

/-- Where a part of a slice from the j-th thing on lies. -/
theorem from_at (b o c j : Nat) : ∃ o', (if c = j then (some ⟨b, o, none⟩ : Option Addr) else some ⟨b, o + j, none⟩) = some ⟨b, o', none⟩ := by
  by_cases h : c = j
  · exact ⟨o, if_pos h⟩
  · exact ⟨o + j, if_neg h⟩

set_option maxRecDepth 100000 in
set_option maxHeartbeats 1000000 in
theorem first_short {A : Option Addr} {n c k : Nat} {l : List Int} {w : World} (hr : RdN w A n c l) (h2 : 1 < l.length) (hk : l[1] = (k : Int)) (h4 : k ≤ 4) (h : l.length < k + 2) :
    Calls Tryd.prog 17 #[.slice A n c] w (FirstNo 11 w) := by
  obtain ⟨hn, hrow, hcc, hm, -⟩ := hr
  obtain ⟨b, o, rfl, hc⟩ := hrow (by omega)
  have hx := hc 1 h2
  rw [hk, nm_def] at hx
  obtain ⟨o2, e2⟩ := from_at b o c 2
  have d1 : decide ((n : Int) < 2) = false := by simp; omega
  have n1 : (1 : Int) < (n : Int) := by omega
  have d2 : decide ((k : Int) < 0) = false := by simp
  have d3 : decide (4 < (k : Int)) = false := by simp; omega
  have d4 : n - 2 < k := by omega
  have n2 : 2 ≤ n := by omega
  have hb := lt_of_cell hx
  clear hc hrow hn h2 hk h h4
  go_enter Tryd.func17, Tryd.ntmps17
  go_wp2_with fail
  go_region
  all_goals go_wp2_with fail
  all_goals refine bodyPost_ret (v := .tuple #[.agg #[.int .i64 0, .slice none 0 0], .slice none 0 0, .int .i64 11]) (by simp [results, Tryd.results17, go_sem]) rfl ⟨rfl, ?_⟩
  all_goals exact ((Below.refl w.heap.size w).alloc (Nat.le_refl _) _).drew

set_option maxRecDepth 100000 in
set_option maxHeartbeats 4000000 in
theorem first_ok {A : Option Addr} {n c k : Nat} {l : List Int} {w0 w : World} (hr00 : RdN w0 A n c l) (hb00 : Below w0.heap.size w0 w) (hl : n < 1073741823) (h2 : 1 < l.length) (hk : l[1] = (k : Int)) (h4 : k ≤ 4) (h : k + 2 ≤ l.length) :
    Calls Tryd.prog 17 #[.slice A n c] w (FirstYes ⟨l[0], (l.drop 2).take k⟩ (l.drop (k + 2)) w0 w) := by
  have hr := hr00.stay hb00
  have hr0 := hr
  obtain ⟨hn, hrow, hcc, hm, -⟩ := hr
  obtain ⟨b, o, rfl, hc⟩ := hrow (by omega)
  have hy := hc 0 (by omega)
  have hx := hc 1 h2
  rw [hk, nm_def] at hx
  rw [nm_def, Nat.add_zero] at hy
  have h1 := hr0.drop 2 (by omega)
  have h11 := hr00.drop 2 (by omega)
  obtain ⟨o2, e2⟩ := from_at b o c 2
  rw [e2] at h1 h11
  have h3 := h11.drop k (by omega)
  obtain ⟨o3, e3⟩ := from_at b o2 (c - 2) k
  rw [e3, List.drop_drop, show 2 + k = k + 2 by omega] at h3
  have HT := Lib.hid (fun W (hb : Below w.heap.size w W) => clone_any ((h1.take k (by omega)).stay hb) (by omega))
  have HD := Lib.hid h3
  have d1 : decide ((n : Int) < 2) = false := by simp; omega
  have n1 : (1 : Int) < (n : Int) := by omega
  have d2 : decide ((k : Int) < 0) = false := by simp
  have d3 : decide (4 < (k : Int)) = false := by simp; omega
  have d4 : ¬ n - 2 < k := by omega
  have n2 : 2 ≤ n := by omega
  have n3 : k ≤ n - 2 := by omega
  have n4 : k ≤ c - 2 := by omega
  have n5 : (0 : Int) < (n : Int) := by omega
  have n7 : 0 < n := by omega
  have hb := lt_of_cell hx
  have ne1 : ¬ b = w.heap.size := by simp only at hb; omega
  have ne2 : ¬ w.heap.size = b := by omega
  generalize l[0] = y at *
  clear hc hrow hn h2 hk h h4 hr0 h1 h3 h11 hr00 hb00
  go_enter Tryd.func17, Tryd.ntmps17
  go_wp2_with fail
  go_region
  all_goals go_wp2_with fail
  have hz : Two 27 (w.alloc (.cells #[.int .i64 0, .slice none 0 0] 27)).drew w.heap.size (.int .i64 0) (.slice none 0 0) := Two.new _ w _ _
  have hbw : Below w.heap.size w (w.alloc (.cells #[.int .i64 0, .slice none 0 0] 27)).drew := ((Below.refl w.heap.size w).alloc (Nat.le_refl _) _).drew
  have hyy := (hbw.cell (p := ⟨b, o, none⟩) hb).trans hy
  generalize (w.alloc (.cells #[.int .i64 0, .slice none 0 0] 27)).drew = w1 at *
  have HBW := Lib.hid (And.intro hbw hz)
  have HZ := Lib.hid hz.drew
  have HLT := Lib.hid (Nat.lt_of_lt_of_le hb hbw.size)
  clear hbw hz hx hy
  go_region_held3 (fun w' => w'.cell? ⟨b, o, none⟩ = some (.int .i64 y)) (go_keep)
    (first | (go_at_call 18; ((with_reducible refine (HT.out _ HBW.out.1.drew).mono ?_); rintro e w2 ⟨A', n', c', rfl, hr2, hb2, hg2⟩; have hyy2 := (hb2.cell (p := ⟨b, o, none⟩) HLT.out).trans hyy; have T2 := HZ.out.stay hb2; have h20 := T2.c0; have h21 := T2.c1; have h22 := T2.z0; have h23 := T2.z1; have H2 := Lib.hid (And.intro hr2 (And.intro hb2 (And.intro T2 hg2))); clear hr2 hb2 T2 hg2)))
  obtain ⟨hr2, hb2, T2, hg2⟩ := H2.out
  have T3 := T2.set (.int .i64 y) (.slice A' n' c')
  have c0 := T3.c0
  have c1 := T3.c1
  go_wp2_with fail
  refine bodyPost_ret (v := .tuple #[.agg #[.int .i64 y, .slice A' n' c'], .slice (some ⟨b, o3, none⟩) (n - 2 - k) (c - 2 - k), .int .i64 0]) (by simp [results, Tryd.results17, go_sem, c0, c1]) rfl ?_
  have hw2 : Below w.heap.size w w2 := HBW.out.1.drew.trans (hb2.mono (Nat.le_of_lt HZ.out.lt))
  have hfar : ∀ a, A' = some a → a.block ≠ w.heap.size := fun a e => by have := (hg2 a e).1; have := HZ.out.lt; omega
  have q := (hr2.set (p := ⟨w.heap.size, 0, none⟩) hfar (.int .i64 y)).set (p := ⟨w.heap.size, 1, none⟩) hfar (.slice A' n' c')
  exact ⟨⟨y, A', n', c'⟩, _, _, _, rfl, ⟨rfl, q.1, q.2.1, q.2.2.1, q.2.2.2.1, q.2.2.2.2⟩, HD.out, (hw2.setCell (Nat.le_refl _) _).setCell (Nat.le_refl _) _, fun a e => ⟨by have := (hg2 a e).1; have := HZ.out.lt; omega, by have := (hg2 a e).2; simpa [World.setCell] using this⟩⟩

/-- What is read first of numbers that are left, and how that goes on. -/
theorem first_any {A : Option Addr} {n c : Nat} {l : List Int} {w0 w : World} (hr0 : RdN w0 A n c l) (hb : Below w0.heap.size w0 w) (hl : n < 1073741823) (h0 : 0 < l.length) :
    Calls Tryd.prog 17 #[.slice A n c] w fun e w' =>
      (∃ er, er ≠ 0 ∧ FirstNo er w e w' ∧ ∀ r done, done.length < 256 → scTail r done l = ⟨er, 0, []⟩) ∨
      (∃ x rest, rest.length < l.length ∧ FirstYes x rest w0 w e w' ∧ ∀ r done, done.length < 256 → scTail r done l = scTail r (done ++ [x]) rest) := by
  have hr := hr0.stay hb
  have hn := hr.1
  match l, h0 with
  | [a], _ => exact (first_few (by simp at hn; omega)).mono fun e w' h => .inl ⟨11, by decide, h, fun r done hd => scTail_one r done a hd⟩
  | a :: y :: t, _ =>
    by_cases hy : y < 0 ∨ 4 < y
    · exact (first_form hr (by simp) hy).mono fun e w' h => .inl ⟨10, by decide, h, fun r done hd => scTail_form r done a y t hd hy⟩
    · obtain ⟨k, rfl⟩ : ∃ k : Nat, y = k := ⟨y.toNat, by omega⟩
      by_cases hk : t.length < k
      · exact (first_short hr (by simp) rfl (by omega) (by simp; omega)).mono fun e w' h => .inl ⟨11, by decide, h, fun r done hd => scTail_short r done a k t hd hy (by simpa using hk)⟩
      · exact (first_ok hr0 hb hl (by simp) rfl (by omega) (by simp; omega)).mono fun e w' h => .inr ⟨_, _, by simp; omega, h, fun r done hd => by
          rw [scTail_more r done a k t hd hy (by simpa using hk)]
          rfl⟩

end Go.Proofs.YtfjjfljkdflpcaaDoor
