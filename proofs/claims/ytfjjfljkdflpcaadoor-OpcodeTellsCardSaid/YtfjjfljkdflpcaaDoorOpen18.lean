/-
  Arguments opened to what they hold: a slice of numbers, an operation, a script. No conditions.
-/
import Derived.Test.YtfjjfljkdflpcaaDoorFlat
import Derived.Test.YtfjjfljkdflpcaaDoorOp6
namespace Go.Proofs.YtfjjfljkdflpcaaDoor
open Go.ChangeShapes Go.WideShapes Go.ChangeAt Go.RowKit Go.Deep Go.Joins

/-- Of what there is at each place below n, a list. -/
theorem choose_list {α β : Type} {n : Nat} {V : Nat → β} {R : α → β} (h : ∀ i, i < n → ∃ a, V i = R a) : ∃ X : List α, X.length = n ∧ ∀ (j : Nat) (hj : j < X.length), V j = R X[j] := by
  induction n with
  | zero => exact ⟨[], rfl, fun j hj => by simp at hj⟩
  | succ n ih =>
    obtain ⟨X, hl, hX⟩ := ih (fun i hi => h i (by omega))
    obtain ⟨a, ha⟩ := h n (by omega)
    refine ⟨X ++ [a], by simp [hl], fun j hj => ?_⟩
    by_cases hj2 : j < X.length
    · rw [List.getElem_append_left hj2]; exact hX j hj2
    · have : j = n := by simp at hj; omega
      subst this
      rw [List.getElem_append_right (by omega)]
      simpa using ha

theorem cellsNum : Tryd.prog.cellsOf 2 = 1 := by kernel_rfl
theorem cellsNums : Tryd.prog.cellsOf 22 = 1 := by kernel_rfl
theorem cellsOp : Tryd.prog.cellsOf 27 = 2 := by kernel_rfl
theorem cellsOps : Tryd.prog.cellsOf 23 = 1 := by kernel_rfl
theorem cellsScript : Tryd.prog.cellsOf 25 = 2 := by kernel_rfl
theorem cellsRoom : Tryd.prog.cellsOf 3 = 1 := by kernel_rfl

section
variable {H : Type} {enc : TypeId × Value → H} {w : World} {base : Nat} {held : Bool}
theorem flat_opens {P : Program} {fuel : Nat} {t e : TypeId} {cs : List Value} {x : DataW H × List MemPlace} (k : Nat) (hk : 0 < k) (ht : P.underlying t = some (.slice e)) (ce : P.cellsOf e = k) (Good : List Value → Prop)
    (hg : ∀ (fuel : Nat) (cs : List Value) (x : DataW H × List MemPlace), cs.length = k → DataW.trod enc P w base (fun _ => true) held fuel e cs = some x → Good cs)
    (hf : DataW.trod enc P w base (fun _ => true) held fuel t cs = some x) :
    ∃ (A : Option Addr) (n c : Nat) (V : Nat → List Value), cs = [.slice A n c] ∧ FlatRow w A n k V ∧ n ≤ c ∧ c ≤ 9223372036854775807 ∧ (A = none → c = 0) ∧ ∀ i, i < n → Good (V i) := by
  rcases open_slice ht hf with ⟨hcs, -⟩ | ⟨a, len, cap, m, n, D, Pl, hcs, -, hlc, hcm, hm, -, hall⟩
  · rw [hcs]
    exact ⟨none, 0, 0, fun _ => [], rfl, fun h => by omega, Nat.le_refl _, by omega, fun _ => rfl, fun i hi => by omega⟩
  · rw [hcs]
    have hlm : len ≤ m := by rw [hm]; simp; exact hlc
    have each : ∀ i, i < len → ∃ cs, cs.length = k ∧ Good cs ∧ ∀ j, j < k → w.cell? ((a.add (i * k)).add j) = cs[j]? := by
      intro i hi
      obtain ⟨cs, h1, h2⟩ := hall i (by omega)
      rw [ce] at h1
      obtain ⟨-, hl, hc⟩ := World.cells?_some h1
      exact ⟨cs, hl, hg _ _ _ hl h2, hc⟩
    obtain ⟨V, hV⟩ := choose_lt each
    refine ⟨some a, len, cap, V, rfl, fun hpos => ?_, hlc, by unfold maxLen at hcm; omega, (fun e => by cases e), fun i hi => (hV i hi).2.1⟩
    obtain ⟨l0, -, c0⟩ := hV 0 hpos
    have q0 := c0 0 hk
    rw [List.getElem?_eq_getElem (by omega)] at q0
    have ea : (a.add (0 * k)).add 0 = a := by unfold Addr.add; simp
    rw [ea] at q0
    have ha := flat_plain q0
    refine ⟨a.block, a.off, by rw [← ha], fun i hi => ⟨(hV i hi).1, fun j v hj => ?_⟩⟩
    have hjk : j < k := by
      have := (List.getElem?_eq_some_iff.1 hj).1
      have := (hV i hi).1
      omega
    have := (hV i hi).2.2 j hjk
    rw [ha, flat_add, Go.Proofs.YtfjjfljkdflpcaaDoor.flat_add, hj] at this
    exact this

theorem nums_opens (fuel : Nat) (cs : List Value) (x : DataW H × List MemPlace) (hf : DataW.trod enc Tryd.prog w base (fun _ => true) held fuel 22 cs = some x) :
    ∃ (A : Option Addr) (n c : Nat) (xs : List Int), cs = [.slice A n c] ∧ RdN w A n c xs := by
  obtain ⟨A, n, c, V, rfl, hr, hc, hm, hA, hgo⟩ := flat_opens 1 (by omega) Tryd.underlying22 cellsNum (fun cs => ∃ a : Int, cs = [nm a]) (fun fuel cs x hl h => by
    match cs, hl with
    | [v], _ =>
      obtain ⟨a, e, -, -⟩ := DataW.trod_int Tryd.underlying2 h
      injection e with e
      exact ⟨a, by rw [e]; rfl⟩) hf
  obtain ⟨X, hl, hX⟩ := choose_list (R := fun a => [nm a]) hgo
  refine ⟨A, n, c, X, rfl, hl.symm, fun hpos => ?_, hc, hm, hA⟩
  obtain ⟨b, o, e, hcell⟩ := hr (by omega)
  refine ⟨b, o, e, fun j hj => ?_⟩
  have h1 := (hcell j (by omega)).2 0 (nm X[j]) (by rw [hX j hj]; rfl)
  simpa using h1

theorem op_opens (fuel : Nat) (cs : List Value) (x : DataW H × List MemPlace) (hl : cs.length = 2) (hf : DataW.trod enc Tryd.prog w base (fun _ => true) held fuel 27 cs = some x) :
    ∃ a : {q : OpV × OpD // Tell1 w q.1 q.2}, cs = a.val.1.cells := by
  match cs, hl with
  | [v0, v1], _ =>
  obtain ⟨y0, y1, n, -, -, h0, h1⟩ := trod_struct2 Tryd.underlying27 hf
  simp [cellsNum, cellsNums] at h0 h1
  obtain ⟨c, e0, -, -⟩ := DataW.trod_int Tryd.underlying2 h0
  obtain ⟨A, n1, c1, xs, e1, hr⟩ := nums_opens _ _ _ h1
  injection e0 with e0
  injection e1 with e1
  subst e0 e1
  exact ⟨⟨(⟨c, A, n1, c1⟩, ⟨c, xs⟩), ⟨rfl, hr.1, hr.2.1, hr.2.2.1, hr.2.2.2.1, hr.2.2.2.2⟩⟩, rfl⟩

theorem tells_of (w : World) : ∀ X : List {q : OpV × OpD // Tell1 w q.1 q.2}, Tells w (X.map fun a => a.val.1) (X.map fun a => a.val.2)
  | [] => trivial
  | a :: X => ⟨a.property, tells_of w X⟩

theorem ops_opens (fuel : Nat) (cs : List Value) (x : DataW H × List MemPlace) (hf : DataW.trod enc Tryd.prog w base (fun _ => true) held fuel 23 cs = some x) :
    ∃ (A : Option Addr) (n c : Nat) (ps : List OpV) (xs : List OpD), cs = [.slice A n c] ∧ OpsAt w A n c ps xs := by
  obtain ⟨A, n, c, V, rfl, hr, hc, hm, hA, hgo⟩ := flat_opens 2 (by omega) Tryd.underlying23 cellsOp (fun cs => ∃ a : {q : OpV × OpD // Tell1 w q.1 q.2}, cs = a.val.1.cells) (fun fuel cs x hl h => op_opens fuel cs x hl h) hf
  obtain ⟨X, hl, hX⟩ := choose_list (R := fun a : {q : OpV × OpD // Tell1 w q.1 q.2} => a.val.1.cells) hgo
  refine ⟨A, n, c, X.map (fun a => a.val.1), X.map (fun a => a.val.2), rfl, by simp [hl], fun hpos => ?_, tells_of w X, hc, hm, hA⟩
  rw [List.length_map] at hpos
  obtain ⟨b, o, e, hcell⟩ := hr (by omega)
  refine ⟨b, o, e, fun i hi => ?_⟩
  rw [List.length_map] at hi
  have h1 := (hcell i (by omega)).2
  rw [hX i hi] at h1
  simp only [List.getElem_map]
  exact ⟨by have := h1 0 _ rfl; simpa using this, h1 1 _ rfl⟩

set_option maxRecDepth 100000 in
theorem open_nums {r : Reach} {b0 : Nat} {v : Value} {d : DataW H} {p : List MemPlace} (hv : Value.okWide Tryd.prog w r b0 22 v) (h : DataW.Trod enc Tryd.prog w base (fun _ => true) held 22 v d p) :
    ∃ (A : Option Addr) (n c : Nat) (xs : List Int), v = .slice A n c ∧ RdN w A n c xs := by
  obtain ⟨fuel, hf⟩ := h
  obtain ⟨a0, l0, c0, rfl⟩ := okWide_slice Tryd.underlying22 hv
  obtain ⟨A, n, c, xs, e, hr⟩ := nums_opens _ _ _ hf
  exact ⟨A, n, c, xs, by simpa [Value.cells] using e, hr⟩

set_option maxRecDepth 100000 in
theorem open_op {r : Reach} {b0 : Nat} {v : Value} {d : DataW H} {p : List MemPlace} (hv : Value.okWide Tryd.prog w r b0 27 v) (h : DataW.Trod enc Tryd.prog w base (fun _ => true) held 27 v d p) :
    ∃ (c : Int) (A : Option Addr) (n m : Nat) (xs : List Int), v = .agg #[.int .i64 c, .slice A n m] ∧ RdN w A n m xs := by
  obtain ⟨v0, v1, y0, y1, n, rfl, -, -, h0, h1⟩ := open_agg2 (enc := enc) (w := w) (base := base) (held := held) Tryd.underlying27 (by kernel_rfl) cellsOp hv h
  obtain ⟨c, e0, -, -⟩ := DataW.trod_int Tryd.underlying2 h0
  obtain ⟨A, n1, c1, xs, e1, hr⟩ := nums_opens _ _ _ h1
  injection e0 with e0
  injection e1 with e1
  subst e0 e1
  exact ⟨c, A, n1, c1, xs, rfl, hr⟩

set_option maxRecDepth 100000 in
theorem open_script {r : Reach} {b0 : Nat} {v : Value} {d : DataW H} {p : List MemPlace} (hv : Value.okWide Tryd.prog w r b0 25 v) (h : DataW.Trod enc Tryd.prog w base (fun _ => true) held 25 v d p) :
    ∃ (c : Int) (B : Option Addr) (k m : Nat) (ps : List OpV) (xs : List OpD), v = .agg #[.int .i64 c, .slice B k m] ∧ OpsAt w B k m ps xs := by
  obtain ⟨v0, v1, y0, y1, n, rfl, -, -, h0, h1⟩ := open_agg2 (enc := enc) (w := w) (base := base) (held := held) Tryd.underlying25 (by kernel_rfl) cellsScript hv h
  obtain ⟨c, e0, -, -⟩ := DataW.trod_int Tryd.underlying3 h0
  obtain ⟨A, n1, c1, ps, xs, e1, hr⟩ := ops_opens _ _ _ h1
  injection e0 with e0
  injection e1 with e1
  subst e0 e1
  exact ⟨c, A, n1, c1, ps, xs, rfl, hr⟩
end

end Go.Proofs.YtfjjfljkdflpcaaDoor
