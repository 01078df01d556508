/-
  Rows of numbers and rows of operations in memory; the built-in append of numbers to a row of numbers, and of an operation to a row of operations, that the call itself made. For rows of fewer than 2 to the 31st things.
-/
import Derived.Test.YtfjjfljkdflpcaaDoorProg
import Derived.Test.YtfjjfljkdflpcaaDoorRow1
import Derived.Test.YtfjjfljkdflpcaaDoorOp0
import Derived.Deep.AppendLies
namespace Go.Proofs.YtfjjfljkdflpcaaDoor
open Go.Sort Go.RowKit

/-- A number's cell. -/
def nm (n : Int) : Value := .int .i64 n
theorem nm_def (n : Int) : nm n = .int .i64 n := rfl

theorem infoN : (Tryd.prog.info? 2).map (fun i => (i.zero, i.size, i.bytes)) = some (some (.int .i64 0), 1, 8) := by kernel_rfl
theorem infoO1 : (Tryd.prog.info? 27).map (fun i => (i.zero, i.size, i.bytes)) = some (some (.agg #[.int .i64 0, .slice none 0 0]), 2, 32) := by kernel_rfl
theorem infoO2 : (Tryd.prog.info? 46).map (fun i => (i.zero, i.size, i.bytes)) = some (some (.agg #[.int .i64 0, .slice none 0 0]), 2, 32) := by kernel_rfl

theorem nm_one (ys : List Int) : ∀ u ∈ ys.map nm, u.oneCell' = true := by
  intro u hu
  obtain ⟨y, _, rfl⟩ := List.mem_map.1 hu
  rfl

/-- append at its operation, by what its run is known to give. -/
theorem wpList_append_ex {P : Program} {w : World} {ops : Array Oper} {rest : List Oper} {o : Oper} {a : Act} {Q : Exit → Act → World → Prop} (hgd : o.guard = Option.none) (s x : Operand) (t : TypeId)
    (ho : o.op = .call { callee := .builtin .append, args := #[s, x], argTypes := #[t, t] }) (v xv : Value) (hs : a.eval s = v) (hx : a.eval x = xv) {R : Value → World → Prop}
    (hrun : ∃ v' w', (Builtin.append_ #[t, t] o.type #[v, xv]).run P w = .ok v' w' ∧ R v' w') (h : ∀ v' w', R v' w' → wpList P ops Q rest (a.put o.dst v') w') : wpList P ops Q (o :: rest) a w := by
  obtain ⟨v', w', hrun, hR⟩ := hrun
  refine wpList_plain hgd fun K hK => ?_
  unfold Oper.wp
  simp [execOp, ho, resolve, invoke, builtin, hs, hx, hrun, Result.andThen]
  exact hK _ _ (h v' w' hR)
/-- .. and at a step of a region that draws its order. -/
theorem step_append_ex {P : Program} {w : World} {ops : Array Oper} {o : Oper} {a : Act} {K : Act → World → Prop} {Q : Exit → Act → World → Prop} {E : Prop} (hgd : o.guard = Option.none) (s x : Operand) (t : TypeId)
    (ho : o.op = .call { callee := .builtin .append, args := #[s, x], argTypes := #[t, t] }) (v xv : Value) (hs : a.eval s = v) (hx : a.eval x = xv) {R : Value → World → Prop}
    (hrun : ∃ v' w', (Builtin.append_ #[t, t] o.type #[v, xv]).run P w = .ok v' w' ∧ R v' w') (h : ∀ v' w', R v' w' → K (a.put o.dst v') w') :
    if Region.wanted o (yielded ops a.tmps) = true then Oper.wp P o a w K Q else E := by
  have hw : Region.wanted o (yielded ops a.tmps) = true := by simp [Region.wanted, hgd]
  rw [if_pos hw]
  obtain ⟨v', w', hrun, hR⟩ := hrun
  unfold Oper.wp
  simp [execOp, ho, resolve, invoke, builtin, hs, hx, hrun, Result.andThen]
  exact h v' w' hR

/-- A row of numbers of the call's own. -/
def MineN (w : World) (base : Nat) (v : Value) (xs : List Int) : Prop := Mine nm 2 w base v xs

theorem append_num (w : World) (base : Nat) (v : Value) (xs ys : List Int) (A : Option Addr) (n c : Nat) (hn : n = ys.length) (hown : MineN w base v xs) (hr : Row1 nm w A ys) (hA : A = none → c = 0) (hlen : xs.length + ys.length < 2147483648) (hb : base ≤ w.heap.size) :
    ∃ v' w', (Builtin.append_ #[22, 22] 22 #[v, .slice A n c]).run Tryd.prog w = .ok v' w' ∧ MineN w' base v' (xs ++ ys) ∧ w.grownBy w' v.ownBlock ∧ (v'.ownBlock = v.ownBlock ∨ v'.ownBlock = some w.heap.size) := by
  subst hn
  obtain ⟨i0, hi, hz0, hz1, hz2⟩ := info_parts infoN
  have step : ∀ a : Addr, (∀ j u, (ys.map nm)[j]? = some u → w.cell? (a.add j) = some u) → ∃ v' w', (Builtin.append_ #[22, 22] 22 #[v, .slice (some a) ys.length c]).run Tryd.prog w = .ok v' w' ∧ MineN w' base v' (xs ++ ys) ∧ w.grownBy w' v.ownBlock ∧ (v'.ownBlock = v.ownBlock ∨ v'.ownBlock = some w.heap.size) := by
    intro a hc
    obtain ⟨v', w', h1, h2, h3, _, h5⟩ := run_append_own_at (P := Tryd.prog) w base 22 22 2 i0 _ 1 8 Tryd.underlying22 hi hz0 hz1 hz2 rfl (by omega) v xs.length (xs.map nm) hown a ys.length c (ys.map nm) (by simp) hc (nm_one ys) (by unfold maxLen; omega) (by omega) hb
    refine ⟨v', w', h1, ?_, h3, h5⟩
    unfold MineN Mine
    rw [List.map_append, List.length_append]
    exact h2
  by_cases h0 : 0 < ys.length
  · obtain ⟨b, o, rfl, hc⟩ := hr h0
    exact step _ (fun j u hu => by
      rw [add_flat]
      have hj : j < ys.length := by have := (List.getElem?_eq_some_iff.1 hu).1; simpa using this
      rw [List.getElem?_map, List.getElem?_eq_getElem hj] at hu
      injection hu with hu
      rw [← hu]
      exact hc j hj)
  · obtain rfl : ys = [] := List.eq_nil_of_length_eq_zero (by omega)
    cases A with
    | some a => exact step a (fun j u hu => by simp at hu)
    | none =>
      obtain rfl := hA rfl
      have hrun := run_append_owned_none (P := Tryd.prog) (w := w) base 22 22 2 i0 1 Tryd.underlying22 hi v xs.length (xs.map nm) hown
      exact ⟨v, w, hrun, by rw [List.append_nil]; exact hown, World.grownBy.refl w _, Or.inl rfl⟩

/-- A block of numbers that was just laid reads as a row. -/
theorem row_new (w : World) (ys : List Int) (t : TypeId) : Row1 nm (w.alloc (.cells (ys.map nm).toArray t)) (some ⟨w.heap.size, 0, none⟩) ys := fun _ =>
  ⟨w.heap.size, 0, rfl, fun j hj => by
    have e : (w.alloc (.cells (ys.map nm).toArray t)).heap[w.heap.size]? = some (.cells (ys.map nm).toArray t (0, 0)) := heap_alloc_new w _
    generalize w.alloc (.cells (ys.map nm).toArray t) = w1 at e ⊢
    simp [World.cell?, e, hj]⟩

/-- An operation in memory: its code, and the slice of what it is told. -/
structure OpV where
  code : Int
  A : Option Addr
  n : Nat
  c : Nat
deriving Inhabited
def OpV.cells (p : OpV) : List Value := [.int .i64 p.code, .slice p.A p.n p.c]
def cellsO (ps : List OpV) : List Value := ps.flatMap OpV.cells

theorem cellsO_length (ps : List OpV) : (cellsO ps).length = ps.length * 2 := by
  induction ps with
  | nil => rfl
  | cons x r ih => simp only [cellsO, List.flatMap_cons, List.length_append, List.length_cons] at *; rw [ih]; simp [OpV.cells]; omega
theorem cellsO_append (ps qs : List OpV) : cellsO (ps ++ qs) = cellsO ps ++ cellsO qs := by simp [cellsO]
theorem cellsO_at : ∀ (ps : List OpV) (i : Nat) (h : i < ps.length), (cellsO ps)[i * 2]? = some (.int .i64 ps[i].code) ∧ (cellsO ps)[i * 2 + 1]? = some (.slice ps[i].A ps[i].n ps[i].c)
  | [], i, h => by simp at h
  | x :: r, 0, _ => by simp [cellsO, OpV.cells]
  | x :: r, i + 1, h => by
    have ih := cellsO_at r i (by simpa using h)
    have e : cellsO (x :: r) = .int .i64 x.code :: .slice x.A x.n x.c :: cellsO r := rfl
    rw [e, show (i + 1) * 2 = i * 2 + 1 + 1 by omega, show i * 2 + 1 + 1 + 1 = (i * 2 + 1) + 1 + 1 by omega]
    simpa using ih
theorem cellsO_one (ps : List OpV) : ∀ v ∈ cellsO ps, v.oneCell' = true := by
  intro v hv
  simp only [cellsO, List.mem_flatMap, OpV.cells] at hv
  obtain ⟨x, _, hx⟩ := hv
  simp at hx
  rcases hx with rfl | rfl <;> rfl

/-- At A lie these operations. -/
def RowO (w : World) (A : Option Addr) (ps : List OpV) : Prop :=
  0 < ps.length → ∃ b o, A = some ⟨b, o, none⟩ ∧ ∀ (i : Nat) (h : i < ps.length), w.cell? ⟨b, o + i * 2, none⟩ = some (.int .i64 ps[i].code) ∧ w.cell? ⟨b, o + i * 2 + 1, none⟩ = some (.slice ps[i].A ps[i].n ps[i].c)
theorem RowO.nil (w : World) (A : Option Addr) : RowO w A [] := fun h => by simp at h
theorem RowO.stay {w w' : World} {A : Option Addr} {ps : List OpV} (h : RowO w A ps) (hb : Below w.heap.size w w') : RowO w' A ps := fun h0 => by
  obtain ⟨b, o, e, hc⟩ := h h0
  have hlt := lt_of_cell (hc 0 h0).1
  exact ⟨b, o, e, fun j hj => ⟨(hb.cell (p := ⟨b, o + j * 2, none⟩) hlt).trans (hc j hj).1, (hb.cell (p := ⟨b, o + j * 2 + 1, none⟩) hlt).trans (hc j hj).2⟩⟩

/-- A row of operations of the call's own. -/
def OwnO (t : TypeId) (w : World) (base : Nat) (v : Value) (ps : List OpV) : Prop := w.ownsRow base t 2 v ps.length (cellsO ps)
theorem OwnO.none (t : TypeId) (w : World) (base : Nat) : OwnO t w base (.slice Option.none 0 0) [] := World.ownsRow_nil w base _ _
theorem OwnO.form {t : TypeId} {w : World} {base : Nat} {v : Value} {ps : List OpV} (h : OwnO t w base v ps) : ∃ A c, v = .slice A ps.length c ∧ RowO w A ps ∧ ps.length ≤ c ∧ c ≤ 9223372036854775807 ∧ (A = Option.none → c = 0) ∧ ∀ a, A = some a → base ≤ a.block ∧ a.block < w.heap.size := by
  have h0 := h
  rcases h.2 with ⟨rfl, hn⟩ | ⟨g, cap, cur, rfl, hb, hg, hc, hm, _⟩
  · obtain rfl : ps = [] := List.eq_nil_of_length_eq_zero hn
    exact ⟨Option.none, 0, rfl, RowO.nil _ _, Nat.le_refl _, by omega, fun _ => rfl, fun a e => by cases e⟩
  · refine ⟨_, cap, rfl, fun _ => ⟨g, 0, rfl, fun j hj => ?_⟩, hc, by unfold maxLen at hm; omega, (fun e => by cases e), fun a e => ?_⟩
    · have e := cellsO_at ps j hj
      have h1 := h0.cells (g := g) rfl (j * 2) _ e.1
      have h2 := h0.cells (g := g) rfl (j * 2 + 1) _ e.2
      rw [add_flat] at h1 h2
      exact ⟨h1, by rw [Nat.add_assoc]; exact h2⟩
    · injection e with e
      rw [← e]
      exact ⟨hb, (Array.getElem?_eq_some_iff.1 hg).1⟩
theorem OwnO.stay {t : TypeId} {w w' : World} {base : Nat} {v : Value} {ps : List OpV} (h : OwnO t w base v ps) (hb : Below w.heap.size w w') : OwnO t w' base v ps := by
  refine World.ownsRow.kept h (row := Option.none) ⟨hb.os, hb.tape, hb.output, hb.size, fun k hk _ => hb.block k hk⟩ ?_
  cases v.ownBlock <;> simp
theorem OwnO.set {t : TypeId} {w : World} {base : Nat} {v : Value} {ps : List OpV} (h : OwnO t w base v ps) {a : Addr} (ha : a.block < base) (u : Value) : OwnO t (w.setCell a u) base v ps := by
  refine World.ownsRow.kept h (row := some a.block) ⟨rfl, rfl, rfl, by simp [World.setCell], fun k hk hne => Below.heap_setCell w a u k (fun e => hne (by rw [e]))⟩ ?_
  cases hv : v.ownBlock with
  | none => exact Or.inl rfl
  | some k => right; intro e; injection e with e; have := (World.ownsRow.lt h k hv).1; omega

/-- One operation is appended. -/
theorem append_op {P : Program} {t ts : TypeId} (ht : P.underlying ts = some (.slice t)) (hinfo : (P.info? t).map (fun i => (i.zero, i.size, i.bytes)) = some (some (.agg #[.int .i64 0, .slice none 0 0]), 2, 32))
    (w : World) (base : Nat) (v : Value) (ps : List OpV) (p : OpV) (hown : OwnO t w base v ps) (hlen : ps.length < 1073741824) (hb : base ≤ w.heap.size) :
    ∃ v' w', (Builtin.append_ #[ts, ts] ts #[v, .slice (some ⟨w.heap.size, 0, none⟩) 1 1]).run P (w.alloc (.cells #[.int .i64 p.code, .slice p.A p.n p.c] t)) = .ok v' w' ∧
      (∃ g c, v' = .slice (some ⟨g, 0, none⟩) (ps.length + 1) c ∧ OwnO t w' base v' (ps ++ [p]) ∧ Below base w w' ∧ (∀ k, k < w.heap.size → some k ≠ v.ownBlock → w'.heap[k]? = w.heap[k]?) ∧ g < w'.heap.size ∧ base ≤ g ∧ w.heap.size ≤ w'.heap.size ∧ (v.ownBlock = some g ∨ w.heap.size ≤ g)) := by
  obtain ⟨i0, hi, hz0, hz1, hz2⟩ := info_parts hinfo
  have hbl := (Below.refl w.heap.size w).alloc (Nat.le_refl _) (.cells #[.int .i64 p.code, .slice p.A p.n p.c] t)
  have hown' := hown.stay hbl
  have hnew : (w.alloc (.cells #[.int .i64 p.code, .slice p.A p.n p.c] t)).heap[w.heap.size]? = some (.cells #[.int .i64 p.code, .slice p.A p.n p.c] t (0, 0)) := heap_alloc_new w _
  generalize w.alloc (.cells #[.int .i64 p.code, .slice p.A p.n p.c] t) = w1 at *
  have hs1 : w.heap.size ≤ w1.heap.size := hbl.size
  obtain ⟨v', w', h1, h2, h3, _, h5⟩ := run_append_own_at (P := P) w1 base ts ts t i0 _ 2 32 ht hi hz0 hz1 hz2 rfl (by omega) v ps.length (cellsO ps) hown' ⟨w.heap.size, 0, none⟩ 1 1 (cellsO [p]) (by simp [cellsO, OpV.cells]) (fun j u hu => by
      have hj : j < 2 := by have := (List.getElem?_eq_some_iff.1 hu).1; simpa [cellsO, OpV.cells] using this
      rw [add_flat]
      match j, hj with
      | 0, _ => simp [cellsO, OpV.cells] at hu; subst hu; simp [World.cell?, hnew]
      | 1, _ => simp [cellsO, OpV.cells] at hu; subst hu; simp [World.cell?, hnew]) (cellsO_one [p]) (by unfold maxLen; omega) (by omega) (by omega)
  have h2' : OwnO t w' base v' (ps ++ [p]) := by
    unfold OwnO
    rw [cellsO_append, List.length_append]
    exact h2
  obtain ⟨g, c, rfl, hg, hlt⟩ := h2.form (by omega)
  refine ⟨_, w', h1, g, c, rfl, h2', ?_, ?_, hlt, hg, ?_, ?_⟩
  · exact below_grown (hbl.mono hb) h3 (by omega) (fun k hk => (World.ownsRow.lt hown' k hk).1)
  · intro k hk hne
    rw [h3.block k (by omega) hne]
    exact hbl.block k hk
  · have := h3.size; omega
  · rcases h5 with h5 | h5
    · left; rw [← h5]; rfl
    · right
      have : g = w1.heap.size := by simpa [Value.ownBlock] using h5
      omega

/-- What an operation in memory reads as. -/
structure Tell1 (w : World) (p : OpV) (x : OpD) : Prop where
  code : p.code = x.code
  n : p.n = x.args.length
  row : Row1 nm w p.A x.args
  le : p.n ≤ p.c
  max : p.c ≤ 9223372036854775807
  nil : p.A = none → p.c = 0
theorem Tell1.stay {w w' : World} {p : OpV} {x : OpD} (h : Tell1 w p x) (hb : Below w.heap.size w w') : Tell1 w' p x := ⟨h.code, h.n, h.row.stay hb, h.le, h.max, h.nil⟩
def Tells (w : World) : List OpV → List OpD → Prop
  | [], [] => True
  | p :: ps, x :: xs => Tell1 w p x ∧ Tells w ps xs
  | _, _ => False
theorem Tells.length {w : World} : ∀ {ps : List OpV} {xs : List OpD}, Tells w ps xs → ps.length = xs.length
  | [], [], _ => rfl
  | [], _ :: _, h => h.elim
  | _ :: _, [], h => h.elim
  | _ :: _, _ :: _, h => by simp [Tells.length h.2]
theorem Tells.stay {w w' : World} (hb : Below w.heap.size w w') : ∀ {ps : List OpV} {xs : List OpD}, Tells w ps xs → Tells w' ps xs
  | [], [], _ => trivial
  | [], _ :: _, h => h.elim
  | _ :: _, [], h => h.elim
  | _ :: _, _ :: _, h => ⟨h.1.stay hb, Tells.stay hb h.2⟩
theorem Tells.append {w : World} {q : OpV} {y : OpD} (hq : Tell1 w q y) : ∀ {ps : List OpV} {xs : List OpD}, Tells w ps xs → Tells w (ps ++ [q]) (xs ++ [y])
  | [], [], _ => ⟨hq, trivial⟩
  | [], _ :: _, h => h.elim
  | _ :: _, [], h => h.elim
  | _ :: _, _ :: _, h => ⟨h.1, Tells.append hq h.2⟩
theorem Tells.at {w : World} : ∀ {ps : List OpV} {xs : List OpD}, Tells w ps xs → ∀ (i : Nat) (h1 : i < ps.length) (h2 : i < xs.length), Tell1 w ps[i] xs[i]
  | [], [], _, i, h1, _ => by simp at h1
  | [], _ :: _, h, _, _, _ => h.elim
  | _ :: _, [], h, _, _, _ => h.elim
  | _ :: _, _ :: _, h, 0, _, _ => h.1
  | _ :: _, _ :: _, h, i + 1, h1, h2 => Tells.at h.2 i (by simpa using h1) (by simpa using h2)
/-- Where no block of the rows has turned they are told as before. -/
theorem Tells.keep {w w' : World} : ∀ {ps : List OpV} {xs : List OpD}, Tells w ps xs → (∀ p ∈ ps, ∀ a, p.A = some a → w'.heap[a.block]? = w.heap[a.block]?) → Tells w' ps xs
  | [], [], _, _ => trivial
  | [], _ :: _, h, _ => h.elim
  | _ :: _, [], h, _ => h.elim
  | p :: ps, x :: xs, h, hk => by
    refine ⟨⟨h.1.code, h.1.n, fun h0 => ?_, h.1.le, h.1.max, h.1.nil⟩, Tells.keep h.2 (fun q hq => hk q (by simp [hq]))⟩
    obtain ⟨b, o, e, hc⟩ := h.1.row h0
    refine ⟨b, o, e, fun j hj => ?_⟩
    have h1 := hk p (by simp) _ e
    exact (World.cell?_of_block (w := w) (w' := w') (a := ⟨b, o + j, none⟩) h1).trans (hc j hj)
/-- Every row in it lies in the world as it is. -/
theorem Tell1.lt {w : World} {p : OpV} {x : OpD} (h : Tell1 w p x) (h0 : 0 < x.args.length) : ∃ b o, p.A = some ⟨b, o, none⟩ ∧ b < w.heap.size := by
  obtain ⟨b, o, e, hc⟩ := h.row h0
  exact ⟨b, o, e, lt_of_cell (hc 0 h0)⟩

end Go.Proofs.YtfjjfljkdflpcaaDoor
