/-
  The built-in append of a row of elements (nil, empty or not) to a row that the call itself made (or to none): what it hands back, and what it leaves alone. For rows of fewer than 2^31 elements together.
-/
import Derived.Test.YtliehednnhilkaaDoorProg
import Derived.Test.YtliehednnhilkaaDoorRow
import Derived.Maps.AppendAt
import Derived.Laws.AppendOwnNone
import Derived.Laws.OwnMore
import Derived.Test.YtliehednnhilkaaDoorGrown
namespace Go.Proofs.YtliehednnhilkaaDoor
open Go.Sort Go.RowKit

theorem infoA : (Tryd.prog.info? 32).map (fun i => (i.zero, i.size, i.bytes)) = some (some (.agg #[.int .i64 0, .int .i64 0]), 2, 16) := by kernel_rfl

/-- A row of the call's own, as a slice. -/
def Own (w : World) (base : Nat) (v : Value) (xs : List (Int × Int)) : Prop := w.ownsRow base 32 2 v xs.length (cellsE xs)

theorem Own.none (w : World) (base : Nat) : Own w base (.slice Option.none 0 0) [] := World.ownsRow_nil w base _ _

theorem Own.form {w : World} {base : Nat} {v : Value} {xs : List (Int × Int)} (h : Own w base v xs) :
    ∃ A c, v = .slice A xs.length c ∧ Row w A xs ∧ xs.length ≤ c ∧ c ≤ 9223372036854775807 ∧ (A = Option.none → c = 0) := by
  have h0 := h
  rcases h.2 with ⟨rfl, hn⟩ | ⟨g, cap, cur, rfl, hb, hg, hc, hm, _⟩
  · obtain rfl : xs = [] := List.eq_nil_of_length_eq_zero hn
    exact ⟨Option.none, 0, rfl, Row.nil _ _, Nat.le_refl _, by omega, fun _ => rfl⟩
  · refine ⟨_, cap, rfl, fun _ => ⟨g, 0, rfl, fun j u hu => ?_⟩, hc, by unfold maxLen at hm; omega, fun e => by cases e⟩
    have := h0.cells (g := g) rfl j u hu
    rwa [add_plain] at this

theorem append_row (w : World) (base : Nat) (v : Value) (xs ys : List (Int × Int)) (A : Option Addr) (c : Nat) (hown : Own w base v xs) (hr : Row w A ys) (hA : A = Option.none → c = 0) (hlen : xs.length + ys.length < 2147483648) (hb : base ≤ w.heap.size) :
    ∃ v' w', (Builtin.append_ #[36, 36] 36 #[v, .slice A ys.length c]).run Tryd.prog w = .ok v' w' ∧ Own w' base v' (xs ++ ys) ∧ w.grownBy w' v.ownBlock := by
  obtain ⟨i0, hi, hz0, hz1, hz2⟩ := info_parts infoA
  have step : ∀ a : Addr, (∀ j u, (cellsE ys)[j]? = some u → w.cell? (a.add j) = some u) → ∃ v' w', (Builtin.append_ #[36, 36] 36 #[v, .slice (some a) ys.length c]).run Tryd.prog w = .ok v' w' ∧ Own w' base v' (xs ++ ys) ∧ w.grownBy w' v.ownBlock := by
    intro a hc
    obtain ⟨v', w', h1, h2, h3, _⟩ := run_append_own_at (P := Tryd.prog) w base 36 36 32 i0 _ 2 16 Tryd.underlying36 hi hz0 hz1 hz2 rfl (by omega) v xs.length (cellsE xs) hown a ys.length c (cellsE ys) (cellsE_length ys) hc (cellsE_one ys) (by unfold maxLen; omega) (by omega) hb
    refine ⟨v', w', h1, ?_, h3⟩
    unfold Own
    rw [cellsE_append, List.length_append]
    exact h2
  by_cases h0 : 0 < ys.length
  · obtain ⟨b, o, rfl, hc⟩ := hr h0
    exact step _ (fun j u hu => by rw [add_plain]; exact hc j u hu)
  · obtain rfl : ys = [] := List.eq_nil_of_length_eq_zero (by omega)
    cases A with
    | some a => exact step a (fun j u hu => by simp [cellsE] at hu)
    | none =>
      obtain rfl := hA rfl
      have hrun := run_append_owned_none (P := Tryd.prog) (w := w) base 36 36 32 i0 2 Tryd.underlying36 hi v xs.length (cellsE xs) hown
      exact ⟨v, w, hrun, by rw [List.append_nil]; exact hown, World.grownBy.refl w _⟩

/-- The built-in append at its operation, by what its run is known to be. -/
theorem wpList_append_run {P : Program} {w : World} {ops : Array Oper} {rest : List Oper} {o : Oper} {a : Act} {Q : Exit → Act → World → Prop} (hgd : o.guard = Option.none) (s x : Operand) (t : TypeId)
    (ho : o.op = .call { callee := .builtin .append, args := #[s, x], argTypes := #[t, t] }) (v xv v' : Value) (w' : World) (hs : a.eval s = v) (hx : a.eval x = xv)
    (hrun : (Builtin.append_ #[t, t] o.type #[v, xv]).run P w = .ok v' w') (h : wpList P ops Q rest (a.put o.dst v') w') : wpList P ops Q (o :: rest) a w := by
  refine wpList_plain hgd fun K hK => ?_
  unfold Oper.wp
  simp [execOp, ho, resolve, invoke, builtin, hs, hx, hrun, Result.andThen]
  exact hK _ _ h

theorem Own.block {w : World} {base : Nat} {v : Value} {xs : List (Int × Int)} (h : Own w base v xs) : ∀ g, v.ownBlock = some g → base ≤ g := fun g hg => (World.ownsRow.lt h g hg).1
theorem Own.below {w w' : World} {base : Nat} {v : Value} {xs : List (Int × Int)} (h : Own w base v xs) (hb : Below w.heap.size w w') : Own w' base v xs := by
  refine World.ownsRow.kept h (row := Option.none) ⟨hb.os, hb.tape, hb.output, hb.size, fun k hk _ => hb.block k hk⟩ ?_
  cases v.ownBlock <;> simp

end Go.Proofs.YtliehednnhilkaaDoor
