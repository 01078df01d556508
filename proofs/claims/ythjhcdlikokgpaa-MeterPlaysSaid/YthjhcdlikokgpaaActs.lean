/-
  An argument that is a slice of acts (two elements and a number each), opened to their numbers. No conditions.
-/
import Derived.Test.YthjhcdlikokgpaaFlat
namespace Go.Proofs.Ythjhcdlikokgpaa
open Go.ChangeShapes Go.WideShapes Go.ChangeAt Go.RowKit Go.Deep Go.Joins

/-- An act's five numbers: two elements, and how many things. -/
structure Act5 where
  p : Int
  q : Int
  r : Int
  s : Int
  n : Int
deriving Inhabited

/-- The slice at A reads as n acts. -/
def ActRow (w : World) (A : Option Addr) (n : Nat) (X : Nat → Act5) : Prop :=
  0 < n → ∃ b o, A = some ⟨b, o, none⟩ ∧ ∀ i, i < n → w.cell? ⟨b, o + i * 5, none⟩ = some (.int .i64 (X i).p) ∧ w.cell? ⟨b, o + i * 5 + 1, none⟩ = some (.int .i64 (X i).q) ∧
    w.cell? ⟨b, o + i * 5 + 2, none⟩ = some (.int .i64 (X i).r) ∧ w.cell? ⟨b, o + i * 5 + 3, none⟩ = some (.int .i64 (X i).s) ∧ w.cell? ⟨b, o + i * 5 + 4, none⟩ = some (.int .i64 (X i).n)

section
variable {H : Type} {enc : TypeId × Value → H} {w : World} {base : Nat} {held : Bool}
theorem cellsI64 : Try.prog.cellsOf 2 = 1 := by kernel_rfl
theorem cellsInt : Try.prog.cellsOf 3 = 1 := by kernel_rfl
theorem cellsAct : Try.prog.cellsOf 31 = 5 := by kernel_rfl

theorem act_opens (fuel : Nat) (cs : List Value) (x : DataW H × List MemPlace) (hl : cs.length = 5) (h : DataW.trod enc Try.prog w base (fun _ => true) held fuel 31 cs = some x) :
    ∃ y : Act5, cs = [.int .i64 y.p, .int .i64 y.q, .int .i64 y.r, .int .i64 y.s, .int .i64 y.n] ∧ -9223372036854775808 ≤ y.n := by
  match cs, hl with
  | [v0, v1, v2, v3, v4], _ =>
  obtain ⟨y0, y1, y2, n, -, -, h0, h1, h2⟩ := trod_struct3 Try.underlying31 h
  simp [cellsElem, cellsInt] at h0 h1 h2
  obtain ⟨z0, z1, n0, -, -, k0, k1⟩ := trod_struct2 Try.underlying29 h0
  obtain ⟨z2, z3, n1, -, -, k2, k3⟩ := trod_struct2 Try.underlying29 h1
  simp [cellsI64] at k0 k1 k2 k3
  obtain ⟨p, e0, -, -⟩ := DataW.trod_int Try.underlying2 k0
  obtain ⟨q, e1, -, -⟩ := DataW.trod_int Try.underlying2 k1
  obtain ⟨r, e2, -, -⟩ := DataW.trod_int Try.underlying2 k2
  obtain ⟨s, e3, -, -⟩ := DataW.trod_int Try.underlying2 k3
  obtain ⟨m, e4, -, w4⟩ := DataW.trod_int Try.underlying3 h2
  injection e0 with e0
  injection e1 with e1
  injection e2 with e2
  injection e3 with e3
  injection e4 with e4
  subst e0 e1 e2 e3 e4
  exact ⟨⟨p, q, r, s, m⟩, rfl, (in_of_wf w4).1⟩

theorem open_acts {r : Reach} {b0 : Nat} {v : Value} {d : DataW H} {p : List MemPlace} (hv : Value.okWide Try.prog w r b0 22 v) (h : DataW.Trod enc Try.prog w base (fun _ => true) held 22 v d p) :
    ∃ (A : Option Addr) (n c : Nat) (X : Nat → Act5), v = .slice A n c ∧ ActRow w A n X ∧ n ≤ c ∧ c ≤ 9223372036854775807 ∧ ∀ i, i < n → -9223372036854775808 ≤ (X i).n := by
  obtain ⟨A, n, c, V, rfl, hr, hc, hm, -, hg⟩ := open_flat 5 (by omega) Try.underlying22 cellsAct _ (fun fuel cs x hl h => act_opens fuel cs x hl h) hv h
  obtain ⟨X, hX⟩ := choose_lt hg
  refine ⟨A, n, c, X, rfl, fun hpos => ?_, hc, hm, fun i hi => (hX i hi).2⟩
  obtain ⟨b, o, e, hcell⟩ := hr hpos
  refine ⟨b, o, e, fun i hi => ?_⟩
  have hz := (hcell i hi).2
  rw [(hX i hi).1] at hz
  exact ⟨hz 0 _ rfl, hz 1 _ rfl, hz 2 _ rfl, hz 3 _ rfl, hz 4 _ rfl⟩
end

end Go.Proofs.Ythjhcdlikokgpaa
