/-
  An argument that is a slice of acts (three bytes and an element each), opened to their numbers. No conditions.
-/
import Derived.Test.YtlkpmafgokoaiaaDoorFlat
import Derived.Test.YtlkpmafgokoaiaaDoorArgs
import Derived.Test.YtlkpmafgokoaiaaDoorTr0
import Derived.Lib.SmallJoins
namespace Go.Proofs.YtlkpmafgokoaiaaDoor
open Go.ChangeShapes Go.WideShapes Go.ChangeAt Go.RowKit Go.Deep Go.Joins

/-- An act: its kind, which two trees, the element. -/
structure ActR where
  k : Nat
  a : Nat
  b : Nat
  x : Int × Int
deriving Inhabited
/-- What a byte, and an element, may be. -/
def ActR.ok (y : ActR) : Prop := y.k < 256 ∧ y.a < 256 ∧ y.b < 256 ∧ in64 y.x.1 ∧ in64 y.x.2

/-- The slice at A reads as n acts. -/
def ActRowR (w : World) (A : Option Addr) (n : Nat) (X : Nat → ActR) : Prop :=
  0 < n → ∃ b o, A = some ⟨b, o, none⟩ ∧ ∀ i, i < n → w.cell? ⟨b, o + i * 5, none⟩ = some (.int .u8 (X i).k) ∧ w.cell? ⟨b, o + i * 5 + 1, none⟩ = some (.int .u8 (X i).a) ∧
    w.cell? ⟨b, o + i * 5 + 2, none⟩ = some (.int .u8 (X i).b) ∧ w.cell? ⟨b, o + i * 5 + 3, none⟩ = some (.int .i64 (X i).x.1) ∧ w.cell? ⟨b, o + i * 5 + 4, none⟩ = some (.int .i64 (X i).x.2)

section
variable {H : Type} {enc : TypeId × Value → H} {w : World} {base : Nat} {held : Bool}
theorem cellsI64 : Tryd.prog.cellsOf 2 = 1 := by kernel_rfl
theorem cellsByte : Tryd.prog.cellsOf 5 = 1 := by kernel_rfl
theorem cellsAct : Tryd.prog.cellsOf 34 = 5 := by kernel_rfl

theorem act_opens (fuel : Nat) (cs : List Value) (x : DataW H × List MemPlace) (hl : cs.length = 5) (h : DataW.trod enc Tryd.prog w base (fun _ => true) held fuel 34 cs = some x) :
    ∃ y : ActR, cs = [.int .u8 y.k, .int .u8 y.a, .int .u8 y.b, .int .i64 y.x.1, .int .i64 y.x.2] ∧ y.ok := by
  match cs, hl with
  | [v0, v1, v2, v3, v4], _ =>
  obtain ⟨y0, y1, y2, y3, n, -, -, h0, h1, h2, h3⟩ := trod_struct4 Tryd.underlying34 h
  simp [cellsElem, cellsByte] at h0 h1 h2 h3
  obtain ⟨z0, z1, n0, -, -, k0, k1⟩ := trod_struct2 Tryd.underlying28 h3
  simp [cellsI64] at k0 k1
  obtain ⟨p, e0, -, w0⟩ := DataW.trod_int Tryd.underlying5 h0
  obtain ⟨q, e1, -, w1⟩ := DataW.trod_int Tryd.underlying5 h1
  obtain ⟨r, e2, -, w2⟩ := DataW.trod_int Tryd.underlying5 h2
  obtain ⟨s, e3, -, w3⟩ := DataW.trod_int Tryd.underlying2 k0
  obtain ⟨z, e4, -, w4⟩ := DataW.trod_int Tryd.underlying2 k1
  obtain ⟨p, rfl, hp⟩ := byte_of_wf w0
  obtain ⟨q, rfl, hq⟩ := byte_of_wf w1
  obtain ⟨r, rfl, hr⟩ := byte_of_wf w2
  have hs := in_of_wf w3
  have hz := in_of_wf w4
  injection e0 with e0
  injection e1 with e1
  injection e2 with e2
  injection e3 with e3
  injection e4 with e4
  subst e0 e1 e2 e3 e4
  exact ⟨⟨p, q, r, (s, z)⟩, rfl, hp, hq, hr, hs, hz⟩

set_option maxRecDepth 100000 in
theorem open_acts {r : Reach} {b0 : Nat} {v : Value} {d : DataW H} {p : List MemPlace} (hv : Value.okWide Tryd.prog w r b0 22 v) (h : DataW.Trod enc Tryd.prog w base (fun _ => true) held 22 v d p) :
    ∃ (A : Option Addr) (n c : Nat) (X : Nat → ActR), v = .slice A n c ∧ ActRowR w A n X ∧ ∀ i, i < n → (X i).ok := by
  obtain ⟨A, n, c, V, rfl, hr, -, -, -, hg⟩ := open_flat 5 (by omega) Tryd.underlying22 cellsAct _ (fun fuel cs x hl h => act_opens fuel cs x hl h) hv h
  obtain ⟨X, hX⟩ := choose_lt hg
  refine ⟨A, n, c, X, rfl, fun hpos => ?_, fun i hi => (hX i hi).2⟩
  obtain ⟨b, o, e, hcell⟩ := hr hpos
  refine ⟨b, o, e, fun i hi => ?_⟩
  have hz := (hcell i hi).2
  rw [(hX i hi).1] at hz
  exact ⟨hz 0 _ rfl, hz 1 _ rfl, hz 2 _ rfl, hz 3 _ rfl, hz 4 _ rfl⟩
end

end Go.Proofs.YtlkpmafgokoaiaaDoor
