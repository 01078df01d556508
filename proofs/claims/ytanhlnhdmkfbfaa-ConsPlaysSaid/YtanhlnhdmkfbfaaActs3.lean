/-
  An argument that is a slice of acts (three bytes and a number each), opened to their numbers. No conditions.
-/
import Derived.Test.YtanhlnhdmkfbfaaFlat
import Derived.Test.YtanhlnhdmkfbfaaPlays0
namespace Go.Proofs.Ytanhlnhdmkfbfaa
open Go.ChangeShapes Go.WideShapes Go.ChangeAt Go.RowKit Go.Deep Go.Joins

section
variable {H : Type} {enc : TypeId × Value → H} {w : World} {base : Nat} {held : Bool}
theorem cellsInt : Try.prog.cellsOf 3 = 1 := by kernel_rfl
theorem cellsByte : Try.prog.cellsOf 5 = 1 := by kernel_rfl
theorem cellsAct : Try.prog.cellsOf 32 = 4 := by kernel_rfl

theorem act_opens (fuel : Nat) (cs : List Value) (x : DataW H × List MemPlace) (hl : cs.length = 4) (h : DataW.trod enc Try.prog w base (fun _ => true) held fuel 32 cs = some x) :
    ∃ y : Act4, cs = [.int .u8 y.k, .int .u8 y.a, .int .u8 y.t, .int .i64 y.x] ∧ (y.k < 256 ∧ y.a < 256 ∧ y.t < 256) ∧ -9223372036854775808 ≤ y.x ∧ y.x < 9223372036854775808 := by
  match cs, hl with
  | [v0, v1, v2, v3], _ =>
  obtain ⟨y0, y1, y2, y3, n, -, -, h0, h1, h2, h3⟩ := trod_struct4 Try.underlying32 h
  simp [cellsInt, cellsByte] at h0 h1 h2 h3
  obtain ⟨p, e0, -, w0⟩ := DataW.trod_int Try.underlying5 h0
  obtain ⟨q, e1, -, w1⟩ := DataW.trod_int Try.underlying5 h1
  obtain ⟨r, e2, -, w2⟩ := DataW.trod_int Try.underlying5 h2
  obtain ⟨z, e3, -, w3⟩ := DataW.trod_int Try.underlying3 h3
  obtain ⟨p, rfl, hp⟩ := byte_of_wf w0
  obtain ⟨q, rfl, hq⟩ := byte_of_wf w1
  obtain ⟨r, rfl, hr⟩ := byte_of_wf w2
  have hz := in_of_wf w3
  injection e0 with e0
  injection e1 with e1
  injection e2 with e2
  injection e3 with e3
  subst e0 e1 e2 e3
  exact ⟨⟨p, q, r, z⟩, rfl, ⟨hp, hq, hr⟩, hz.1, by simp only; omega⟩

theorem open_acts {r : Reach} {b0 : Nat} {v : Value} {d : DataW H} {p : List MemPlace} (hv : Value.okWide Try.prog w r b0 23 v) (h : DataW.Trod enc Try.prog w base (fun _ => true) held 23 v d p) :
    ∃ (A : Option Addr) (n c : Nat) (X : Nat → Act4), v = .slice A n c ∧ ActRow4 w A n X ∧ ∀ i, i < n → ((X i).k < 256 ∧ (X i).a < 256 ∧ (X i).t < 256) ∧ -9223372036854775808 ≤ (X i).x ∧ (X i).x < 9223372036854775808 := by
  obtain ⟨A, n, c, V, rfl, hr, -, -, -, hg⟩ := open_flat 4 (by omega) Try.underlying23 cellsAct _ (fun fuel cs x hl h => act_opens fuel cs x hl h) hv h
  obtain ⟨X, hX⟩ := choose_lt hg
  refine ⟨A, n, c, X, rfl, fun hpos => ?_, fun i hi => (hX i hi).2⟩
  obtain ⟨b, o, e, hcell⟩ := hr hpos
  refine ⟨b, o, e, fun i hi => ?_⟩
  have hz := (hcell i hi).2
  rw [(hX i hi).1] at hz
  exact ⟨hz 0 _ rfl, hz 1 _ rfl, hz 2 _ rfl, hz 3 _ rfl⟩
end

end Go.Proofs.Ytanhlnhdmkfbfaa
