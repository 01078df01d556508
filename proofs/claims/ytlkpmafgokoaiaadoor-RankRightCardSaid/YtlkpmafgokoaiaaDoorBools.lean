/-
  An argument that is a slice of bools, opened. No conditions.
-/
import Derived.Test.YtlkpmafgokoaiaaDoorFlat
import Derived.Test.YtlkpmafgokoaiaaDoorRright
import Derived.ChangeArms
namespace Go.Proofs.YtlkpmafgokoaiaaDoor
open Go.ChangeShapes Go.WideShapes Go.ChangeAt Go.RowKit Go.Deep Go.Joins

section
variable {H : Type} {enc : TypeId × Value → H} {w : World} {base : Nat} {held : Bool}
theorem cellsBool : Tryd.prog.cellsOf 4 = 1 := by kernel_rfl

set_option maxRecDepth 100000 in
theorem open_bools {r : Reach} {b0 : Nat} {v : Value} {d : DataW H} {p : List MemPlace} (hv : Value.okWide Tryd.prog w r b0 55 v) (h : DataW.Trod enc Tryd.prog w base (fun _ => true) held 55 v d p) :
    ∃ (B : Option Addr) (n c : Nat), v = .slice B n c ∧ BoolRow w B n := by
  obtain ⟨A, n, c, V, rfl, hr, -, -, -, hg⟩ := open_flat 1 (by omega) Tryd.underlying55 cellsBool (fun cs => ∃ v : Bool, cs = [.bool v]) (fun fuel cs x _ h => by
    obtain ⟨b, e, -⟩ := DataW.trod_bool Tryd.underlying4 h
    exact ⟨b, e⟩) hv h
  refine ⟨A, n, c, rfl, fun hpos => ?_⟩
  obtain ⟨b, o, e, hcell⟩ := hr hpos
  refine ⟨b, o, e, fun i hi => ?_⟩
  obtain ⟨x, hx⟩ := hg i hi
  have hz := (hcell i hi).2
  rw [hx] at hz
  exact ⟨x, by simpa using hz 0 _ rfl⟩
end

end Go.Proofs.YtlkpmafgokoaiaaDoor
