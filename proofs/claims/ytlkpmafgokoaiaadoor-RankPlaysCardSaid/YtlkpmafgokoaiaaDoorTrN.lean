/-
  Contracts of rank.Leaf, Link, Skew without a meter: which tree each makes; nothing that was there has changed. Condition: fewer than 2 to the 28th things each.
-/
import Derived.Test.YtlkpmafgokoaiaaDoorRawake
import Derived.Test.YtlkpmafgokoaiaaDoorNumberF
namespace Go.Proofs.YtlkpmafgokoaiaaDoor
open Go.Sort Go.RowKit

/-- What a call hands back that makes a tree, without a meter. -/
def GaveN (t : Option Tre) (w : World) (e : Ending) (w' : World) : Prop := ∃ p, e = .returned (.pointer p) ∧ TAt w' p t ∧ Below w.heap.size w w'
theorem leafN (x : Int × Int) (w : World) : Calls Tryd.prog 11 #[.pointer none, el x] w (GaveN (some (leafT x)) w) :=
  (leaf_any none 0 0 x w trivial (by decide) (by decide)).mono fun e w' ⟨p, he, ht, _, hb⟩ => ⟨p, he, ht, hb.toBelow⟩
theorem linkN (p q : Option Addr) (ta tb : Option Tre) (w : World) (ha : TAt w p ta) (hb : TAt w q tb) (ka : osize ta < 268435456) (kb : osize tb < 268435456) :
    Calls Tryd.prog 12 #[.pointer none, .pointer p, .pointer q] w (GaveN (olnk ta tb) w) :=
  (link_any none 0 0 p q ta tb w trivial (by decide) (by decide) (by decide) (by decide) ha hb (by omega) (by omega)).mono fun e w' ⟨p, he, ht, _, hb⟩ => ⟨p, he, ht, hb.toBelow⟩
theorem skewN (y : Int × Int) (p q : Option Addr) (ta tb : Option Tre) (w : World) (ha : TAt w p ta) (hb : TAt w q tb) (ka : osize ta < 268435456) (kb : osize tb < 268435456) :
    Calls Tryd.prog 14 #[.pointer none, el y, .pointer p, .pointer q] w (GaveN (oskw y ta tb) w) :=
  (skew_any none 0 0 y p q ta tb w trivial (by decide) (by decide) (by decide) (by decide) ha hb ka kb).mono fun e w' ⟨p, he, ht, _, hb⟩ => ⟨p, he, ht, hb.toBelow⟩
theorem refLessE (x y : Int × Int) (w : World) : Calls Tryd.prog 32 #[el x, el y] w fun e w' => e = .returned (.bool (ltE x y)) ∧ Below w.heap.size w w' := refLess_below x.1 x.2 y.1 y.2 w
theorem leaf_lt28 (x : Int × Int) : osize (some (leafT x)) < 268435456 := by simp [osize, leafT_size]

end Go.Proofs.YtlkpmafgokoaiaaDoor
