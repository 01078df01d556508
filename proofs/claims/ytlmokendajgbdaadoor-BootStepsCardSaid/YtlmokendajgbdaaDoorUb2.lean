/-
  Contracts of rank.push, rank.Leaf: what each hands back, what the counts are, and that only the meter's block has turned. Conditions: counts below 2 to the 62nd.
-/
import Derived.Test.YtlmokendajgbdaaDoorUb1
import Derived.Test.YtlmokendajgbdaaDoorUkey
namespace Go.Proofs.YtlmokendajgbdaaDoor
open Go.Sort Go.RowKit Go.Proofs.YtlmokendajgbdaaDoor.Gn

/-- What a call hands back that makes a tree: c comparisons, m things made so far. -/
def Gave (mo : Option Nat) (c m : Int) (t : Option Tre) (w : World) (e : Ending) (w' : World) : Prop := ∃ p, e = .returned (.pointer p) ∧ TAt w' p t ∧ MAt w' mo c m ∧ Bt mo w w'

set_option maxHeartbeats 1000000 in
theorem pushT_any (p q : Option Addr) (w : World) : Calls Tryd.prog 78 #[.pointer p, .pointer q] w fun e w' =>
    e = .returned (.pointer (some ⟨w.heap.size, 0, none⟩)) ∧ w' = w.alloc (.cells #[.pointer p, .pointer q] 141) := by
  go_enter Tryd.func78, Tryd.ntmps78
  go_wp2
  go_ret
  exact ⟨rfl, rfl⟩

set_option maxHeartbeats 1000000 in
theorem pushE_any (x : Thing) (q : Option Addr) (w : World) : Calls Tryd.prog 63 #[hv x, .pointer q] w fun e w' =>
    ∃ b, e = .returned (.pointer (some ⟨b, 0, none⟩)) ∧ w'.heap[b]? = some (.cells #[.pointer (some ⟨x.a, 0, none⟩), .pointer q] 139 (0, 0)) ∧ Below w.heap.size w w' := by
  go_enter Tryd.func63, Tryd.ntmps63
  go_wp2
  go_ret
  exact ⟨_, rfl, new_at rfl, (Below.refl _ _).alloc (Nat.le_refl _) _⟩

set_option maxHeartbeats 1000000 in
theorem leaf_any (mo : Option Nat) (c m : Int) (x : Thing) (w : World) (hx : KeyC w x) (h : MAt w mo c m) (h0 : 0 ≤ m) (h1 : m < 4611686018427387904) : Calls Tryd.prog 39 #[mAddr mo, hv x] w
    (Gave mo c (m + 1) (some (leafT x)) w) := by
  have H := Lib.hid h
  have HX := Lib.hid hx
  clear h hx
  go_enter Tryd.func39, Tryd.ntmps39
  go_wp2_with fail
  ((with_reducible refine (mMade mo c m _ H.out h0 h1).mono ?_); rintro e w1 ⟨rfl, hm, hb⟩)
  have HM := Lib.hid hm
  have HB := Lib.hid hb
  have HK := Lib.hid (HX.out.kp (hb.kpt H.out tree_ne))
  clear hm hb H HX
  go_wp2
  go_ret
  exact ⟨_, rfl, ⟨w1.heap.size, rfl, none, none, heap_alloc_new w1 _, HK.out.stay ((Below.refl _ _).alloc (Nat.le_refl _) _), rfl, rfl⟩, HM.out.alloc _, HB.out.alloc _⟩

end Go.Proofs.YtlmokendajgbdaaDoor
