/-
  Contracts of rank.push, rank.Leaf: what each hands back, what the counts are, and that only the meter's block has turned. Conditions: counts below 2 to the 62nd.
-/
import Derived.Test.YtlmokendajgbdaaGreatDoorUb1
import Derived.Test.YtlmokendajgbdaaGreatDoorUkey
namespace Go.Proofs.YtlmokendajgbdaaGreatDoor
open Go.Sort Go.RowKit Go.Proofs.YtlmokendajgbdaaGreatDoor.Gn

/-- What a call hands back that makes a tree: c comparisons, m things made so far. -/
def Gave (mo : Option Nat) (c m : Int) (t : Option Tre) (w : World) (e : Ending) (w' : World) : Prop := ∃ p, e = .returned (.pointer p) ∧ TAt w' p t ∧ MAt w' mo c m ∧ Bt mo w w'

set_option maxHeartbeats 1000000 in
theorem pushT_any (p q : Option Addr) (w : World) : Calls Tryz.prog 113 #[.pointer p, .pointer q] w fun e w' =>
    e = .returned (.pointer (some ⟨w.heap.size, 0, none⟩)) ∧ w' = w.alloc (.cells #[.pointer p, .pointer q] 182) := by
  go_enter Tryz.func113, Tryz.ntmps113
  go_wp2
  go_ret
  exact ⟨rfl, rfl⟩

set_option maxHeartbeats 1000000 in
theorem pushE_any (x : Thing) (q : Option Addr) (w : World) : Calls Tryz.prog 95 #[hv x, .pointer q] w fun e w' =>
    ∃ b, e = .returned (.pointer (some ⟨b, 0, none⟩)) ∧ w'.heap[b]? = some (.cells #[.pointer (some ⟨x.a, 0, none⟩), .pointer q] 180 (0, 0)) ∧ Below w.heap.size w w' := by
  go_enter Tryz.func95, Tryz.ntmps95
  go_wp2
  go_ret
  exact ⟨_, rfl, new_at rfl, (Below.refl _ _).alloc (Nat.le_refl _) _⟩

set_option maxHeartbeats 1000000 in
theorem leaf_any (mo : Option Nat) (c m : Int) (x : Thing) (w : World) (hx : KeyC w x) (h : MAt w mo c m) (h0 : 0 ≤ m) (h1 : m < 4611686018427387904) : Calls Tryz.prog 67 #[mAddr mo, hv x] w
    (Gave mo c (m + 1) (some (leafT x)) w) := by
  have H := Lib.hid h
  have HX := Lib.hid hx
  clear h hx
  go_enter Tryz.func67, Tryz.ntmps67
  go_wp2_with fail
  ((with_reducible refine (mMade mo c m _ H.out h0 h1).mono ?_); rintro e w1 ⟨rfl, hm, hb⟩)
  have HM := Lib.hid hm
  have HB := Lib.hid hb
  have HK := Lib.hid (HX.out.kp (hb.kpt H.out tree_ne))
  clear hm hb H HX
  go_wp2
  go_ret
  exact ⟨_, rfl, ⟨w1.heap.size, rfl, none, none, heap_alloc_new w1 _, HK.out.stay ((Below.refl _ _).alloc (Nat.le_refl _) _), rfl, rfl⟩, HM.out.alloc _, HB.out.alloc _⟩

end Go.Proofs.YtlmokendajgbdaaGreatDoor
