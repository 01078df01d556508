/-
  Contract of a boot heap's Show, of any heap: its text; nothing that was there has changed. Conditions: elements of 64-bit numbers, the library's table as it is laid.
-/
import Derived.Test.YtlmokendajgbdaaGreatDoorWn4
namespace Go.Proofs.YtlmokendajgbdaaGreatDoor.Bo
open Go.Sort Go.RowKit Go.Proofs.YtlmokendajgbdaaGreatDoor.Gn

set_option maxHeartbeats 1000000 in
theorem show_any (t : Lh) (p : Option Addr) (w : World) (he : Env w) (h : LAt w t p) (hf : fits t.all) (_ : t.size < 268435456) : Calls Tryz.prog 27 #[hp p] w fun e w' => e = .returned (.string ⟨t.show.toArray⟩) ∧ Below w.heap.size w w' := by
  cases t with
  | nil =>
    obtain rfl := h.no
    have hb1 : Below w.heap.size w (w.alloc (.cells #[.pointer none] 29)) := (Below.refl _ _).alloc (Nat.le_refl _) _
    clear he h hf
    refine (callsIn_wide (n := 3)).1 ?_
    refine callsIn_of_wp_marks Tryz.func27 rfl trivial ?_ rfl
    simp only [Tryz.ntmps27, List.size_toArray, List.length_cons, List.length_nil, Nat.reduceAdd, Nat.reduceSub, Array.replicate_succ, Array.replicate_zero, List.push_toArray, List.append_toArray, List.nil_append, List.cons_append]
    gi_wp2
    exact ⟨_, results_tmp rfl _ _ _, rfl, hb1⟩
  | node x q => exact show_node_any x q p w he h hf

end Go.Proofs.YtlmokendajgbdaaGreatDoor.Bo
