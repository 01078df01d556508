/-
  A heap's variable is written: the world behind it is one by name. No conditions beyond what each theorem says.
-/
import Derived.Test.YtlmokendajgbdaaGreatDoorWc1
import Derived.Deep.MidRow
namespace Go.Proofs.YtlmokendajgbdaaGreatDoor.Bo
open Go.Sort Go.RowKit Go.Deep

theorem wpList_store_h {ops : Array Oper} {rest : List Oper} {op : Oper} {a : Act} {w : World} {Q : Exit → Act → World → Prop} (hgd : op.guard = none) (x y : Operand) (ho : op.op = .store 29 x y)
    (b : Nat) (hx : a.eval x = .pointer (some ⟨b, 0, none⟩)) {p q : Option Addr} (hy : a.eval y = .agg #[.pointer q]) (H : HVar w b p)
    (h : ∀ w', w' = w.setCell ⟨b, 0, none⟩ (.pointer q) → wpList Tryz.prog ops Q rest (a.put op.dst undef) w') : wpList Tryz.prog ops Q (op :: rest) a w := by
  have hi : (Tryz.prog.info? 29).map (·.size) = some 1 := by kernel_rfl
  refine wpList_store_mid hgd _ x y ho b 0 _ hx hy (fun j hj => ?_) hi (all_oneCell_toArray (cs := [.pointer q]) (by intro v hv; simp only [List.mem_cons, List.not_mem_nil, or_false] at hv; subst hv; rfl)) (h _ rfl)
  have e : j = 0 := by simp at hj; omega
  subst e
  exact ⟨by rw [show (0 + 0 : Nat) = 0 from rfl, H.c0]; rfl, by rw [show (0 + 0 : Nat) = 0 from rfl]; exact H.z0⟩

end Go.Proofs.YtlmokendajgbdaaGreatDoor.Bo
