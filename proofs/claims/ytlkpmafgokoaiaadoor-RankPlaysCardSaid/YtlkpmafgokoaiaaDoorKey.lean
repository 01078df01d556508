/-
  Contracts of (api.Elem).Key and of rank.key at elements: the element itself, whatever it is; nothing that was there has changed. No conditions.
-/
import Derived.Test.YtlkpmafgokoaiaaDoorLess
import Derived.Defers
import Derived.Recover
namespace Go.Proofs.YtlkpmafgokoaiaaDoor
open Go.Sort Go.RowKit

/-- An element as a value. -/
abbrev el (x : Int × Int) : Value := .agg #[.int .i64 x.1, .int .i64 x.2]

set_option maxHeartbeats 400000 in
theorem elemKey_any (x : Int × Int) (w : World) : Calls Tryd.prog 89 #[el x] w fun e w' => e = .returned (el x) ∧ Below w.heap.size w w' := by
  obtain ⟨p, q⟩ := x
  go_enter Tryd.func89, Tryd.ntmps89
  go_wp2
  refine bodyPost_ret (v := .agg #[.int .i64 p, .int .i64 q]) (by simp [results, Tryd.results89, go_sem]) rfl ⟨rfl, ((Below.refl w.heap.size w).alloc (Nat.le_refl _) _).alloc (by simp) _⟩

theorem idle (w : World) : CallsD Tryd.prog 50 #[] .returning w fun e u' w' => e = .returned (.tuple #[]) ∧ u' = .returning ∧ w' = w := by
  refine callsD_of_wpS Tryd.func50 rfl fun c₀ cs hu => ?_
  apply wpS_region
  cases c₀
  simp_all [wpOpsS, go_sem, recoverD, bodyPostS, results, Tryd.ntmps50, Tryd.results50]

set_option maxRecDepth 100000 in
set_option maxHeartbeats 400000 in
theorem key_any (x : Int × Int) (w : World) : Calls Tryd.prog 35 #[el x] w fun e w' => e = .returned (el x) ∧ Below w.heap.size w w' := by
  obtain ⟨p, q⟩ := x
  have hm : ∀ (n : Nat) (w : World), (method (n + 1) 28 (.agg #[.int .i64 p, .int .i64 q]) "Key").run Tryd.prog w = .ok (89, .agg #[.int .i64 p, .int .i64 q]) w := fun _ _ => by kernel_rfl
  go_enter_defers Tryd.func35, Tryd.ntmps35
  go_wp2_with fail
  ((with_reducible refine (elemKey_any (p, q) _).mono ?_); rintro e w1 ⟨rfl, hb1⟩)
  obtain ⟨-, hp, hb⟩ := duo hb1
  have hs := hp.set p q
  obtain ⟨e0, e1, f0, f1, -⟩ := hp
  clear hb1
  go_wp2_with fail
  refine leaves_cons (f := 50) (args := #[]) (by simp) (by simp [go_sem]) ?_
  refine (idle _).mono ?_
  rintro e u' w'' ⟨rfl, rfl, rfl⟩
  obtain ⟨k0, k1, -⟩ := hs
  have hv : Below w.heap.size w ((w1.setCell ⟨w.heap.size + 1, 0, none⟩ (.int .i64 p)).setCell ⟨w.heap.size + 1, 1, none⟩ (.int .i64 q)) := (hb.setCell (by simp) _).setCell (by simp) _
  simp [Leaves, settle, results, Tryd.results35, go_sem, k0, k1, hv]

end Go.Proofs.YtlkpmafgokoaiaaDoor
