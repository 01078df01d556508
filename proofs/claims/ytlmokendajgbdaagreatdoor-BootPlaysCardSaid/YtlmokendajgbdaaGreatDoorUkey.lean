/-
  Contracts of (*boot.node).Key and of rank.key at nodes: a heap's root; nothing that was there has changed. Condition: the heap's root lies at its address.
-/
import Derived.Test.YtlmokendajgbdaaGreatDoorUb1
import Derived.Defers
import Derived.Recover
namespace Go.Proofs.YtlmokendajgbdaaGreatDoor
open Go.Sort Go.RowKit Go.Proofs.YtlmokendajgbdaaGreatDoor.Gn

/-- A heap's value. -/
abbrev hv (x : Thing) : Value := .pointer (some ⟨x.a, 0, none⟩)

set_option maxHeartbeats 400000 in
theorem heapKey_any (x : Thing) (w : World) (hx : KeyC w x) : Calls Tryz.prog 148 #[hv x] w fun e w' => e = .returned (el x.key) ∧ Below w.heap.size w w' := by
  have hb1 : Below w.heap.size w (w.alloc (.cells #[.int .i64 0, .int .i64 0] 32)) := (Below.refl w.heap.size w).alloc (Nat.le_refl _) _
  have h6 := hx.stay hb1
  have c0 := h6.c0
  have c1 := h6.c1
  have HB := Lib.hid ((Below.refl w.heap.size w).alloc (Nat.le_refl _) (.cells #[.int .i64 x.key.1, .int .i64 x.key.2] 32))
  clear h6 hx hb1
  go_enter Tryz.func148, Tryz.ntmps148
  go_wp2
  refine bodyPost_ret (v := el x.key) (by simp [results, Tryz.results148, go_sem]) rfl ⟨rfl, ?_⟩
  exact HB.out

theorem idle (w : World) : CallsD Tryz.prog 115 #[] .returning w fun e u' w' => e = .returned (.tuple #[]) ∧ u' = .returning ∧ w' = w := by
  refine callsD_of_wpS Tryz.func115 rfl fun c₀ cs hu => ?_
  apply wpS_region
  cases c₀
  simp_all [wpOpsS, go_sem, recoverD, bodyPostS, results, Tryz.ntmps115, Tryz.results115]

set_option maxRecDepth 100000 in
set_option maxHeartbeats 400000 in
theorem key_any (x : Thing) (w : World) (hx : KeyC w x) : Calls Tryz.prog 94 #[hv x] w fun e w' => e = .returned (el x.key) ∧ Below w.heap.size w w' := by
  have hm : ∀ (n : Nat) (w : World), (method (n + 1) 27 (.pointer (some ⟨x.a, 0, none⟩)) "Key").run Tryz.prog w = .ok (148, .pointer (some ⟨x.a, 0, none⟩)) w := fun _ _ => by kernel_rfl
  have hb0 : Below w.heap.size w (w.alloc (.cells #[.int .i64 0, .int .i64 0] 32)) := (Below.refl w.heap.size w).alloc (Nat.le_refl _) _
  have HX := Lib.hid (hx.stay hb0)
  have HB := Lib.hid hb0
  obtain ⟨p, q, hk⟩ : ∃ p q, x.key = (p, q) := ⟨_, _, rfl⟩
  have HK := Lib.hid hk
  clear hx hk hb0
  go_enter_defers Tryz.func94, Tryz.ntmps94
  go_wp2_with fail
  ((with_reducible refine (heapKey_any x _ HX.out).mono ?_); rintro e w1 ⟨rfl, hb1⟩)
  rw [HK.out]
  have hp := (PairAt.new w 0 0 32).below hb1 (by simp)
  have hb := HB.out.trans (hb1.mono HB.out.size)
  have hs := hp.set p q
  obtain ⟨e0, e1, f0, f1, -⟩ := hp
  clear hb1
  clear HB HX
  go_wp2_with fail
  refine leaves_cons (f := 115) (args := #[]) (by simp) (by simp [go_sem]) ?_
  refine (idle _).mono ?_
  rintro e u' w'' ⟨rfl, rfl, rfl⟩
  obtain ⟨k0, k1, -⟩ := hs
  have hv : Below w.heap.size w ((w1.setCell ⟨w.heap.size, 0, none⟩ (.int .i64 p)).setCell ⟨w.heap.size, 1, none⟩ (.int .i64 q)) := (hb.setCell (Nat.le_refl _) _).setCell (Nat.le_refl _) _
  simp [Leaves, settle, results, Tryz.results94, go_sem, k0, k1, hv, HK.out]

end Go.Proofs.YtlmokendajgbdaaGreatDoor
