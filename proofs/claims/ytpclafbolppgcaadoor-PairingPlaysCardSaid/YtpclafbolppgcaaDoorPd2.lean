/-
  Contracts of a pairing heap's Size and Min, of build, Meld and Insert, by a meter or none: which heap each makes, how many comparisons and nodes the meter counts; what was there stays, but for the meter's block. Conditions: fewer than 2 to the 28th elements, counts below 2 to the 60th.
-/
import Derived.Test.YtpclafbolppgcaaDoorPd1
import Derived.Deep.RegionHeld3
import Derived.Deep.DrawnRows
namespace Go.Proofs.YtpclafbolppgcaaDoor
open Go.Sort Go.RowKit

theorem alloc_old {w : World} {k : Nat} (o : Obj) (h : k < w.heap.size) : (w.alloc o).heap[k]? = w.heap[k]? := ((Below.refl w.heap.size w).alloc (Nat.le_refl _) o).block k h
theorem heap_other {W : World} {b k : Nat} (j : Nat) (v : Value) (h : k ≠ b) : (W.setCell ⟨b, j, none⟩ v).heap[k]? = W.heap[k]? := Below.heap_setCell W ⟨b, j, none⟩ v k h
set_option maxHeartbeats 1000000 in
theorem size_any (t : Lh) (p : Option Addr) (w : World) (h : LAt w t p) : Calls Tryd.prog 30 #[hp p] w fun e w' => e = .returned (.int .i64 (t.size : Nat)) ∧ Below w.heap.size w w' := by
  cases t with
  | nil =>
    obtain rfl := h
    go_enter Tryd.func30, Tryd.ntmps30
    go_wp2
    go_ret
    exact ⟨rfl, (Below.refl _ _).alloc (Nat.le_refl _) _⟩
  | node x ks =>
    obtain ⟨b, kp, rfl, hb, -⟩ := h
    have hk := five_kp (W' := w.alloc (.cells #[.pointer (some ⟨b, 0, none⟩)] 29)) hb (Kpt.below ((Below.refl _ _).alloc (Nat.le_refl _) _))
    have c4 := hk.c4
    clear hk hb
    simp only [Lh.size]
    generalize 1 + ks.size = n at *
    go_enter Tryd.func30, Tryd.ntmps30
    go_wp2
    go_ret
    exact ⟨rfl, (Below.refl _ _).alloc (Nat.le_refl _) _⟩

/-- What Min tells. -/
abbrev minV (t : Lh) : Value := .tuple #[el t.min.1, .bool t.min.2]

set_option maxHeartbeats 1000000 in
theorem min_any (t : Lh) (p : Option Addr) (m : Value) (w : World) (h : LAt w t p) : Calls Tryd.prog 26 #[hp p, m] w fun e w' => e = .returned (minV t) ∧ Below w.heap.size w w' := by
  cases t with
  | nil =>
    obtain rfl := h
    go_enter Tryd.func26, Tryd.ntmps26
    go_wp2
    refine bodyPost_ret (v := minV .nil) (by simp [results, Tryd.results26, go_sem, Lh.min]) rfl ⟨rfl, ?_⟩
    exact ((Below.refl w.heap.size w).alloc (Nat.le_refl _) _).alloc (by simp) _
  | node x ks =>
    obtain ⟨b, kp, rfl, hb, -⟩ := h
    obtain ⟨x1, x2⟩ := x
    have hk := five_kp (W' := (w.alloc (.cells #[.pointer (some ⟨b, 0, none⟩)] 29)).alloc (.cells #[.int .i64 0, .int .i64 0] 32)) hb (Kpt.below (((Below.refl _ _).alloc (Nat.le_refl _) _).alloc (by simp) _))
    have c0 := hk.c0
    have c1 := hk.c1
    clear hk hb
    go_enter Tryd.func26, Tryd.ntmps26
    go_wp2
    refine bodyPost_ret (v := minV (.node (x1, x2) ks)) (by simp [results, Tryd.results26, go_sem, Lh.min]) rfl ⟨rfl, ?_⟩
    exact ((Below.refl w.heap.size w).alloc (Nat.le_refl _) _).alloc (by simp) _


theorem Trk.below {N : TypeId → Prop} {mo : Option Nat} {c m : Int} {w W : World} (hm : MAt w mo c m) (hb : Below w.heap.size w W) : Trk N mo w c m W := (Trk.refl hm).stay hb

set_option maxHeartbeats 2000000 in
/-- build: a node of a root and kids, which the meter counts. -/
theorem build_any (mo : Option Nat) (c m : Int) (x1 x2 : Int) (ks : Kd) (kp : Option Addr) (n s : Nat) (w : World) (hm : MAt w mo c m) (h2 : 0 ≤ m) (h3 : m < 4611686018427387904) (hk : KAt w ks kp) (hn : n = ks.len) (hs : s = 1 + ks.size) :
    Calls Tryd.prog 38 #[mAddr mo, .agg #[.int .i64 x1, .int .i64 x2, .pointer kp, .int .i64 (n : Int), .int .i64 (s : Int)]] w (Gave mo c (m + 1) (.node (x1, x2) ks) w) := by
  have hb1 : Below w.heap.size w ((w.alloc (nodeObj (x1, x2) kp n s)).alloc (.cells #[.pointer none] 29)) := ((Below.refl _ _).alloc (Nat.le_refl _) _).alloc (by simp) _
  have e1 : ((w.alloc (nodeObj (x1, x2) kp n s)).alloc (.cells #[.pointer none] 29)).heap[w.heap.size]? = some (nodeObj (x1, x2) kp n s) := (alloc_old _ (by simp)).trans (new_at rfl)
  have e2 : ((w.alloc (nodeObj (x1, x2) kp n s)).alloc (.cells #[.pointer none] 29)).heap[w.heap.size + 1]? = some (.cells #[.pointer none] 29 (0, 0)) := new_at (by simp)
  have K1 : Trk NodeT mo w c m ((w.alloc (nodeObj (x1, x2) kp n s)).alloc (.cells #[.pointer none] 29)) := Trk.below hm hb1
  have HX := Lib.hid (And.intro K1 (And.intro e1 (And.intro e2 (And.intro hk (And.intro hn hs)))))
  clear hb1 e1 e2 K1 hk hn hs hm
  unfold nodeObj at HX
  go_enter Tryd.func38, Tryd.ntmps38
  go_wp2_with fail
  generalize (w.alloc _).alloc (.cells #[.pointer none] 29) = w1 at *
  obtain ⟨a, ha⟩ : ∃ a, a = w.heap.size := ⟨_, rfl⟩
  rw [← ha] at HX ⊢
  have HA := Lib.hid ha
  clear ha
  ((with_reducible refine (mMade mo c m _ HX.out.1.mt h2 h3).mono ?_); rintro e w2 ⟨rfl, hm2, hb2⟩)
  have K2 := HX.out.1.turn hm2 hb2 node_ne
  have R2 := hb2.row HX.out.1.mt HX.out.2.2.1 (by decide)
  have N2 := hb2.row HX.out.1.mt HX.out.2.1 (by decide)
  have r0 : w2.cell? ⟨a + 1, 0, none⟩ = some (.pointer none) := by simp [World.cell?, R2]
  have z0 : w2.frozen? ⟨a + 1, 0, none⟩ = false := by simp [World.frozen?, R2]
  have Y := Lib.hid (And.intro K2 (And.intro R2 N2))
  clear hm2 hb2 K2 R2 N2
  go_wp2_with fail
  have hk := (Y.out.1.put Y.out.2.1 heapT_ne (by decide) (by rw [← HA.out]; omega) 0 (.pointer (some ⟨a, 0, none⟩)))
  refine bodyPost_ret (v := hp (some ⟨a, 0, none⟩)) (by simp [results, Tryd.results38, go_sem, r0]) rfl ⟨_, rfl, ?_, hk.mt, hk.bt⟩
  refine ⟨a, kp, rfl, ?_, HX.out.2.2.2.1.kp hk.kp⟩
  rw [heap_other _ _ (by omega), Y.out.2.2, HX.out.2.2.2.2.1, HX.out.2.2.2.2.2]
  rfl

end Go.Proofs.YtpclafbolppgcaaDoor
