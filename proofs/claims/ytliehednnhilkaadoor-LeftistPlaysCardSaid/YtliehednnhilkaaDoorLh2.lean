/-
  Contracts of a leftist heap's Size, rank and Min, of builder, and of what builder hands back: a node of a root and two heaps, which the meter counts; what was there stays, but for the meter's block. Conditions: fewer than 2 to the 30th elements, counts below 2 to the 61st.
-/
import Derived.Test.YtliehednnhilkaaDoorLh1
import Derived.Deep.RegionHeld3
import Derived.Deep.DrawnRows
namespace Go.Proofs.YtliehednnhilkaaDoor
open Go.Sort Go.RowKit

set_option maxHeartbeats 1000000 in
theorem size_any (t : Lh) (p : Option Addr) (w : World) (h : LAt w t p) : Calls Tryd.prog 30 #[hp p] w fun e w' => e = .returned (.int .i64 (t.size : Nat)) ∧ Below w.heap.size w w' := by
  cases t with
  | nil =>
    obtain rfl := h
    go_enter Tryd.func30, Tryd.ntmps30
    go_wp2
    go_ret
    exact ⟨rfl, (Below.refl _ _).alloc (Nat.le_refl _) _⟩
  | node x l r =>
    obtain ⟨b, lp, rp, rfl, hb, -, -⟩ := h
    have hk := six_kp (W' := w.alloc (.cells #[.pointer (some ⟨b, 0, none⟩)] 29)) hb (Kpt.below ((Below.refl _ _).alloc (Nat.le_refl _) _))
    have c5 := hk.c5
    clear hk hb
    simp only [Lh.size]
    generalize l.size + 1 + r.size = n at *
    go_enter Tryd.func30, Tryd.ntmps30
    go_wp2
    go_ret
    exact ⟨rfl, (Below.refl _ _).alloc (Nat.le_refl _) _⟩

set_option maxHeartbeats 1000000 in
theorem rank_any (t : Lh) (p : Option Addr) (w : World) (h : LAt w t p) : Calls Tryd.prog 46 #[hp p] w fun e w' => e = .returned (.int .i64 (t.rank : Nat)) ∧ Below w.heap.size w w' := by
  cases t with
  | nil =>
    obtain rfl := h
    go_enter Tryd.func46, Tryd.ntmps46
    go_wp2
    go_ret
    exact ⟨rfl, (Below.refl _ _).alloc (Nat.le_refl _) _⟩
  | node x l r =>
    obtain ⟨b, lp, rp, rfl, hb, -, -⟩ := h
    have hk := six_kp (W' := w.alloc (.cells #[.pointer (some ⟨b, 0, none⟩)] 29)) hb (Kpt.below ((Below.refl _ _).alloc (Nat.le_refl _) _))
    have c4 := hk.c4
    clear hk hb
    simp only [Lh.rank]
    generalize r.rank + 1 = n at *
    go_enter Tryd.func46, Tryd.ntmps46
    go_wp2
    go_ret
    exact ⟨rfl, (Below.refl _ _).alloc (Nat.le_refl _) _⟩

/-- What Min tells. -/
abbrev minV (t : Lh) : Value := .tuple #[el t.min.1, .bool t.min.2]

set_option maxHeartbeats 1000000 in
theorem min_any (t : Lh) (p : Option Addr) (m : Value) (w : World) (h : LAt w t p) : Calls Tryd.prog 26 #[hp p, m] w fun e w' => e = .returned (minV t) ∧ Below w.heap.size w w' := by
  cases t with
  | nil =>
    obtain rfl := h
    go_enter Tryd.func26, Tryd.ntmps26
    go_wp2
    refine bodyPost_ret (v := minV .nil) (by simp [results, Tryd.results26, go_sem, Lh.min]) rfl ⟨rfl, ?_⟩
    exact ((Below.refl w.heap.size w).alloc (Nat.le_refl _) _).alloc (by simp) _
  | node x l r =>
    obtain ⟨b, lp, rp, rfl, hb, -, -⟩ := h
    obtain ⟨x1, x2⟩ := x
    have hk := six_kp (W' := (w.alloc (.cells #[.pointer (some ⟨b, 0, none⟩)] 29)).alloc (.cells #[.int .i64 0, .int .i64 0] 32)) hb (Kpt.below (((Below.refl _ _).alloc (Nat.le_refl _) _).alloc (by simp) _))
    have c0 := hk.c0
    have c1 := hk.c1
    clear hk hb
    go_enter Tryd.func26, Tryd.ntmps26
    go_wp2
    refine bodyPost_ret (v := minV (.node (x1, x2) l r)) (by simp [results, Tryd.results26, go_sem, Lh.min]) rfl ⟨rfl, ?_⟩
    exact ((Below.refl w.heap.size w).alloc (Nat.le_refl _) _).alloc (by simp) _

/-- The value that builder hands back: a literal, and where it keeps the meter. -/
abbrev bld (g : Nat) : Value := .func (.func 45) #[] #[.pointer (some ⟨g, 0, none⟩)]
/-- Where builder keeps the meter. -/
def Kept (w : World) (mo : Option Nat) (g : Nat) : Prop := w.heap[g]? = some (.cells #[mAddr mo] 25 (0, 0))

set_option maxHeartbeats 1000000 in
theorem builder_any (mo : Option Nat) (w : World) : Calls Tryd.prog 38 #[mAddr mo] w fun e w' => e = .returned (bld w.heap.size) ∧ Kept w' mo w.heap.size ∧ Below w.heap.size w w' := by
  have hmf : ∀ (fn : Fn) (first cap : Array Value) (w : World), (Instr.makeFunc fn first cap).run Tryd.prog w = .ok (.func fn first cap) w := fun _ _ _ _ => rfl
  go_enter Tryd.func38, Tryd.ntmps38
  go_wp2
  go_ret
  exact ⟨rfl, heap_alloc_new w _, (Below.refl _ _).alloc (Nat.le_refl _) _⟩

theorem alloc_old {w : World} {k : Nat} (o : Obj) (h : k < w.heap.size) : (w.alloc o).heap[k]? = w.heap[k]? := ((Below.refl w.heap.size w).alloc (Nat.le_refl _) o).block k h
/-- The variables of the literal: a root, two heaps, what it hands back. -/
structure Fr (W : World) (a : Nat) (x : Int × Int) (lp rp : Option Addr) : Prop where
  e : W.heap[a]? = some (.cells #[.int .i64 x.1, .int .i64 x.2] 32 (0, 0))
  l : W.heap[a + 1]? = some (.cells #[.pointer lp] 29 (0, 0))
  r : W.heap[a + 2]? = some (.cells #[.pointer rp] 29 (0, 0))
  o : W.heap[a + 3]? = some (.cells #[.pointer none] 29 (0, 0))
section
variable {W W' : World} {a : Nat} {x : Int × Int} {lp rp : Option Addr} {mo : Option Nat} {c m : Int}
theorem Fr.new (w : World) (x : Int × Int) (lp rp : Option Addr) : Fr ((((w.alloc (.cells #[.int .i64 x.1, .int .i64 x.2] 32)).alloc (.cells #[.pointer lp] 29)).alloc (.cells #[.pointer rp] 29)).alloc (.cells #[.pointer none] 29)) w.heap.size x lp rp :=
  ⟨(alloc_old _ (by simp only [World.size_alloc]; omega)).trans ((alloc_old _ (by simp only [World.size_alloc]; omega)).trans ((alloc_old _ (by simp only [World.size_alloc]; omega)).trans (new_at rfl))), (alloc_old _ (by simp only [World.size_alloc]; omega)).trans ((alloc_old _ (by simp only [World.size_alloc]; omega)).trans (new_at (by simp))), (alloc_old _ (by simp only [World.size_alloc]; omega)).trans (new_at (by simp)), new_at (by simp)⟩
theorem Fr.turn (h : Fr W a x lp rp) (hb : Bt mo W W') (hm : MAt W mo c m) : Fr W' a x lp rp :=
  ⟨hb.row hm h.e (by decide), hb.row hm h.l (by decide), hb.row hm h.r (by decide), hb.row hm h.o (by decide)⟩
theorem Fr.stay (h : Fr W a x lp rp) (hb : Below W.heap.size W W') : Fr W' a x lp rp :=
  ⟨(hb.block _ (lt_of_heap h.e)).trans h.e, (hb.block _ (lt_of_heap h.l)).trans h.l, (hb.block _ (lt_of_heap h.r)).trans h.r, (hb.block _ (lt_of_heap h.o)).trans h.o⟩
theorem Fr.e0 (h : Fr W a x lp rp) : W.cell? ⟨a, 0, none⟩ = some (.int .i64 x.1) := by simp [World.cell?, h.e]
theorem Fr.e1 (h : Fr W a x lp rp) : W.cell? ⟨a, 1, none⟩ = some (.int .i64 x.2) := by simp [World.cell?, h.e]
theorem Fr.l0 (h : Fr W a x lp rp) : W.cell? ⟨a + 1, 0, none⟩ = some (.pointer lp) := by simp [World.cell?, h.l]
theorem Fr.r0 (h : Fr W a x lp rp) : W.cell? ⟨a + 2, 0, none⟩ = some (.pointer rp) := by simp [World.cell?, h.r]
theorem Fr.o0 (h : Fr W a x lp rp) : W.cell? ⟨a + 3, 0, none⟩ = some (.pointer none) := by simp [World.cell?, h.o]
theorem Fr.zl (h : Fr W a x lp rp) : W.frozen? ⟨a + 1, 0, none⟩ = false := by simp [World.frozen?, h.l]
theorem Fr.zr (h : Fr W a x lp rp) : W.frozen? ⟨a + 2, 0, none⟩ = false := by simp [World.frozen?, h.r]
theorem Fr.zo (h : Fr W a x lp rp) : W.frozen? ⟨a + 3, 0, none⟩ = false := by simp [World.frozen?, h.o]
theorem heap_other {W : World} {b k : Nat} (j : Nat) (v : Value) (h : k ≠ b) : (W.setCell ⟨b, j, none⟩ v).heap[k]? = W.heap[k]? := Below.heap_setCell W ⟨b, j, none⟩ v k h
/-- .. the two heaps in each other's place. -/
theorem Fr.swap (h : Fr W a x lp rp) : Fr ((W.setCell ⟨a + 1, 0, none⟩ (.pointer rp)).setCell ⟨a + 2, 0, none⟩ (.pointer lp)) a x rp lp := by
  refine ⟨?_, ?_, ?_, ?_⟩
  · rw [heap_other _ _ (by omega), heap_other _ _ (by omega)]; exact h.e
  · rw [heap_other _ _ (by omega)]; exact heap_put h.l _
  · exact heap_put ((heap_other _ _ (by omega)).trans h.r) _
  · rw [heap_other _ _ (by omega), heap_other _ _ (by omega)]; exact h.o
end

set_option maxRecDepth 100000 in
set_option maxHeartbeats 4000000 in
theorem node_lt (mo : Option Nat) (c m : Int) (x1 x2 : Int) (l r : Lh) (lp rp : Option Addr) (g : Nat) (w : World) (hv : l.rank < r.rank) (hg : Kept w mo g) (hm : MAt w mo c m) (h2 : 0 ≤ m) (h3 : m < 2305843009213693952)
    (hl : LAt w l lp) (hr : LAt w r rp) (hk : l.size + r.size < 1073741823) :
    Calls Tryd.prog 45 #[el (x1, x2), hp lp, hp rp, .pointer (some ⟨g, 0, none⟩)] w (Gave mo c (m + 1) (.node (x1, x2) r l) w) := by
  have F1 : Fr ((((w.alloc (.cells #[.int .i64 x1, .int .i64 x2] 32)).alloc (.cells #[.pointer lp] 29)).alloc (.cells #[.pointer rp] 29)).alloc (.cells #[.pointer none] 29)) w.heap.size (x1, x2) lp rp := Fr.new w (x1, x2) lp rp
  have hb1 : Below w.heap.size w ((((w.alloc (.cells #[.int .i64 x1, .int .i64 x2] 32)).alloc (.cells #[.pointer lp] 29)).alloc (.cells #[.pointer rp] 29)).alloc (.cells #[.pointer none] 29)) :=
    ((((Below.refl _ _).alloc (Nat.le_refl _) _).alloc (by simp) _).alloc (by simp only [World.size_alloc]; omega) _).alloc (by simp only [World.size_alloc]; omega) _
  have K1 : Trk NodeT mo w c m ((((w.alloc (.cells #[.int .i64 x1, .int .i64 x2] 32)).alloc (.cells #[.pointer lp] 29)).alloc (.cells #[.pointer rp] 29)).alloc (.cells #[.pointer none] 29)) := (Trk.refl hm).stay hb1
  have hrl := l.rank_le
  have hrr := r.rank_le
  have HV := Lib.hid hv
  have HK := Lib.hid (And.intro hk (And.intro hrl hrr))
  have HL := Lib.hid (And.intro hl hr)
  have HG := Lib.hid (And.intro hg (And.intro hm (lt_of_heap hg)))
  have d1 : decide ((l.rank : Int) < (r.rank : Int)) = true := by simp; omega
  have d2 : decide (l.rank < r.rank) = true := by simp; omega
  have d3 : l.rank < r.rank := by omega
  have HF := Lib.hid F1
  have KK := Lib.hid K1
  clear hv hk hrl hrr hl hr hg hm hb1 F1 K1
  go_enter Tryd.func45, Tryd.ntmps45
  go_wp2_with fail
  generalize (((w.alloc (.cells #[.int .i64 x1, .int .i64 x2] 32)).alloc (.cells #[.pointer lp] 29)).alloc (.cells #[.pointer rp] 29)).alloc (.cells #[.pointer none] 29) = w1 at *
  obtain ⟨a, ha⟩ : ∃ a, a = w.heap.size := ⟨_, rfl⟩
  rw [← ha] at HF ⊢
  have HA := Lib.hid ha
  clear ha
  have l0 := HF.out.l0
  have r0 := HF.out.r0
  go_region_held3 (fun w' => w'.cell? ⟨a + 1, 0, none⟩ = some (.pointer lp) ∧ w'.cell? ⟨a + 2, 0, none⟩ = some (.pointer rp)) (go_keep)
    (first | (go_at_call 46; ((with_reducible refine (rank_any l lp _ (HL.out.1.kp K2.out.kp)).mono ?_); rintro e w3 ⟨rfl, hb3⟩; have F3 := Lib.hid (F2.out.stay hb3); have K3 := Lib.hid (K2.out.stay hb3); have l2 := F3.out.l0; have r2 := F3.out.r0; clear hb3)) | (go_at_call 46; ((with_reducible refine (rank_any r rp _ (HL.out.2.kp KK.out.drew.kp)).mono ?_); rintro e w2 ⟨rfl, hb2⟩; have F2 := Lib.hid ((HF.out.stay ((Below.refl _ _).drew)).stay hb2); have K2 := Lib.hid (KK.out.drew.stay hb2); have l1 := F2.out.l0; have r1 := F2.out.r0; clear hb2)))
  clear l1 r1 l0 r0
  have z1 := F3.out.zl
  have z2 := F3.out.zr
  have ng : g < a := by rw [HA.out]; exact HG.out.2.2
  have ng1 : ¬ g = a + 1 := by omega
  have ng2 : ¬ g = a + 2 := by omega
  have t3 : w3.cell? ⟨g, 0, none⟩ = some (mAddr mo) := by have hz := (K3.out.bt.row HG.out.2.1 HG.out.1 (by decide)); simp [World.cell?, hz]
  have F4 := Lib.hid F3.out.swap
  have K4 := Lib.hid ((K3.out.put F3.out.l (by unfold NodeT; decide) (by decide) (by rw [← HA.out]; omega) 0 (.pointer rp)).put ((heap_other (b := a + 1) 0 (.pointer rp) (by omega)).trans F3.out.r) (by unfold NodeT; decide) (by decide) (by rw [← HA.out]; omega) 0 (.pointer lp))
  go_wp2_with fail
  clear t3 l2 r2 z1 z2 ng ng1 ng2
  generalize (w3.setCell ⟨a + 1, 0, none⟩ (.pointer rp)).setCell ⟨a + 2, 0, none⟩ (.pointer lp) = w4 at *
  ((with_reducible refine (mMade mo c m _ K4.out.mt h2 (by omega)).mono ?_); rintro e w5 ⟨rfl, hm5, hb5⟩)
  have F5 := Lib.hid (F4.out.turn hb5 K4.out.mt)
  have K5 := Lib.hid (K4.out.turn hm5 hb5 node_ne)
  have l5 := F5.out.l0
  have r5 := F5.out.r0
  clear hm5 hb5 F4 K4
  go_wp2_with fail
  go_region_held3 (fun w' => w'.cell? ⟨a + 1, 0, none⟩ = some (.pointer rp) ∧ w'.cell? ⟨a + 2, 0, none⟩ = some (.pointer lp)) (go_keep)
    (first | (go_at_call 30; ((with_reducible refine (size_any l lp _ (HL.out.1.kp K6.out.kp)).mono ?_); rintro e w7 ⟨rfl, hb7⟩; have F7 := Lib.hid (F6.out.stay hb7); have K7 := Lib.hid (K6.out.stay hb7); have l7 := F7.out.l0; have r7 := F7.out.r0; have o7 := F7.out.o0; have z7 := F7.out.zo; have e07 := F7.out.e0; have e17 := F7.out.e1; clear hb7)) | (go_at_call 30; ((with_reducible refine (size_any r rp _ (HL.out.2.kp K5.out.drew.kp)).mono ?_); rintro e w6 ⟨rfl, hb6⟩; have F6 := Lib.hid ((F5.out.stay ((Below.refl _ _).drew)).stay hb6); have K6 := Lib.hid (K5.out.drew.stay hb6); have l6 := F6.out.l0; have r6 := F6.out.r0; clear hb6)))
  clear l5 r5 l6 r6
  go_wp2_with fail
  have n1 : ¬ a = a + 1 + 1 + 1 := by omega
  have n2 : ¬ a + 1 = a + 1 + 1 + 1 := by omega
  have n3 : ¬ a + 1 + 1 + 1 = a := by omega
  have n4 : ¬ a + 1 + 1 + 1 = a + 1 := by omega
  have n5 : ¬ a = a + 1 + 1 := by omega
  have n6 : ¬ a + 1 + 1 = a := by omega
  go_region_held3 (fun w' => w'.cell? ⟨a, 0, none⟩ = some (.int .i64 x1) ∧ w'.cell? ⟨a, 1, none⟩ = some (.int .i64 x2) ∧ w'.cell? ⟨a + 1, 0, none⟩ = some (.pointer rp) ∧ w'.cell? ⟨a + 2, 0, none⟩ = some (.pointer lp)) (go_keep)
    (first | (go_at_call 46; ((with_reducible refine (rank_any l lp _ (HL.out.1.kp K7.out.drew.kp)).mono ?_); rintro e w8 ⟨rfl, hb8⟩; have F8 := Lib.hid ((F7.out.stay ((Below.refl _ _).drew)).stay hb8); have K8 := Lib.hid (K7.out.drew.stay hb8); have e08 := F8.out.e0; have e18 := F8.out.e1; have l8 := F8.out.l0; have r8 := F8.out.r0; have o8 := F8.out.o0; have z8 := F8.out.zo; have n8 := lt_of_heap F8.out.o; clear hb8)))
  go_wp2_with fail
  have e1 : IntKind.i64.wrap ((l.rank : Int) + 1) = ((l.rank + 1 : Nat) : Int) := by have := HK.out; rw [IntKind.wrap_i64]; omega
  have e2 : IntKind.i64.wrap (IntKind.i64.wrap ((r.size : Int) + 1) + l.size) = ((r.size + 1 + l.size : Nat) : Int) := by have := HK.out; rw [IntKind.wrap_i64, IntKind.wrap_i64]; omega
  rw [e1, e2]
  have hk := (K8.out.put F8.out.o (by unfold NodeT; decide) (by decide) (by rw [← HA.out]; omega) 0 (.pointer (some ⟨w8.heap.size, 0, none⟩))).alloc (nodeObj (x1, x2) rp lp (l.rank + 1) (r.size + 1 + l.size))
  refine bodyPost_ret (v := hp (some ⟨w8.heap.size, 0, none⟩)) (by simp [results, Tryd.results45, go_sem, o8, n8]) rfl ⟨_, rfl, ?_, hk.mt, hk.bt⟩
  exact ⟨w8.heap.size, rp, lp, rfl, new_at (by simp [World.setCell]), HL.out.2.kp hk.kp, HL.out.1.kp hk.kp⟩

set_option maxRecDepth 100000 in
set_option maxHeartbeats 4000000 in
theorem node_ge (mo : Option Nat) (c m : Int) (x1 x2 : Int) (l r : Lh) (lp rp : Option Addr) (g : Nat) (w : World) (hv : r.rank ≤ l.rank) (hg : Kept w mo g) (hm : MAt w mo c m) (h2 : 0 ≤ m) (h3 : m < 2305843009213693952)
    (hl : LAt w l lp) (hr : LAt w r rp) (hk : l.size + r.size < 1073741823) :
    Calls Tryd.prog 45 #[el (x1, x2), hp lp, hp rp, .pointer (some ⟨g, 0, none⟩)] w (Gave mo c (m + 1) (.node (x1, x2) l r) w) := by
  have F1 : Fr ((((w.alloc (.cells #[.int .i64 x1, .int .i64 x2] 32)).alloc (.cells #[.pointer lp] 29)).alloc (.cells #[.pointer rp] 29)).alloc (.cells #[.pointer none] 29)) w.heap.size (x1, x2) lp rp := Fr.new w (x1, x2) lp rp
  have hb1 : Below w.heap.size w ((((w.alloc (.cells #[.int .i64 x1, .int .i64 x2] 32)).alloc (.cells #[.pointer lp] 29)).alloc (.cells #[.pointer rp] 29)).alloc (.cells #[.pointer none] 29)) :=
    ((((Below.refl _ _).alloc (Nat.le_refl _) _).alloc (by simp) _).alloc (by simp only [World.size_alloc]; omega) _).alloc (by simp only [World.size_alloc]; omega) _
  have K1 : Trk NodeT mo w c m ((((w.alloc (.cells #[.int .i64 x1, .int .i64 x2] 32)).alloc (.cells #[.pointer lp] 29)).alloc (.cells #[.pointer rp] 29)).alloc (.cells #[.pointer none] 29)) := (Trk.refl hm).stay hb1
  have hrl := l.rank_le
  have hrr := r.rank_le
  have HV := Lib.hid hv
  have HK := Lib.hid (And.intro hk (And.intro hrl hrr))
  have HL := Lib.hid (And.intro hl hr)
  have HG := Lib.hid (And.intro hg (And.intro hm (lt_of_heap hg)))
  have d1 : decide ((l.rank : Int) < (r.rank : Int)) = false := by simp; omega
  have d2 : decide (l.rank < r.rank) = false := by simp; omega
  have d3 : ¬ l.rank < r.rank := by omega
  have HF := Lib.hid F1
  have KK := Lib.hid K1
  clear hv hk hrl hrr hl hr hg hm hb1 F1 K1
  go_enter Tryd.func45, Tryd.ntmps45
  go_wp2_with fail
  generalize (((w.alloc (.cells #[.int .i64 x1, .int .i64 x2] 32)).alloc (.cells #[.pointer lp] 29)).alloc (.cells #[.pointer rp] 29)).alloc (.cells #[.pointer none] 29) = w1 at *
  obtain ⟨a, ha⟩ : ∃ a, a = w.heap.size := ⟨_, rfl⟩
  rw [← ha] at HF ⊢
  have HA := Lib.hid ha
  clear ha
  have l0 := HF.out.l0
  have r0 := HF.out.r0
  go_region_held3 (fun w' => w'.cell? ⟨a + 1, 0, none⟩ = some (.pointer lp) ∧ w'.cell? ⟨a + 2, 0, none⟩ = some (.pointer rp)) (go_keep)
    (first | (go_at_call 46; ((with_reducible refine (rank_any l lp _ (HL.out.1.kp K2.out.kp)).mono ?_); rintro e w3 ⟨rfl, hb3⟩; have F3 := Lib.hid (F2.out.stay hb3); have K3 := Lib.hid (K2.out.stay hb3); have l2 := F3.out.l0; have r2 := F3.out.r0; clear hb3)) | (go_at_call 46; ((with_reducible refine (rank_any r rp _ (HL.out.2.kp KK.out.drew.kp)).mono ?_); rintro e w2 ⟨rfl, hb2⟩; have F2 := Lib.hid ((HF.out.stay ((Below.refl _ _).drew)).stay hb2); have K2 := Lib.hid (KK.out.drew.stay hb2); have l1 := F2.out.l0; have r1 := F2.out.r0; clear hb2)))
  clear l1 r1 l0 r0
  have t3 : w3.cell? ⟨g, 0, none⟩ = some (mAddr mo) := by have hz := (K3.out.bt.row HG.out.2.1 HG.out.1 (by decide)); simp [World.cell?, hz]
  have F4 := F3
  have K4 := K3
  go_wp2_with fail
  clear t3 l2 r2
  ((with_reducible refine (mMade mo c m _ K4.out.mt h2 (by omega)).mono ?_); rintro e w5 ⟨rfl, hm5, hb5⟩)
  have F5 := Lib.hid (F4.out.turn hb5 K4.out.mt)
  have K5 := Lib.hid (K4.out.turn hm5 hb5 node_ne)
  have l5 := F5.out.l0
  have r5 := F5.out.r0
  clear hm5 hb5 F4 K4
  go_wp2_with fail
  go_region_held3 (fun w' => w'.cell? ⟨a + 1, 0, none⟩ = some (.pointer lp) ∧ w'.cell? ⟨a + 2, 0, none⟩ = some (.pointer rp)) (go_keep)
    (first | (go_at_call 30; ((with_reducible refine (size_any r rp _ (HL.out.2.kp K6.out.kp)).mono ?_); rintro e w7 ⟨rfl, hb7⟩; have F7 := Lib.hid (F6.out.stay hb7); have K7 := Lib.hid (K6.out.stay hb7); have l7 := F7.out.l0; have r7 := F7.out.r0; have o7 := F7.out.o0; have z7 := F7.out.zo; have e07 := F7.out.e0; have e17 := F7.out.e1; clear hb7)) | (go_at_call 30; ((with_reducible refine (size_any l lp _ (HL.out.1.kp K5.out.drew.kp)).mono ?_); rintro e w6 ⟨rfl, hb6⟩; have F6 := Lib.hid ((F5.out.stay ((Below.refl _ _).drew)).stay hb6); have K6 := Lib.hid (K5.out.drew.stay hb6); have l6 := F6.out.l0; have r6 := F6.out.r0; clear hb6)))
  clear l5 r5 l6 r6
  go_wp2_with fail
  have n1 : ¬ a = a + 1 + 1 + 1 := by omega
  have n2 : ¬ a + 1 = a + 1 + 1 + 1 := by omega
  have n3 : ¬ a + 1 + 1 + 1 = a := by omega
  have n4 : ¬ a + 1 + 1 + 1 = a + 1 := by omega
  have n5 : ¬ a = a + 1 + 1 := by omega
  have n6 : ¬ a + 1 + 1 = a := by omega
  go_region_held3 (fun w' => w'.cell? ⟨a, 0, none⟩ = some (.int .i64 x1) ∧ w'.cell? ⟨a, 1, none⟩ = some (.int .i64 x2) ∧ w'.cell? ⟨a + 1, 0, none⟩ = some (.pointer lp) ∧ w'.cell? ⟨a + 2, 0, none⟩ = some (.pointer rp)) (go_keep)
    (first | (go_at_call 46; ((with_reducible refine (rank_any r rp _ (HL.out.2.kp K7.out.drew.kp)).mono ?_); rintro e w8 ⟨rfl, hb8⟩; have F8 := Lib.hid ((F7.out.stay ((Below.refl _ _).drew)).stay hb8); have K8 := Lib.hid (K7.out.drew.stay hb8); have e08 := F8.out.e0; have e18 := F8.out.e1; have l8 := F8.out.l0; have r8 := F8.out.r0; have o8 := F8.out.o0; have z8 := F8.out.zo; have n8 := lt_of_heap F8.out.o; clear hb8)))
  go_wp2_with fail
  have e1 : IntKind.i64.wrap ((r.rank : Int) + 1) = ((r.rank + 1 : Nat) : Int) := by have := HK.out; rw [IntKind.wrap_i64]; omega
  have e2 : IntKind.i64.wrap (IntKind.i64.wrap ((l.size : Int) + 1) + r.size) = ((l.size + 1 + r.size : Nat) : Int) := by have := HK.out; rw [IntKind.wrap_i64, IntKind.wrap_i64]; omega
  rw [e1, e2]
  have hk := (K8.out.put F8.out.o (by unfold NodeT; decide) (by decide) (by rw [← HA.out]; omega) 0 (.pointer (some ⟨w8.heap.size, 0, none⟩))).alloc (nodeObj (x1, x2) lp rp (r.rank + 1) (l.size + 1 + r.size))
  refine bodyPost_ret (v := hp (some ⟨w8.heap.size, 0, none⟩)) (by simp [results, Tryd.results45, go_sem, o8, n8]) rfl ⟨_, rfl, ?_, hk.mt, hk.bt⟩
  exact ⟨w8.heap.size, lp, rp, rfl, new_at (by simp [World.setCell]), HL.out.1.kp hk.kp, HL.out.2.kp hk.kp⟩

end Go.Proofs.YtliehednnhilkaaDoor
