/-
  Contracts of a boot heap's Min, of build (a node that the meter counts), by a meter or none: which number, element, heap, how many comparisons and things the meter counts; what was there stays, but for the meter's block. Conditions: counts below 2 to the 61st.
-/
import Derived.Test.YtlmokendajgbdaaGreatDoorWb1
import Derived.Deep.RegionHeld3
namespace Go.Proofs.YtlmokendajgbdaaGreatDoor.Bo
open Go.Sort Go.RowKit Go.Proofs.YtlmokendajgbdaaGreatDoor.Gn

/-- A variable that holds an element. -/
def EVar (W : World) (b : Nat) (x : Int × Int) : Prop := W.heap[b]? = some (.cells #[.int .i64 x.1, .int .i64 x.2] 32 (0, 0))
section
variable {W W' : World} {mo : Option Nat} {c m : Int}
theorem EVar.bt {b : Nat} {x : Int × Int} (h : EVar W b x) (hb : Bt mo W W') (hm : MAt W mo c m) : EVar W' b x := hb.row hm h (by decide)
theorem EVar.c0 {b : Nat} {x : Int × Int} (h : EVar W b x) : W.cell? ⟨b, 0, none⟩ = some (.int .i64 x.1) := by unfold EVar at h; simp [World.cell?, h]
theorem EVar.c1 {b : Nat} {x : Int × Int} (h : EVar W b x) : W.cell? ⟨b, 1, none⟩ = some (.int .i64 x.2) := by unfold EVar at h; simp [World.cell?, h]
theorem EVar.z0 {b : Nat} {x : Int × Int} (h : EVar W b x) : W.frozen? ⟨b, 0, none⟩ = false := by unfold EVar at h; simp [World.frozen?, h]
theorem EVar.z1 {b : Nat} {x : Int × Int} (h : EVar W b x) : W.frozen? ⟨b, 1, none⟩ = false := by unfold EVar at h; simp [World.frozen?, h]
theorem EVar.new (W : World) (x1 x2 : Int) {n : Nat} (h : n = W.heap.size) : EVar (W.alloc (.cells #[.int .i64 x1, .int .i64 x2] 32)) n (x1, x2) := new_at h
theorem EVar.lt {b : Nat} {x : Int × Int} (h : EVar W b x) : b < W.heap.size := lt_of_heap h
theorem EVar.put {b : Nat} {x : Int × Int} (h : EVar W b x) (y1 y2 : Int) : EVar ((W.setCell ⟨b, 0, none⟩ (.int .i64 y1)).setCell ⟨b, 1, none⟩ (.int .i64 y2)) b (y1, y2) := heap_put (j := 1) (heap_put (j := 0) h _) _
theorem EVar.alloc {b : Nat} {x : Int × Int} (h : EVar W b x) (o : Obj) : EVar (W.alloc o) b x := (alloc_old o (lt_of_heap h)).trans h
theorem EVar.stay {b : Nat} {x : Int × Int} (h : EVar W b x) (hb : Below W.heap.size W W') : EVar W' b x := (hb.block _ (lt_of_heap h)).trans h
theorem EVar.aside {b g : Nat} {x : Int × Int} (h : EVar W b x) (hne : b ≠ g) (u v : Value) : EVar ((W.setCell ⟨g, 0, none⟩ u).setCell ⟨g, 1, none⟩ v) b x := (heap_other _ _ hne).trans ((heap_other _ _ hne).trans h)
end

/-- What Min tells. -/
abbrev minV (t : Lh) : Value := .tuple #[el t.min.1, .bool t.min.2]

set_option maxHeartbeats 1000000 in
theorem min_any (t : Lh) (p : Option Addr) (m : Value) (w : World) (h : LAt w t p) : Calls Tryz.prog 25 #[hp p, m] w fun e w' => e = .returned (minV t) ∧ Below w.heap.size w w' := by
  cases t with
  | nil =>
    obtain rfl := h.no
    go_enter Tryz.func25, Tryz.ntmps25
    go_wp2
    refine bodyPost_ret (v := minV .nil) (by simp [results, Tryz.results25, go_sem, Lh.min]) rfl ⟨rfl, ?_⟩
    exact ((Below.refl w.heap.size w).alloc (Nat.le_refl _) _).alloc (by simp) _
  | node x o =>
    obtain ⟨b, q, -, rfl, hb, -⟩ := h.parts
    obtain ⟨x1, x2⟩ := x
    have hk := four_kp (W' := (w.alloc (.cells #[.pointer (some ⟨b, 0, none⟩)] 29)).alloc (.cells #[.int .i64 0, .int .i64 0] 32)) hb (Kpt.below (((Below.refl _ _).alloc (Nat.le_refl _) _).alloc (by simp) _))
    have c0 := hk.c0
    have c1 := hk.c1
    clear hk hb
    go_enter Tryz.func25, Tryz.ntmps25
    go_wp2
    refine bodyPost_ret (v := minV (.node (x1, x2) o)) (by simp [results, Tryz.results25, go_sem, Lh.min]) rfl ⟨rfl, ?_⟩
    exact ((Below.refl w.heap.size w).alloc (Nat.le_refl _) _).alloc (by simp) _

theorem min_some_any (x : Int × Int) (o : List (Gn.Tre Lh)) : minV (.node x o) = .tuple #[el x, .bool true] := rfl

set_option maxHeartbeats 2000000 in
/-- build: a heap of a root and all others, which the meter counts. -/
theorem build_any (mo : Option Nat) (c m : Int) (x1 x2 : Int) (o : Qh) (q : Hp.HP) (n : Int) (w : World) (hn : n = ((Lh.node (x1, x2) (heaps o)).size : Nat)) (hm : MAt w mo c m) (h2 : 0 ≤ m) (h3 : m < 4611686018427387904) (hk : Hp.LAt w o q) (hl : ∀ b ∈ o.all, LAt0 w b.h (some ⟨b.a, 0, none⟩)) (hok : (Lh.node (x1, x2) (heaps o)).ok) (hsm : (Lh.node (x1, x2) (heaps o)).size ≤ 268435456) :
    Calls Tryz.prog 38 #[mAddr mo, .agg #[.int .i64 x1, .int .i64 x2, .pointer q.q, .int .i64 q.n, .int .i64 n]] w (Gave mo c (m + 1) (.node (x1, x2) (heaps o)) w) := by
  have hb1 : Below w.heap.size w ((w.alloc (nodeObj (x1, x2) q n)).alloc (.cells #[.pointer none] 29)) := ((Below.refl _ _).alloc (Nat.le_refl _) _).alloc (by simp) _
  have e1 : ((w.alloc (nodeObj (x1, x2) q n)).alloc (.cells #[.pointer none] 29)).heap[w.heap.size]? = some (nodeObj (x1, x2) q n) := (alloc_old _ (by simp)).trans (new_at rfl)
  have e2 : ((w.alloc (nodeObj (x1, x2) q n)).alloc (.cells #[.pointer none] 29)).heap[w.heap.size + 1]? = some (.cells #[.pointer none] 29 (0, 0)) := new_at (by simp)
  have K1 : Trk NodeT mo w c m ((w.alloc (nodeObj (x1, x2) q n)).alloc (.cells #[.pointer none] 29)) := (Trk.refl hm).stay hb1
  have HX := Lib.hid (And.intro K1 (And.intro e1 (And.intro e2 (And.intro hk (And.intro hl (And.intro hok (And.intro hsm hn)))))))
  clear hb1 e1 e2 K1 hk hm hl hok hsm hn
  unfold nodeObj at HX
  go_enter Tryz.func38, Tryz.ntmps38
  go_wp2_with fail
  generalize (w.alloc _).alloc (.cells #[.pointer none] 29) = w1 at *
  obtain ⟨a, ha⟩ : ∃ a, a = w.heap.size := ⟨_, rfl⟩
  rw [← ha] at HX ⊢
  have HA := Lib.hid ha
  clear ha
  ((with_reducible refine (mMade mo c m _ HX.out.1.mt h2 h3).mono ?_); rintro e w2 ⟨rfl, hm2, hb2⟩)
  have K2 := HX.out.1.turn hm2 hb2 node_ne
  have R2 := hb2.row HX.out.1.mt HX.out.2.2.1 (by decide)
  have N2 := hb2.row HX.out.1.mt HX.out.2.1 (by decide)
  have r0 : w2.cell? ⟨a + 1, 0, none⟩ = some (.pointer none) := by simp [World.cell?, R2]
  have z0 : w2.frozen? ⟨a + 1, 0, none⟩ = false := by simp [World.frozen?, R2]
  have Y := Lib.hid (And.intro K2 (And.intro R2 N2))
  clear hm2 hb2 K2 R2 N2
  go_wp2_with fail
  have hk := (Y.out.1.put Y.out.2.1 heapT_ne (by decide) (by rw [← HA.out]; omega) 0 (.pointer (some ⟨a, 0, none⟩)))
  refine bodyPost_ret (v := hp (some ⟨a, 0, none⟩)) (by simp [results, Tryz.results38, go_sem, r0]) rfl ⟨_, rfl, ?_, hk.mt, hk.bt⟩
  refine ⟨LAt0.node (q := q) ?_ (Hp.LAt.kps HX.out.2.2.2.1 hk.kp hk.bt.size) (fun b hb => (HX.out.2.2.2.2.1 b hb).kps hk.kp hk.bt.size), HX.out.2.2.2.2.2.1, HX.out.2.2.2.2.2.2.1⟩
  rw [heap_other _ _ (by omega), Y.out.2.2, HX.out.2.2.2.2.2.2.2]
  rfl


end Go.Proofs.YtlmokendajgbdaaGreatDoor.Bo
