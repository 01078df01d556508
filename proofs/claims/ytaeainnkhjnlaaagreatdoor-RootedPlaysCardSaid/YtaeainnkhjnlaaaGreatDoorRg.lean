/-
  Heaps with their least element apart, in memory: a node's block of four cells (the root, and the value of a skew binomial heap); they stay where no block of the types of either turns. No conditions beyond what each theorem says.
  Contracts of a rooted heap's Size and Min, of build (a node that the meter counts) and compared (two elements, the winner ahead), by a meter or none: which number, element, heap, how many comparisons and things the meter counts; what was there stays, but for the meter's block. Conditions: counts below 2 to the 61st.
-/
import Derived.Test.YtaeainnkhjnlaaaGreatDoorRp
import Derived.Test.YtaeainnkhjnlaaaGreatDoorSb7
import Derived.Deep.RegionHeld3
namespace Go.Proofs.YtaeainnkhjnlaaaGreatDoor.Ro
open Go.Sort Go.RowKit

theorem alloc_old {w : World} {k : Nat} (o : Obj) (h : k < w.heap.size) : (w.alloc o).heap[k]? = w.heap[k]? := ((Below.refl w.heap.size w).alloc (Nat.le_refl _) o).block k h
theorem heap_other {W : World} {b k : Nat} (j : Nat) (v : Value) (h : k ≠ b) : (W.setCell ⟨b, j, none⟩ v).heap[k]? = W.heap[k]? := Below.heap_setCell W ⟨b, j, none⟩ v k h
/-- The types of a heap's blocks. -/
def NodeT (t : TypeId) : Prop := Hp.NodeT t ∨ t = 75
/-- A heap's blocks stay. -/
abbrev Kp (W W' : World) : Prop := Kpt NodeT W W'
theorem node_ne : ¬ NodeT 66 := by unfold NodeT Hp.NodeT TreeT; decide
theorem elemT_ne : ¬ NodeT 32 := by unfold NodeT Hp.NodeT TreeT; decide
theorem heapT_ne : ¬ NodeT 29 := by unfold NodeT Hp.NodeT TreeT; decide
/-- A node's block. -/
def nodeObj (x : Int × Int) (q : Hp.HP) : Obj := .cells #[.int .i64 x.1, .int .i64 x.2, .pointer q.q, .int .i64 q.n] 75 (0, 0)
/-- A heap at an address. -/
def LAt (W : World) : Lh → Option Addr → Prop
  | .nil, p => p = none
  | .node x o, p => ∃ (b : Nat) (q : Hp.HP), p = some ⟨b, 0, none⟩ ∧ W.heap[b]? = some (nodeObj x q) ∧ Hp.LAt W o q
/-- A heap's value. -/
abbrev hp (p : Option Addr) : Value := .agg #[.pointer p]

section
variable {W W' : World} {mo : Option Nat} {c m : Int}
theorem Kp.sk (h : Kp W W') : Hp.Kp W W' := fun k cs t ht e => h k cs t (.inl ht) e
theorem LAt.kps {t : Lh} {p : Option Addr} (hn : LAt W t p) (h : Kp W W') (hs : W.heap.size ≤ W'.heap.size) : LAt W' t p := by
  cases t with
  | nil => exact hn
  | node x o => obtain ⟨b, q, e, hb, hk⟩ := hn; exact ⟨b, q, e, h _ _ _ (.inr rfl) hb, Hp.LAt.kps hk h.sk hs⟩
theorem LAt.stay {t : Lh} {p : Option Addr} (hn : LAt W t p) (h : Below W.heap.size W W') : LAt W' t p := hn.kps (Kpt.below h) h.size
theorem LAt.bt {t : Lh} {p : Option Addr} (h : LAt W t p) (hb : Bt mo W W') (hm : MAt W mo c m) : LAt W' t p := h.kps (hb.kpt hm node_ne) hb.size
theorem LAt.none (w : World) : LAt w .nil Option.none := rfl
theorem size_set1 (W : World) (a : Addr) (u : Value) : (W.setCell a u).heap.size = W.heap.size := by simp [World.setCell]
/-- .. where a block of another type is written. -/
theorem LAt.wrote {t : Lh} {p : Option Addr} (hn : LAt W t p) {g : Nat} {cs : Array Value} {ty : TypeId} {z : Nat × Nat} (hg : W.heap[g]? = some (.cells cs ty z)) (ht : ¬ NodeT ty) (off : Nat) (u : Value) : LAt (W.setCell ⟨g, off, Option.none⟩ u) t p :=
  hn.kps (Kpt.set hg ht off u) (by rw [size_set1]; exact Nat.le_refl _)
/-- It is a heap of fewer than 2 to the 28th elements, of which all others are a heap. -/
theorem LAt.small {t : Lh} {p : Option Addr} (hn : LAt W t p) : t.size ≤ 268435456 := by
  cases t with
  | nil => exact Nat.zero_le _
  | node x o => obtain ⟨b, q, -, -, hk⟩ := hn; have := hk.small; simp only [Lh.size]; omega

/-- The four cells of a node's block. -/
structure Four (W : World) (b : Nat) (x : Int × Int) (q : Hp.HP) : Prop where
  c0 : W.cell? ⟨b, 0, none⟩ = some (.int .i64 x.1)
  c1 : W.cell? ⟨b, 1, none⟩ = some (.int .i64 x.2)
  c2 : W.cell? ⟨b, 2, none⟩ = some (.pointer q.q)
  c3 : W.cell? ⟨b, 3, none⟩ = some (.int .i64 q.n)
theorem four {b : Nat} {x : Int × Int} {q : Hp.HP} (h : W.heap[b]? = some (nodeObj x q)) : Four W b x q := by
  constructor <;> simp [World.cell?, h, nodeObj]
theorem four_kp {b : Nat} {x : Int × Int} {q : Hp.HP} (h : W.heap[b]? = some (nodeObj x q)) (hk : Kp W W') : Four W' b x q := four (hk b _ _ (.inr rfl) h)

/-- A variable that holds a heap. -/
def HVar (W : World) (b : Nat) (p : Option Addr) : Prop := W.heap[b]? = some (.cells #[.pointer p] 29 (0, 0))
theorem HVar.bt {b : Nat} {p : Option Addr} (h : HVar W b p) (hb : Bt mo W W') (hm : MAt W mo c m) : HVar W' b p := hb.row hm h (by decide)
theorem HVar.c0 {b : Nat} {p : Option Addr} (h : HVar W b p) : W.cell? ⟨b, 0, none⟩ = some (.pointer p) := by unfold HVar at h; simp [World.cell?, h]
theorem HVar.z0 {b : Nat} {p : Option Addr} (h : HVar W b p) : W.frozen? ⟨b, 0, none⟩ = false := by unfold HVar at h; simp [World.frozen?, h]
theorem HVar.put {b : Nat} {p : Option Addr} (h : HVar W b p) (q : Option Addr) : HVar (W.setCell ⟨b, 0, none⟩ (.pointer q)) b q := heap_put (j := 0) h _
theorem HVar.set {b' : Nat} {p : Option Addr} (h : HVar W b' p) {b : Nat} (hne : b' ≠ b) (off : Nat) (u : Value) : HVar (W.setCell ⟨b, off, none⟩ u) b' p := (heap_other _ _ hne).trans h
end

/-- What a call hands back that makes a heap: c comparisons, m things made so far. -/
def Gave (mo : Option Nat) (c m : Int) (t : Lh) (w : World) (e : Ending) (w' : World) : Prop := ∃ p, e = .returned (hp p) ∧ LAt w' t p ∧ MAt w' mo c m ∧ Bt mo w w'

end Go.Proofs.YtaeainnkhjnlaaaGreatDoor.Ro
namespace Go.Proofs.YtaeainnkhjnlaaaGreatDoor.Ro
open Go.Sort Go.RowKit

/-- A variable that holds an element. -/
def EVar (W : World) (b : Nat) (x : Int × Int) : Prop := W.heap[b]? = some (.cells #[.int .i64 x.1, .int .i64 x.2] 32 (0, 0))
section
variable {W W' : World} {mo : Option Nat} {c m : Int}
theorem EVar.bt {b : Nat} {x : Int × Int} (h : EVar W b x) (hb : Bt mo W W') (hm : MAt W mo c m) : EVar W' b x := hb.row hm h (by decide)
theorem EVar.c0 {b : Nat} {x : Int × Int} (h : EVar W b x) : W.cell? ⟨b, 0, none⟩ = some (.int .i64 x.1) := by unfold EVar at h; simp [World.cell?, h]
theorem EVar.c1 {b : Nat} {x : Int × Int} (h : EVar W b x) : W.cell? ⟨b, 1, none⟩ = some (.int .i64 x.2) := by unfold EVar at h; simp [World.cell?, h]
theorem EVar.z0 {b : Nat} {x : Int × Int} (h : EVar W b x) : W.frozen? ⟨b, 0, none⟩ = false := by unfold EVar at h; simp [World.frozen?, h]
theorem EVar.z1 {b : Nat} {x : Int × Int} (h : EVar W b x) : W.frozen? ⟨b, 1, none⟩ = false := by unfold EVar at h; simp [World.frozen?, h]
theorem EVar.new (W : World) (x1 x2 : Int) {n : Nat} (h : n = W.heap.size) : EVar (W.alloc (.cells #[.int .i64 x1, .int .i64 x2] 32)) n (x1, x2) := new_at h
theorem EVar.lt {b : Nat} {x : Int × Int} (h : EVar W b x) : b < W.heap.size := lt_of_heap h
theorem EVar.put {b : Nat} {x : Int × Int} (h : EVar W b x) (y1 y2 : Int) : EVar ((W.setCell ⟨b, 0, none⟩ (.int .i64 y1)).setCell ⟨b, 1, none⟩ (.int .i64 y2)) b (y1, y2) := heap_put (j := 1) (heap_put (j := 0) h _) _
theorem EVar.alloc {b : Nat} {x : Int × Int} (h : EVar W b x) (o : Obj) : EVar (W.alloc o) b x := (alloc_old o (lt_of_heap h)).trans h
theorem EVar.stay {b : Nat} {x : Int × Int} (h : EVar W b x) (hb : Below W.heap.size W W') : EVar W' b x := (hb.block _ (lt_of_heap h)).trans h
theorem EVar.aside {b g : Nat} {x : Int × Int} (h : EVar W b x) (hne : b ≠ g) (u v : Value) : EVar ((W.setCell ⟨g, 0, none⟩ u).setCell ⟨g, 1, none⟩ v) b x := (heap_other _ _ hne).trans ((heap_other _ _ hne).trans h)
end

set_option maxHeartbeats 1000000 in
theorem size_any (t : Lh) (p : Option Addr) (w : World) (h : LAt w t p) : Calls Tryz.prog 20 #[hp p] w fun e w' => e = .returned (.int .i64 (t.size : Nat)) ∧ Below w.heap.size w w' := by
  have hb1 : Below w.heap.size w (w.alloc (.cells #[.pointer p] 29)) := (Below.refl _ _).alloc (Nat.le_refl _) _
  cases t with
  | nil =>
    obtain rfl := h
    go_enter Tryz.func20, Tryz.ntmps20
    go_wp2_with fail
    go_ret
    exact ⟨rfl, hb1⟩
  | node x o =>
    obtain ⟨b, q, rfl, hb, ho⟩ := h
    have hk := four_kp hb (Kpt.below hb1)
    have c2 := hk.c2
    have c3 := hk.c3
    have hsm := ho.small
    have H := Lib.hid (And.intro (ho.stay hb1) hb1)
    obtain ⟨s, hs⟩ : ∃ s, s = o.size := ⟨_, rfl⟩
    have HS := Lib.hid hs
    have w1 : IntKind.i64.wrap (1 + (s : Int)) = 1 + (s : Int) := by rw [IntKind.wrap_i64]; omega
    simp only [Lh.size]
    clear hk hb ho hb1 hsm hs
    go_enter Tryz.func20, Tryz.ntmps20
    go_wp2_with fail
    ((with_reducible refine (Hp.size_any o q _ H.out.1).mono ?_); rintro e w2 ⟨rfl, hb2⟩)
    rw [← HS.out]
    have Y := Lib.hid (H.out.2.trans (hb2.mono H.out.2.size))
    clear hb2 c2 c3
    go_wp2_with fail
    go_ret
    refine ⟨?_, Y.out⟩
    have e9 : ((o.size + 1 : Nat) : Int) = 1 + (s : Int) := by rw [HS.out]; omega
    rw [e9]
    first | rfl | (show Ending.returned (.int .i64 (IntKind.i64.wrap (1 + (s : Int)))) = _; rw [w1]) | (show Ending.returned (.int .i64 (1 + (s : Int))) = _; rfl)

/-- What Min tells. -/
abbrev minV (t : Lh) : Value := .tuple #[el t.min.1, .bool t.min.2]

set_option maxHeartbeats 1000000 in
theorem min_any (t : Lh) (p : Option Addr) (m : Value) (w : World) (h : LAt w t p) : Calls Tryz.prog 16 #[hp p, m] w fun e w' => e = .returned (minV t) ∧ Below w.heap.size w w' := by
  cases t with
  | nil =>
    obtain rfl := h
    go_enter Tryz.func16, Tryz.ntmps16
    go_wp2
    refine bodyPost_ret (v := minV .nil) (by simp [results, Tryz.results16, go_sem, Lh.min]) rfl ⟨rfl, ?_⟩
    exact ((Below.refl w.heap.size w).alloc (Nat.le_refl _) _).alloc (by simp) _
  | node x o =>
    obtain ⟨b, q, rfl, hb, -⟩ := h
    obtain ⟨x1, x2⟩ := x
    have hk := four_kp (W' := (w.alloc (.cells #[.pointer (some ⟨b, 0, none⟩)] 29)).alloc (.cells #[.int .i64 0, .int .i64 0] 32)) hb (Kpt.below (((Below.refl _ _).alloc (Nat.le_refl _) _).alloc (by simp) _))
    have c0 := hk.c0
    have c1 := hk.c1
    clear hk hb
    go_enter Tryz.func16, Tryz.ntmps16
    go_wp2
    refine bodyPost_ret (v := minV (.node (x1, x2) o)) (by simp [results, Tryz.results16, go_sem, Lh.min]) rfl ⟨rfl, ?_⟩
    exact ((Below.refl w.heap.size w).alloc (Nat.le_refl _) _).alloc (by simp) _

theorem min_some_any (x : Int × Int) (o : Sk) : minV (.node x o) = .tuple #[el x, .bool true] := rfl

set_option maxHeartbeats 2000000 in
/-- build: a heap of a root and all others, which the meter counts. -/
theorem build_any (mo : Option Nat) (c m : Int) (x1 x2 : Int) (o : Sk) (q : Hp.HP) (w : World) (hm : MAt w mo c m) (h2 : 0 ≤ m) (h3 : m < 4611686018427387904) (hk : Hp.LAt w o q) :
    Calls Tryz.prog 23 #[mAddr mo, .agg #[.int .i64 x1, .int .i64 x2, .pointer q.q, .int .i64 q.n]] w (Gave mo c (m + 1) (.node (x1, x2) o) w) := by
  have hb1 : Below w.heap.size w ((w.alloc (nodeObj (x1, x2) q)).alloc (.cells #[.pointer none] 29)) := ((Below.refl _ _).alloc (Nat.le_refl _) _).alloc (by simp) _
  have e1 : ((w.alloc (nodeObj (x1, x2) q)).alloc (.cells #[.pointer none] 29)).heap[w.heap.size]? = some (nodeObj (x1, x2) q) := (alloc_old _ (by simp)).trans (new_at rfl)
  have e2 : ((w.alloc (nodeObj (x1, x2) q)).alloc (.cells #[.pointer none] 29)).heap[w.heap.size + 1]? = some (.cells #[.pointer none] 29 (0, 0)) := new_at (by simp)
  have K1 : Trk NodeT mo w c m ((w.alloc (nodeObj (x1, x2) q)).alloc (.cells #[.pointer none] 29)) := (Trk.refl hm).stay hb1
  have HX := Lib.hid (And.intro K1 (And.intro e1 (And.intro e2 hk)))
  clear hb1 e1 e2 K1 hk hm
  unfold nodeObj at HX
  go_enter Tryz.func23, Tryz.ntmps23
  go_wp2_with fail
  generalize (w.alloc _).alloc (.cells #[.pointer none] 29) = w1 at *
  obtain ⟨a, ha⟩ : ∃ a, a = w.heap.size := ⟨_, rfl⟩
  rw [← ha] at HX ⊢
  have HA := Lib.hid ha
  clear ha
  ((with_reducible refine (mMade mo c m _ HX.out.1.mt h2 h3).mono ?_); rintro e w2 ⟨rfl, hm2, hb2⟩)
  have K2 := HX.out.1.turn hm2 hb2 node_ne
  have R2 := hb2.row HX.out.1.mt HX.out.2.2.1 (by decide)
  have N2 := hb2.row HX.out.1.mt HX.out.2.1 (by decide)
  have r0 : w2.cell? ⟨a + 1, 0, none⟩ = some (.pointer none) := by simp [World.cell?, R2]
  have z0 : w2.frozen? ⟨a + 1, 0, none⟩ = false := by simp [World.frozen?, R2]
  have Y := Lib.hid (And.intro K2 (And.intro R2 N2))
  clear hm2 hb2 K2 R2 N2
  go_wp2_with fail
  have hk := (Y.out.1.put Y.out.2.1 heapT_ne (by decide) (by rw [← HA.out]; omega) 0 (.pointer (some ⟨a, 0, none⟩)))
  refine bodyPost_ret (v := hp (some ⟨a, 0, none⟩)) (by simp [results, Tryz.results23, go_sem, r0]) rfl ⟨_, rfl, ?_, hk.mt, hk.bt⟩
  refine ⟨a, q, rfl, ?_, Hp.LAt.kps HX.out.2.2.2 (Kp.sk hk.kp) hk.bt.size⟩
  rw [heap_other _ _ (by omega), Y.out.2.2]
  rfl

theorem trk_put2 {mo : Option Nat} {w W : World} {c m : Int} {b : Nat} {cs : Array Value} {t : TypeId} {z : Nat × Nat} (k : Trk NodeT mo w c m W) (h : W.heap[b]? = some (.cells cs t z)) (ht : ¬ NodeT t) (hmt : t ≠ 66) (hw : w.heap.size ≤ b) (u v : Value) : Trk NodeT mo w c m ((W.setCell ⟨b, 0, none⟩ u).setCell ⟨b, 1, none⟩ v) :=
  (k.put h ht hmt hw 0 u).put (heap_put (j := 0) h u) ht hmt hw 1 v
/-- Two elements, the winner ahead. -/
def win (x y : Int × Int) : Int × Int := if ltE y x = true then y else x
def lose (x y : Int × Int) : Int × Int := if ltE y x = true then x else y
theorem four_new (w : World) (o1 o2 o3 o4 : Obj) : Below w.heap.size w ((((w.alloc o1).alloc o2).alloc o3).alloc o4) := ((((Below.refl _ _).alloc (Nat.le_refl _) _).alloc (by simp) _).alloc (by simp; omega) _).alloc (by simp; omega) _
set_option maxHeartbeats 4000000 in
theorem compared_any (mo : Option Nat) (c m : Int) (x1 x2 y1 y2 : Int) (w : World) (hm : MAt w mo c m) (h0 : 0 ≤ c) (h1 : c < 4611686018427387904) :
    Calls Tryz.prog 24 #[mAddr mo, .agg #[.int .i64 x1, .int .i64 x2], .agg #[.int .i64 y1, .int .i64 y2]] w fun e w' => e = .returned (.tuple #[el (win (x1, x2) (y1, y2)), el (lose (x1, x2) (y1, y2))]) ∧ MAt w' mo (c + 1) m ∧ Bt mo w w' := by
  obtain ⟨w1, hw1⟩ : ∃ u, u = (((w.alloc (.cells #[.int .i64 x1, .int .i64 x2] 32)).alloc (.cells #[.int .i64 y1, .int .i64 y2] 32)).alloc (.cells #[.int .i64 0, .int .i64 0] 32)).alloc (.cells #[.int .i64 0, .int .i64 0] 32) := ⟨_, rfl⟩
  have e1 : EVar w1 w.heap.size (x1, x2) := by rw [hw1]; exact (((EVar.new w x1 x2 rfl).alloc _).alloc _).alloc _
  have e2 : EVar w1 (w.heap.size + 1) (y1, y2) := by rw [hw1]; exact ((EVar.new _ y1 y2 (by simp)).alloc _).alloc _
  have e3 : EVar w1 (w.heap.size + 1 + 1) (0, 0) := by rw [hw1]; exact (EVar.new _ 0 0 (by simp)).alloc _
  have e4 : EVar w1 (w.heap.size + 1 + 1 + 1) (0, 0) := by rw [hw1]; exact EVar.new _ 0 0 (by simp)
  have K1 : Trk NodeT mo w c m w1 := (Trk.refl hm).stay (by rw [hw1]; exact four_new w _ _ _ _)
  have HX := Lib.hid (And.intro K1 (And.intro e1 (And.intro e2 (And.intro e3 e4))))
  have f1 := e1.c0
  have f2 := e1.c1
  have f3 := e2.c0
  have f4 := e2.c1
  have HW := Lib.hid hw1
  clear K1 e1 e2 e3 e4 hm hw1
  go_enter Tryz.func24, Tryz.ntmps24
  go_wp2_with fail
  rw [← HW.out]
  obtain ⟨a, ha⟩ : ∃ a, a = w.heap.size := ⟨_, rfl⟩
  rw [← ha] at HX f1 f2 f3 f4 ⊢
  have HA := Lib.hid ha
  clear ha HW
  ((with_reducible refine (mLess mo c m (y1, y2) (x1, x2) _ HX.out.1.mt h0 h1).mono ?_); rintro e w2 ⟨rfl, hm2, hb2⟩)
  have E1 := HX.out.2.1.bt hb2 HX.out.1.mt
  have E2 := HX.out.2.2.1.bt hb2 HX.out.1.mt
  have E3 := HX.out.2.2.2.1.bt hb2 HX.out.1.mt
  have E4 := HX.out.2.2.2.2.bt hb2 HX.out.1.mt
  have K2 := HX.out.1.turn hm2 hb2 node_ne
  have c1 := E1.c0
  have c2 := E1.c1
  have c3 := E2.c0
  have c4 := E2.c1
  have c5 := E3.c0
  have c6 := E3.c1
  have c7 := E4.c0
  have c8 := E4.c1
  have z5 := E3.z0
  have z6 := E3.z1
  have z7 := E4.z0
  have z8 := E4.z1
  have n1 : ¬ a + 1 + 1 = a + 1 + 1 + 1 := by omega
  have n2 : ¬ a + 1 + 1 + 1 = a + 1 + 1 := by omega
  have n3 : ¬ a = a + 1 + 1 := by omega
  have n4 : ¬ a + 1 + 1 = a := by omega
  have n5 : ¬ a = a + 1 + 1 + 1 := by omega
  have n6 : ¬ a + 1 + 1 + 1 = a := by omega
  have n7 : ¬ a + 1 = a + 1 + 1 := by omega
  have n8 : ¬ a + 1 + 1 = a + 1 := by omega
  have n9 : ¬ a + 1 = a + 1 + 1 + 1 := by omega
  have n0 : ¬ a + 1 + 1 + 1 = a + 1 := by omega
  have Y := Lib.hid (And.intro K2 (And.intro E3 E4))
  clear hm2 hb2 E1 E2 E3 E4 K2 f1 f2 f3 f4
  have fin : ∀ u1 u2 v1 v2 : Int, Trk NodeT mo w (c + 1) m ((((w2.setCell ⟨a + 1 + 1, 0, none⟩ (.int .i64 u1)).setCell ⟨a + 1 + 1, 1, none⟩ (.int .i64 u2)).setCell ⟨a + 1 + 1 + 1, 0, none⟩ (.int .i64 v1)).setCell ⟨a + 1 + 1 + 1, 1, none⟩ (.int .i64 v2)) ∧
      EVar ((((w2.setCell ⟨a + 1 + 1, 0, none⟩ (.int .i64 u1)).setCell ⟨a + 1 + 1, 1, none⟩ (.int .i64 u2)).setCell ⟨a + 1 + 1 + 1, 0, none⟩ (.int .i64 v1)).setCell ⟨a + 1 + 1 + 1, 1, none⟩ (.int .i64 v2)) (a + 1 + 1) (u1, u2) ∧
      EVar ((((w2.setCell ⟨a + 1 + 1, 0, none⟩ (.int .i64 u1)).setCell ⟨a + 1 + 1, 1, none⟩ (.int .i64 u2)).setCell ⟨a + 1 + 1 + 1, 0, none⟩ (.int .i64 v1)).setCell ⟨a + 1 + 1 + 1, 1, none⟩ (.int .i64 v2)) (a + 1 + 1 + 1) (v1, v2) := fun u1 u2 v1 v2 => by
    have g4 := Y.out.2.2.aside (g := a + 1 + 1) (by omega) (.int .i64 u1) (.int .i64 u2)
    have k1 := trk_put2 Y.out.1 Y.out.2.1 elemT_ne (by decide) (by rw [← HA.out]; omega) (.int .i64 u1) (.int .i64 u2)
    exact ⟨trk_put2 k1 g4 elemT_ne (by decide) (by rw [← HA.out]; omega) (.int .i64 v1) (.int .i64 v2), (Y.out.2.1.put u1 u2).aside (by omega) _ _, g4.put v1 v2⟩
  have FIN := Lib.hid fin
  clear fin
  by_cases hv : ltE (y1, y2) (x1, x2) = true
  · have HWL := Lib.hid (show win (x1, x2) (y1, y2) = (y1, y2) ∧ lose (x1, x2) (y1, y2) = (x1, x2) from ⟨if_pos hv, if_pos hv⟩)
    rw [hv]
    clear hv
    go_wp2_with fail
    go_region_held3 (fun w' => w'.cell? ⟨a, 0, none⟩ = some (.int .i64 x1) ∧ w'.cell? ⟨a, 1, none⟩ = some (.int .i64 x2) ∧ w'.cell? ⟨a + 1, 0, none⟩ = some (.int .i64 y1) ∧ w'.cell? ⟨a + 1, 1, none⟩ = some (.int .i64 y2)) (go_keep) (fail)
    all_goals
      go_wp2_with fail
      have F := FIN.out y1 y2 x1 x2
      exact bodyPost_ret (v := .tuple #[el (y1, y2), el (x1, x2)]) (by simp [results, Tryz.results24, go_sem, F.2.1.c0, F.2.1.c1, F.2.2.c0, F.2.2.c1]) rfl ⟨by rw [HWL.out.1, HWL.out.2], F.1.drew.mt, F.1.drew.bt⟩
  · have hv' : ltE (y1, y2) (x1, x2) = false := by simpa using hv
    have HWL := Lib.hid (show win (x1, x2) (y1, y2) = (x1, x2) ∧ lose (x1, x2) (y1, y2) = (y1, y2) from ⟨if_neg hv, if_neg hv⟩)
    rw [hv']
    clear hv hv'
    go_wp2_with fail
    go_region_held3 (fun w' => w'.cell? ⟨a, 0, none⟩ = some (.int .i64 x1) ∧ w'.cell? ⟨a, 1, none⟩ = some (.int .i64 x2) ∧ w'.cell? ⟨a + 1, 0, none⟩ = some (.int .i64 y1) ∧ w'.cell? ⟨a + 1, 1, none⟩ = some (.int .i64 y2)) (go_keep) (fail)
    all_goals
      go_wp2_with fail
      have F := FIN.out x1 x2 y1 y2
      exact bodyPost_ret (v := .tuple #[el (x1, x2), el (y1, y2)]) (by simp [results, Tryz.results24, go_sem, F.2.1.c0, F.2.1.c1, F.2.2.c0, F.2.2.c1]) rfl ⟨by rw [HWL.out.1, HWL.out.2], F.1.drew.mt, F.1.drew.bt⟩

end Go.Proofs.YtaeainnkhjnlaaaGreatDoor.Ro
