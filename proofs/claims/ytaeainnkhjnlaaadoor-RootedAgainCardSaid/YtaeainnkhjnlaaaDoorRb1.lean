/-
  Heaps with their least element apart, in memory: a node's block of four cells (the root, and the value of a skew binomial heap); they stay where no block of the types of either turns. No conditions beyond what each theorem says.
-/
import Derived.Test.YtaeainnkhjnlaaaDoorRo1
import Derived.Test.YtaeainnkhjnlaaaDoorSb7
namespace Go.Proofs.YtaeainnkhjnlaaaDoor.Ro
open Go.Sort Go.RowKit

theorem alloc_old {w : World} {k : Nat} (o : Obj) (h : k < w.heap.size) : (w.alloc o).heap[k]? = w.heap[k]? := ((Below.refl w.heap.size w).alloc (Nat.le_refl _) o).block k h
theorem heap_other {W : World} {b k : Nat} (j : Nat) (v : Value) (h : k ≠ b) : (W.setCell ⟨b, j, none⟩ v).heap[k]? = W.heap[k]? := Below.heap_setCell W ⟨b, j, none⟩ v k h
/-- The types of a heap's blocks. -/
def NodeT (t : TypeId) : Prop := Hp.NodeT t ∨ t = 68
/-- A heap's blocks stay. -/
abbrev Kp (W W' : World) : Prop := Kpt NodeT W W'
theorem node_ne : ¬ NodeT 78 := by unfold NodeT Hp.NodeT TreeT; decide
theorem elemT_ne : ¬ NodeT 41 := by unfold NodeT Hp.NodeT TreeT; decide
theorem heapT_ne : ¬ NodeT 26 := by unfold NodeT Hp.NodeT TreeT; decide
theorem skewT_ne : ¬ NodeT 66 := by unfold NodeT Hp.NodeT TreeT; decide

/-- A node's block. -/
def nodeObj (x : Int × Int) (q : Hp.HP) : Obj := .cells #[.int .i64 x.1, .int .i64 x.2, .pointer q.q, .int .i64 q.n] 68 (0, 0)
/-- A heap at an address. -/
def LAt (W : World) : Lh → Option Addr → Prop
  | .nil, p => p = none
  | .node x o, p => ∃ (b : Nat) (q : Hp.HP), p = some ⟨b, 0, none⟩ ∧ W.heap[b]? = some (nodeObj x q) ∧ Hp.LAt W o q
/-- A heap's value. -/
abbrev hp (p : Option Addr) : Value := .agg #[.pointer p]

section
variable {W W' : World} {mo : Option Nat} {c m : Int}
theorem Kp.sk (h : Kp W W') : Hp.Kp W W' := fun k cs t ht e => h k cs t (.inl ht) e
theorem LAt.kps {t : Lh} {p : Option Addr} (hn : LAt W t p) (h : Kp W W') (hs : W.heap.size ≤ W'.heap.size) : LAt W' t p := by
  cases t with
  | nil => exact hn
  | node x o => obtain ⟨b, q, e, hb, hk⟩ := hn; exact ⟨b, q, e, h _ _ _ (.inr rfl) hb, Hp.LAt.kps hk h.sk hs⟩
theorem LAt.stay {t : Lh} {p : Option Addr} (hn : LAt W t p) (h : Below W.heap.size W W') : LAt W' t p := hn.kps (Kpt.below h) h.size
theorem LAt.bt {t : Lh} {p : Option Addr} (h : LAt W t p) (hb : Bt mo W W') (hm : MAt W mo c m) : LAt W' t p := h.kps (hb.kpt hm node_ne) hb.size
theorem LAt.none (w : World) : LAt w .nil Option.none := rfl
theorem size_set1 (W : World) (a : Addr) (u : Value) : (W.setCell a u).heap.size = W.heap.size := by simp [World.setCell]
/-- .. where a block of another type is written. -/
theorem LAt.wrote {t : Lh} {p : Option Addr} (hn : LAt W t p) {g : Nat} {cs : Array Value} {ty : TypeId} {z : Nat × Nat} (hg : W.heap[g]? = some (.cells cs ty z)) (ht : ¬ NodeT ty) (off : Nat) (u : Value) : LAt (W.setCell ⟨g, off, Option.none⟩ u) t p :=
  hn.kps (Kpt.set hg ht off u) (by rw [size_set1]; exact Nat.le_refl _)
/-- It is a heap of fewer than 2 to the 28th elements, of which all others are a heap. -/
theorem LAt.small {t : Lh} {p : Option Addr} (hn : LAt W t p) : t.size ≤ 268435456 := by
  cases t with
  | nil => exact Nat.zero_le _
  | node x o => obtain ⟨b, q, -, -, hk⟩ := hn; have := hk.small; simp only [Lh.size]; omega

/-- The four cells of a node's block. -/
structure Four (W : World) (b : Nat) (x : Int × Int) (q : Hp.HP) : Prop where
  c0 : W.cell? ⟨b, 0, none⟩ = some (.int .i64 x.1)
  c1 : W.cell? ⟨b, 1, none⟩ = some (.int .i64 x.2)
  c2 : W.cell? ⟨b, 2, none⟩ = some (.pointer q.q)
  c3 : W.cell? ⟨b, 3, none⟩ = some (.int .i64 q.n)
theorem four {b : Nat} {x : Int × Int} {q : Hp.HP} (h : W.heap[b]? = some (nodeObj x q)) : Four W b x q := by
  constructor <;> simp [World.cell?, h, nodeObj]
theorem four_kp {b : Nat} {x : Int × Int} {q : Hp.HP} (h : W.heap[b]? = some (nodeObj x q)) (hk : Kp W W') : Four W' b x q := four (hk b _ _ (.inr rfl) h)

/-- A variable that holds a heap. -/
def HVar (W : World) (b : Nat) (p : Option Addr) : Prop := W.heap[b]? = some (.cells #[.pointer p] 26 (0, 0))
theorem HVar.bt {b : Nat} {p : Option Addr} (h : HVar W b p) (hb : Bt mo W W') (hm : MAt W mo c m) : HVar W' b p := hb.row hm h (by decide)
theorem HVar.c0 {b : Nat} {p : Option Addr} (h : HVar W b p) : W.cell? ⟨b, 0, none⟩ = some (.pointer p) := by unfold HVar at h; simp [World.cell?, h]
theorem HVar.z0 {b : Nat} {p : Option Addr} (h : HVar W b p) : W.frozen? ⟨b, 0, none⟩ = false := by unfold HVar at h; simp [World.frozen?, h]
theorem HVar.put {b : Nat} {p : Option Addr} (h : HVar W b p) (q : Option Addr) : HVar (W.setCell ⟨b, 0, none⟩ (.pointer q)) b q := heap_put (j := 0) h _
theorem HVar.set {b' : Nat} {p : Option Addr} (h : HVar W b' p) {b : Nat} (hne : b' ≠ b) (off : Nat) (u : Value) : HVar (W.setCell ⟨b, off, none⟩ u) b' p := (heap_other _ _ hne).trans h
end

/-- What a call hands back that makes a heap: c comparisons, m things made so far. -/
def Gave (mo : Option Nat) (c m : Int) (t : Lh) (w : World) (e : Ending) (w' : World) : Prop := ∃ p, e = .returned (hp p) ∧ LAt w' t p ∧ MAt w' mo c m ∧ Bt mo w w'

end Go.Proofs.YtaeainnkhjnlaaaDoor.Ro
