/-
  Leftist heaps in memory: a node's block of six cells; they stay where no block of that type turns. No conditions beyond what each theorem says.
-/
import Derived.Test.YtliehednnhilkaaDoorLh0
import Derived.Test.YtliehednnhilkaaDoorMt
namespace Go.Proofs.YtliehednnhilkaaDoor
open Go.Sort Go.RowKit

/-- The type of a node's block. -/
def NodeT (t : TypeId) : Prop := t = 81
/-- Nodes stay. -/
abbrev Kp (W W' : World) : Prop := Kpt NodeT W W'
theorem node_ne : ¬ NodeT 77 := by unfold NodeT; decide

/-- A node's block. -/
def nodeObj (x : Int × Int) (lp rp : Option Addr) (r s : Nat) : Obj :=
  .cells #[.int .i64 x.1, .int .i64 x.2, .pointer lp, .pointer rp, .int .i64 (r : Int), .int .i64 (s : Int)] 81 (0, 0)
/-- A heap at an address. -/
def LAt (W : World) : Lh → Option Addr → Prop
  | .nil, p => p = none
  | .node x l r, p => ∃ (b : Nat) (lp rp : Option Addr), p = some ⟨b, 0, none⟩ ∧ W.heap[b]? = some (nodeObj x lp rp (r.rank + 1) (l.size + 1 + r.size)) ∧ LAt W l lp ∧ LAt W r rp
/-- A heap's value. -/
abbrev hp (p : Option Addr) : Value := .agg #[.pointer p]

section
variable {W W' : World}
theorem LAt.kp (h : Kp W W') : ∀ {t : Lh} {p : Option Addr}, LAt W t p → LAt W' t p
  | .nil, _, hp => hp
  | .node _ _ _, _, ⟨b, lp, rp, e, hb, h1, h2⟩ => ⟨b, lp, rp, e, h _ _ _ rfl hb, LAt.kp h h1, LAt.kp h h2⟩
theorem LAt.stay {t : Lh} {p : Option Addr} (hn : LAt W t p) (h : Below W.heap.size W W') : LAt W' t p := hn.kp (Kpt.below h)

/-- The six cells of a node's block. -/
structure Six (W : World) (b : Nat) (x : Int × Int) (lp rp : Option Addr) (r s : Nat) : Prop where
  c0 : W.cell? ⟨b, 0, none⟩ = some (.int .i64 x.1)
  c1 : W.cell? ⟨b, 1, none⟩ = some (.int .i64 x.2)
  c2 : W.cell? ⟨b, 2, none⟩ = some (.pointer lp)
  c3 : W.cell? ⟨b, 3, none⟩ = some (.pointer rp)
  c4 : W.cell? ⟨b, 4, none⟩ = some (.int .i64 (r : Int))
  c5 : W.cell? ⟨b, 5, none⟩ = some (.int .i64 (s : Int))
theorem six {b : Nat} {x : Int × Int} {lp rp : Option Addr} {r s : Nat} (h : W.heap[b]? = some (nodeObj x lp rp r s)) : Six W b x lp rp r s := by
  constructor <;> simp [World.cell?, h, nodeObj]
theorem six_kp {b : Nat} {x : Int × Int} {lp rp : Option Addr} {r s : Nat} (h : W.heap[b]? = some (nodeObj x lp rp r s)) (hk : Kp W W') : Six W' b x lp rp r s := six (hk b _ _ rfl h)
end

/-- What a call hands back that makes a heap: c comparisons, m things made so far. -/
def Gave (mo : Option Nat) (c m : Int) (t : Lh) (w : World) (e : Ending) (w' : World) : Prop := ∃ p, e = .returned (hp p) ∧ LAt w' t p ∧ MAt w' mo c m ∧ Bt mo w w'

end Go.Proofs.YtliehednnhilkaaDoor
