/-
  Trees of heaps in memory: a tree's block of five cells, rows of heaps' addresses and of trees (two cells each); the blocks of the heaps that stand in them, as far as their roots go; what keeps them: whatever turns no block of these four types. No conditions beyond what each theorem says.
-/
import Derived.Test.YtlmokendajgbdaaGreatDoorTh0
import Derived.Test.YtlmokendajgbdaaGreatDoorMb
namespace Go.Proofs.YtlmokendajgbdaaGreatDoor
open Go.Sort Go.RowKit Go.Proofs.YtlmokendajgbdaaGreatDoor.Gn

/-- The four types of trees' blocks. -/
def TreeT (t : TypeId) : Prop := t = 156 ∨ t = 180 ∨ t = 182 ∨ t = 87
theorem tree_ne : ¬ TreeT 78 := by unfold TreeT; decide
/-- Blocks of these types stay. -/
abbrev Kp (W W' : World) : Prop := Kpt TreeT W W'
theorem Kp.below {W W' : World} (h : Below W.heap.size W W') : Kp W W' := Kpt.below h

/-- A heap's root lies at its address. -/
def KeyC (W : World) (x : Thing) : Prop := ∃ q n z : Value, W.heap[x.a]? = some (.cells #[.int .i64 x.key.1, .int .i64 x.key.2, q, n, z] 87 (0, 0))
/-- A row of things. -/
def BAt (W : World) : List Thing → Option Addr → Prop
  | [], p => p = none
  | x :: xs, p => ∃ (b : Nat) (q : Option Addr), p = some ⟨b, 0, none⟩ ∧ W.heap[b]? = some (.cells #[.pointer (some ⟨x.a, 0, none⟩), .pointer q] 180 (0, 0)) ∧ KeyC W x ∧ BAt W xs q

/-- A tree's block. -/
def treeObj (x : Thing) (bp : Option Addr) (r : Int) (kp : Option Addr) (o : Int) : Obj :=
  .cells #[.pointer (some ⟨x.a, 0, none⟩), .pointer bp, .int .i64 r, .pointer kp, .int .i64 o] 156 (0, 0)

/-- A row of trees. -/
def WAt (W : World) : Wood → Option Addr → Prop
  | .nil, p => p = none
  | .cons x bs ks rest, p => ∃ (c b : Nat) (q bp kp : Option Addr), p = some ⟨c, 0, none⟩ ∧ W.heap[c]? = some (.cells #[.pointer (some ⟨b, 0, none⟩), .pointer q] 182 (0, 0)) ∧
      W.heap[b]? = some (treeObj x bp ks.len kp (bs.length + ks.size : Nat)) ∧ KeyC W x ∧ BAt W bs bp ∧ WAt W ks kp ∧ WAt W rest q

/-- A tree at a block. -/
def NAt (W : World) (b : Nat) (t : Tre) : Prop := ∃ (bp kp : Option Addr), W.heap[b]? = some (treeObj t.x bp t.ks.len kp (t.bs.length + t.ks.size : Nat)) ∧ KeyC W t.x ∧ BAt W t.bs bp ∧ WAt W t.ks kp
/-- A tree, or none. -/
def TAt (W : World) (p : Option Addr) : Option Tre → Prop
  | none => p = none
  | some t => ∃ b, p = some ⟨b, 0, none⟩ ∧ NAt W b t

theorem new_cell (w : World) (v : Value) (t : TypeId) : (w.alloc (.cells #[v] t)).cell? ⟨w.heap.size, 0, none⟩ = some v := by
  have h := new_at (W := w) (o := .cells #[v] t) rfl
  unfold World.cell?
  rw [h]
  rfl
section
variable {W W' : World}
theorem KeyC.kp (h : Kp W W') {x : Thing} (hx : KeyC W x) : KeyC W' x := by obtain ⟨q, n, z, hb⟩ := hx; exact ⟨q, n, z, h _ _ _ (.inr (.inr (.inr rfl))) hb⟩
theorem BAt.kp (h : Kp W W') : ∀ {xs : List Thing} {p : Option Addr}, BAt W xs p → BAt W' xs p
  | [], _, hp => hp
  | _ :: _, _, ⟨b, q, e, hb, hx, hr⟩ => ⟨b, q, e, h _ _ _ (.inr (.inl rfl)) hb, hx.kp h, BAt.kp h hr⟩
theorem WAt.kp (h : Kp W W') : ∀ {ks : Wood} {p : Option Addr}, WAt W ks p → WAt W' ks p
  | .nil, _, hp => hp
  | .cons _ _ _ _, _, ⟨c, b, q, bp, kp, e, hc, hb, hx, h1, h2, h3⟩ => ⟨c, b, q, bp, kp, e, h _ _ _ (.inr (.inr (.inl rfl))) hc, h _ _ _ (.inl rfl) hb, hx.kp h, h1.kp h, WAt.kp h h2, WAt.kp h h3⟩
theorem NAt.kp (h : Kp W W') {b : Nat} {t : Tre} (hn : NAt W b t) : NAt W' b t := by
  obtain ⟨bp, kp, hb, hx, h1, h2⟩ := hn
  exact ⟨bp, kp, h _ _ _ (.inl rfl) hb, hx.kp h, h1.kp h, h2.kp h⟩
theorem TAt.kp (h : Kp W W') {p : Option Addr} {t : Option Tre} (ht : TAt W p t) : TAt W' p t := by
  cases t with
  | none => exact ht
  | some t => obtain ⟨b, e, hn⟩ := ht; exact ⟨b, e, hn.kp h⟩
theorem NAt.stay {b : Nat} {t : Tre} (hn : NAt W b t) (h : Below W.heap.size W W') : NAt W' b t := hn.kp (Kp.below h)
theorem TAt.stay {p : Option Addr} {t : Option Tre} (hn : TAt W p t) (h : Below W.heap.size W W') : TAt W' p t := hn.kp (Kp.below h)
theorem BAt.stay {p : Option Addr} {t : List Thing} (hn : BAt W t p) (h : Below W.heap.size W W') : BAt W' t p := hn.kp (Kp.below h)
theorem WAt.stay {p : Option Addr} {t : Wood} (hn : WAt W t p) (h : Below W.heap.size W W') : WAt W' t p := hn.kp (Kp.below h)
theorem NAt.lt {b : Nat} {t : Tre} (hn : NAt W b t) : b < W.heap.size := by obtain ⟨bp, kp, hb, -⟩ := hn; exact lt_of_heap hb

/-- The five cells of a tree's block. -/
structure Six (W : World) (b : Nat) (x : Thing) (bp : Option Addr) (r : Int) (kp : Option Addr) (o : Int) : Prop where
  c0 : W.cell? ⟨b, 0, none⟩ = some (.pointer (some ⟨x.a, 0, none⟩))
  c2 : W.cell? ⟨b, 1, none⟩ = some (.pointer bp)
  c3 : W.cell? ⟨b, 2, none⟩ = some (.int .i64 r)
  c4 : W.cell? ⟨b, 3, none⟩ = some (.pointer kp)
  c5 : W.cell? ⟨b, 4, none⟩ = some (.int .i64 o)
theorem six {b : Nat} {x : Thing} {bp kp : Option Addr} {r o : Int} (h : W.heap[b]? = some (treeObj x bp r kp o)) : Six W b x bp r kp o := by
  constructor <;> simp [World.cell?, h, treeObj]
theorem Six.below {B : Nat} {b : Nat} {x : Thing} {bp kp : Option Addr} {r o : Int} (h : Six W b x bp r kp o) (hb : Below B W W') (hB : b < B) : Six W' b x bp r kp o :=
  ⟨(hb.cell (p := ⟨b, 0, none⟩) hB).trans h.c0, (hb.cell (p := ⟨b, 1, none⟩) hB).trans h.c2, (hb.cell (p := ⟨b, 2, none⟩) hB).trans h.c3, (hb.cell (p := ⟨b, 3, none⟩) hB).trans h.c4, (hb.cell (p := ⟨b, 4, none⟩) hB).trans h.c5⟩
theorem KeyC.below {B : Nat} {x : Thing} (h : KeyC W x) (hb : Below B W W') (hB : x.a < B) : KeyC W' x := by obtain ⟨q, n, z, e⟩ := h; exact ⟨q, n, z, (hb.block x.a hB).trans e⟩
theorem KeyC.lt {x : Thing} (h : KeyC W x) : x.a < W.heap.size := by obtain ⟨q, n, z, e⟩ := h; exact lt_of_heap e
theorem KeyC.c0 {x : Thing} (h : KeyC W x) : W.cell? ⟨x.a, 0, none⟩ = some (.int .i64 x.key.1) := by obtain ⟨q, n, z, e⟩ := h; simp [World.cell?, e]
theorem KeyC.c1 {x : Thing} (h : KeyC W x) : W.cell? ⟨x.a, 1, none⟩ = some (.int .i64 x.key.2) := by obtain ⟨q, n, z, e⟩ := h; simp [World.cell?, e]
theorem KeyC.stay {x : Thing} (h : KeyC W x) (hb : Below W.heap.size W W') : KeyC W' x := h.below hb h.lt
/-- The root's place. -/
theorem NAt.key {b : Nat} {t : Tre} (hn : NAt W b t) : KeyC W t.x := by obtain ⟨bp, kp, -, hx, -⟩ := hn; exact hx
end

end Go.Proofs.YtlmokendajgbdaaGreatDoor
