/-
  Trees with ranks in memory: a tree's block of six cells, rows of things (three cells each) and of trees (two cells each); what keeps them: whatever turns no block of these three types. A meter at a block, or none. No conditions beyond what each theorem says.
-/
import Derived.Test.YtlkpmafgokoaiaaDoorTr0
import Derived.Test.YtlkpmafgokoaiaaDoorBut
import Derived.Test.YtlkpmafgokoaiaaDoorProg
namespace Go.Proofs.YtlkpmafgokoaiaaDoor
open Go.Sort Go.RowKit

/-- Blocks of the three types of trees stay. -/
def Kp (W W' : World) : Prop := ∀ (k : Nat) (cs : Array Value) (t : TypeId), (t = 73 ∨ t = 92 ∨ t = 90) →
  W.heap[k]? = some (.cells cs t (0, 0)) → W'.heap[k]? = some (.cells cs t (0, 0))
theorem lt_of_heap {W : World} {k : Nat} {o : Obj} (h : W.heap[k]? = some o) : k < W.heap.size := (Array.getElem?_eq_some_iff.1 h).1
theorem Kp.refl (W : World) : Kp W W := fun _ _ _ _ h => h
theorem Kp.trans {U V W : World} (h : Kp U V) (h' : Kp V W) : Kp U W := fun k cs t ht e => h' k cs t ht (h k cs t ht e)
theorem Kp.below {W W' : World} (h : Below W.heap.size W W') : Kp W W' := fun k _ _ _ e => (h.block k (lt_of_heap e)).trans e
theorem Kp.grown {W W' : World} {row : Option Nat} (hg : W.grownBy W' row) (hr : ∀ g, row = some g → ∀ cs t, W.heap[g]? = some (.cells cs t (0, 0)) → ¬ (t = 73 ∨ t = 92 ∨ t = 90)) : Kp W W' :=
  fun k cs t ht e => (hg.block k (lt_of_heap e) (fun ek => hr k ek.symm cs t e ht)).trans e
theorem Kp.set {W : World} {g : Nat} {cs : Array Value} {t : TypeId} {z : Nat × Nat} (hg : W.heap[g]? = some (.cells cs t z)) (ht : ¬ (t = 73 ∨ t = 92 ∨ t = 90)) (off : Nat) (v : Value) : Kp W (W.setCell ⟨g, off, none⟩ v) :=
  fun k cs' t' ht' e => (Below.heap_setCell W ⟨g, off, none⟩ v k (fun ek => by subst ek; rw [hg] at e; cases e; exact ht ht')).trans e

/-- A row of things. -/
def BAt (W : World) : List (Int × Int) → Option Addr → Prop
  | [], p => p = none
  | x :: xs, p => ∃ (b : Nat) (q : Option Addr), p = some ⟨b, 0, none⟩ ∧ W.heap[b]? = some (.cells #[.int .i64 x.1, .int .i64 x.2, .pointer q] 92 (0, 0)) ∧ BAt W xs q

/-- A tree's block. -/
def treeObj (x : Int × Int) (bp : Option Addr) (r : Int) (kp : Option Addr) (o : Int) : Obj :=
  .cells #[.int .i64 x.1, .int .i64 x.2, .pointer bp, .int .i64 r, .pointer kp, .int .i64 o] 73 (0, 0)

/-- A row of trees. -/
def WAt (W : World) : Wood → Option Addr → Prop
  | .nil, p => p = none
  | .cons x bs ks rest, p => ∃ (c b : Nat) (q bp kp : Option Addr), p = some ⟨c, 0, none⟩ ∧ W.heap[c]? = some (.cells #[.pointer (some ⟨b, 0, none⟩), .pointer q] 90 (0, 0)) ∧
      W.heap[b]? = some (treeObj x bp ks.len kp (bs.length + ks.size : Nat)) ∧ BAt W bs bp ∧ WAt W ks kp ∧ WAt W rest q

/-- A tree at a block. -/
def NAt (W : World) (b : Nat) (t : Tre) : Prop := ∃ (bp kp : Option Addr), W.heap[b]? = some (treeObj t.x bp t.ks.len kp (t.bs.length + t.ks.size : Nat)) ∧ BAt W t.bs bp ∧ WAt W t.ks kp
/-- A tree, or none. -/
def TAt (W : World) (p : Option Addr) : Option Tre → Prop
  | none => p = none
  | some t => ∃ b, p = some ⟨b, 0, none⟩ ∧ NAt W b t

section
variable {W W' : World}
theorem BAt.kp (h : Kp W W') : ∀ {xs : List (Int × Int)} {p : Option Addr}, BAt W xs p → BAt W' xs p
  | [], _, hp => hp
  | _ :: _, _, ⟨b, q, e, hb, hr⟩ => ⟨b, q, e, h _ _ _ (.inr (.inl rfl)) hb, BAt.kp h hr⟩
theorem WAt.kp (h : Kp W W') : ∀ {ks : Wood} {p : Option Addr}, WAt W ks p → WAt W' ks p
  | .nil, _, hp => hp
  | .cons _ _ _ _, _, ⟨c, b, q, bp, kp, e, hc, hb, h1, h2, h3⟩ => ⟨c, b, q, bp, kp, e, h _ _ _ (.inr (.inr rfl)) hc, h _ _ _ (.inl rfl) hb, h1.kp h, WAt.kp h h2, WAt.kp h h3⟩
theorem NAt.kp (h : Kp W W') {b : Nat} {t : Tre} (hn : NAt W b t) : NAt W' b t := by
  obtain ⟨bp, kp, hb, h1, h2⟩ := hn
  exact ⟨bp, kp, h _ _ _ (.inl rfl) hb, h1.kp h, h2.kp h⟩
theorem TAt.kp (h : Kp W W') {p : Option Addr} {t : Option Tre} (ht : TAt W p t) : TAt W' p t := by
  cases t with
  | none => exact ht
  | some t => obtain ⟨b, e, hn⟩ := ht; exact ⟨b, e, hn.kp h⟩
theorem NAt.stay {b : Nat} {t : Tre} (hn : NAt W b t) (h : Below W.heap.size W W') : NAt W' b t := hn.kp (Kp.below h)
theorem TAt.stay {p : Option Addr} {t : Option Tre} (hn : TAt W p t) (h : Below W.heap.size W W') : TAt W' p t := hn.kp (Kp.below h)
theorem BAt.stay {p : Option Addr} {t : List (Int × Int)} (hn : BAt W t p) (h : Below W.heap.size W W') : BAt W' t p := hn.kp (Kp.below h)
theorem WAt.stay {p : Option Addr} {t : Wood} (hn : WAt W t p) (h : Below W.heap.size W W') : WAt W' t p := hn.kp (Kp.below h)
theorem NAt.lt {b : Nat} {t : Tre} (hn : NAt W b t) : b < W.heap.size := by obtain ⟨bp, kp, hb, -⟩ := hn; exact lt_of_heap hb

/-- The six cells of a tree's block. -/
structure Six (W : World) (b : Nat) (x : Int × Int) (bp : Option Addr) (r : Int) (kp : Option Addr) (o : Int) : Prop where
  c0 : W.cell? ⟨b, 0, none⟩ = some (.int .i64 x.1)
  c1 : W.cell? ⟨b, 1, none⟩ = some (.int .i64 x.2)
  c2 : W.cell? ⟨b, 2, none⟩ = some (.pointer bp)
  c3 : W.cell? ⟨b, 3, none⟩ = some (.int .i64 r)
  c4 : W.cell? ⟨b, 4, none⟩ = some (.pointer kp)
  c5 : W.cell? ⟨b, 5, none⟩ = some (.int .i64 o)
theorem six {b : Nat} {x : Int × Int} {bp kp : Option Addr} {r o : Int} (h : W.heap[b]? = some (treeObj x bp r kp o)) : Six W b x bp r kp o := by
  constructor <;> simp [World.cell?, h, treeObj]
theorem Six.below {B : Nat} {b : Nat} {x : Int × Int} {bp kp : Option Addr} {r o : Int} (h : Six W b x bp r kp o) (hb : Below B W W') (hB : b < B) : Six W' b x bp r kp o :=
  ⟨(hb.cell (p := ⟨b, 0, none⟩) hB).trans h.c0, (hb.cell (p := ⟨b, 1, none⟩) hB).trans h.c1, (hb.cell (p := ⟨b, 2, none⟩) hB).trans h.c2, (hb.cell (p := ⟨b, 3, none⟩) hB).trans h.c3, (hb.cell (p := ⟨b, 4, none⟩) hB).trans h.c4, (hb.cell (p := ⟨b, 5, none⟩) hB).trans h.c5⟩
end

/-- A meter's address, or none's. -/
abbrev mAddr (mo : Option Nat) : Value := .pointer (mo.map fun b => ⟨b, 0, none⟩)
/-- A meter's two counts; of none nothing is said. -/
def MAt (W : World) : Option Nat → Int → Int → Prop
  | none, _, _ => True
  | some b, c, m => W.heap[b]? = some (.cells #[.int .i64 c, .int .i64 m] 68 (0, 0))
/-- Of all blocks that were there only the meter's may have turned. -/
structure Bt (mo : Option Nat) (w w' : World) : Prop where
  os : w'.os = w.os
  tape : w'.tape = w.tape
  output : w'.output = w.output
  size : w.heap.size ≤ w'.heap.size
  block : ∀ k, k < w.heap.size → mo ≠ some k → w'.heap[k]? = w.heap[k]?

section
variable {mo : Option Nat} {u v w w' : World}
theorem Bt.refl (mo : Option Nat) (w : World) : Bt mo w w := ⟨rfl, rfl, rfl, Nat.le_refl _, fun _ _ _ => rfl⟩
theorem Bt.trans (h : Bt mo u v) (k : Bt mo v w) : Bt mo u w :=
  ⟨k.os.trans h.os, k.tape.trans h.tape, k.output.trans h.output, Nat.le_trans h.size k.size, fun i hi hb => (k.block i (Nat.lt_of_lt_of_le hi h.size) hb).trans (h.block i hi hb)⟩
theorem Bt.ofBelow (h : Below w.heap.size w w') : Bt mo w w' := ⟨h.os, h.tape, h.output, h.size, fun k hk _ => h.block k hk⟩
theorem Bt.toBelow (h : Bt none w w') : Below w.heap.size w w' := ⟨h.os, h.tape, h.output, h.size, fun k hk => h.block k hk (by simp)⟩
theorem Bt.ofBut {b : Nat} (h : But b w w') : Bt (some b) w w' := ⟨h.os, h.tape, h.output, h.size, fun k hk hb => h.block k hk (fun e => hb (by rw [e]))⟩
theorem Bt.toBut {b : Nat} (h : Bt (some b) w w') : But b w w' := ⟨h.os, h.tape, h.output, h.size, fun k hk hb => h.block k hk (fun e => hb (by injection e with e; exact e.symm))⟩
theorem Bt.alloc (h : Bt mo u w) (o : Obj) : Bt mo u (w.alloc o) := h.trans (Bt.ofBelow ((Below.refl _ _).alloc (Nat.le_refl _) o))
theorem Bt.drew (h : Bt mo u w) : Bt mo u w.drew := h.trans (Bt.ofBelow ((Below.refl _ _).drew))
/-- What lies below the meter stays. -/
theorem Bt.below {B : Nat} (h : Bt mo w w') (hu : Below B u w) (hB : ∀ b, mo = some b → B ≤ b) (hw : B ≤ w.heap.size) : Below B u w' :=
  hu.trans ⟨h.os, h.tape, h.output, h.size, fun k hk => h.block k (Nat.lt_of_lt_of_le hk hw) (fun e => by have := hB k e; omega)⟩
theorem Bt.kp {c m : Int} (h : Bt mo w w') (hm : MAt w mo c m) : Kp w w' := fun k cs t ht e => (h.block k (lt_of_heap e) (fun em => by
  subst em
  rw [show w.heap[k]? = _ from hm] at e
  cases e
  exact absurd ht (by decide))).trans e
theorem Bt.cell (h : Bt mo w w') {a : Addr} {x : Value} (hc : w.cell? a = some x) (hm : ∀ b, mo = some b → a.block ≠ b) : w'.cell? a = some x := by
  have hl : a.block < w.heap.size := by
    unfold World.cell? at hc
    cases hh : w.heap[a.block]? with
    | none => rw [hh] at hc; cases hc
    | some o => exact lt_of_heap hh
  rw [World.cell?_of_block (w := w) (h.block a.block hl (fun e => hm _ e rfl))]
  exact hc
theorem MAt.stay {c m : Int} (h : MAt w mo c m) (hb : Below w.heap.size w w') : MAt w' mo c m := by
  cases mo with
  | none => trivial
  | some b => exact (hb.block b (lt_of_heap h)).trans h
theorem MAt.alloc {c m : Int} (h : MAt w mo c m) (o : Obj) : MAt (w.alloc o) mo c m := h.stay ((Below.refl _ _).alloc (Nat.le_refl _) o)
theorem MAt.drew {c m : Int} (h : MAt w mo c m) : MAt w.drew mo c m := h.stay ((Below.refl _ _).drew)
theorem MAt.lt {c m : Int} {b : Nat} (h : MAt w (some b) c m) : b < w.heap.size := lt_of_heap h
/-- A block of another type is not the meter's. -/
theorem MAt.ne {c m : Int} {b k : Nat} {cs : Array Value} {t : TypeId} {z : Nat × Nat} (h : MAt w mo c m) (hk : w.heap[k]? = some (.cells cs t z)) (ht : t ≠ 68) (e : mo = some b) : k ≠ b := fun ek => by
  subst e; subst ek
  rw [show w.heap[k]? = _ from h] at hk
  cases hk
  exact ht rfl
end

end Go.Proofs.YtlkpmafgokoaiaaDoor
