/-
  Memory that a call may have added to, and where one block (a meter's) may have turned: all else that was there stays. Of no program; no conditions beyond what each theorem says.
-/
import Derived.Test.YtliehednnhilkaaDoorMem
import Derived.Test.YtliehednnhilkaaDoorKit
namespace Go.Proofs.YtliehednnhilkaaDoor
open Go.Sort Go.RowKit

/-- Of all blocks that were there, only block b may have turned. -/
structure But (b : Nat) (w w' : World) : Prop where
  os : w'.os = w.os
  tape : w'.tape = w.tape
  output : w'.output = w.output
  size : w.heap.size ≤ w'.heap.size
  block : ∀ k, k < w.heap.size → k ≠ b → w'.heap[k]? = w.heap[k]?

theorem But.refl (b : Nat) (w : World) : But b w w := ⟨rfl, rfl, rfl, Nat.le_refl _, fun _ _ _ => rfl⟩
theorem But.trans {b : Nat} {u v w : World} (h : But b u v) (k : But b v w) : But b u w :=
  ⟨k.os.trans h.os, k.tape.trans h.tape, k.output.trans h.output, Nat.le_trans h.size k.size, fun i hi hb => (k.block i (Nat.lt_of_lt_of_le hi h.size) hb).trans (h.block i hi hb)⟩
theorem But.ofBelow {b : Nat} {w w' : World} (h : Below w.heap.size w w') : But b w w' := ⟨h.os, h.tape, h.output, h.size, fun k hk _ => h.block k hk⟩
theorem But.set (b off : Nat) (w : World) (v : Value) : But b w (w.setCell ⟨b, off, none⟩ v) :=
  ⟨rfl, rfl, rfl, by simp [World.setCell], fun k _ hb => Below.heap_setCell w ⟨b, off, none⟩ v k hb⟩
theorem But.alloc {b : Nat} {u w : World} (h : But b u w) (o : Obj) : But b u (w.alloc o) :=
  h.trans (But.ofBelow ((Below.refl _ _).alloc (Nat.le_refl _) o))
theorem But.cell {b : Nat} {w w' : World} (h : But b w w') {p : Addr} (hp : p.block < w.heap.size) (hb : p.block ≠ b) : w'.cell? p = w.cell? p := World.cell?_of_block (w := w) (h.block p.block hp hb)
theorem But.frozen {b : Nat} {w w' : World} (h : But b w w') {p : Addr} (hp : p.block < w.heap.size) (hb : p.block ≠ b) : w'.frozen? p = w.frozen? p := World.frozen?_of_block (w := w) (h.block p.block hp hb)
theorem But.pair {b c : Nat} {w w' : World} {x y : Int} (h : But b w w') (hp : PairAt w c x y) (hb : c ≠ b) : PairAt w' c x y := by
  obtain ⟨k, l, m, n, o⟩ := hp
  exact ⟨(h.cell (p := ⟨c, 0, none⟩) o hb).trans k, (h.cell (p := ⟨c, 1, none⟩) o hb).trans l, (h.frozen (p := ⟨c, 0, none⟩) o hb).trans m, (h.frozen (p := ⟨c, 1, none⟩) o hb).trans n, Nat.lt_of_lt_of_le o h.size⟩
/-- What lies below the block that may turn stays. -/
theorem But.below {b B : Nat} {u w w' : World} (h : But b w w') (hu : Below B u w) (hB : B ≤ b) (hw : B ≤ w.heap.size) : Below B u w' :=
  hu.trans ⟨h.os, h.tape, h.output, h.size, fun k hk => h.block k (Nat.lt_of_lt_of_le hk hw) (by omega)⟩

theorem PairAt.set0 {w : World} {b : Nat} {x y : Int} (h : PairAt w b x y) (x' : Int) : PairAt (w.setCell ⟨b, 0, none⟩ (.int .i64 x')) b x' y := by
  obtain ⟨a, c, d, e, f⟩ := h
  refine ⟨World.cell?_setCell_same _ _ _ a, (World.cell?_setCell_other _ _ _ _ (by simp)).trans c, ?_, ?_, by simpa [World.setCell] using f⟩
  · rw [World.frozen?_setCell]; exact d
  · rw [World.frozen?_setCell]; exact e
theorem PairAt.set1 {w : World} {b : Nat} {x y : Int} (h : PairAt w b x y) (y' : Int) : PairAt (w.setCell ⟨b, 1, none⟩ (.int .i64 y')) b x y' := by
  obtain ⟨a, c, d, e, f⟩ := h
  refine ⟨(World.cell?_setCell_other _ _ _ _ (by simp)).trans a, World.cell?_setCell_same _ _ _ c, ?_, ?_, by simpa [World.setCell] using f⟩
  · rw [World.frozen?_setCell]; exact d
  · rw [World.frozen?_setCell]; exact e
/-- A pair in a world that grew, and behind one that was drawn. -/
theorem PairAt.regrown {w : World} {b : Nat} {x y : Int} (h : PairAt w b x y) (d : Nat) (os : Array Obj) : PairAt (grow (redrawn w d) os) b x y :=
  h.below (below_regrown w d os) h.2.2.2.2

theorem PairAt.c0 {w : World} {b : Nat} {x y : Int} (h : PairAt w b x y) : w.cell? ⟨b, 0, none⟩ = some (.int .i64 x) := h.1
theorem PairAt.c1 {w : World} {b : Nat} {x y : Int} (h : PairAt w b x y) : w.cell? ⟨b, 1, none⟩ = some (.int .i64 y) := h.2.1
theorem PairAt.z0 {w : World} {b : Nat} {x y : Int} (h : PairAt w b x y) : w.frozen? ⟨b, 0, none⟩ = false := h.2.2.1
theorem PairAt.z1 {w : World} {b : Nat} {x y : Int} (h : PairAt w b x y) : w.frozen? ⟨b, 1, none⟩ = false := h.2.2.2.1
theorem PairAt.lt {w : World} {b : Nat} {x y : Int} (h : PairAt w b x y) : b < w.heap.size := h.2.2.2.2

/-- A meter that the call itself made, with its counts; what was there ahead of the call stays. -/
structure Meted (W w : World) (b : Nat) (c m : Int) : Prop where
  pair : PairAt w b c m
  below : Below W.heap.size W w
  own : W.heap.size ≤ b
theorem Meted.fresh {W w w1 : World} {t : TypeId} (hb : Below W.heap.size W w) (h : w1 = w.alloc (.cells #[.int .i64 0, .int .i64 0] t)) : Meted W w1 w.heap.size 0 0 := by
  subst h; exact ⟨PairAt.new w 0 0 t, hb.alloc hb.size _, hb.size⟩
theorem Meted.turn {W w w' : World} {b : Nat} {c m c' m' : Int} (h : Meted W w b c m) (hp : PairAt w' b c' m') (hb : But b w w') : Meted W w' b c' m' :=
  ⟨hp, hb.below h.below h.own h.below.size, h.own⟩
theorem Meted.stay {W w w' : World} {b : Nat} {c m : Int} (h : Meted W w b c m) (hb : Below w.heap.size w w') : Meted W w' b c m :=
  ⟨h.pair.below hb h.pair.lt, h.below.trans (hb.mono h.below.size), h.own⟩

end Go.Proofs.YtliehednnhilkaaDoor
