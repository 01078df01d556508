/-
  Memory that a call may have added to, of no program: what was there stays; a block of two numbers, just laid or behind further calls. No conditions beyond what each theorem says.
-/
import Derived.WalkKit
import Derived.Sort.Grow
import Derived.Below
import Derived.Lib.QuietBelow
namespace Go.Proofs.YtfjjfljkdflpcaaDoor
open Go.Sort Go.RowKit

theorem below_grow (w : World) (k : Nat) (os : Array Obj) : Below w.heap.size w (grow (w.drewN k) os) :=
  ⟨rfl, rfl, rfl, by simp [grow, World.drewN], fun i hi => by simp [grow, World.drewN, Array.getElem?_append, hi]⟩

theorem below_drewN (w : World) (k : Nat) : Below w.heap.size w (w.drewN k) := ⟨rfl, rfl, rfl, Nat.le_refl _, fun _ _ => rfl⟩

theorem var_stays {P : Program} {w w' : World} {n : String} {cs : Array Value} (hb : Below w.heap.size w w') (hv : w.var? P n = some cs) : w'.var? P n = some cs := by
  unfold World.var? at hv ⊢
  cases hg : P.globalNamed n with
  | none => rw [hg] at hv; cases hv
  | some g =>
    rw [hg] at hv
    simp only [Option.bind_some] at hv ⊢
    have hlt : g < w.heap.size := by
      cases hh : w.heap[g]? with
      | none => rw [hh] at hv; cases hv
      | some o => exact (Array.getElem?_eq_some_iff.1 hh).1
    rw [hb.block g hlt]; exact hv

/-- A block of two cells that was just laid, behind a call that left it alone: what the walk wants of it. -/
theorem pair_after {w w1 : World} {x y : Value} {t : TypeId} (hb : Below (w.alloc (.cells #[x, y] t)).heap.size (w.alloc (.cells #[x, y] t)) w1) :
    w1.cell? ⟨w.heap.size, 0, none⟩ = some x ∧ w1.cell? ⟨w.heap.size, 1, none⟩ = some y ∧ w1.frozen? ⟨w.heap.size, 0, none⟩ = false ∧ w1.frozen? ⟨w.heap.size, 1, none⟩ = false ∧ w.heap.size < w1.heap.size ∧ Below w.heap.size w w1 := by
  have hs := hb.size
  have e : (w.alloc (.cells #[x, y] t)).heap[w.heap.size]? = some (.cells #[x, y] t (0, 0)) := heap_alloc_new w _
  have e1 : w1.heap[w.heap.size]? = some (.cells #[x, y] t (0, 0)) := (hb.block w.heap.size (by simp)).trans e
  refine ⟨?_, ?_, ?_, ?_, by simp at hs; omega, ((Below.refl w.heap.size w).alloc (Nat.le_refl _) _).trans (hb.mono (by simp))⟩
  · simp [World.cell?, e1]
  · simp [World.cell?, e1]
  · simp [World.frozen?, e1]
  · simp [World.frozen?, e1]

/-- .. and behind a further call. -/
theorem pair_on {w w1 w2 : World} {b : Nat} {x y : Value} (h : w1.cell? ⟨b, 0, none⟩ = some x ∧ w1.cell? ⟨b, 1, none⟩ = some y ∧ w1.frozen? ⟨b, 0, none⟩ = false ∧ w1.frozen? ⟨b, 1, none⟩ = false ∧ b < w1.heap.size ∧ Below w.heap.size w w1) (hb : Below w1.heap.size w1 w2) :
    w2.cell? ⟨b, 0, none⟩ = some x ∧ w2.cell? ⟨b, 1, none⟩ = some y ∧ w2.frozen? ⟨b, 0, none⟩ = false ∧ w2.frozen? ⟨b, 1, none⟩ = false ∧ b < w2.heap.size ∧ Below w.heap.size w w2 := by
  obtain ⟨a, c, d, e, f, g⟩ := h
  exact ⟨(hb.cell (p := ⟨b, 0, none⟩) f).trans a, (hb.cell (p := ⟨b, 1, none⟩) f).trans c, (hb.frozen (p := ⟨b, 0, none⟩) f).trans d, (hb.frozen (p := ⟨b, 1, none⟩) f).trans e, Nat.lt_of_lt_of_le f hb.size, g.trans (hb.mono g.size)⟩

/-- Block b holds two numbers, and may be written. -/
def PairAt (w : World) (b : Nat) (x y : Int) : Prop :=
  w.cell? ⟨b, 0, none⟩ = some (.int .i64 x) ∧ w.cell? ⟨b, 1, none⟩ = some (.int .i64 y) ∧ w.frozen? ⟨b, 0, none⟩ = false ∧ w.frozen? ⟨b, 1, none⟩ = false ∧ b < w.heap.size
theorem PairAt.below {w w' : World} {B b : Nat} {x y : Int} (h : PairAt w b x y) (hb : Below B w w') (hB : b < B) : PairAt w' b x y := by
  obtain ⟨a, c, d, e, f⟩ := h
  exact ⟨(hb.cell (p := ⟨b, 0, none⟩) hB).trans a, (hb.cell (p := ⟨b, 1, none⟩) hB).trans c, (hb.frozen (p := ⟨b, 0, none⟩) hB).trans d, (hb.frozen (p := ⟨b, 1, none⟩) hB).trans e, Nat.lt_of_lt_of_le f hb.size⟩
theorem PairAt.new (w : World) (x y : Int) (t : TypeId) : PairAt (w.alloc (.cells #[.int .i64 x, .int .i64 y] t)) w.heap.size x y := by
  have h := pair_after (w := w) (x := .int .i64 x) (y := .int .i64 y) (t := t) (Below.refl _ _)
  exact ⟨h.1, h.2.1, h.2.2.1, h.2.2.2.1, h.2.2.2.2.1⟩
theorem PairAt.alloc {w : World} {b : Nat} {x y : Int} (h : PairAt w b x y) (o : Obj) : PairAt (w.alloc o) b x y :=
  h.below (B := w.heap.size) ((Below.refl _ _).alloc (Nat.le_refl _) o) h.2.2.2.2
theorem PairAt.set {w : World} {b : Nat} {x y : Int} (h : PairAt w b x y) (x' y' : Int) : PairAt ((w.setCell ⟨b, 0, none⟩ (.int .i64 x')).setCell ⟨b, 1, none⟩ (.int .i64 y')) b x' y' := by
  obtain ⟨a, c, d, e, f⟩ := h
  refine ⟨?_, ?_, ?_, ?_, by simpa [World.setCell] using f⟩
  · rw [World.cell?_setCell_other _ _ _ _ (by simp)]; exact World.cell?_setCell_same _ _ _ a
  · exact World.cell?_setCell_same _ _ _ ((World.cell?_setCell_other _ _ _ _ (by simp)).trans c)
  · rw [World.frozen?_setCell, World.frozen?_setCell]; exact d
  · rw [World.frozen?_setCell, World.frozen?_setCell]; exact e
theorem PairAt.other {w : World} {b : Nat} {x y : Int} (h : PairAt w b x y) {p : Addr} (hp : p.block ≠ b) (u : Value) : PairAt (w.setCell p u) b x y := by
  obtain ⟨a, c, d, e, f⟩ := h
  refine ⟨?_, ?_, ?_, ?_, by simpa [World.setCell] using f⟩
  · rw [World.cell?_setCell_other _ _ _ _ (fun e => hp (by rw [e]))]; exact a
  · rw [World.cell?_setCell_other _ _ _ _ (fun e => hp (by rw [e]))]; exact c
  · rw [World.frozen?_setCell]; exact d
  · rw [World.frozen?_setCell]; exact e

/-- Two, and three, elements that were boxed, behind a call that left them alone. -/
theorem duo {w w1 : World} {p q r s : Int} {t : TypeId} (hb : Below ((w.alloc (.cells #[.int .i64 p, .int .i64 q] t)).alloc (.cells #[.int .i64 r, .int .i64 s] t)).heap.size ((w.alloc (.cells #[.int .i64 p, .int .i64 q] t)).alloc (.cells #[.int .i64 r, .int .i64 s] t)) w1) :
    PairAt w1 w.heap.size p q ∧ PairAt w1 (w.heap.size + 1) r s ∧ Below w.heap.size w w1 := by
  have e : (w.alloc (.cells #[.int .i64 p, .int .i64 q] t)).heap.size = w.heap.size + 1 := by simp
  have pb := (PairAt.new (w.alloc (.cells #[.int .i64 p, .int .i64 q] t)) r s t).below hb (by simp)
  rw [e] at pb
  exact ⟨((PairAt.new w p q t).alloc _).below hb (by simp; omega), pb, (((Below.refl w.heap.size w).alloc (Nat.le_refl _) _).alloc (by simp) _).trans (hb.mono (by simp; omega))⟩
theorem trio {w w1 : World} {p q r s x y : Int} {t : TypeId} (hb : Below (((w.alloc (.cells #[.int .i64 p, .int .i64 q] t)).alloc (.cells #[.int .i64 r, .int .i64 s] t)).alloc (.cells #[.int .i64 x, .int .i64 y] t)).heap.size (((w.alloc (.cells #[.int .i64 p, .int .i64 q] t)).alloc (.cells #[.int .i64 r, .int .i64 s] t)).alloc (.cells #[.int .i64 x, .int .i64 y] t)) w1) :
    PairAt w1 w.heap.size p q ∧ PairAt w1 (w.heap.size + 1) r s ∧ PairAt w1 (w.heap.size + 1 + 1) x y ∧ Below w.heap.size w w1 := by
  have e : ((w.alloc (.cells #[.int .i64 p, .int .i64 q] t)).alloc (.cells #[.int .i64 r, .int .i64 s] t)).heap.size = w.heap.size + 1 + 1 := by simp
  have pc := (PairAt.new ((w.alloc (.cells #[.int .i64 p, .int .i64 q] t)).alloc (.cells #[.int .i64 r, .int .i64 s] t)) x y t).below hb (by simp)
  rw [e] at pc
  obtain ⟨pa, pb, hw⟩ := duo (w := w) (p := p) (q := q) (r := r) (s := s) (t := t) (Below.refl _ _)
  exact ⟨(pa.alloc _).below hb (by simp; omega), (pb.alloc _).below hb (by simp), pc, (hw.alloc hw.size _).trans (hb.mono (by simp; omega))⟩

end Go.Proofs.YtfjjfljkdflpcaaDoor
