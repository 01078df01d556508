/-
  What the statement ConsPlays holds between its rounds: two rows of the call's own, of lists and of the reference's rows, entry by entry the same things; what keeps them, and what an append makes of them. Conditions: fewer than 1000 entries.
-/
import Derived.Test.YtanhlnhdmkfbfaaRef3
import Derived.Deep.AppendLies
namespace Go.Proofs.Ytanhlnhdmkfbfaa
open Go.Sort Go.RowKit

/-- An entry: a list's value and the reference's row, and the numbers that both hold. -/
structure Ent where
  p : Option Addr
  n : Nat
  A : Option Addr
  c : Nat
  xs : List El

/-- The entry holds, and has B numbers at most. -/
def Good (m B : Nat) (W : World) (e : Ent) : Prop := LL W e.p e.n e.xs ∧ SL m W e.A e.n e.c e.xs ∧ e.n ≤ B

theorem Good.ll {m B : Nat} {W : World} {e : Ent} (h : Good m B W e) : LL W e.p e.n e.xs := h.1
theorem Good.sl {m B : Nat} {W : World} {e : Ent} (h : Good m B W e) : SL m W e.A e.n e.c e.xs := h.2.1
theorem Good.le {m B : Nat} {W : World} {e : Ent} (h : Good m B W e) : e.n ≤ B := h.2.2
theorem Good.stay {m B : Nat} {W W' : World} {e : Ent} (h : Good m B W e) (hb : Below W.heap.size W W') : Good m B W' e := ⟨h.ll.stay hb, h.sl.stay hb, h.le⟩
theorem Good.more {m B C : Nat} {W : World} {e : Ent} (h : Good m B W e) (hB : B ≤ C) : Good m C W e := ⟨h.ll, h.sl, Nat.le_trans h.le hB⟩
/-- A write to a block that is neither of a list's cells nor of numbers. -/
theorem Good.kept {m B : Nat} {W W' : World} {row : Option Nat} {e : Ent} (h : Good m B W e) (hg : W.grownBy W' row) (hr : ∀ r, row = some r → m ≤ r ∧ ∃ cs t, W.heap[r]? = some (.cells cs t (0, 0)) ∧ t ≠ 3 ∧ t ≠ 57) : Good m B W' e :=
  ⟨⟨h.ll.ch.kept hg (fun r e' cs' hh => by obtain ⟨-, cs, t, h1, -, h3⟩ := hr r e'; rw [h1] at hh; cases hh; exact h3 rfl), h.ll.2⟩, h.sl.kept hg (fun r e' => by obtain ⟨hm, cs, t, h1, h2, -⟩ := hr r e'; exact ⟨hm, cs, t, _, h1, h2⟩), h.le⟩

def cellsA (E : List Ent) : List Value := E.flatMap fun e => [.pointer e.p, .int .i64 e.n]
def cellsW (E : List Ent) : List Value := E.map fun e => .slice e.A e.n e.c

theorem cellsA_append (E F : List Ent) : cellsA (E ++ F) = cellsA E ++ cellsA F := by simp [cellsA]
theorem cellsW_append (E F : List Ent) : cellsW (E ++ F) = cellsW E ++ cellsW F := by simp [cellsW]
theorem cellsA_get : ∀ (E : List Ent) (j : Nat) (hj : j < E.length), (cellsA E)[j * 2]? = some (.pointer E[j].p) ∧ (cellsA E)[j * 2 + 1]? = some (.int .i64 E[j].n)
  | e :: E, 0, _ => by simp [cellsA]
  | e :: E, j + 1, hj => by
    have := cellsA_get E j (by simp at hj; omega)
    simp only [cellsA, List.flatMap_cons, List.getElem_cons_succ]
    rw [show (j + 1) * 2 = j * 2 + 1 + 1 by omega, show j * 2 + 1 + 1 + 1 = (j * 2 + 1) + 1 + 1 by omega]
    exact this

/-- The row of lists. -/
def RA (m : Nat) (W : World) (g c : Nat) (E : List Ent) : Prop := W.ownsRow m 27 2 (.slice (some ⟨g, 0, none⟩) E.length c) E.length (cellsA E)
/-- The row of the reference's rows. -/
def RW (m : Nat) (W : World) (g c : Nat) (E : List Ent) : Prop := W.ownsRow m 22 1 (.slice (some ⟨g, 0, none⟩) E.length c) E.length (cellsW E)

theorem row_block {m g c n s : Nat} {t : TypeId} {W : World} {cs : List Value} (h : W.ownsRow m t s (.slice (some ⟨g, 0, none⟩) n c) n cs) : m ≤ g ∧ g < W.heap.size ∧ ∃ cur, W.heap[g]? = some (.cells cur t (0, 0)) := by
  have h1 := h.lt g rfl
  rcases h.2 with ⟨e, -⟩ | ⟨g', cap, cur, e, -, hg, -⟩
  · cases e
  · injection e with e
    injection e with e
    injection e with e
    subst e
    exact ⟨h1.1, h1.2, cur, hg⟩
theorem row_stay {m g c n s : Nat} {t : TypeId} {W W' : World} {cs : List Value} (h : W.ownsRow m t s (.slice (some ⟨g, 0, none⟩) n c) n cs) (hb : Below W.heap.size W W') : W'.ownsRow m t s (.slice (some ⟨g, 0, none⟩) n c) n cs :=
  World.ownsRow.kept h (row := none) ⟨hb.os, hb.tape, hb.output, hb.size, fun k hk _ => hb.block k hk⟩ (.inr (by simp [Value.ownBlock]))

section
variable {m g c : Nat} {W W' : World} {E : List Ent}
theorem RA.stay (h : RA m W g c E) (hb : Below W.heap.size W W') : RA m W' g c E := row_stay h hb
theorem RW.stay (h : RW m W g c E) (hb : Below W.heap.size W W') : RW m W' g c E := row_stay h hb
theorem RA.cells (h : RA m W g c E) (j : Nat) (hj : j < E.length) : W.cell? ⟨g, j * 2, none⟩ = some (.pointer E[j].p) ∧ W.cell? ⟨g, j * 2 + 1, none⟩ = some (.int .i64 E[j].n) := by
  have h1 := World.ownsRow.cellAt h (j * 2) (by omega)
  have h2 := World.ownsRow.cellAt h (j * 2 + 1) (by omega)
  rw [(cellsA_get E j hj).1] at h1
  rw [(cellsA_get E j hj).2] at h2
  exact ⟨h1, h2⟩
theorem RW.cells (h : RW m W g c E) (j : Nat) (hj : j < E.length) : W.cell? ⟨g, j, none⟩ = some (.slice E[j].A E[j].n E[j].c) := by
  have h1 := World.ownsRow.cellAt h j (by omega)
  rw [h1]
  simp [cellsW, hj]
/-- Behind a write to a block of another type. -/
theorem RA.kept (h : RA m W g c E) {r : Nat} (hg : W.grownBy W' (some r)) {cs : Array Value} {t : TypeId} (hr : W.heap[r]? = some (.cells cs t (0, 0))) (ht : t ≠ 27) : RA m W' g c E := by
  refine World.ownsRow.kept h hg (.inr fun e => ?_)
  obtain ⟨-, -, cur, hc⟩ := row_block h
  simp [Value.ownBlock] at e
  subst e
  rw [hc] at hr
  cases hr
  exact ht rfl
theorem RW.kept (h : RW m W g c E) {r : Nat} (hg : W.grownBy W' (some r)) {cs : Array Value} {t : TypeId} (hr : W.heap[r]? = some (.cells cs t (0, 0))) (ht : t ≠ 22) : RW m W' g c E := by
  refine World.ownsRow.kept h hg (.inr fun e => ?_)
  obtain ⟨-, -, cur, hc⟩ := row_block h
  simp [Value.ownBlock] at e
  subst e
  rw [hc] at hr
  cases hr
  exact ht rfl
/-- Behind a write to a block of its own type that is another one. -/
theorem RA.aside (h : RA m W g c E) {r : Nat} (hg : W.grownBy W' (some r)) (hr : r ≠ g) : RA m W' g c E :=
  World.ownsRow.kept h hg (.inr fun e => by simp [Value.ownBlock] at e; exact hr e.symm)

theorem infoA : (Try.prog.info? 27).map (fun i => (i.zero, i.size, i.bytes)) = some (some (.agg #[.pointer none, .int .i64 0]), 2, 16) := by kernel_rfl
theorem infoW : (Try.prog.info? 22).map (fun i => (i.zero, i.size, i.bytes)) = some (some (.slice none 0 0), 1, 24) := by kernel_rfl

theorem RA.append (h : RA m W g c E) (e : Ent) (hE : E.length < 1000) (hm : m ≤ W.heap.size) :
    ∃ g' c' w', (Builtin.append_ #[29, 29] 29 #[.slice (some ⟨g, 0, none⟩) E.length c, .slice (some ⟨W.heap.size, 0, none⟩) 1 1]).run Try.prog (W.alloc (.cells #[.pointer e.p, .int .i64 e.n] 27)) = .ok (.slice (some ⟨g', 0, none⟩) (E.length + 1) c') w' ∧
      RA m w' g' c' (E ++ [e]) ∧ (W.alloc (.cells #[.pointer e.p, .int .i64 e.n] 27)).grownBy w' (some g) := by
  obtain ⟨i0, hi, hz0, hz1, hz2⟩ := info_parts infoA
  obtain ⟨g', c', w', h1, h2, h3, -, -⟩ := run_append_lies (P := Try.prog) (w := W.alloc (.cells #[.pointer e.p, .int .i64 e.n] 27)) 29 29 m 27 i0 _ 2 16 Try.underlying29 hi hz0 hz1 hz2 rfl (by omega)
    _ E.length (cellsA E) (World.ownsRow.alloc h _) ⟨W.heap.size, 0, none⟩ 1 1 [.pointer e.p, .int .i64 e.n] rfl
    (fun j u hu => by
      rw [add_flat]
      have e1 : (W.alloc (.cells #[.pointer e.p, .int .i64 e.n] 27)).heap[W.heap.size]? = _ := World.alloc_heap_new W _
      unfold World.cell?
      rw [e1]
      simpa using hu) (by intro u hu; simp at hu; rcases hu with rfl | rfl <;> rfl) (by omega) (by unfold maxLen; omega) (by omega) (by simp; omega) _ rfl
  refine ⟨g', c', w', h1, ?_, h3⟩
  unfold RA
  rw [cellsA_append, List.length_append]
  exact h2
theorem RW.append (h : RW m W g c E) (e : Ent) (hE : E.length < 1000) (hm : m ≤ W.heap.size) :
    ∃ g' c' w', (Builtin.append_ #[30, 30] 30 #[.slice (some ⟨g, 0, none⟩) E.length c, .slice (some ⟨W.heap.size, 0, none⟩) 1 1]).run Try.prog (W.alloc (.cells #[.slice e.A e.n e.c] 22)) = .ok (.slice (some ⟨g', 0, none⟩) (E.length + 1) c') w' ∧
      RW m w' g' c' (E ++ [e]) ∧ (W.alloc (.cells #[.slice e.A e.n e.c] 22)).grownBy w' (some g) := by
  obtain ⟨i0, hi, hz0, hz1, hz2⟩ := info_parts infoW
  obtain ⟨g', c', w', h1, h2, h3, -, -⟩ := run_append_lies (P := Try.prog) (w := W.alloc (.cells #[.slice e.A e.n e.c] 22)) 30 30 m 22 i0 _ 1 24 Try.underlying30 hi hz0 hz1 hz2 rfl (by omega)
    _ E.length (cellsW E) (World.ownsRow.alloc h _) ⟨W.heap.size, 0, none⟩ 1 1 [.slice e.A e.n e.c] rfl
    (fun j u hu => by
      rw [add_flat]
      have e1 : (W.alloc (.cells #[.slice e.A e.n e.c] 22)).heap[W.heap.size]? = _ := World.alloc_heap_new W _
      unfold World.cell?
      rw [e1]
      simpa using hu) (by intro u hu; simp at hu; subst hu; rfl) (by omega) (by unfold maxLen; omega) (by omega) (by simp; omega) _ rfl
  refine ⟨g', c', w', h1, ?_, h3⟩
  unfold RW
  rw [cellsW_append, List.length_append]
  exact h2
end

/-- Both rows, and all entries, as they are. -/
def St (w : World) (B : Nat) (W : World) (gA cA gW cW : Nat) (E : List Ent) : Prop :=
  RA w.heap.size W gA cA E ∧ RW w.heap.size W gW cW E ∧ (∀ e ∈ E, Good w.heap.size B W e) ∧ Below w.heap.size w W

section
variable {w W W' : World} {B gA cA gW cW : Nat} {E : List Ent}
theorem St.ra (h : St w B W gA cA gW cW E) : RA w.heap.size W gA cA E := h.1
theorem St.rw (h : St w B W gA cA gW cW E) : RW w.heap.size W gW cW E := h.2.1
theorem St.good (h : St w B W gA cA gW cW E) : ∀ e ∈ E, Good w.heap.size B W e := h.2.2.1
theorem St.at (h : St w B W gA cA gW cW E) (j : Nat) (hj : j < E.length) : Good w.heap.size B W E[j] := h.good _ (List.getElem_mem hj)
theorem St.below (h : St w B W gA cA gW cW E) : Below w.heap.size w W := h.2.2.2
theorem St.stay (h : St w B W gA cA gW cW E) (hb : Below W.heap.size W W') : St w B W' gA cA gW cW E := ⟨h.ra.stay hb, h.rw.stay hb, fun e he => (h.good e he).stay hb, h.below.trans (hb.mono h.below.size)⟩
theorem St.more {C : Nat} (h : St w B W gA cA gW cW E) (hC : B ≤ C) : St w C W gA cA gW cW E := ⟨h.ra, h.rw, fun e he => (h.good e he).more hC, h.below⟩
/-- A box of a list of the call's own is written: it lies beyond the rows that were there. -/
theorem St.box (h : St w B W gA cA gW cW E) {b : Nat} {x y : Value} (hx : Box2 W b 27 x y) (hb : gA < b) (u v : Value) : St w B ((W.setCell ⟨b, 0, none⟩ u).setCell ⟨b, 1, none⟩ v) gA cA gW cW E := by
  have hwb : w.heap.size ≤ b := by have := (row_block h.ra).1; omega
  refine ⟨?_, ?_, fun e he => ?_, below_set2 h.below hwb u v⟩
  · exact (h.ra.aside (grown_set W b 0 u) (by omega)).aside (grown_set _ b 1 v) (by omega)
  · exact (h.rw.kept (grown_set W b 0 u) hx (by decide)).kept (grown_set _ b 1 v) (hx.set0 u) (by decide)
  · exact ((h.good e he).kept (grown_set W b 0 u) (fun r e => by cases e; exact ⟨hwb, _, _, hx, by decide, by decide⟩)).kept (grown_set _ b 1 v) (fun r e => by cases e; exact ⟨hwb, _, _, hx.set0 u, by decide, by decide⟩)

/-- The row of lists takes a new entry. -/
theorem St.appendA (h : St w B W gA cA gW cW E) (e : Ent) (he : Good w.heap.size B W e) (hE : E.length < 1000) :
    ∃ g' c' w', (Builtin.append_ #[29, 29] 29 #[.slice (some ⟨gA, 0, none⟩) E.length cA, .slice (some ⟨W.heap.size, 0, none⟩) 1 1]).run Try.prog (W.alloc (.cells #[.pointer e.p, .int .i64 e.n] 27)) = .ok (.slice (some ⟨g', 0, none⟩) (E.length + 1) c') w' ∧
      RA w.heap.size w' g' c' (E ++ [e]) ∧ RW w.heap.size w' gW cW E ∧ (∀ x ∈ E ++ [e], Good w.heap.size B w' x) ∧ Below w.heap.size w w' := by
  obtain ⟨g', c', w', h1, h2, h3⟩ := h.ra.append e hE h.below.size
  have hb := below_new W (.cells #[.pointer e.p, .int .i64 e.n] 27)
  have h4 := h.stay hb
  obtain ⟨hm, hlt, cur, hc⟩ := row_block h4.ra
  refine ⟨g', c', w', h1, h2, h4.rw.kept h3 hc (by decide), fun x hx => ?_, below_grown h4.below h3 h4.below.size (fun r er => by cases er; exact hm)⟩
  have hx' : Good w.heap.size B (W.alloc (.cells #[.pointer e.p, .int .i64 e.n] 27)) x := by
    rcases List.mem_append.1 hx with hx | hx
    · exact h4.good x hx
    · simp at hx; subst hx; exact he.stay hb
  exact hx'.kept h3 (fun r er => by cases er; exact ⟨hm, _, _, hc, by decide, by decide⟩)

/-- The row of rows takes a new entry. -/
theorem St.appendW {e : Ent} (ha : RA w.heap.size W gA cA (E ++ [e])) (hw : RW w.heap.size W gW cW E) (hg : ∀ x ∈ E ++ [e], Good w.heap.size B W x) (hb : Below w.heap.size w W) (hE : E.length < 1000) :
    ∃ g' c' w', (Builtin.append_ #[30, 30] 30 #[.slice (some ⟨gW, 0, none⟩) E.length cW, .slice (some ⟨W.heap.size, 0, none⟩) 1 1]).run Try.prog (W.alloc (.cells #[.slice e.A e.n e.c] 22)) = .ok (.slice (some ⟨g', 0, none⟩) (E.length + 1) c') w' ∧
      St w B w' gA cA g' c' (E ++ [e]) := by
  obtain ⟨g', c', w', h1, h2, h3⟩ := hw.append e hE hb.size
  have hn := below_new W (.cells #[.slice e.A e.n e.c] 22)
  obtain ⟨hm, hlt, cur, hc⟩ := row_block (hw.stay hn)
  refine ⟨g', c', w', h1, (ha.stay hn).kept h3 hc (by decide), h2, fun x hx => ?_, below_grown (hb.trans (hn.mono hb.size)) h3 (Nat.le_trans hb.size hn.size) (fun r er => by cases er; exact hm)⟩
  exact ((hg x hx).stay hn).kept h3 (fun r er => by cases er; exact ⟨hm, _, _, hc, by decide, by decide⟩)
end

section
variable {w W W' : World} {B gA cA gW cW : Nat} {E : List Ent}
theorem Good.box {m B : Nat} {W : World} {e : Ent} (h : Good m B W e) {b : Nat} {x y : Value} (hx : Box2 W b 27 x y) (hb : m ≤ b) (u v : Value) : Good m B ((W.setCell ⟨b, 0, none⟩ u).setCell ⟨b, 1, none⟩ v) e :=
  (h.kept (grown_set W b 0 u) (fun r e => by cases e; exact ⟨hb, _, _, hx, by decide, by decide⟩)).kept (grown_set _ b 1 v) (fun r e => by cases e; exact ⟨hb, _, _, hx.set0 u, by decide, by decide⟩)
theorem LL.box {W : World} {p : Option Addr} {n : Nat} {xs : List El} (h : LL W p n xs) {b : Nat} {x y : Value} (hx : Box2 W b 27 x y) (u v : Value) : LL ((W.setCell ⟨b, 0, Option.none⟩ u).setCell ⟨b, 1, Option.none⟩ v) p n xs := ⟨h.ch.set2 hx (by decide) u v, h.2⟩

/-- A call made a list, and it was put into the variable. -/
theorem St.stored (h : St w B W gA cA gW cW E) {ba : Nat} {x y : Value} (hx : Box2 W ba 27 x y) (hg : gA < ba) (hb : Below W.heap.size W W') {p : Option Addr} {n : Nat} {xs : List El} (hl : LL W' p n xs) {e f : Ent} (he : Good w.heap.size B W e) (hf : Good w.heap.size B W f) :
    St w B ((W'.setCell ⟨ba, 0, none⟩ (.pointer p)).setCell ⟨ba, 1, none⟩ (.int .i64 n)) gA cA gW cW E ∧ Box2 ((W'.setCell ⟨ba, 0, none⟩ (.pointer p)).setCell ⟨ba, 1, none⟩ (.int .i64 n)) ba 27 (.pointer p) (.int .i64 n) ∧
    LL ((W'.setCell ⟨ba, 0, none⟩ (.pointer p)).setCell ⟨ba, 1, none⟩ (.int .i64 n)) p n xs ∧ Good w.heap.size B ((W'.setCell ⟨ba, 0, none⟩ (.pointer p)).setCell ⟨ba, 1, none⟩ (.int .i64 n)) e ∧ Good w.heap.size B ((W'.setCell ⟨ba, 0, none⟩ (.pointer p)).setCell ⟨ba, 1, none⟩ (.int .i64 n)) f := by
  have h1 := h.stay hb
  have hx1 := hx.stay hb
  have hm : w.heap.size ≤ ba := by have := (row_block h.ra).1; omega
  exact ⟨h1.box hx1 hg _ _, hx1.set _ _, hl.box hx1 _ _, (he.stay hb).box hx1 hm _ _, (hf.stay hb).box hx1 hm _ _⟩
end

/-- Both rows take the new entry. -/
theorem St.tail {w W : World} {B gA cA gW cW L : Nat} {E : List Ent} (h : St w B W gA cA gW cW E) (hE : E.length = L) (hL : L < 1000) (e : Ent) (he : Good w.heap.size (B + 1) W e) :
    ∃ g1 c1 wA g2 c2 wB, (Builtin.append_ #[29, 29] 29 #[.slice (some ⟨gA, 0, none⟩) L cA, .slice (some ⟨W.heap.size, 0, none⟩) 1 1]).run Try.prog (W.alloc (.cells #[.pointer e.p, .int .i64 e.n] 27)) = .ok (.slice (some ⟨g1, 0, none⟩) (L + 1) c1) wA ∧
      (Builtin.append_ #[30, 30] 30 #[.slice (some ⟨gW, 0, none⟩) L cW, .slice (some ⟨wA.heap.size, 0, none⟩) 1 1]).run Try.prog (wA.alloc (.cells #[.slice e.A e.n e.c] 22)) = .ok (.slice (some ⟨g2, 0, none⟩) (L + 1) c2) wB ∧ St w (B + 1) wB g1 c1 g2 c2 (E ++ [e]) := by
  subst hE
  obtain ⟨g1, c1, wA, hr1, ha, hw, hg, hb⟩ := (h.more (Nat.le_succ B)).appendA e he hL
  obtain ⟨g2, c2, wB, hr2, hst⟩ := St.appendW ha hw hg hb hL
  exact ⟨g1, c1, wA, g2, c2, wB, hr1, hr2, hst⟩

theorem first_none (n : Int) (w : World) : Calls Try.prog 18 #[lst none n] w fun e w' => e = .returned (.tuple #[.int .i64 0, .bool false]) ∧ Below w.heap.size w w' := first_nil n w
theorem St.drew {w W : World} {B gA cA gW cW : Nat} {E : List Ent} (h : St w B W gA cA gW cW E) : St w B W.drew gA cA gW cW E := h.stay (below_drawn W)

/-- What stands at the head of each round of the loop that changes the copy: it is still a row of its own. -/
def CopyRel (w : World) (A : Option Addr) (n c : Nat) (i : Value) (W : World) : Prop :=
  ∃ (k : Nat) (ys : List El), i = .int .i64 k ∧ k ≤ n ∧ ys.length = n ∧ Mine one 3 W w.heap.size (.slice A n c) ys ∧ Below w.heap.size w W

/-- A row of its own that is not empty: where it lies; what is behind a write to it. -/
theorem copy_cell {w W : World} {A : Option Addr} {n c k : Nat} {ys : List El} (h : Mine one 3 W w.heap.size (.slice A n c) ys) (hl : ys.length = n) (hk : k < n) (hb : Below w.heap.size w W) :
    ∃ g, A = some ⟨g, 0, none⟩ ∧ W.cell? ⟨g, k, none⟩ = some (one (ys[k]'(by omega))) ∧ W.frozen? ⟨g, k, none⟩ = false ∧
      ∀ v : Int, Mine one 3 (W.setCell ⟨g, k, none⟩ (.int .i64 v)) w.heap.size (.slice A n c) (ys.set k v) ∧ Below w.heap.size w (W.setCell ⟨g, k, none⟩ (.int .i64 v)) := by
  subst hl
  rcases h.2 with ⟨e, h0⟩ | ⟨g, cap, cur, e, hbg, -⟩
  · omega
  · injection e with e1 e2 e3
    subst e1
    subst e3
    refine ⟨g, rfl, ?_, World.ownsRow.frozenAt h k, fun v => ⟨?_, hb.setCell (p := ⟨g, k, none⟩) hbg _⟩⟩
    · have := World.ownsRow.cellAt h k (by omega)
      rw [this]
      simp [hk]
    · have := (World.ownsRow.stored h k (.int .i64 v)).1
      unfold Mine
      rw [List.length_set, List.map_set]
      exact this

end Go.Proofs.Ytanhlnhdmkfbfaa
