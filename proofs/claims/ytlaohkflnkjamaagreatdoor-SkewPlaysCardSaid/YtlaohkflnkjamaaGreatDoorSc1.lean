/-
  Columns of heaps (two cells each) and of rows: what keeps them, what stands at a place, one heap, one row more; what holds at the head of a round. No conditions beyond what each theorem says.
-/
import Derived.Test.YtlaohkflnkjamaaGreatDoorSagain0
import Derived.Test.YtlaohkflnkjamaaGreatDoorSof
import Derived.Test.YtlaohkflnkjamaaGreatDoorTgg
import Derived.Maps.AppendAt
import Derived.Laws.AppendOwn
import Derived.Deep.LoopGhost
namespace Go.Proofs.YtlaohkflnkjamaaGreatDoor.Hp
open Go.Sort Go.RowKit

theorem infoH : (Tryz.prog.info? 31).map (fun i => (i.zero, i.size, i.bytes)) = some (some (.agg #[.pointer none, .int .i64 0]), 2, 16) := by kernel_rfl
theorem infoS : (Tryz.prog.info? 39).map (fun i => (i.zero, i.size, i.bytes)) = some (some (.slice none 0 0), 1, 24) := by kernel_rfl

/-- Heaps' values as cells. -/
def cellsH (ps : List HP) : List Value := ps.flatMap fun p => [.pointer p.q, .int .i64 p.n]
theorem cellsH_length (ps : List HP) : (cellsH ps).length = ps.length * 2 := by
  induction ps with
  | nil => rfl
  | cons x r ih => simp only [cellsH, List.flatMap_cons, List.length_append, List.length_cons] at *; rw [ih]; simp; omega
theorem cellsH_append (ps qs : List HP) : cellsH (ps ++ qs) = cellsH ps ++ cellsH qs := by simp [cellsH]
theorem cellsH_at : ∀ (ps : List HP) (i : Nat) (p : HP), ps[i]? = some p → (cellsH ps)[i * 2]? = some (.pointer p.q) ∧ (cellsH ps)[i * 2 + 1]? = some (.int .i64 p.n)
  | [], i, p, h => by simp at h
  | x :: r, 0, p, h => by
    have : x = p := by simpa using h
    subst this
    exact ⟨rfl, rfl⟩
  | x :: r, i + 1, p, h => by
    have ih := cellsH_at r i p (by simpa using h)
    have e : cellsH (x :: r) = .pointer x.q :: .int .i64 x.n :: cellsH r := rfl
    rw [e, show (i + 1) * 2 = i * 2 + 1 + 1 by omega, show i * 2 + 1 + 1 + 1 = (i * 2 + 1) + 1 + 1 by omega]
    simpa using ih
theorem cellsH_one (ps : List HP) : ∀ v ∈ cellsH ps, v.oneCell' = true := by
  intro v hv
  simp only [cellsH, List.mem_flatMap] at hv
  obtain ⟨x, _, hx⟩ := hv
  simp at hx
  rcases hx with rfl | rfl <;> rfl

/-- A column of heaps. -/
def HCol (W : World) (base : Nat) (v : Value) (ts : List Lh) : Prop := ∃ ps : List HP, W.ownsRow base 31 2 v ps.length (cellsH ps) ∧ ps.length = ts.length ∧ ∀ (j : Nat) (t : Lh), ts[j]? = some t → ∃ p, ps[j]? = some p ∧ LAt W t p
/-- A column of rows: each one its heap's elements in order. -/
abbrev SCol (W : World) (base : Nat) (v : Value) (ts : List Lh) : Prop := Col (fun z => z) 39 (fun W z t => Rw W z (srt t.all)) W base v ts
theorem rowT_ne : ¬ NodeT 39 := by unfold NodeT TreeT; decide
/-- A heap in a column. -/
def HCell (W : World) (g j : Nat) (p : HP) : Prop := ∃ cur, W.heap[g]? = some (.cells cur 31 (0, 0)) ∧ cur[j * 2]? = some (.pointer p.q) ∧ cur[j * 2 + 1]? = some (.int .i64 p.n)

section
variable {W W' : World} {base : Nat} {v : Value} {ts : List Lh} {mo : Option Nat} {c m : Int}
theorem HCol.keep (h : HCol W base v ts) (hk : ∀ (g : Nat) (cur : Array Value), v.ownBlock = some g → W.heap[g]? = some (.cells cur 31 (0, 0)) → W'.heap[g]? = W.heap[g]?) (hat : ∀ p t, LAt W t p → LAt W' t p) : HCol W' base v ts := by
  obtain ⟨xs, hm, hl, ha⟩ := h
  refine ⟨xs, ⟨hm.1, ?_⟩, hl, fun j t ht => ?_⟩
  · rcases hm.2 with hn | ⟨g, cap, cur, rfl, hg1, hg, rest⟩
    · exact .inl hn
    · exact .inr ⟨g, cap, cur, rfl, hg1, (hk g cur rfl hg).trans hg, rest⟩
  · obtain ⟨x, h1, h2⟩ := ha j t ht
    exact ⟨x, h1, hat x t h2⟩
theorem HCol.blk (h : HCol W base v ts) (hl : 0 < ts.length) : ∃ (g cap : Nat) (cur : Array Value), v = .slice (some ⟨g, 0, none⟩) ts.length cap ∧ base ≤ g ∧ g < W.heap.size ∧ ts.length ≤ cap ∧ cap ≤ 9223372036854775807 ∧ W.heap[g]? = some (.cells cur 31 (0, 0)) := by
  obtain ⟨xs, hm, hxl, -⟩ := h
  rcases hm.2 with ⟨-, h0⟩ | ⟨g, cap, cur, e, hb, hg, hc, hmx, -⟩
  · omega
  · exact ⟨g, cap, cur, by rw [← hxl]; exact e, hb, lt_of_heap hg, by omega, by unfold maxLen at hmx; omega, hg⟩
theorem HCol.bt (h : HCol W base v ts) (hb : Bt mo W W') (hm : MAt W mo c m) : HCol W' base v ts :=
  h.keep (fun _ _ _ hg => (hb.row hm hg (by decide)).trans hg.symm) (fun _ _ ht => ht.bt hb hm)
theorem SCol.bt (h : SCol W base v ts) (hb : Bt mo W W') (hm : MAt W mo c m) : SCol W' base v ts :=
  Col.keep h (fun _ _ _ hg => (hb.row hm hg (by decide)).trans hg.symm) (fun _ _ ht => ht.bt hb hm)
theorem heap_set2 (W : World) (b g : Nat) (u u' : Value) (h : g ≠ b) : ((W.setCell ⟨b, 0, none⟩ u).setCell ⟨b, 1, none⟩ u').heap[g]? = W.heap[g]? := (heap_other _ _ h).trans (heap_other _ _ h)
theorem HCol.set {g n k : Nat} (h : HCol W base (.slice (some ⟨g, 0, none⟩) n k) ts) {b : Nat} {q : HP} (hv : HVar W b q) (hne : b ≠ g) (u u' : Value) : HCol ((W.setCell ⟨b, 0, none⟩ u).setCell ⟨b, 1, none⟩ u') base (.slice (some ⟨g, 0, none⟩) n k) ts :=
  h.keep (fun g' _ e _ => by simp only [Value.ownBlock, Option.some.injEq] at e; subst e; exact heap_set2 W b g u u' (fun e => hne e.symm)) (fun _ _ ht => ht.set hv u u')
theorem _root_.Go.Proofs.YtlaohkflnkjamaaGreatDoor.Col.setS (h : SCol W base v ts) {b : Nat} {q : HP} (hv : HVar W b q) (u u' : Value) : SCol ((W.setCell ⟨b, 0, none⟩ u).setCell ⟨b, 1, none⟩ u') base v ts :=
  Col.keep h (fun g' _ _ hg => heap_set2 W b g' u u' (fun e => by
    subst e
    rw [show W.heap[g']? = _ from hv] at hg
    injection hg with hg
    injection hg with _ hg
    exact absurd hg (by decide))) (fun _ _ ht => ht.set hv u u')
theorem HCell.c0 {g j : Nat} {p : HP} (h : HCell W g j p) : W.cell? ⟨g, j * 2, none⟩ = some (.pointer p.q) := by obtain ⟨cur, h1, h2, -⟩ := h; simp [World.cell?, h1, h2]
theorem HCell.c1 {g j : Nat} {p : HP} (h : HCell W g j p) : W.cell? ⟨g, j * 2 + 1, none⟩ = some (.int .i64 p.n) := by obtain ⟨cur, h1, -, h2⟩ := h; simp [World.cell?, h1, h2]
theorem HCell.bt {g j : Nat} {p : HP} (h : HCell W g j p) (hb : Bt mo W W') (hm : MAt W mo c m) : HCell W' g j p := by obtain ⟨cur, h1, h2⟩ := h; exact ⟨cur, hb.row hm h1 (by decide), h2⟩
theorem HCell.set {g j : Nat} {p : HP} (h : HCell W g j p) {b : Nat} (hne : g ≠ b) (u u' : Value) : HCell ((W.setCell ⟨b, 0, none⟩ u).setCell ⟨b, 1, none⟩ u') g j p := by obtain ⟨cur, h1, h2⟩ := h; exact ⟨cur, (heap_set2 W b g u u' hne).trans h1, h2⟩
theorem HCell.lt {g j : Nat} {p : HP} (h : HCell W g j p) : g < W.heap.size := by obtain ⟨cur, h1, -⟩ := h; exact lt_of_heap h1
theorem _root_.Go.Proofs.YtlaohkflnkjamaaGreatDoor.BCell.set {g j : Nat} {e : TypeId} {x : Value} (h : BCell W g e j x) {b : Nat} (hne : g ≠ b) (u u' : Value) : BCell ((W.setCell ⟨b, 0, none⟩ u).setCell ⟨b, 1, none⟩ u') g e j x := h.keep (heap_set2 W b g u u' hne)
theorem HCol.cell {g n k j : Nat} (h : HCol W base (.slice (some ⟨g, 0, none⟩) n k) ts) {t : Lh} (ht : ts[j]? = some t) : ∃ p, HCell W g j p ∧ LAt W t p := by
  obtain ⟨xs, hm, hxl, ha⟩ := h
  obtain ⟨x, h1, h2⟩ := ha j t ht
  refine ⟨x, ?_, h2⟩
  rcases hm.2 with ⟨e, -⟩ | ⟨g', cap, cur, e, -, hg, -, -, -, hc⟩
  · cases e
  · cases e
    have h3 := cellsH_at xs j x h1
    rw [← hc, List.getElem?_take, List.getElem?_take] at h3
    refine ⟨cur, hg, ?_, ?_⟩
    · have h4 := h3.1
      split at h4
      · simpa using h4
      · cases h4
    · have h4 := h3.2
      split at h4
      · simpa using h4
      · cases h4

/-- Where a block grows that is no node's, no element's. -/
theorem _root_.Go.Proofs.YtlaohkflnkjamaaGreatDoor.Grew.lat {g : Nat} {cur : Array Value} {ty : TypeId} (h : Grew W g W') (hg : W.heap[g]? = some (.cells cur ty (0, 0))) (hn : ¬ NodeT ty) {t : Lh} {p : HP} (ht : LAt W t p) : LAt W' t p :=
  ht.kps (Kpt.grown h (fun k e cs t' hk => by injection e with e; subst e; rw [hg] at hk; cases hk; exact hn)) h.size
theorem _root_.Go.Proofs.YtlaohkflnkjamaaGreatDoor.Grew.rw {g : Nat} {cur : Array Value} {ty : TypeId} (h : Grew W g W') (hg : W.heap[g]? = some (.cells cur ty (0, 0))) (hn : ty ≠ 38) {z : Value} {xs : List (Int × Int)} (hz : Rw W z xs) : Rw W' z xs := by
  rcases hz with hz | ⟨b, o, k, cs, hv, h1, h2, h3, h4⟩
  · exact .inl hz
  · exact .inr ⟨b, o, k, cs, hv, h1, h2, h.heap h3 (fun e => by subst e; rw [hg] at h3; cases h3; exact hn rfl), h4⟩
theorem _root_.Go.Proofs.YtlaohkflnkjamaaGreatDoor.Grew.hcol {g g2 n k : Nat} {cur : Array Value} {ty : TypeId} (h : Grew W g W') (hg : W.heap[g]? = some (.cells cur ty (0, 0))) (hn : ¬ NodeT ty) (hne : g2 ≠ g) (hc : HCol W base (.slice (some ⟨g2, 0, none⟩) n k) ts) : HCol W' base (.slice (some ⟨g2, 0, none⟩) n k) ts :=
  hc.keep (fun g' _ e hg' => by simp only [Value.ownBlock, Option.some.injEq] at e; subst e; exact (h.heap hg' hne).trans hg'.symm) (fun _ _ ht => h.lat hg hn ht)
theorem _root_.Go.Proofs.YtlaohkflnkjamaaGreatDoor.Grew.scol {g g2 n k : Nat} {cur : Array Value} {ty : TypeId} (h : Grew W g W') (hg : W.heap[g]? = some (.cells cur ty (0, 0))) (hn : ty ≠ 38) (hne : g2 ≠ g) (hc : SCol W base (.slice (some ⟨g2, 0, none⟩) n k) ts) : SCol W' base (.slice (some ⟨g2, 0, none⟩) n k) ts :=
  Col.keep hc (fun g' _ e hg' => by simp only [Value.ownBlock, Option.some.injEq] at e; subst e; exact (h.heap hg' hne).trans hg'.symm) (fun _ _ ht => h.rw hg hn ht)
theorem _root_.Go.Proofs.YtlaohkflnkjamaaGreatDoor.Grew.hvar {g b : Nat} {p : HP} (h : Grew W g W') (hne : b ≠ g) (hv : HVar W b p) : HVar W' b p := h.heap hv hne
theorem _root_.Go.Proofs.YtlaohkflnkjamaaGreatDoor.Grew.mat {g : Nat} {cur : Array Value} {ty : TypeId} (h : Grew W g W') (hg : W.heap[g]? = some (.cells cur ty (0, 0))) (hn : ty ≠ 66) (hm : MAt W mo c m) : MAt W' mo c m := by
  cases mo with
  | none => trivial
  | some b => exact h.heap (show W.heap[b]? = _ from hm) (fun e => (hm.ne hg hn rfl) e.symm)
theorem _root_.Go.Proofs.YtlaohkflnkjamaaGreatDoor.Grew.bas {w : World} {g : Nat} (h : Grew W g W') (hb : Bas w W) (he : Env w) (hg : w.heap.size ≤ g) : Bas w W' := ⟨h.below hb.below hb.below.size hg, he.below (h.below hb.below hb.below.size hg)⟩

/-- The first one. -/
theorem HCol.first (W : World) (base : Nat) (hb : base ≤ W.heap.size) : HCol (W.alloc (.cells #[.pointer none, .int .i64 0] 31)) base (.slice (some ⟨W.heap.size, 0, none⟩) 1 1) [.nil] := by
  refine ⟨[⟨none, 0⟩], ⟨rfl, .inr ⟨W.heap.size, 1, #[.pointer none, .int .i64 0], rfl, hb, World.alloc_heap_new W _, Nat.le_refl _, by unfold maxLen; simp, rfl, rfl⟩⟩, rfl, fun j u hu => ?_⟩
  cases j with
  | zero => simp at hu; subst hu; exact ⟨⟨none, 0⟩, rfl, LAt.nil _⟩
  | succ j => simp at hu
/-- One heap more. -/
theorem HCol.push {g L k : Nat} (h : HCol W base (.slice (some ⟨g, 0, none⟩) L k) ts) (hb : base ≤ W.heap.size) (hl : L < 1000000) {p : HP} {t : Lh} (ht : LAt W t p) :
    ∃ g' c' W', (Builtin.append_ #[32, 32] 32 #[.slice (some ⟨g, 0, none⟩) L k, .slice (some ⟨W.heap.size, 0, none⟩) 1 1]).run Tryz.prog (W.alloc (.cells #[.pointer p.q, .int .i64 p.n] 31)) = .ok (.slice (some ⟨g', 0, none⟩) (L + 1) c') W' ∧
      HCol W' base (.slice (some ⟨g', 0, none⟩) (L + 1) c') (ts ++ [t]) ∧ Grew W g W' ∧ (g' = g ∨ W.heap.size ≤ g') ∧ g' < W'.heap.size ∧ ∃ cur, W.heap[g]? = some (.cells cur 31 (0, 0)) := by
  have hal := (Below.refl W.heap.size W).alloc (Nat.le_refl _) (.cells #[.pointer p.q, .int .i64 p.n] 31)
  obtain ⟨i0, hi, hz0, hz1, hz2⟩ := info_parts infoH
  obtain ⟨xs, hm, hxl, ha⟩ := h
  have hcur : ∃ cur, W.heap[g]? = some (.cells cur 31 (0, 0)) := by
    rcases hm.2 with ⟨e, -⟩ | ⟨g', cap, cur, e, -, hg, -⟩
    · cases e
    · cases e; exact ⟨cur, hg⟩
  have hL : L = xs.length := by
    rcases hm.2 with ⟨e, -⟩ | ⟨g', cap, cur, e, -⟩
    · cases e
    · cases e; rfl
  subst hL
  have hm1 : (W.alloc (.cells #[.pointer p.q, .int .i64 p.n] 31)).ownsRow base 31 2 (.slice (some ⟨g, 0, none⟩) xs.length k) xs.length (cellsH xs) := World.ownsRow.alloc hm _
  obtain ⟨v', W', h1, h2, h3, h4, h5⟩ := run_append_own_at (P := Tryz.prog) (W.alloc (.cells #[.pointer p.q, .int .i64 p.n] 31)) base 32 32 31 i0 _ 2 16 Tryz.underlying32 hi hz0 hz1 hz2 rfl (by omega)
    (.slice (some ⟨g, 0, none⟩) xs.length k) xs.length (cellsH xs) hm1 ⟨W.heap.size, 0, none⟩ 1 1 [.pointer p.q, .int .i64 p.n] rfl
    (fun j u hu => by
      rw [add_plain, Nat.zero_add]
      have e1 : (W.alloc (.cells #[.pointer p.q, .int .i64 p.n] 31)).heap[W.heap.size]? = some (.cells #[.pointer p.q, .int .i64 p.n] 31 (0, 0)) := new_at rfl
      unfold World.cell?
      rw [e1]
      simpa using hu) (by intro u hu; simp at hu; rcases hu with rfl | rfl <;> rfl) (by unfold maxLen; omega) (by omega) (Nat.le_trans hb hal.size)
  have hg : Grew W g W' := by
    obtain ⟨cur, hcur⟩ := hcur
    have hgs : g < W.heap.size := lt_of_heap hcur
    exact ⟨h3.os.trans hal.os, h3.tape.trans hal.tape, h3.output.trans hal.output, Nat.le_trans hal.size h3.size, fun k hk hne => (h3.block k (by have := hal.size; omega) hne).trans (hal.block k hk)⟩
  have hM : W'.ownsRow base 31 2 v' (xs ++ [p]).length (cellsH (xs ++ [p])) := by
    rw [List.length_append, cellsH_append]
    exact h2
  have hC : HCol W' base v' (ts ++ [t]) := by
    refine ⟨xs ++ [p], hM, by simp [hxl], fun j u hu => ?_⟩
    obtain ⟨cur, hcur⟩ := hcur
    by_cases hj : j < ts.length
    · rw [List.getElem?_append_left hj] at hu
      obtain ⟨y, k1, k2⟩ := ha j u hu
      exact ⟨y, by rw [List.getElem?_append_left (by omega)]; exact k1, hg.lat hcur heapT_ne k2⟩
    · have h9 := (List.getElem?_eq_some_iff.1 hu).1
      simp at h9
      have ej : j = ts.length := by omega
      subst ej
      rw [List.getElem?_append_right (Nat.le_refl _)] at hu
      simp at hu
      subst hu
      exact ⟨p, by rw [← hxl, List.getElem?_append_right (Nat.le_refl _)]; simp, hg.lat hcur heapT_ne ht⟩
  obtain ⟨g', c', cur, e', -, hlt, -⟩ := hC.blk (by simp)
  have el : (ts ++ [t]).length = xs.length + 1 := by simp [hxl]
  rw [el] at e'
  subst e'
  refine ⟨g', c', W', h1, hC, hg, ?_, hlt, hcur⟩
  rcases h5 with h5 | h5
  · simp only [Value.ownBlock, Option.some.injEq] at h5; exact .inl h5
  · simp only [Value.ownBlock, Option.some.injEq] at h5; have := hal.size; exact .inr (by omega)
end

/-- What heaps there are at the head of the round of i: small ones, of 64-bit numbers. -/
structure Heaps (i : Nat) (ts : List Lh) : Prop where
  len : ts.length = i + 1
  small : ∀ t ∈ ts, t.size ≤ 121
  good : ∀ t ∈ ts, t.good
theorem Heaps.start : Heaps 0 [.nil] := ⟨rfl, by intro t h; simp at h; subst h; exact Nat.zero_le _, by intro t h; simp at h; subst h; exact good_nil⟩
theorem Heaps.snoc {i : Nat} {ts : List Lh} (h : Heaps i ts) {t : Lh} (h1 : t.size ≤ 121) (h2 : t.good) : Heaps (i + 1) (ts ++ [t]) :=
  ⟨by simp [h.len], fun s hs => by
    rcases List.mem_append.1 hs with hs | hs
    · exact h.small s hs
    · simp at hs; subst hs; exact h1, fun s hs => by
    rcases List.mem_append.1 hs with hs | hs
    · exact h.good s hs
    · simp at hs; subst hs; exact h2⟩
theorem Heaps.at {i : Nat} {ts : List Lh} (h : Heaps i ts) {j : Nat} (hj : j < i + 1) : ∃ t, ts[j]? = some t ∧ t.size ≤ 121 ∧ t.good := by
  have hl : j < ts.length := by rw [h.len]; exact hj
  exact ⟨ts[j], List.getElem?_eq_getElem hl, h.small _ (List.getElem_mem _), h.good _ (List.getElem_mem _)⟩

/-- What stands at the head of a round: i acts are done. -/
structure CRel (w : World) (mb gu cu gv cv gs cs : Nat) (i : Nat) (ts : List Lh) (c m : Int) (W : World) : Prop where
  mt : MAt W (some mb) c m
  cm : 0 ≤ c ∧ c ≤ 10000 * (i : Int) ∧ 0 ≤ m ∧ m ≤ 10000 * (i : Int)
  hs : Heaps i ts
  uu : HCol W w.heap.size (.slice (some ⟨gu, 0, none⟩) (i + 1) cu) ts
  vv : HCol W w.heap.size (.slice (some ⟨gv, 0, none⟩) (i + 1) cv) ts
  ss : SCol W w.heap.size (.slice (some ⟨gs, 0, none⟩) (i + 1) cs) ts
  ne : gu ≠ gv
  bas : Bas w W
theorem CRel.caps {w W : World} {mb gu cu gv cv gs cs i : Nat} {ts : List Lh} {c m : Int} (h : CRel w mb gu cu gv cv gs cs i ts c m W) : (i + 1 ≤ cu ∧ cu ≤ 9223372036854775807) ∧ (i + 1 ≤ cv ∧ cv ≤ 9223372036854775807) ∧ (i + 1 ≤ cs ∧ cs ≤ 9223372036854775807) ∧ (w.heap.size ≤ gu ∧ w.heap.size ≤ gv ∧ w.heap.size ≤ gs) := by
  have hl := h.hs.len
  obtain ⟨g1, k1, _, e1, b1, -, c1, d1, -⟩ := h.uu.blk (by omega)
  obtain ⟨g2, k2, _, e2, b2, -, c2, d2, -⟩ := h.vv.blk (by omega)
  obtain ⟨g3, k3, _, e3, b3, -, c3, d3, -⟩ := h.ss.blk (by omega)
  rw [hl] at e1 e2 e3 c1 c2 c3
  cases e1; cases e2; cases e3
  exact ⟨⟨by omega, d1⟩, ⟨by omega, d2⟩, ⟨by omega, d3⟩, b1, b2, b3⟩
theorem CRel.start {w W : World} {mb : Nat} (hm : MAt W (some mb) 0 0) (hb : Bas w W) (he : Env w) :
    CRel w mb W.heap.size 1 (W.heap.size + 1) 1 (W.heap.size + 2) 1 0 [.nil] 0 0 (((W.alloc (.cells #[.pointer none, .int .i64 0] 31)).alloc (.cells #[.pointer none, .int .i64 0] 31)).alloc (.cells #[.slice none 0 0] 39)) := by
  have hs := hb.below.size
  have e1 : (W.alloc (.cells #[.pointer none, .int .i64 0] 31)).heap.size = W.heap.size + 1 := by simp
  have e2 : ((W.alloc (.cells #[.pointer none, .int .i64 0] 31)).alloc (.cells #[.pointer none, .int .i64 0] 31)).heap.size = W.heap.size + 2 := by simp
  have u1 := HCol.first W w.heap.size hs
  have u2 := HCol.first (W.alloc (.cells #[.pointer none, .int .i64 0] 31)) w.heap.size (by omega)
  have u3 := Col.first (fun z => z) 39 (fun W z t => Rw W z (srt (Lh.all t))) ((W.alloc (.cells #[.pointer none, .int .i64 0] 31)).alloc (.cells #[.pointer none, .int .i64 0] 31)) w.heap.size (by omega) (.slice none 0 0) .nil (by rw [show srt Lh.nil.all = [] from srt_nil]; exact Rw.none _)
  rw [e1] at u2
  rw [e2] at u3
  have b3 : Bt (some mb) W (((W.alloc (.cells #[.pointer none, .int .i64 0] 31)).alloc (.cells #[.pointer none, .int .i64 0] 31)).alloc (.cells #[.slice none 0 0] 39)) := (((Bt.refl _ _).alloc _).alloc _).alloc _
  refine ⟨((hm.alloc _).alloc _).alloc _, ⟨by omega, by omega, by omega, by omega⟩, Heaps.start, ?_, ?_, u3, by omega, ?_⟩
  · exact HCol.bt (mo := none) (c := 0) (m := 0) (HCol.bt (mo := none) (c := 0) (m := 0) u1 ((Bt.refl _ _).alloc _) trivial) ((Bt.refl _ _).alloc _) trivial
  · exact HCol.bt (mo := none) (c := 0) (m := 0) u2 ((Bt.refl _ _).alloc _) trivial
  · exact hb.bt he (mo := none) (((Bt.refl _ _).alloc _).alloc _ |>.alloc _) (fun _ e => by cases e)

theorem _root_.Go.Proofs.YtlaohkflnkjamaaGreatDoor.BCell.ne {W : World} {g g' j j' : Nat} {e e' : TypeId} {v v' : Value} (h : BCell W g e j v) (h' : BCell W g' e' j' v') (he : e ≠ e') : g ≠ g' := by
  rintro rfl
  obtain ⟨cur, h1, -⟩ := h
  obtain ⟨cur', h2, -⟩ := h'
  rw [h1] at h2
  cases h2
  exact he rfl
/-- What is left of a row when the least one is taken out. -/
theorem rw_none {W : World} {v : Value} {t : Lh} (h : Rw W v (srt t.all)) (h0 : t.size = 0) : Rw W v (srt t.pop.all) := by
  have e : t = .nil := Lh.size_nil h0
  subst e
  exact h
theorem rw_tail {W : World} {A : Option Addr} {n k : Nat} {t : Lh} (h : Rw W (.slice A n k) (srt t.all)) (hn : n = t.size) (hok : t.ok) (h0 : 0 < n) : ∃ b o, A = some ⟨b, o, none⟩ ∧ (k = 1 → Rw W (.slice (some ⟨b, o, none⟩) 0 0) (srt t.pop.all)) ∧ Rw W (.slice (some ⟨b, o + 1 * 2, none⟩) (n - 1) (k - 1)) (srt t.pop.all) := by
  have hl : (srt t.all).length = n := by rw [srt_length, Lh.all_length, hn]
  obtain ⟨b, o, c, e, h1, h2, h3⟩ := Rw.rest h (fun e => by rw [e] at hl; simp at hl; omega)
  rw [hl] at e h1
  cases e
  have h4 := h3 W (Below.refl _ _)
  rw [srt_pop hok]
  refine ⟨b, o, rfl, fun e => ?_, hl ▸ h4.2⟩
  have e2 : (srt t.all).tail = [] := List.eq_nil_of_length_eq_zero (by rw [List.length_tail, hl]; omega)
  rw [e2]
  exact h4.1

end Go.Proofs.YtlaohkflnkjamaaGreatDoor.Hp
