/-
  Columns of heaps and of rows: where only a meter turns, where a heap's variable is written, where another column grows; one heap, one row more. No conditions beyond what each theorem says.
  A heap's variable is written: the world behind it is one by name. No conditions beyond what each theorem says.
-/
import Derived.Test.YtaeainnkhjnlaaaGreatDoorRi
import Derived.Test.YtaeainnkhjnlaaaGreatDoorTgg
import Derived.Deep.LoopGhost
import Derived.Deep.MidRow
namespace Go.Proofs.YtaeainnkhjnlaaaGreatDoor.Ro
open Go.Sort Go.RowKit

theorem infoH : (Tryz.prog.info? 29).map (fun i => (i.zero, i.size, i.bytes)) = some (some (.agg #[.pointer none]), 1, 8) := by kernel_rfl
/-- A column of heaps. -/
abbrev HCol (W : World) (base : Nat) (v : Value) (ts : List Lh) : Prop := Col (fun p : Option Addr => .pointer p) 29 (fun (W : World) (p : Option Addr) (t : Lh) => LAt W t p) W base v ts
section
variable {W W' : World} {base : Nat} {v : Value} {ts : List Lh} {mo : Option Nat} {c m : Int}
theorem HCol.bt (h : HCol W base v ts) (hb : Bt mo W W') (hm : MAt W mo c m) : HCol W' base v ts :=
  h.keep (fun _ _ _ hg => (hb.row hm hg (by decide)).trans hg.symm) (fun _ _ ht => ht.bt hb hm)
theorem HCol.set {g n k : Nat} (h : HCol W base (.slice (some ⟨g, 0, none⟩) n k) ts) {b : Nat} {q : Option Addr} (hv : HVar W b q) (hne : b ≠ g) (u : Value) : HCol (W.setCell ⟨b, 0, none⟩ u) base (.slice (some ⟨g, 0, none⟩) n k) ts :=
  h.keep (fun g' _ e _ => by simp only [Value.ownBlock, Option.some.injEq] at e; subst e; exact Below.heap_setCell W ⟨b, 0, none⟩ u g (fun e => hne e.symm)) (fun _ _ ht => ht.set hv u)
/-- Where a block grows that is no node's, no element's. -/
theorem _root_.Go.Proofs.YtaeainnkhjnlaaaGreatDoor.Grew.lat {g : Nat} {cur : Array Value} {ty : TypeId} (h : Grew W g W') (hg : W.heap[g]? = some (.cells cur ty (0, 0))) (hn : ¬ NodeT ty) {t : Lh} {p : Option Addr} (ht : LAt W t p) : LAt W' t p :=
  ht.kps (Kpt.grown h (fun k e cs t' hk => by injection e with e; subst e; rw [hg] at hk; cases hk; exact hn)) h.size
theorem _root_.Go.Proofs.YtaeainnkhjnlaaaGreatDoor.Grew.rw {g : Nat} {cur : Array Value} {ty : TypeId} (h : Grew W g W') (hg : W.heap[g]? = some (.cells cur ty (0, 0))) (hn : ty ≠ 32) {z : Value} {xs : List (Int × Int)} (hz : Rw W z xs) : Rw W' z xs := by
  rcases hz with hz | ⟨b, o, k, cs, hv, h1, h2, h3, h4⟩
  · exact .inl hz
  · exact .inr ⟨b, o, k, cs, hv, h1, h2, h.heap h3 (fun e => by subst e; rw [hg] at h3; cases h3; exact hn rfl), h4⟩
theorem _root_.Go.Proofs.YtaeainnkhjnlaaaGreatDoor.Grew.hcol {g g2 n k : Nat} {cur : Array Value} {ty : TypeId} (h : Grew W g W') (hg : W.heap[g]? = some (.cells cur ty (0, 0))) (hn : ¬ NodeT ty) (hne : g2 ≠ g) (hc : HCol W base (.slice (some ⟨g2, 0, none⟩) n k) ts) : HCol W' base (.slice (some ⟨g2, 0, none⟩) n k) ts :=
  hc.keep (fun g' _ e hg' => by simp only [Value.ownBlock, Option.some.injEq] at e; subst e; exact (h.heap hg' hne).trans hg'.symm) (fun _ _ ht => h.lat hg hn ht)
theorem _root_.Go.Proofs.YtaeainnkhjnlaaaGreatDoor.Grew.mat {g : Nat} {cur : Array Value} {ty : TypeId} (h : Grew W g W') (hg : W.heap[g]? = some (.cells cur ty (0, 0))) (hn : ty ≠ 66) (hm : MAt W mo c m) : MAt W' mo c m := by
  cases mo with
  | none => trivial
  | some b => exact h.heap (show W.heap[b]? = _ from hm) (fun e => (hm.ne hg hn rfl) e.symm)
theorem _root_.Go.Proofs.YtaeainnkhjnlaaaGreatDoor.Grew.bas {w : World} {g : Nat} (h : Grew W g W') (hb : Bas w W) (he : Env w) (hg : w.heap.size ≤ g) : Bas w W' := ⟨h.below hb.below hb.below.size hg, he.below (h.below hb.below hb.below.size hg)⟩

/-- One heap more. -/
theorem HCol.push {g L k : Nat} (h : HCol W base (.slice (some ⟨g, 0, none⟩) L k) ts) (hb : base ≤ W.heap.size) (hl : L < 1000000) {p : Option Addr} {t : Lh} (ht : LAt W t p) :
    ∃ g' c' W', (Builtin.append_ #[30, 30] 30 #[.slice (some ⟨g, 0, none⟩) L k, .slice (some ⟨W.heap.size, 0, none⟩) 1 1]).run Tryz.prog (W.alloc (.cells #[.pointer p] 29)) = .ok (.slice (some ⟨g', 0, none⟩) (L + 1) c') W' ∧
      HCol W' base (.slice (some ⟨g', 0, none⟩) (L + 1) c') (ts ++ [t]) ∧ Grew W g W' ∧ (g' = g ∨ W.heap.size ≤ g') ∧ g' < W'.heap.size ∧ ∃ cur, W.heap[g]? = some (.cells cur 29 (0, 0)) := by
  obtain ⟨i0, hi, hz0, hz1, hz2⟩ := info_parts infoH
  have hown : ∃ cur, W.heap[g]? = some (.cells cur 29 (0, 0)) := by
    obtain ⟨xs, hm, -⟩ := h
    rcases hm.2 with ⟨e, -⟩ | ⟨g', cap, cur, e, -, hg, -⟩
    · cases e
    · cases e; exact ⟨cur, hg⟩
  obtain ⟨cur, hg⟩ := hown
  obtain ⟨g', c', W', h1, h2, h3, h4, h5⟩ := Col.push Tryz.underlying30 hi hz0 hz1 hz2 rfl (by omega) h hb hl p t rfl ht (fun W' hG x t' hx => hG.lat hg heapT_ne hx)
  exact ⟨g', c', W', h1, h2, h3, h4, h5, cur, hg⟩
end

/-- What heaps there are at the head of the round of i: small ones, of 64-bit numbers. -/
structure Heaps (i : Nat) (ts : List Lh) : Prop where
  len : ts.length = i + 1
  small : ∀ t ∈ ts, t.size ≤ 121
  good : ∀ t ∈ ts, t.good
theorem Heaps.start : Heaps 0 [.nil] := ⟨rfl, by intro t h; simp at h; subst h; simp [Lh.size], by intro t h; simp at h; subst h; exact good_nil⟩
theorem Heaps.snoc {i : Nat} {ts : List Lh} (h : Heaps i ts) {t : Lh} (h1 : t.size ≤ 121) (h2 : t.good) : Heaps (i + 1) (ts ++ [t]) :=
  ⟨by simp [h.len], fun s hs => by
    rcases List.mem_append.1 hs with hs | hs
    · exact h.small s hs
    · simp at hs; subst hs; exact h1, fun s hs => by
    rcases List.mem_append.1 hs with hs | hs
    · exact h.good s hs
    · simp at hs; subst hs; exact h2⟩
theorem Heaps.at {i : Nat} {ts : List Lh} (h : Heaps i ts) {j : Nat} (hj : j < i + 1) : ∃ t, ts[j]? = some t ∧ t.size ≤ 121 ∧ t.good := by
  have hl : j < ts.length := by rw [h.len]; exact hj
  exact ⟨ts[j], List.getElem?_eq_getElem hl, h.small _ (List.getElem_mem _), h.good _ (List.getElem_mem _)⟩

theorem _root_.Go.Proofs.YtaeainnkhjnlaaaGreatDoor.BCell.set {W : World} {g j : Nat} {e : TypeId} {v : Value} (h : BCell W g e j v) {b : Nat} (hne : g ≠ b) (off : Nat) (u : Value) : BCell (W.setCell ⟨b, off, none⟩ u) g e j v := h.keep (heap_other _ _ hne)
theorem _root_.Go.Proofs.YtaeainnkhjnlaaaGreatDoor.BCell.ne {W : World} {g g' j j' : Nat} {e e' : TypeId} {v v' : Value} (h : BCell W g e j v) (h' : BCell W g' e' j' v') (he : e ≠ e') : g ≠ g' := by
  rintro rfl
  obtain ⟨cur, h1, -⟩ := h
  obtain ⟨cur', h2, -⟩ := h'
  rw [h1] at h2
  cases h2
  exact he rfl
end Go.Proofs.YtaeainnkhjnlaaaGreatDoor.Ro
namespace Go.Proofs.YtaeainnkhjnlaaaGreatDoor.Ro
open Go.Sort Go.RowKit Go.Deep

theorem wpList_store_h {ops : Array Oper} {rest : List Oper} {op : Oper} {a : Act} {w : World} {Q : Exit → Act → World → Prop} (hgd : op.guard = none) (x y : Operand) (ho : op.op = .store 29 x y)
    (b : Nat) (hx : a.eval x = .pointer (some ⟨b, 0, none⟩)) {p q : Option Addr} (hy : a.eval y = .agg #[.pointer q]) (H : HVar w b p)
    (h : ∀ w', w' = w.setCell ⟨b, 0, none⟩ (.pointer q) → wpList Tryz.prog ops Q rest (a.put op.dst undef) w') : wpList Tryz.prog ops Q (op :: rest) a w := by
  have hi : (Tryz.prog.info? 29).map (·.size) = some 1 := by kernel_rfl
  refine wpList_store_mid hgd _ x y ho b 0 _ hx hy (fun j hj => ?_) hi (all_oneCell_toArray (cs := [.pointer q]) (by intro v hv; simp only [List.mem_cons, List.not_mem_nil, or_false] at hv; subst hv; rfl)) (h _ rfl)
  have e : j = 0 := by simp at hj; omega
  subst e
  exact ⟨by rw [show (0 + 0 : Nat) = 0 from rfl, H.c0]; rfl, by rw [show (0 + 0 : Nat) = 0 from rfl]; exact H.z0⟩

end Go.Proofs.YtaeainnkhjnlaaaGreatDoor.Ro
