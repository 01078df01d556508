/-
  Columns of heaps and of rows: where only a meter turns, where a heap's variable is written, where another column grows; one heap, one row more. No conditions beyond what each theorem says.
  A heap's variable is written: the world behind it is one by name. No conditions beyond what each theorem says.
  The slice of all of the reference's heaps (four cells a thing): what keeps it, what stands at a place, one heap more; a variable of the reference's that is written whole; what stands at the head of a round of BootPlays, and in the midst of one; both slices grow by one. No conditions beyond what each theorem says.
-/
import Derived.Test.YtlmokendajgbdaaGreatDoorWe
import Derived.Test.YtlmokendajgbdaaGreatDoorTgg
import Derived.Deep.LoopGhost
import Derived.Deep.MidRow
import Derived.Test.YtlmokendajgbdaaGreatDoorPe
namespace Go.Proofs.YtlmokendajgbdaaGreatDoor.Bo
open Go.Sort Go.RowKit

theorem infoH : (Tryz.prog.info? 29).map (fun i => (i.zero, i.size, i.bytes)) = some (some (.agg #[.pointer none]), 1, 8) := by kernel_rfl
theorem infoS : (Tryz.prog.info? 37).map (fun i => (i.zero, i.size, i.bytes)) = some (some (.slice none 0 0), 1, 24) := by kernel_rfl

/-- A column of heaps. -/
abbrev HCol (W : World) (base : Nat) (v : Value) (ts : List Lh) : Prop := Col (fun p : Option Addr => .pointer p) 29 (fun (W : World) (p : Option Addr) (t : Lh) => LAt W t p) W base v ts
/-- A column of rows: each one its heap's elements in order. -/
abbrev SCol (W : World) (base : Nat) (v : Value) (ts : List Lh) : Prop := Col (fun z => z) 37 (fun (W : World) (z : Value) (t : Lh) => Rw W z (srt t.all)) W base v ts
theorem rowT_ne : ¬ NodeT 37 := by unfold NodeT Hp.NodeT TreeT; decide

section
variable {W W' : World} {base : Nat} {v : Value} {ts : List Lh} {mo : Option Nat} {c m : Int}
theorem HCol.bt (h : HCol W base v ts) (hb : Bt mo W W') (hm : MAt W mo c m) : HCol W' base v ts :=
  h.keep (fun _ _ _ hg => (hb.row hm hg (by decide)).trans hg.symm) (fun _ _ ht => ht.bt hb hm)
theorem SCol.bt (h : SCol W base v ts) (hb : Bt mo W W') (hm : MAt W mo c m) : SCol W' base v ts :=
  h.keep (fun _ _ _ hg => (hb.row hm hg (by decide)).trans hg.symm) (fun _ _ ht => ht.bt hb hm)
theorem HCol.set {g n k : Nat} (h : HCol W base (.slice (some ⟨g, 0, none⟩) n k) ts) {b : Nat} {q : Option Addr} (hv : HVar W b q) (hne : b ≠ g) (u : Value) : HCol (W.setCell ⟨b, 0, none⟩ u) base (.slice (some ⟨g, 0, none⟩) n k) ts :=
  h.keep (fun g' _ e _ => by simp only [Value.ownBlock, Option.some.injEq] at e; subst e; exact Below.heap_setCell W ⟨b, 0, none⟩ u g (fun e => hne e.symm)) (fun _ _ ht => ht.set hv u)
theorem SCol.set (h : SCol W base v ts) {b : Nat} {q : Option Addr} (hv : HVar W b q) (u : Value) : SCol (W.setCell ⟨b, 0, none⟩ u) base v ts :=
  h.keep (fun g' _ _ hg => Below.heap_setCell W ⟨b, 0, none⟩ u g' (fun e => by
    subst e
    rw [show W.heap[g']? = _ from hv] at hg
    injection hg with hg
    injection hg with _ hg
    exact absurd hg (by decide))) (fun _ _ ht => ht.set hv u)

/-- Where a block grows that is no node's, no element's. -/
theorem _root_.Go.Proofs.YtlmokendajgbdaaGreatDoor.Grew.lat {g : Nat} {cur : Array Value} {ty : TypeId} (h : Grew W g W') (hg : W.heap[g]? = some (.cells cur ty (0, 0))) (hn : ¬ NodeT ty) {t : Lh} {p : Option Addr} (ht : LAt W t p) : LAt W' t p :=
  ht.kps (Kpt.grown h (fun k e cs t' hk => by injection e with e; subst e; rw [hg] at hk; cases hk; exact hn)) h.size
theorem _root_.Go.Proofs.YtlmokendajgbdaaGreatDoor.Grew.rw {g : Nat} {cur : Array Value} {ty : TypeId} (h : Grew W g W') (hg : W.heap[g]? = some (.cells cur ty (0, 0))) (hn : ty ≠ 32) {z : Value} {xs : List (Int × Int)} (hz : Rw W z xs) : Rw W' z xs := by
  rcases hz with hz | ⟨b, o, k, cs, hv, h1, h2, h3, h4⟩
  · exact .inl hz
  · exact .inr ⟨b, o, k, cs, hv, h1, h2, h.heap h3 (fun e => by subst e; rw [hg] at h3; cases h3; exact hn rfl), h4⟩
theorem _root_.Go.Proofs.YtlmokendajgbdaaGreatDoor.Grew.hcol {g g2 n k : Nat} {cur : Array Value} {ty : TypeId} (h : Grew W g W') (hg : W.heap[g]? = some (.cells cur ty (0, 0))) (hn : ¬ NodeT ty) (hne : g2 ≠ g) (hc : HCol W base (.slice (some ⟨g2, 0, none⟩) n k) ts) : HCol W' base (.slice (some ⟨g2, 0, none⟩) n k) ts :=
  hc.keep (fun g' _ e hg' => by simp only [Value.ownBlock, Option.some.injEq] at e; subst e; exact (h.heap hg' hne).trans hg'.symm) (fun _ _ ht => h.lat hg hn ht)
theorem _root_.Go.Proofs.YtlmokendajgbdaaGreatDoor.Grew.scol {g g2 n k : Nat} {cur : Array Value} {ty : TypeId} (h : Grew W g W') (hg : W.heap[g]? = some (.cells cur ty (0, 0))) (hn : ty ≠ 32) (hne : g2 ≠ g) (hc : SCol W base (.slice (some ⟨g2, 0, none⟩) n k) ts) : SCol W' base (.slice (some ⟨g2, 0, none⟩) n k) ts :=
  hc.keep (fun g' _ e hg' => by simp only [Value.ownBlock, Option.some.injEq] at e; subst e; exact (h.heap hg' hne).trans hg'.symm) (fun _ _ ht => h.rw hg hn ht)
theorem _root_.Go.Proofs.YtlmokendajgbdaaGreatDoor.Grew.hvar {g b : Nat} {p : Option Addr} (h : Grew W g W') (hne : b ≠ g) (hv : HVar W b p) : HVar W' b p := h.heap hv hne
theorem _root_.Go.Proofs.YtlmokendajgbdaaGreatDoor.Grew.mat {g : Nat} {cur : Array Value} {ty : TypeId} (h : Grew W g W') (hg : W.heap[g]? = some (.cells cur ty (0, 0))) (hn : ty ≠ 78) (hm : MAt W mo c m) : MAt W' mo c m := by
  cases mo with
  | none => trivial
  | some b => exact h.heap (show W.heap[b]? = _ from hm) (fun e => (hm.ne hg hn rfl) e.symm)
theorem _root_.Go.Proofs.YtlmokendajgbdaaGreatDoor.Grew.bas {w : World} {g : Nat} (h : Grew W g W') (hb : Bas w W) (he : Env w) (hg : w.heap.size ≤ g) : Bas w W' := ⟨h.below hb.below hb.below.size hg, he.below (h.below hb.below hb.below.size hg)⟩

/-- One heap more. -/
theorem HCol.push {g L k : Nat} (h : HCol W base (.slice (some ⟨g, 0, none⟩) L k) ts) (hb : base ≤ W.heap.size) (hl : L < 1000000) {p : Option Addr} {t : Lh} (ht : LAt W t p) :
    ∃ g' c' W', (Builtin.append_ #[30, 30] 30 #[.slice (some ⟨g, 0, none⟩) L k, .slice (some ⟨W.heap.size, 0, none⟩) 1 1]).run Tryz.prog (W.alloc (.cells #[.pointer p] 29)) = .ok (.slice (some ⟨g', 0, none⟩) (L + 1) c') W' ∧
      HCol W' base (.slice (some ⟨g', 0, none⟩) (L + 1) c') (ts ++ [t]) ∧ Grew W g W' ∧ (g' = g ∨ W.heap.size ≤ g') ∧ g' < W'.heap.size ∧ ∃ cur, W.heap[g]? = some (.cells cur 29 (0, 0)) := by
  obtain ⟨i0, hi, hz0, hz1, hz2⟩ := info_parts infoH
  have hown : ∃ cur, W.heap[g]? = some (.cells cur 29 (0, 0)) := by
    obtain ⟨xs, hm, -⟩ := h
    rcases hm.2 with ⟨e, -⟩ | ⟨g', cap, cur, e, -, hg, -⟩
    · cases e
    · cases e; exact ⟨cur, hg⟩
  obtain ⟨cur, hg⟩ := hown
  obtain ⟨g', c', W', h1, h2, h3, h4, h5⟩ := Col.push Tryz.underlying30 hi hz0 hz1 hz2 rfl (by omega) h hb hl p t rfl ht (fun W' hG x t' hx => hG.lat hg heapT_ne hx)
  exact ⟨g', c', W', h1, h2, h3, h4, h5, cur, hg⟩
/-- One row more. -/
theorem SCol.push {g L k : Nat} (h : SCol W base (.slice (some ⟨g, 0, none⟩) L k) ts) (hb : base ≤ W.heap.size) (hl : L < 1000000) {z : Value} {t : Lh} (hz1 : z.oneCell' = true) (ht : Rw W z (srt t.all)) :
    ∃ g' c' W', (Builtin.append_ #[62, 62] 62 #[.slice (some ⟨g, 0, none⟩) L k, .slice (some ⟨W.heap.size, 0, none⟩) 1 1]).run Tryz.prog (W.alloc (.cells #[z] 37)) = .ok (.slice (some ⟨g', 0, none⟩) (L + 1) c') W' ∧
      SCol W' base (.slice (some ⟨g', 0, none⟩) (L + 1) c') (ts ++ [t]) ∧ Grew W g W' ∧ (g' = g ∨ W.heap.size ≤ g') ∧ g' < W'.heap.size ∧ ∃ cur, W.heap[g]? = some (.cells cur 37 (0, 0)) := by
  obtain ⟨i0, hi, hz0, hz1', hz2⟩ := info_parts infoS
  have hown : ∃ cur, W.heap[g]? = some (.cells cur 37 (0, 0)) := by
    obtain ⟨xs, hm, -⟩ := h
    rcases hm.2 with ⟨e, -⟩ | ⟨g', cap, cur, e, -, hg, -⟩
    · cases e
    · cases e; exact ⟨cur, hg⟩
  obtain ⟨cur, hg⟩ := hown
  obtain ⟨g', c', W', h1, h2, h3, h4, h5⟩ := Col.push Tryz.underlying62 hi hz0 hz1' hz2 rfl (by omega) h hb hl z t hz1 ht (fun W' hG x t' hx => hG.rw hg (by decide) hx)
  exact ⟨g', c', W', h1, h2, h3, h4, h5, cur, hg⟩
end

/-- What heaps there are at the head of the round of i: small ones, of 64-bit numbers. -/
structure Heaps (i : Nat) (ts : List Lh) : Prop where
  len : ts.length = i + 1
  small : ∀ t ∈ ts, t.size ≤ 121
  good : ∀ t ∈ ts, t.good
theorem Heaps.start : Heaps 0 [.nil] := ⟨rfl, by intro t h; simp at h; subst h; simp [Lh.size], by intro t h; simp at h; subst h; exact good_nil⟩
theorem Heaps.snoc {i : Nat} {ts : List Lh} (h : Heaps i ts) {t : Lh} (h1 : t.size ≤ 121) (h2 : t.good) : Heaps (i + 1) (ts ++ [t]) :=
  ⟨by simp [h.len], fun s hs => by
    rcases List.mem_append.1 hs with hs | hs
    · exact h.small s hs
    · simp at hs; subst hs; exact h1, fun s hs => by
    rcases List.mem_append.1 hs with hs | hs
    · exact h.good s hs
    · simp at hs; subst hs; exact h2⟩
theorem Heaps.at {i : Nat} {ts : List Lh} (h : Heaps i ts) {j : Nat} (hj : j < i + 1) : ∃ t, ts[j]? = some t ∧ t.size ≤ 121 ∧ t.good := by
  have hl : j < ts.length := by rw [h.len]; exact hj
  exact ⟨ts[j], List.getElem?_eq_getElem hl, h.small _ (List.getElem_mem _), h.good _ (List.getElem_mem _)⟩

theorem _root_.Go.Proofs.YtlmokendajgbdaaGreatDoor.BCell.set {W : World} {g j : Nat} {e : TypeId} {v : Value} (h : BCell W g e j v) {b : Nat} (hne : g ≠ b) (off : Nat) (u : Value) : BCell (W.setCell ⟨b, off, none⟩ u) g e j v := h.keep (heap_other _ _ hne)
/-- What stands at the head of a round: i acts are done. -/
structure CRel (w : World) (mb gu cu gv cv gs cs : Nat) (i : Nat) (ts : List Lh) (c m : Int) (W : World) : Prop where
  mt : MAt W (some mb) c m
  cm : 0 ≤ c ∧ c ≤ 10000 * (i : Int) ∧ 0 ≤ m ∧ m ≤ 10000 * (i : Int)
  hs : Heaps i ts
  uu : HCol W w.heap.size (.slice (some ⟨gu, 0, none⟩) (i + 1) cu) ts
  vv : HCol W w.heap.size (.slice (some ⟨gv, 0, none⟩) (i + 1) cv) ts
  ss : SCol W w.heap.size (.slice (some ⟨gs, 0, none⟩) (i + 1) cs) ts
  ne : gu ≠ gv
  bas : Bas w W
theorem CRel.caps {w W : World} {mb gu cu gv cv gs cs i : Nat} {ts : List Lh} {c m : Int} (h : CRel w mb gu cu gv cv gs cs i ts c m W) : (i + 1 ≤ cu ∧ cu ≤ 9223372036854775807) ∧ (i + 1 ≤ cv ∧ cv ≤ 9223372036854775807) ∧ (i + 1 ≤ cs ∧ cs ≤ 9223372036854775807) ∧ (w.heap.size ≤ gu ∧ w.heap.size ≤ gv ∧ w.heap.size ≤ gs) := by
  have hl := h.hs.len
  obtain ⟨g1, k1, _, e1, b1, -, c1, d1, -⟩ := h.uu.blk (by omega)
  obtain ⟨g2, k2, _, e2, b2, -, c2, d2, -⟩ := h.vv.blk (by omega)
  obtain ⟨g3, k3, _, e3, b3, -, c3, d3, -⟩ := h.ss.blk (by omega)
  rw [hl] at e1 e2 e3 c1 c2 c3
  cases e1; cases e2; cases e3
  exact ⟨⟨by omega, d1⟩, ⟨by omega, d2⟩, ⟨by omega, d3⟩, b1, b2, b3⟩
theorem CRel.start {w W : World} {mb : Nat} (hm : MAt W (some mb) 0 0) (hb : Bas w W) (he : Env w) :
    CRel w mb W.heap.size 1 (W.heap.size + 1) 1 (W.heap.size + 2) 1 0 [.nil] 0 0 (((W.alloc (.cells #[.pointer none] 29)).alloc (.cells #[.pointer none] 29)).alloc (.cells #[.slice none 0 0] 37)) := by
  have hs := hb.below.size
  have e1 : (W.alloc (.cells #[.pointer none] 29)).heap.size = W.heap.size + 1 := by simp
  have e2 : ((W.alloc (.cells #[.pointer none] 29)).alloc (.cells #[.pointer none] 29)).heap.size = W.heap.size + 2 := by simp
  have u1 := Col.first (fun p : Option Addr => .pointer p) 29 (fun (W : World) (p : Option Addr) (t : Lh) => LAt W t p) W w.heap.size hs none .nil (LAt.none _)
  have u2 := Col.first (fun p : Option Addr => .pointer p) 29 (fun (W : World) (p : Option Addr) (t : Lh) => LAt W t p) (W.alloc (.cells #[.pointer none] 29)) w.heap.size (by omega) none .nil (LAt.none _)
  have u3 := Col.first (fun z : Value => z) 37 (fun (W : World) (z : Value) (t : Lh) => Rw W z (srt t.all)) ((W.alloc (.cells #[.pointer none] 29)).alloc (.cells #[.pointer none] 29)) w.heap.size (by omega) (.slice none 0 0) .nil (by rw [show srt Lh.nil.all = [] from srt_nil]; exact Rw.none _)
  rw [e1] at u2
  rw [e2] at u3
  have b3 : Bt (some mb) W (((W.alloc (.cells #[.pointer none] 29)).alloc (.cells #[.pointer none] 29)).alloc (.cells #[.slice none 0 0] 37)) := (((Bt.refl _ _).alloc _).alloc _).alloc _
  refine ⟨((hm.alloc _).alloc _).alloc _, ⟨by omega, by omega, by omega, by omega⟩, Heaps.start, ?_, ?_, u3, by omega, ?_⟩
  · exact HCol.bt (mo := none) (c := 0) (m := 0) (HCol.bt (mo := none) (c := 0) (m := 0) u1 ((Bt.refl _ _).alloc _) trivial) ((Bt.refl _ _).alloc _) trivial
  · exact HCol.bt (mo := none) (c := 0) (m := 0) u2 ((Bt.refl _ _).alloc _) trivial
  · exact hb.bt he (mo := none) (((Bt.refl _ _).alloc _).alloc _ |>.alloc _) (fun _ e => by cases e)

theorem _root_.Go.Proofs.YtlmokendajgbdaaGreatDoor.BCell.ne {W : World} {g g' j j' : Nat} {e e' : TypeId} {v v' : Value} (h : BCell W g e j v) (h' : BCell W g' e' j' v') (he : e ≠ e') : g ≠ g' := by
  rintro rfl
  obtain ⟨cur, h1, -⟩ := h
  obtain ⟨cur', h2, -⟩ := h'
  rw [h1] at h2
  cases h2
  exact he rfl
set_option maxHeartbeats 1000000 in
/-- The three slices, one heap more each. -/
theorem counts_push {w W : World} {mb gu cu gv cv gs cs i L bG : Nat} {ts : List Lh} {c m : Int} {t : Lh} {ph pg : Option Addr} {z : Value} (he : Env w) (hL : L = i + 1) (hi : i < 30) (hm : MAt W (some mb) c m) (hcm : 0 ≤ c ∧ c ≤ 10000 * ((i + 1 : Nat) : Int) ∧ 0 ≤ m ∧ m ≤ 10000 * ((i + 1 : Nat) : Int)) (hs : Heaps i ts) (h1 : t.size ≤ 121) (h2 : t.good)
    (hU : HCol W w.heap.size (.slice (some ⟨gu, 0, none⟩) L cu) ts) (hV : HCol W w.heap.size (.slice (some ⟨gv, 0, none⟩) L cv) ts) (hS : SCol W w.heap.size (.slice (some ⟨gs, 0, none⟩) L cs) ts) (hb : Bas w W)
    (hown : w.heap.size ≤ gu ∧ w.heap.size ≤ gv ∧ w.heap.size ≤ gs ∧ gu ≠ gv) (hT : LAt W t ph) (hT2 : LAt W t pg) (hz1 : z.oneCell' = true) (hz : Rw W z (srt t.all)) (hvG : HVar W bG pg) (hbG : bG ≠ gu) :
    ∃ g1 c1 W1 g2 c2 W2 g3 c3 W3, (Builtin.append_ #[30, 30] 30 #[.slice (some ⟨gu, 0, none⟩) L cu, .slice (some ⟨W.heap.size, 0, none⟩) 1 1]).run Tryz.prog (W.alloc (.cells #[.pointer ph] 29)) = .ok (.slice (some ⟨g1, 0, none⟩) (L + 1) c1) W1 ∧
      W1.cell? ⟨bG, 0, none⟩ = some (.pointer pg) ∧
      (Builtin.append_ #[30, 30] 30 #[.slice (some ⟨gv, 0, none⟩) L cv, .slice (some ⟨W1.heap.size, 0, none⟩) 1 1]).run Tryz.prog (W1.alloc (.cells #[.pointer pg] 29)) = .ok (.slice (some ⟨g2, 0, none⟩) (L + 1) c2) W2 ∧
      (Builtin.append_ #[62, 62] 62 #[.slice (some ⟨gs, 0, none⟩) L cs, .slice (some ⟨W2.heap.size, 0, none⟩) 1 1]).run Tryz.prog (W2.alloc (.cells #[z] 37)) = .ok (.slice (some ⟨g3, 0, none⟩) (L + 1) c3) W3 ∧
      CRel w mb g1 c1 g2 c2 g3 c3 (i + 1) (ts ++ [t]) c m W3 := by
  subst hL
  have hlen := hs.len
  have hgs : ∃ cur, W.heap[gs]? = some (.cells cur 37 (0, 0)) := by
    obtain ⟨g, k, cur, e, -, -, -, -, hh⟩ := hS.blk (by omega)
    rw [hlen] at e; cases e; exact ⟨cur, hh⟩
  obtain ⟨curs, hgs⟩ := hgs
  have hgv : gv < W.heap.size := by
    obtain ⟨g, k, cur, e, -, hh, -⟩ := hV.blk (by omega)
    rw [hlen] at e; cases e; exact hh
  obtain ⟨g1, c1, W1, r1, U1, G1, o1, l1, cur1, hc1⟩ := HCol.push hU hb.below.size (by omega) hT
  have hsu : gs ≠ gu := by rintro rfl; rw [hgs] at hc1; cases hc1
  have V1 := G1.hcol hc1 heapT_ne (fun e => hown.2.2.2 e.symm) hV
  have S1 := G1.scol hc1 (by decide) hsu hS
  have B1 := G1.bas hb he hown.1
  have gs1 := G1.heap hgs hsu
  obtain ⟨g2, c2, W2, r2, V2, G2, o2, l2, cur2, hc2⟩ := HCol.push V1 B1.below.size (by omega) (G1.lat hc1 heapT_ne hT2)
  have hsv : gs ≠ gv := by rintro rfl; rw [gs1] at hc2; cases hc2
  have n1v : g1 ≠ gv := by rcases o1 with e | e <;> omega
  have n1s : g1 ≠ gs := by have := lt_of_heap hgs; rcases o1 with e | e <;> omega
  have n12 : g1 ≠ g2 := by rcases o2 with e | e <;> omega
  have n2s : g2 ≠ gs := by have := lt_of_heap gs1; rcases o2 with e | e <;> omega
  have U2 := G2.hcol hc2 heapT_ne n1v U1
  have S2 := G2.scol hc2 (by decide) hsv S1
  have B2 := G2.bas B1 he hown.2.1
  obtain ⟨g3, c3, W3, r3, S3, G3, o3, l3, cur3, hc3⟩ := SCol.push S2 B2.below.size (by omega) hz1 (G2.rw hc2 (by decide) (G1.rw hc1 (by decide) hz))
  refine ⟨g1, c1, W1, g2, c2, W2, g3, c3, W3, r1, (G1.hvar hbG hvG).c0, r2, r3, ?_⟩
  exact ⟨G3.mat hc3 (by decide) (G2.mat hc2 (by decide) (G1.mat hc1 (by decide) hm)), hcm, hs.snoc h1 h2, G3.hcol hc3 rowT_ne n1s U2, G3.hcol hc3 rowT_ne n2s V2, S3, n12, G3.bas B2 he hown.2.2.1⟩

/-- What is left of a row when the least one is taken out. -/
theorem rw_none {W : World} {v : Value} {t : Lh} (h : Rw W v (srt t.all)) (h0 : t.size = 0) : Rw W v (srt t.pop.all) := by
  cases t with
  | nil => exact h
  | node x o => rw [show (Lh.node x o).size = ((Gn.bAll o).flatMap Lh.els).length + 1 from rfl] at h0; omega
theorem rw_tail {W : World} {A : Option Addr} {n k : Nat} {t : Lh} (h : Rw W (.slice A n k) (srt t.all)) (hn : n = t.size) (hok : t.ok) (h0 : 0 < n) : ∃ b o, A = some ⟨b, o, none⟩ ∧ (k = 1 → Rw W (.slice (some ⟨b, o, none⟩) 0 0) (srt t.pop.all)) ∧ Rw W (.slice (some ⟨b, o + 1 * 2, none⟩) (n - 1) (k - 1)) (srt t.pop.all) := by
  have hl : (srt t.all).length = n := by rw [srt_length, Lh.all_length, hn]
  obtain ⟨b, o, c, e, h1, h2, h3⟩ := h.rest (fun e => by rw [e] at hl; simp at hl; omega)
  rw [hl] at e h1
  cases e
  have h4 := h3 W (Below.refl _ _)
  rw [srt_pop hok]
  refine ⟨b, o, rfl, fun e => ?_, hl ▸ h4.2⟩
  have e2 : (srt t.all).tail = [] := List.eq_nil_of_length_eq_zero (by rw [List.length_tail, hl]; omega)
  rw [e2]
  exact h4.1

end Go.Proofs.YtlmokendajgbdaaGreatDoor.Bo
namespace Go.Proofs.YtlmokendajgbdaaGreatDoor.Bo
open Go.Sort Go.RowKit Go.Deep

theorem wpList_store_h {ops : Array Oper} {rest : List Oper} {op : Oper} {a : Act} {w : World} {Q : Exit → Act → World → Prop} (hgd : op.guard = none) (x y : Operand) (ho : op.op = .store 29 x y)
    (b : Nat) (hx : a.eval x = .pointer (some ⟨b, 0, none⟩)) {p q : Option Addr} (hy : a.eval y = .agg #[.pointer q]) (H : HVar w b p)
    (h : ∀ w', w' = w.setCell ⟨b, 0, none⟩ (.pointer q) → wpList Tryz.prog ops Q rest (a.put op.dst undef) w') : wpList Tryz.prog ops Q (op :: rest) a w := by
  have hi : (Tryz.prog.info? 29).map (·.size) = some 1 := by kernel_rfl
  refine wpList_store_mid hgd _ x y ho b 0 _ hx hy (fun j hj => ?_) hi (all_oneCell_toArray (cs := [.pointer q]) (by intro v hv; simp only [List.mem_cons, List.not_mem_nil, or_false] at hv; subst hv; rfl)) (h _ rfl)
  have e : j = 0 := by simp at hj; omega
  subst e
  exact ⟨by rw [show (0 + 0 : Nat) = 0 from rfl, H.c0]; rfl, by rw [show (0 + 0 : Nat) = 0 from rfl]; exact H.z0⟩

end Go.Proofs.YtlmokendajgbdaaGreatDoor.Bo
namespace Go.Proofs.YtlmokendajgbdaaGreatDoor.Bo.Zr
open Go.Sort Go.RowKit Go.Proofs.YtlmokendajgbdaaGreatDoor.Gn Go.Proofs.YtlmokendajgbdaaGreatDoor.Bo

/-- A variable that holds a heap of the reference's. -/
def QVar (W : World) (b : Nat) (x : Int × Int) (A : Option Addr) (n c : Nat) (N : Bool) : Prop := W.heap[b]? = some (.cells #[.bool N, .int .i64 x.1, .int .i64 x.2, .slice A n c] 35 (0, 0))
section
variable {W W' : World} {b : Nat} {x : Int × Int} {A : Option Addr} {n c : Nat} {N : Bool}
theorem QVar.qd (h : QVar W b x A n c N) : Qd W b (.bool N) (.int .i64 x.1) (.int .i64 x.2) (.slice A n c) := qd_at h
theorem QVar.stay (h : QVar W b x A n c N) (hb : Below W.heap.size W W') : QVar W' b x A n c N := (hb.block b (lt_of_heap h)).trans h
theorem QVar.lt (h : QVar W b x A n c N) : b < W.heap.size := lt_of_heap h
theorem QVar.keep (h : QVar W b x A n c N) (e : W'.heap[b]? = W.heap[b]?) : QVar W' b x A n c N := e.trans h
theorem QVar.new (W : World) (x1 x2 : Int) (A : Option Addr) (n c : Nat) (N : Bool) {k : Nat} (h : k = W.heap.size) : QVar (W.alloc (.cells #[.bool N, .int .i64 x1, .int .i64 x2, .slice A n c] 35)) k (x1, x2) A n c N := new_at h
theorem QVar.alloc (h : QVar W b x A n c N) (o : Obj) : QVar (W.alloc o) b x A n c N := (Go.Proofs.YtlmokendajgbdaaGreatDoor.Bo.alloc_old o (lt_of_heap h)).trans h
end
theorem RAt.weak {F F' : Nat → Prop} {W : World} {A : Option Addr} {n c : Nat} {N : Bool} {x : Int × Int} {t : Lh} (h : RAt F W t x A n c N) (hf : ∀ k, k < W.heap.size → F k → F' k) : RAt F' W t x A n c N := h.far ⟨fun _ _ _ => rfl, hf⟩
theorem refT_ne : ¬ NodeT 35 := by unfold NodeT Hp.NodeT TreeT; decide
/-- Blocks that are not the slices', nor the meter's, nor two variables'. -/
def FP (gv mb gu b b' : Nat) (k : Nat) : Prop := k ≠ gv ∧ k ≠ mb ∧ k ≠ gu ∧ k ≠ b ∧ k ≠ b'
/-- The j-th thing of the slice. -/
def WCell (W : World) (g j : Nat) (x : Int × Int) (A : Option Addr) (n c : Nat) (N : Bool) : Prop := ∃ cur, W.heap[g]? = some (.cells cur 35 (0, 0)) ∧ cur[j * 4]? = some (.bool N) ∧ cur[j * 4 + 1]? = some (.int .i64 x.1) ∧ cur[j * 4 + 2]? = some (.int .i64 x.2) ∧ cur[j * 4 + 3]? = some (.slice A n c)
/-- The slice of the reference's heaps. -/
def WCol (F : Nat → Prop) (W : World) (base : Nat) (v : Value) (ts : List Lh) : Prop :=
  ∃ cs : List Value, W.ownsRow base 35 4 v ts.length cs ∧ ∀ (j : Nat) (t : Lh), ts[j]? = some t → ∃ (x : Int × Int) (A : Option Addr) (n c : Nat) (N : Bool), (cs[j * 4]? = some (.bool N) ∧ cs[j * 4 + 1]? = some (.int .i64 x.1) ∧ cs[j * 4 + 2]? = some (.int .i64 x.2) ∧ cs[j * 4 + 3]? = some (.slice A n c)) ∧ RAt F W t x A n c N
/-- A variable is written, whole: a world in which that block alone has turned. -/
structure Wrote1 (b : Nat) (W W' : World) : Prop where
  os : W'.os = W.os
  tape : W'.tape = W.tape
  output : W'.output = W.output
  size : W'.heap.size = W.heap.size
  keep : ∀ k, k ≠ b → W'.heap[k]? = W.heap[k]?

section
variable {W W' : World} {g j n c : Nat} {N : Bool} {x : Int × Int} {A : Option Addr} {t : Lh} {F F' : Nat → Prop} {base : Nat} {v : Value} {ts : List Lh} {cm mm : Int} {gv mb gu b b' : Nat}
theorem Wrote1.four (W : World) (b : Nat) (v0 v1 v2 v3 : Value) : Wrote1 b W (set4 W b v0 v1 v2 v3) := ⟨rfl, rfl, rfl, by unfold set4; simp, fun k hk => set4_far W b v0 v1 v2 v3 k hk⟩
theorem Wrote1.below {B : Nat} {u : World} (h : Wrote1 b W W') (hb : Below B u W) (hB : B ≤ b) : Below B u W' :=
  ⟨h.os.trans hb.os, h.tape.trans hb.tape, h.output.trans hb.output, by rw [h.size]; exact hb.size, fun k hk => (h.keep k (by omega)).trans (hb.block k hk)⟩
theorem Wrote1.kpt {cs : Array Value} {ty : TypeId} {z : Nat × Nat} {K : TypeId → Prop} (h : Wrote1 b W W') (hb : W.heap[b]? = some (.cells cs ty z)) (hn : ¬ K ty) : Kpt K W W' := fun k cs' t' ht e => (h.keep k (by
  rintro rfl
  rw [e] at hb
  cases hb
  exact hn ht)).trans e
theorem types_ne {g b : Nat} {cur cur' : Array Value} {e e' : TypeId} {z z' : Nat × Nat} (hg : W.heap[g]? = some (.cells cur e z)) (hb : W.heap[b]? = some (.cells cur' e' z')) (hne : e ≠ e') : g ≠ b := by
  rintro rfl
  rw [hg] at hb
  cases hb
  exact hne rfl
theorem QVar.put (h : QVar W b x A n c N) (z1 z2 : Int) (B : Option Addr) (m d : Nat) (M : Bool) : QVar (set4 W b (.bool M) (.int .i64 z1) (.int .i64 z2) (.slice B m d)) b (z1, z2) B m d M :=
  heap_put (j := 3) (heap_put (j := 2) (heap_put (j := 1) (heap_put (j := 0) h _) _) _) _
theorem QVar.wrote (h : QVar W b x A n c N) (z1 z2 : Int) (B : Option Addr) (m d : Nat) (M : Bool) : QVar ((((W.setCell ⟨b, 0, none⟩ (.bool M)).setCell ⟨b, 1, none⟩ (.int .i64 z1)).setCell ⟨b, 2, none⟩ (.int .i64 z2)).setCell ⟨b, 3, none⟩ (.slice B m d)) b (z1, z2) B m d M ∧ Wrote1 b W ((((W.setCell ⟨b, 0, none⟩ (.bool M)).setCell ⟨b, 1, none⟩ (.int .i64 z1)).setCell ⟨b, 2, none⟩ (.int .i64 z2)).setCell ⟨b, 3, none⟩ (.slice B m d)) :=
  ⟨h.put z1 z2 B m d M, Wrote1.four W b _ _ _ _⟩
theorem QVar.bt {mo : Option Nat} (h : QVar W b x A n c N) (hb : Bt mo W W') (hm : MAt W mo cm mm) : QVar W' b x A n c N := hb.row hm h (by decide)
theorem QVar.set {b' : Nat} (h : QVar W b' x A n c N) {b : Nat} (hne : b' ≠ b) (off : Nat) (u : Value) : QVar (W.setCell ⟨b, off, none⟩ u) b' x A n c N := h.keep (heap_other _ _ hne)
theorem QVar.c0 (h : QVar W b x A n c N) : W.cell? ⟨b, 0, none⟩ = some (.bool N) := h.qd.c0
theorem QVar.c1 (h : QVar W b x A n c N) : W.cell? ⟨b, 1, none⟩ = some (.int .i64 x.1) := h.qd.c1
theorem QVar.c2 (h : QVar W b x A n c N) : W.cell? ⟨b, 2, none⟩ = some (.int .i64 x.2) := h.qd.c2
theorem QVar.c3 (h : QVar W b x A n c N) : W.cell? ⟨b, 3, none⟩ = some (.slice A n c) := h.qd.c3
theorem QVar.z0 (h : QVar W b x A n c N) : W.frozen? ⟨b, 0, none⟩ = false := h.qd.z0
theorem QVar.z1 (h : QVar W b x A n c N) : W.frozen? ⟨b, 1, none⟩ = false := h.qd.z1
theorem QVar.z2 (h : QVar W b x A n c N) : W.frozen? ⟨b, 2, none⟩ = false := h.qd.z2
theorem QVar.z3 (h : QVar W b x A n c N) : W.frozen? ⟨b, 3, none⟩ = false := h.qd.z3
theorem RAt.bt (h : RAt (FP gv mb gu b b') W t x A n c N) (hb : Bt (some mb) W W') (_ : MAt W (some mb) cm mm) : RAt (FP gv mb gu b b') W' t x A n c N :=
  h.far ⟨fun k hk hf => hb.block k hk (fun e => by injection e with e; exact hf.2.1 e.symm), fun _ _ hf => hf⟩
theorem RAt.set (h : RAt (FP gv mb gu b b') W t x A n c N) {q : Option Addr} (_ : HVar W b' q) (u : Value) : RAt (FP gv mb gu b b') (W.setCell ⟨b', 0, none⟩ u) t x A n c N :=
  h.far ⟨fun _ _ hf => heap_other _ _ hf.2.2.2.2, fun _ _ hf => hf⟩
theorem WCell.c0 (h : WCell W g j x A n c N) : W.cell? ⟨g, j * 4, none⟩ = some (.bool N) := by obtain ⟨cur, h1, h2, -, -, -⟩ := h; simp [World.cell?, h1, h2]
theorem WCell.c1 (h : WCell W g j x A n c N) : W.cell? ⟨g, j * 4 + 1, none⟩ = some (.int .i64 x.1) := by obtain ⟨cur, h1, -, h2, -, -⟩ := h; simp [World.cell?, h1, h2]
theorem WCell.c2 (h : WCell W g j x A n c N) : W.cell? ⟨g, j * 4 + 2, none⟩ = some (.int .i64 x.2) := by obtain ⟨cur, h1, -, -, h2, -⟩ := h; simp [World.cell?, h1, h2]
theorem WCell.c3 (h : WCell W g j x A n c N) : W.cell? ⟨g, j * 4 + 3, none⟩ = some (.slice A n c) := by obtain ⟨cur, h1, -, -, -, h2⟩ := h; simp [World.cell?, h1, h2]
theorem WCell.lt (h : WCell W g j x A n c N) : g < W.heap.size := by obtain ⟨cur, h1, -⟩ := h; exact lt_of_heap h1
theorem WCell.keep (h : WCell W g j x A n c N) (e : W'.heap[g]? = W.heap[g]?) : WCell W' g j x A n c N := by obtain ⟨cur, h1, h2⟩ := h; exact ⟨cur, e.trans h1, h2⟩
theorem WCell.stay (h : WCell W g j x A n c N) (hb : Below W.heap.size W W') : WCell W' g j x A n c N := h.keep (hb.block g h.lt)
theorem WCell.bt {mo : Option Nat} (h : WCell W g j x A n c N) (hb : Bt mo W W') (hm : MAt W mo cm mm) : WCell W' g j x A n c N := by obtain ⟨cur, h1, h2⟩ := h; exact ⟨cur, hb.row hm h1 (by decide), h2⟩
theorem WCell.set (h : WCell W g j x A n c N) {b : Nat} (hne : g ≠ b) (off : Nat) (u : Value) : WCell (W.setCell ⟨b, off, none⟩ u) g j x A n c N := h.keep (heap_other _ _ hne)
theorem WCol.keep (h : WCol F W base v ts) (hk : ∀ (g : Nat) (cur : Array Value), v.ownBlock = some g → W.heap[g]? = some (.cells cur 35 (0, 0)) → W'.heap[g]? = W.heap[g]?) (hf : ∀ (t : Lh) (x : Int × Int) (A : Option Addr) (n c : Nat) (N : Bool), RAt F W t x A n c N → RAt F' W' t x A n c N) : WCol F' W' base v ts := by
  obtain ⟨cs, hm, ha⟩ := h
  refine ⟨cs, ⟨hm.1, ?_⟩, fun j t ht => ?_⟩
  · rcases hm.2 with hn | ⟨g, cap, cur, rfl, hg1, hg, rest⟩
    · exact .inl hn
    · exact .inr ⟨g, cap, cur, rfl, hg1, (hk g cur rfl hg).trans hg, rest⟩
  · obtain ⟨x, A, n, c, N, h1, h2⟩ := ha j t ht
    exact ⟨x, A, n, c, N, h1, hf _ _ _ _ _ _ h2⟩
theorem WCol.weak {y y' : Nat} (h : WCol (FP gv mb gu b b') W base v ts) (hf : ∀ k, k < W.heap.size → FP gv mb gu b b' k → FP gv mb gu y y' k) : WCol (FP gv mb gu y y') W base v ts :=
  h.keep (fun _ _ _ _ => rfl) (fun _ _ _ _ _ _ hr => hr.weak hf)
theorem WCol.bt (h : WCol (FP gv mb gu b b') W base v ts) (hb : Bt (some mb) W W') (hm : MAt W (some mb) cm mm) : WCol (FP gv mb gu b b') W' base v ts :=
  h.keep (fun _ _ _ hg => (hb.row hm hg (by decide)).trans hg.symm) (fun _ _ _ _ _ _ hr => hr.bt hb hm)
theorem WCol.set {k : Nat} (h : WCol (FP gv mb gu b b') W base (.slice (some ⟨g, 0, none⟩) n k) ts) {q : Option Addr} (hv : HVar W b' q) (hne : b' ≠ g) (u : Value) : WCol (FP gv mb gu b b') (W.setCell ⟨b', 0, none⟩ u) base (.slice (some ⟨g, 0, none⟩) n k) ts :=
  h.keep (fun g' _ e _ => by simp only [Value.ownBlock, Option.some.injEq] at e; subst e; exact Below.heap_setCell W ⟨b', 0, none⟩ u g (fun e => hne e.symm)) (fun _ _ _ _ _ _ hr => hr.set hv u)
theorem WCol.blk (h : WCol F W base v ts) (hl : 0 < ts.length) : ∃ (g cap : Nat) (cur : Array Value), v = .slice (some ⟨g, 0, none⟩) ts.length cap ∧ base ≤ g ∧ g < W.heap.size ∧ ts.length ≤ cap ∧ cap ≤ 9223372036854775807 ∧ W.heap[g]? = some (.cells cur 35 (0, 0)) := by
  obtain ⟨cs, hm, -⟩ := h
  rcases hm.2 with ⟨-, h0⟩ | ⟨g, cap, cur, e, hb, hg, hc, hmx, -⟩
  · omega
  · exact ⟨g, cap, cur, e, hb, lt_of_heap hg, by omega, by unfold maxLen at hmx; omega, hg⟩
theorem WCol.cell {k : Nat} (h : WCol F W base (.slice (some ⟨g, 0, none⟩) n k) ts) (ht : ts[j]? = some t) : ∃ (x1 x2 : Int) (A : Option Addr) (m c : Nat) (N : Bool), WCell W g j (x1, x2) A m c N ∧ RAt F W t (x1, x2) A m c N := by
  obtain ⟨cs, hm, ha⟩ := h
  obtain ⟨⟨x1, x2⟩, A, m, c, N, ⟨h0, h1, h2, h3⟩, hr⟩ := ha j t ht
  refine ⟨x1, x2, A, m, c, N, ?_, hr⟩
  rcases hm.2 with ⟨e, -⟩ | ⟨g', cap, cur, e, -, hg, -, -, -, hc⟩
  · cases e
  · cases e
    have up : ∀ {i : Nat} {u : Value}, cs[i]? = some u → cur[i]? = some u := fun {i u} hi => by
      rw [← hc, List.getElem?_take] at hi
      split at hi
      · simpa using hi
      · cases hi
    exact ⟨cur, hg, up h0, up h1, up h2, up h3⟩
end
theorem WCol.first (F : Nat → Prop) (W : World) (base : Nat) (hb : base ≤ W.heap.size) : WCol F (W.alloc (.cells #[.bool false, .int .i64 0, .int .i64 0, .slice none 0 0] 35)) base (.slice (some ⟨W.heap.size, 0, none⟩) 1 1) [.nil] := by
  refine ⟨[.bool false, .int .i64 0, .int .i64 0, .slice none 0 0], ⟨rfl, .inr ⟨W.heap.size, 1, #[.bool false, .int .i64 0, .int .i64 0, .slice none 0 0], rfl, hb, World.alloc_heap_new W _, Nat.le_refl _, by unfold maxLen; simp, rfl, rfl⟩⟩, fun j u hu => ?_⟩
  cases j with
  | zero => simp at hu; subst hu; exact ⟨(0, 0), none, 0, 0, false, ⟨rfl, rfl, rfl, rfl⟩, RAt.zero _ _⟩
  | succ j => simp at hu
/-- One heap more. -/
theorem WCol.push {F : Nat → Prop} {W : World} {gv L k base : Nat} {ts : List Lh} (hFg : ∀ k, F k → k ≠ gv) (h : WCol F W base (.slice (some ⟨gv, 0, none⟩) L k) ts) (hb : base ≤ W.heap.size) (hl : L < 1000000) {x1 x2 : Int} {A : Option Addr} {n c : Nat} {N : Bool} {t : Lh} (ht : RAt F W t (x1, x2) A n c N) :
    ∃ g' c' W', (Builtin.append_ #[36, 36] 36 #[.slice (some ⟨gv, 0, none⟩) L k, .slice (some ⟨W.heap.size, 0, none⟩) 1 1]).run Tryz.prog (W.alloc (.cells #[.bool N, .int .i64 x1, .int .i64 x2, .slice A n c] 35)) = .ok (.slice (some ⟨g', 0, none⟩) (L + 1) c') W' ∧
      WCol F W' base (.slice (some ⟨g', 0, none⟩) (L + 1) c') (ts ++ [t]) ∧ Grew W gv W' ∧ (g' = gv ∨ W.heap.size ≤ g') ∧ g' < W'.heap.size ∧ ∃ cur, W.heap[gv]? = some (.cells cur 35 (0, 0)) := by
  obtain ⟨i0, hi, hz0, hz1, hz2⟩ := info_parts infoH
  have hal := (Below.refl W.heap.size W).alloc (Nat.le_refl _) (.cells #[.bool N, .int .i64 x1, .int .i64 x2, .slice A n c] 35)
  obtain ⟨cs, hm, ha⟩ := h
  have hown : ∃ cur, W.heap[gv]? = some (.cells cur 35 (0, 0)) := by
    rcases hm.2 with ⟨e, -⟩ | ⟨g', cap, cur, e, -, hg, -⟩
    · cases e
    · cases e; exact ⟨cur, hg⟩
  obtain ⟨cur, hgv⟩ := hown
  have hL : L = ts.length := by
    rcases hm.2 with ⟨e, -⟩ | ⟨g', cap, cur, e, -⟩
    · cases e
    · cases e; rfl
  subst hL
  have hm1 : (W.alloc (.cells #[.bool N, .int .i64 x1, .int .i64 x2, .slice A n c] 35)).ownsRow base 35 4 (.slice (some ⟨gv, 0, none⟩) ts.length k) ts.length cs :=
    World.ownsRow.kept hm (row := none) ⟨hal.os, hal.tape, hal.output, hal.size, fun k hk _ => hal.block k hk⟩ (.inr (by simp [Value.ownBlock]))
  obtain ⟨v', W', h1, h2, h3, h4, h5⟩ := run_append_own_at (P := Tryz.prog) (W.alloc (.cells #[.bool N, .int .i64 x1, .int .i64 x2, .slice A n c] 35)) base 36 36 35 i0 _ 4 48 Tryz.underlying36 hi hz0 hz1 hz2 rfl (by omega)
    (.slice (some ⟨gv, 0, none⟩) ts.length k) ts.length cs hm1 ⟨W.heap.size, 0, none⟩ 1 1 [.bool N, .int .i64 x1, .int .i64 x2, .slice A n c] rfl
    (fun j u hu => by
      rw [add_flat, Nat.zero_add]
      have e1 : (W.alloc (.cells #[.bool N, .int .i64 x1, .int .i64 x2, .slice A n c] 35)).heap[W.heap.size]? = some (.cells #[.bool N, .int .i64 x1, .int .i64 x2, .slice A n c] 35 (0, 0)) := new_at rfl
      unfold World.cell?
      rw [e1]
      simpa using hu) (by intro u hu; simp only [List.mem_cons, List.not_mem_nil, or_false] at hu; rcases hu with rfl | rfl | rfl | rfl <;> rfl) (by unfold maxLen; omega) (by omega) (Nat.le_trans hb hal.size)
  have hgs : gv < W.heap.size := lt_of_heap hgv
  have hg : Grew W gv W' := ⟨h3.os.trans hal.os, h3.tape.trans hal.tape, h3.output.trans hal.output, Nat.le_trans hal.size h3.size, fun k hk hne => (h3.block k (by have := hal.size; omega) hne).trans (hal.block k hk)⟩
  obtain ⟨g', cap', cur', e', hb', hlt'⟩ : ∃ (g' cap' : Nat) (cur' : Array Value), v' = .slice (some ⟨g', 0, none⟩) (ts.length + 1) cap' ∧ base ≤ g' ∧ g' < W'.heap.size := by
    rcases h2.2 with ⟨-, h0⟩ | ⟨g', cap, cur, e, hb, hg, -⟩
    · omega
    · exact ⟨g', cap, cur, e, hb, lt_of_heap hg⟩
  subst e'
  have hor : g' = gv ∨ W.heap.size ≤ g' := by
    rcases h5 with h5 | h5
    · simp only [Value.ownBlock, Option.some.injEq] at h5; exact .inl h5
    · simp only [Value.ownBlock, Option.some.injEq] at h5; have := hal.size; exact .inr (by omega)
  have hfar : Far F F W W' := ⟨fun k hk hf => (World.grownBy.block hg k hk (fun e => by injection e with e; exact hFg k hf e)), fun k hk hf => hf⟩
  have hcl : cs.length = ts.length * 4 := hm.1
  refine ⟨g', cap', W', h1, ⟨cs ++ [.bool N, .int .i64 x1, .int .i64 x2, .slice A n c], by rw [List.length_append]; exact h2, fun j u hu => ?_⟩, hg, hor, hlt', cur, hgv⟩
  by_cases hj : j < ts.length
  · rw [List.getElem?_append_left hj] at hu
    obtain ⟨y, B, m, d, M, ⟨k0, k1, k2, k3⟩, hr⟩ := ha j u hu
    exact ⟨y, B, m, d, M, ⟨by rw [List.getElem?_append_left (by omega)]; exact k0, by rw [List.getElem?_append_left (by omega)]; exact k1, by rw [List.getElem?_append_left (by omega)]; exact k2, by rw [List.getElem?_append_left (by omega)]; exact k3⟩, hr.far hfar⟩
  · have h9 := (List.getElem?_eq_some_iff.1 hu).1
    simp at h9
    obtain rfl : j = ts.length := by omega
    rw [List.getElem?_append_right (Nat.le_refl _)] at hu
    simp at hu
    subst hu
    have at_ : ∀ (i : Nat) (z : Value), [Value.bool N, .int .i64 x1, .int .i64 x2, .slice A n c][i]? = some z → (cs ++ [Value.bool N, .int .i64 x1, .int .i64 x2, .slice A n c])[ts.length * 4 + i]? = some z := fun i z hi => by
      rw [List.getElem?_append_right (by omega), hcl, Nat.add_sub_cancel_left]
      exact hi
    exact ⟨(x1, x2), A, n, c, N, ⟨at_ 0 _ rfl, at_ 1 _ rfl, at_ 2 _ rfl, at_ 3 _ rfl⟩, ht.far hfar⟩

/-- The variable is written: by what holds then. -/
theorem wpList_store_w {ops : Array Oper} {rest : List Oper} {op : Oper} {a : Act} {w : World} {Q : Exit → Act → World → Prop} (hgd : op.guard = none) (x y : Operand) (ho : op.op = .store 35 x y)
    (b : Nat) (hx : a.eval x = .pointer (some ⟨b, 0, none⟩)) {x0 : Int × Int} {z1 z2 : Int} {A B : Option Addr} {n c m d : Nat} {N M : Bool} (hy : a.eval y = .agg #[.bool M, .int .i64 z1, .int .i64 z2, .slice B m d]) (H : QVar w b x0 A n c N)
    (h : ∀ w', QVar w' b (z1, z2) B m d M → Wrote1 b w w' → wpList Tryz.prog ops Q rest (a.put op.dst undef) w') : wpList Tryz.prog ops Q (op :: rest) a w := by
  refine wpList_store_mid hgd _ x y ho b 0 _ hx hy H.qd.there infoH4 (all_oneCell_toArray (cs := [.bool M, .int .i64 z1, .int .i64 z2, .slice B m d]) (by intro v hv; simp only [List.mem_cons, List.not_mem_nil, or_false] at hv; rcases hv with rfl | rfl | rfl | rfl <;> rfl)) ?_
  exact h _ (H.put z1 z2 B m d M) (Wrote1.four w b _ _ _ _)

/-- What stands at the head of a round: i acts are done. -/
structure PRel (w : World) (mb gu cu gv cv : Nat) (i : Nat) (ts : List Lh) (c m : Int) (W : World) : Prop where
  mt : MAt W (some mb) c m
  cm : 0 ≤ c ∧ c ≤ 10000 * (i : Int) ∧ 0 ≤ m ∧ m ≤ 10000 * (i : Int)
  hs : Heaps i ts
  uu : HCol W w.heap.size (.slice (some ⟨gu, 0, none⟩) (i + 1) cu) ts
  vv : WCol (FP gv mb gu mb mb) W w.heap.size (.slice (some ⟨gv, 0, none⟩) (i + 1) cv) ts
  bas : Bas w W
theorem PRel.caps {w W : World} {mb gu cu gv cv i : Nat} {ts : List Lh} {c m : Int} (h : PRel w mb gu cu gv cv i ts c m W) : (i + 1 ≤ cu ∧ cu ≤ 9223372036854775807) ∧ (i + 1 ≤ cv ∧ cv ≤ 9223372036854775807) ∧ (w.heap.size ≤ gu ∧ w.heap.size ≤ gv) := by
  have hl := h.hs.len
  obtain ⟨g1, k1, _, e1, b1, -, c1, d1, -⟩ := h.uu.blk (by omega)
  obtain ⟨g2, k2, _, e2, b2, -, c2, d2, -⟩ := h.vv.blk (by omega)
  rw [hl] at e1 e2 c1 c2
  cases e1; cases e2
  exact ⟨⟨by omega, d1⟩, ⟨by omega, d2⟩, b1, b2⟩
theorem PRel.start {w W : World} {mb : Nat} (hm : MAt W (some mb) 0 0) (hb : Bas w W) (he : Env w) :
    PRel w mb W.heap.size 1 (W.heap.size + 1) 1 0 [.nil] 0 0 ((W.alloc (.cells #[.pointer none] 29)).alloc (.cells #[.bool false, .int .i64 0, .int .i64 0, .slice none 0 0] 35)) := by
  have hs := hb.below.size
  have e1 : (W.alloc (.cells #[.pointer none] 29)).heap.size = W.heap.size + 1 := by simp
  have u1 := Col.first (fun p => .pointer p) 29 (fun W p t => LAt W t p) W w.heap.size hs none .nil (LAt.none _)
  have u2 := WCol.first (FP (W.heap.size + 1) mb W.heap.size mb mb) (W.alloc (.cells #[.pointer none] 29)) w.heap.size (by omega)
  rw [e1] at u2
  refine ⟨(hm.alloc _).alloc _, ⟨by omega, by omega, by omega, by omega⟩, Heaps.start, ?_, u2, ?_⟩
  · exact HCol.bt (mo := none) (c := 0) (m := 0) u1 ((Bt.refl _ _).alloc _) trivial
  · exact hb.bt he (mo := none) (((Bt.refl _ _).alloc _).alloc _) (fun _ e => by cases e)

/-- In the midst of a round: the new heap t is made, and is in its variable. -/
structure Mid (w : World) (mb gu cu gv cv L bH bW : Nat) (ts : List Lh) (c m : Int) (t : Lh) (ph : Option Addr) (W : World) : Prop where
  mt : MAt W (some mb) c m
  uu : HCol W w.heap.size (.slice (some ⟨gu, 0, none⟩) L cu) ts
  vv : WCol (FP gv mb gu bW bH) W w.heap.size (.slice (some ⟨gv, 0, none⟩) L cv) ts
  bas : Bas w W
  tt : LAt W t ph
  hv : HVar W bH ph
  base : w.heap.size ≤ gu ∧ w.heap.size ≤ gv ∧ w.heap.size ≤ bW
  ne : bH ≠ gu ∧ bW ≠ gv
section
variable {w W W' : World} {mb gu cu gv cv L bH bW : Nat} {ts : List Lh} {c m : Int} {t : Lh} {ph : Option Addr}
theorem Mid.stay (h : Mid w mb gu cu gv cv L bH bW ts c m t ph W) (he : Env w) (hb : Below W.heap.size W W') : Mid w mb gu cu gv cv L bH bW ts c m t ph W' :=
  have k : Bt (some mb) W W' := Bt.ofBelow hb
  ⟨h.mt.stay hb, h.uu.bt k h.mt, h.vv.bt k h.mt, ⟨h.bas.below.trans (hb.mono h.bas.below.size), he.below (h.bas.below.trans (hb.mono h.bas.below.size))⟩, h.tt.bt k h.mt, h.hv.bt k h.mt, h.base, h.ne⟩
theorem Mid.wrote (h : Mid w mb gu cu gv cv L bH bW ts c m t ph W) (he : Env w) {x : Int × Int} {A : Option Addr} {n k : Nat} {N : Bool} (hW : QVar W bW x A n k N) (hw : Wrote1 bW W W') : Mid w mb gu cu gv cv L bH bW ts c m t ph W' := by
  have hbl := hw.below h.bas.below h.base.2.2
  refine ⟨?_, ?_, ?_, ⟨hbl, he.below hbl⟩, h.tt.kps (hw.kpt hW refT_ne) (by rw [hw.size]; exact Nat.le_refl _), (hw.keep bH (types_ne h.hv hW (by decide))).trans h.hv, h.base, h.ne⟩
  · exact (hw.keep mb (types_ne (show W.heap[mb]? = _ from h.mt) hW (by decide))).trans h.mt
  · exact h.uu.keep (fun g cur e hg => hw.keep g (types_ne hg hW (by decide))) (fun _ _ ht => LAt.kps ht (hw.kpt hW refT_ne) (by rw [hw.size]; exact Nat.le_refl _))
  · refine h.vv.keep (fun g cur e hg => ?_) (fun _ _ _ _ _ _ hr => hr.far ⟨fun k _ hf => hw.keep k hf.2.2.2.1, fun _ _ hf => hf⟩)
    simp only [Value.ownBlock, Option.some.injEq] at e
    subst e
    exact hw.keep _ (fun e => h.ne.2 e.symm)
/-- The two slices, one heap more each. -/
theorem plays_push {i : Nat} {z1 z2 : Int} {A : Option Addr} {n k : Nat} {N : Bool} (he : Env w) (hL : L = i + 1) (hi : i < 30) (hM : Mid w mb gu cu gv cv L bH bW ts c m t ph W) (hcm : 0 ≤ c ∧ c ≤ 10000 * ((i + 1 : Nat) : Int) ∧ 0 ≤ m ∧ m ≤ 10000 * ((i + 1 : Nat) : Int)) (hs : Heaps i ts) (h1 : t.size ≤ 121) (h2 : t.good)
    (hR : RAt (FP gv mb gu bW bH) W t (z1, z2) A n k N) (hW : QVar W bW (z1, z2) A n k N) :
    ∃ g1 c1 W1 g2 c2 W2, (Builtin.append_ #[30, 30] 30 #[.slice (some ⟨gu, 0, none⟩) L cu, .slice (some ⟨W.heap.size, 0, none⟩) 1 1]).run Tryz.prog (W.alloc (.cells #[.pointer ph] 29)) = .ok (.slice (some ⟨g1, 0, none⟩) (L + 1) c1) W1 ∧
      QVar W1 bW (z1, z2) A n k N ∧
      (Builtin.append_ #[36, 36] 36 #[.slice (some ⟨gv, 0, none⟩) L cv, .slice (some ⟨W1.heap.size, 0, none⟩) 1 1]).run Tryz.prog (W1.alloc (.cells #[.bool N, .int .i64 z1, .int .i64 z2, .slice A n k] 35)) = .ok (.slice (some ⟨g2, 0, none⟩) (L + 1) c2) W2 ∧
      PRel w mb g1 c1 g2 c2 (i + 1) (ts ++ [t]) c m W2 := by
  subst hL
  have hlen := hs.len
  have hgv : ∃ cur, W.heap[gv]? = some (.cells cur 35 (0, 0)) := by
    obtain ⟨g, k, cur, e, -, -, -, -, hh⟩ := hM.vv.blk (by omega)
    rw [hlen] at e; cases e; exact ⟨cur, hh⟩
  obtain ⟨curv, hgv⟩ := hgv
  obtain ⟨g1, c1, W1, r1, U1, G1, o1, l1, cur1, hc1⟩ := HCol.push hM.uu hM.bas.below.size (by omega) hM.tt
  have hvu : gv ≠ gu := types_ne hgv hc1 (by decide)
  have B1 := G1.bas hM.bas he hM.base.1
  have W1v : QVar W1 bW (z1, z2) A n k N := G1.heap hW (types_ne hW hc1 (by decide))
  -- the heaps' blocks lie ahead of the world that the first slice grew into
  have hf0 : Far (FP gv mb gu bW bH) (fun k => FP gv mb g1 bW bH k ∧ k < W1.heap.size) W W1 := ⟨fun k hk hf => World.grownBy.block G1 k hk (fun e => by injection e with e; exact hf.2.2.1 e), fun k hk hf => ⟨⟨hf.1, hf.2.1, by rcases o1 with e | e <;> (have := hf.2.2.1; omega), hf.2.2.2.1, hf.2.2.2.2⟩, Nat.lt_of_lt_of_le hk (World.grownBy.size G1)⟩⟩
  have V0 : WCol (fun k => FP gv mb g1 bW bH k ∧ k < W1.heap.size) W1 w.heap.size (.slice (some ⟨gv, 0, none⟩) (i + 1) cv) ts := hM.vv.keep (fun g cur e hg => by
    simp only [Value.ownBlock, Option.some.injEq] at e
    subst e
    exact (G1.heap hg hvu).trans hg.symm) (fun _ _ _ _ _ _ hr => hr.far hf0)
  have n1v : g1 ≠ gv := by have := lt_of_heap hgv; rcases o1 with e | e <;> omega
  obtain ⟨g2, c2, W2, r2, V2, G2, o2, l2, cur2, hc2⟩ := WCol.push (fun k hf => hf.1.1) V0 B1.below.size (by omega) (hR.far hf0)
  have U2 := G2.hcol hc2 refT_ne n1v U1
  have V3 : WCol (FP g2 mb g1 mb mb) W2 w.heap.size (.slice (some ⟨g2, 0, none⟩) (i + 1 + 1) c2) (ts ++ [t]) := V2.keep (fun _ _ _ _ => rfl) (fun _ _ _ _ _ _ hr => hr.weak (fun k _ hf => ⟨by rcases o2 with e | e <;> (have := hf.1.1; have := hf.2; omega), hf.1.2.1, hf.1.2.2.1, hf.1.2.1, hf.1.2.1⟩))
  exact ⟨g1, c1, W1, g2, c2, W2, r1, W1v, r2, G2.mat hc2 (by decide) (G1.mat hc1 (by decide) hM.mt), hcm, hs.snoc h1 h2, U2, V3, G2.bas B1 he hM.base.2.1⟩
end

/-- Is there an element: is the size more than 0? -/
theorem some_size (t : Lh) : decide ((0 : Int) < (t.size : Int)) = t.some := by
  rw [some_pos]
  simp
theorem some_size' (t : Lh) : decide (0 < t.size) = t.some := (some_pos t).symm

end Go.Proofs.YtlmokendajgbdaaGreatDoor.Bo.Zr
