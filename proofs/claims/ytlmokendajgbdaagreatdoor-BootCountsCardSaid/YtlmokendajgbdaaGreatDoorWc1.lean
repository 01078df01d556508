/-
  Columns of heaps and of rows: where only a meter turns, where a heap's variable is written, where another column grows; one heap, one row more. No conditions beyond what each theorem says.
-/
import Derived.Test.YtlmokendajgbdaaGreatDoorWagain0
import Derived.Test.YtlmokendajgbdaaGreatDoorWof
import Derived.Test.YtlmokendajgbdaaGreatDoorTgg
import Derived.Deep.LoopGhost
namespace Go.Proofs.YtlmokendajgbdaaGreatDoor.Bo
open Go.Sort Go.RowKit

theorem infoH : (Tryz.prog.info? 29).map (fun i => (i.zero, i.size, i.bytes)) = some (some (.agg #[.pointer none]), 1, 8) := by kernel_rfl
theorem infoS : (Tryz.prog.info? 37).map (fun i => (i.zero, i.size, i.bytes)) = some (some (.slice none 0 0), 1, 24) := by kernel_rfl

/-- A column of heaps. -/
abbrev HCol (W : World) (base : Nat) (v : Value) (ts : List Lh) : Prop := Col (fun p : Option Addr => .pointer p) 29 (fun (W : World) (p : Option Addr) (t : Lh) => LAt W t p) W base v ts
/-- A column of rows: each one its heap's elements in order. -/
abbrev SCol (W : World) (base : Nat) (v : Value) (ts : List Lh) : Prop := Col (fun z => z) 37 (fun (W : World) (z : Value) (t : Lh) => Rw W z (srt t.all)) W base v ts
theorem rowT_ne : ¬ NodeT 37 := by unfold NodeT Hp.NodeT TreeT; decide

section
variable {W W' : World} {base : Nat} {v : Value} {ts : List Lh} {mo : Option Nat} {c m : Int}
theorem HCol.bt (h : HCol W base v ts) (hb : Bt mo W W') (hm : MAt W mo c m) : HCol W' base v ts :=
  h.keep (fun _ _ _ hg => (hb.row hm hg (by decide)).trans hg.symm) (fun _ _ ht => ht.bt hb hm)
theorem SCol.bt (h : SCol W base v ts) (hb : Bt mo W W') (hm : MAt W mo c m) : SCol W' base v ts :=
  h.keep (fun _ _ _ hg => (hb.row hm hg (by decide)).trans hg.symm) (fun _ _ ht => ht.bt hb hm)
theorem HCol.set {g n k : Nat} (h : HCol W base (.slice (some ⟨g, 0, none⟩) n k) ts) {b : Nat} {q : Option Addr} (hv : HVar W b q) (hne : b ≠ g) (u : Value) : HCol (W.setCell ⟨b, 0, none⟩ u) base (.slice (some ⟨g, 0, none⟩) n k) ts :=
  h.keep (fun g' _ e _ => by simp only [Value.ownBlock, Option.some.injEq] at e; subst e; exact Below.heap_setCell W ⟨b, 0, none⟩ u g (fun e => hne e.symm)) (fun _ _ ht => ht.set hv u)
theorem SCol.set (h : SCol W base v ts) {b : Nat} {q : Option Addr} (hv : HVar W b q) (u : Value) : SCol (W.setCell ⟨b, 0, none⟩ u) base v ts :=
  h.keep (fun g' _ _ hg => Below.heap_setCell W ⟨b, 0, none⟩ u g' (fun e => by
    subst e
    rw [show W.heap[g']? = _ from hv] at hg
    injection hg with hg
    injection hg with _ hg
    exact absurd hg (by decide))) (fun _ _ ht => ht.set hv u)

/-- Where a block grows that is no node's, no element's. -/
theorem _root_.Go.Proofs.YtlmokendajgbdaaGreatDoor.Grew.lat {g : Nat} {cur : Array Value} {ty : TypeId} (h : Grew W g W') (hg : W.heap[g]? = some (.cells cur ty (0, 0))) (hn : ¬ NodeT ty) {t : Lh} {p : Option Addr} (ht : LAt W t p) : LAt W' t p :=
  ht.kps (Kpt.grown h (fun k e cs t' hk => by injection e with e; subst e; rw [hg] at hk; cases hk; exact hn)) h.size
theorem _root_.Go.Proofs.YtlmokendajgbdaaGreatDoor.Grew.rw {g : Nat} {cur : Array Value} {ty : TypeId} (h : Grew W g W') (hg : W.heap[g]? = some (.cells cur ty (0, 0))) (hn : ty ≠ 32) {z : Value} {xs : List (Int × Int)} (hz : Rw W z xs) : Rw W' z xs := by
  rcases hz with hz | ⟨b, o, k, cs, hv, h1, h2, h3, h4⟩
  · exact .inl hz
  · exact .inr ⟨b, o, k, cs, hv, h1, h2, h.heap h3 (fun e => by subst e; rw [hg] at h3; cases h3; exact hn rfl), h4⟩
theorem _root_.Go.Proofs.YtlmokendajgbdaaGreatDoor.Grew.hcol {g g2 n k : Nat} {cur : Array Value} {ty : TypeId} (h : Grew W g W') (hg : W.heap[g]? = some (.cells cur ty (0, 0))) (hn : ¬ NodeT ty) (hne : g2 ≠ g) (hc : HCol W base (.slice (some ⟨g2, 0, none⟩) n k) ts) : HCol W' base (.slice (some ⟨g2, 0, none⟩) n k) ts :=
  hc.keep (fun g' _ e hg' => by simp only [Value.ownBlock, Option.some.injEq] at e; subst e; exact (h.heap hg' hne).trans hg'.symm) (fun _ _ ht => h.lat hg hn ht)
theorem _root_.Go.Proofs.YtlmokendajgbdaaGreatDoor.Grew.scol {g g2 n k : Nat} {cur : Array Value} {ty : TypeId} (h : Grew W g W') (hg : W.heap[g]? = some (.cells cur ty (0, 0))) (hn : ty ≠ 32) (hne : g2 ≠ g) (hc : SCol W base (.slice (some ⟨g2, 0, none⟩) n k) ts) : SCol W' base (.slice (some ⟨g2, 0, none⟩) n k) ts :=
  hc.keep (fun g' _ e hg' => by simp only [Value.ownBlock, Option.some.injEq] at e; subst e; exact (h.heap hg' hne).trans hg'.symm) (fun _ _ ht => h.rw hg hn ht)
theorem _root_.Go.Proofs.YtlmokendajgbdaaGreatDoor.Grew.hvar {g b : Nat} {p : Option Addr} (h : Grew W g W') (hne : b ≠ g) (hv : HVar W b p) : HVar W' b p := h.heap hv hne
theorem _root_.Go.Proofs.YtlmokendajgbdaaGreatDoor.Grew.mat {g : Nat} {cur : Array Value} {ty : TypeId} (h : Grew W g W') (hg : W.heap[g]? = some (.cells cur ty (0, 0))) (hn : ty ≠ 78) (hm : MAt W mo c m) : MAt W' mo c m := by
  cases mo with
  | none => trivial
  | some b => exact h.heap (show W.heap[b]? = _ from hm) (fun e => (hm.ne hg hn rfl) e.symm)
theorem _root_.Go.Proofs.YtlmokendajgbdaaGreatDoor.Grew.bas {w : World} {g : Nat} (h : Grew W g W') (hb : Bas w W) (he : Env w) (hg : w.heap.size ≤ g) : Bas w W' := ⟨h.below hb.below hb.below.size hg, he.below (h.below hb.below hb.below.size hg)⟩

/-- One heap more. -/
theorem HCol.push {g L k : Nat} (h : HCol W base (.slice (some ⟨g, 0, none⟩) L k) ts) (hb : base ≤ W.heap.size) (hl : L < 1000000) {p : Option Addr} {t : Lh} (ht : LAt W t p) :
    ∃ g' c' W', (Builtin.append_ #[30, 30] 30 #[.slice (some ⟨g, 0, none⟩) L k, .slice (some ⟨W.heap.size, 0, none⟩) 1 1]).run Tryz.prog (W.alloc (.cells #[.pointer p] 29)) = .ok (.slice (some ⟨g', 0, none⟩) (L + 1) c') W' ∧
      HCol W' base (.slice (some ⟨g', 0, none⟩) (L + 1) c') (ts ++ [t]) ∧ Grew W g W' ∧ (g' = g ∨ W.heap.size ≤ g') ∧ g' < W'.heap.size ∧ ∃ cur, W.heap[g]? = some (.cells cur 29 (0, 0)) := by
  obtain ⟨i0, hi, hz0, hz1, hz2⟩ := info_parts infoH
  have hown : ∃ cur, W.heap[g]? = some (.cells cur 29 (0, 0)) := by
    obtain ⟨xs, hm, -⟩ := h
    rcases hm.2 with ⟨e, -⟩ | ⟨g', cap, cur, e, -, hg, -⟩
    · cases e
    · cases e; exact ⟨cur, hg⟩
  obtain ⟨cur, hg⟩ := hown
  obtain ⟨g', c', W', h1, h2, h3, h4, h5⟩ := Col.push Tryz.underlying30 hi hz0 hz1 hz2 rfl (by omega) h hb hl p t rfl ht (fun W' hG x t' hx => hG.lat hg heapT_ne hx)
  exact ⟨g', c', W', h1, h2, h3, h4, h5, cur, hg⟩
/-- One row more. -/
theorem SCol.push {g L k : Nat} (h : SCol W base (.slice (some ⟨g, 0, none⟩) L k) ts) (hb : base ≤ W.heap.size) (hl : L < 1000000) {z : Value} {t : Lh} (hz1 : z.oneCell' = true) (ht : Rw W z (srt t.all)) :
    ∃ g' c' W', (Builtin.append_ #[62, 62] 62 #[.slice (some ⟨g, 0, none⟩) L k, .slice (some ⟨W.heap.size, 0, none⟩) 1 1]).run Tryz.prog (W.alloc (.cells #[z] 37)) = .ok (.slice (some ⟨g', 0, none⟩) (L + 1) c') W' ∧
      SCol W' base (.slice (some ⟨g', 0, none⟩) (L + 1) c') (ts ++ [t]) ∧ Grew W g W' ∧ (g' = g ∨ W.heap.size ≤ g') ∧ g' < W'.heap.size ∧ ∃ cur, W.heap[g]? = some (.cells cur 37 (0, 0)) := by
  obtain ⟨i0, hi, hz0, hz1', hz2⟩ := info_parts infoS
  have hown : ∃ cur, W.heap[g]? = some (.cells cur 37 (0, 0)) := by
    obtain ⟨xs, hm, -⟩ := h
    rcases hm.2 with ⟨e, -⟩ | ⟨g', cap, cur, e, -, hg, -⟩
    · cases e
    · cases e; exact ⟨cur, hg⟩
  obtain ⟨cur, hg⟩ := hown
  obtain ⟨g', c', W', h1, h2, h3, h4, h5⟩ := Col.push Tryz.underlying62 hi hz0 hz1' hz2 rfl (by omega) h hb hl z t hz1 ht (fun W' hG x t' hx => hG.rw hg (by decide) hx)
  exact ⟨g', c', W', h1, h2, h3, h4, h5, cur, hg⟩
end

/-- What heaps there are at the head of the round of i: small ones, of 64-bit numbers. -/
structure Heaps (i : Nat) (ts : List Lh) : Prop where
  len : ts.length = i + 1
  small : ∀ t ∈ ts, t.size ≤ 121
  good : ∀ t ∈ ts, t.good
theorem Heaps.start : Heaps 0 [.nil] := ⟨rfl, by intro t h; simp at h; subst h; simp [Lh.size], by intro t h; simp at h; subst h; exact good_nil⟩
theorem Heaps.snoc {i : Nat} {ts : List Lh} (h : Heaps i ts) {t : Lh} (h1 : t.size ≤ 121) (h2 : t.good) : Heaps (i + 1) (ts ++ [t]) :=
  ⟨by simp [h.len], fun s hs => by
    rcases List.mem_append.1 hs with hs | hs
    · exact h.small s hs
    · simp at hs; subst hs; exact h1, fun s hs => by
    rcases List.mem_append.1 hs with hs | hs
    · exact h.good s hs
    · simp at hs; subst hs; exact h2⟩
theorem Heaps.at {i : Nat} {ts : List Lh} (h : Heaps i ts) {j : Nat} (hj : j < i + 1) : ∃ t, ts[j]? = some t ∧ t.size ≤ 121 ∧ t.good := by
  have hl : j < ts.length := by rw [h.len]; exact hj
  exact ⟨ts[j], List.getElem?_eq_getElem hl, h.small _ (List.getElem_mem _), h.good _ (List.getElem_mem _)⟩

theorem _root_.Go.Proofs.YtlmokendajgbdaaGreatDoor.BCell.set {W : World} {g j : Nat} {e : TypeId} {v : Value} (h : BCell W g e j v) {b : Nat} (hne : g ≠ b) (off : Nat) (u : Value) : BCell (W.setCell ⟨b, off, none⟩ u) g e j v := h.keep (heap_other _ _ hne)
/-- What stands at the head of a round: i acts are done. -/
structure CRel (w : World) (mb gu cu gv cv gs cs : Nat) (i : Nat) (ts : List Lh) (c m : Int) (W : World) : Prop where
  mt : MAt W (some mb) c m
  cm : 0 ≤ c ∧ c ≤ 10000 * (i : Int) ∧ 0 ≤ m ∧ m ≤ 10000 * (i : Int)
  hs : Heaps i ts
  uu : HCol W w.heap.size (.slice (some ⟨gu, 0, none⟩) (i + 1) cu) ts
  vv : HCol W w.heap.size (.slice (some ⟨gv, 0, none⟩) (i + 1) cv) ts
  ss : SCol W w.heap.size (.slice (some ⟨gs, 0, none⟩) (i + 1) cs) ts
  ne : gu ≠ gv
  bas : Bas w W
theorem CRel.caps {w W : World} {mb gu cu gv cv gs cs i : Nat} {ts : List Lh} {c m : Int} (h : CRel w mb gu cu gv cv gs cs i ts c m W) : (i + 1 ≤ cu ∧ cu ≤ 9223372036854775807) ∧ (i + 1 ≤ cv ∧ cv ≤ 9223372036854775807) ∧ (i + 1 ≤ cs ∧ cs ≤ 9223372036854775807) ∧ (w.heap.size ≤ gu ∧ w.heap.size ≤ gv ∧ w.heap.size ≤ gs) := by
  have hl := h.hs.len
  obtain ⟨g1, k1, _, e1, b1, -, c1, d1, -⟩ := h.uu.blk (by omega)
  obtain ⟨g2, k2, _, e2, b2, -, c2, d2, -⟩ := h.vv.blk (by omega)
  obtain ⟨g3, k3, _, e3, b3, -, c3, d3, -⟩ := h.ss.blk (by omega)
  rw [hl] at e1 e2 e3 c1 c2 c3
  cases e1; cases e2; cases e3
  exact ⟨⟨by omega, d1⟩, ⟨by omega, d2⟩, ⟨by omega, d3⟩, b1, b2, b3⟩
theorem CRel.start {w W : World} {mb : Nat} (hm : MAt W (some mb) 0 0) (hb : Bas w W) (he : Env w) :
    CRel w mb W.heap.size 1 (W.heap.size + 1) 1 (W.heap.size + 2) 1 0 [.nil] 0 0 (((W.alloc (.cells #[.pointer none] 29)).alloc (.cells #[.pointer none] 29)).alloc (.cells #[.slice none 0 0] 37)) := by
  have hs := hb.below.size
  have e1 : (W.alloc (.cells #[.pointer none] 29)).heap.size = W.heap.size + 1 := by simp
  have e2 : ((W.alloc (.cells #[.pointer none] 29)).alloc (.cells #[.pointer none] 29)).heap.size = W.heap.size + 2 := by simp
  have u1 := Col.first (fun p : Option Addr => .pointer p) 29 (fun (W : World) (p : Option Addr) (t : Lh) => LAt W t p) W w.heap.size hs none .nil (LAt.none _)
  have u2 := Col.first (fun p : Option Addr => .pointer p) 29 (fun (W : World) (p : Option Addr) (t : Lh) => LAt W t p) (W.alloc (.cells #[.pointer none] 29)) w.heap.size (by omega) none .nil (LAt.none _)
  have u3 := Col.first (fun z : Value => z) 37 (fun (W : World) (z : Value) (t : Lh) => Rw W z (srt t.all)) ((W.alloc (.cells #[.pointer none] 29)).alloc (.cells #[.pointer none] 29)) w.heap.size (by omega) (.slice none 0 0) .nil (by rw [show srt Lh.nil.all = [] from srt_nil]; exact Rw.none _)
  rw [e1] at u2
  rw [e2] at u3
  have b3 : Bt (some mb) W (((W.alloc (.cells #[.pointer none] 29)).alloc (.cells #[.pointer none] 29)).alloc (.cells #[.slice none 0 0] 37)) := (((Bt.refl _ _).alloc _).alloc _).alloc _
  refine ⟨((hm.alloc _).alloc _).alloc _, ⟨by omega, by omega, by omega, by omega⟩, Heaps.start, ?_, ?_, u3, by omega, ?_⟩
  · exact HCol.bt (mo := none) (c := 0) (m := 0) (HCol.bt (mo := none) (c := 0) (m := 0) u1 ((Bt.refl _ _).alloc _) trivial) ((Bt.refl _ _).alloc _) trivial
  · exact HCol.bt (mo := none) (c := 0) (m := 0) u2 ((Bt.refl _ _).alloc _) trivial
  · exact hb.bt he (mo := none) (((Bt.refl _ _).alloc _).alloc _ |>.alloc _) (fun _ e => by cases e)

theorem _root_.Go.Proofs.YtlmokendajgbdaaGreatDoor.BCell.ne {W : World} {g g' j j' : Nat} {e e' : TypeId} {v v' : Value} (h : BCell W g e j v) (h' : BCell W g' e' j' v') (he : e ≠ e') : g ≠ g' := by
  rintro rfl
  obtain ⟨cur, h1, -⟩ := h
  obtain ⟨cur', h2, -⟩ := h'
  rw [h1] at h2
  cases h2
  exact he rfl
set_option maxHeartbeats 1000000 in
/-- The three slices, one heap more each. -/
theorem counts_push {w W : World} {mb gu cu gv cv gs cs i L bG : Nat} {ts : List Lh} {c m : Int} {t : Lh} {ph pg : Option Addr} {z : Value} (he : Env w) (hL : L = i + 1) (hi : i < 30) (hm : MAt W (some mb) c m) (hcm : 0 ≤ c ∧ c ≤ 10000 * ((i + 1 : Nat) : Int) ∧ 0 ≤ m ∧ m ≤ 10000 * ((i + 1 : Nat) : Int)) (hs : Heaps i ts) (h1 : t.size ≤ 121) (h2 : t.good)
    (hU : HCol W w.heap.size (.slice (some ⟨gu, 0, none⟩) L cu) ts) (hV : HCol W w.heap.size (.slice (some ⟨gv, 0, none⟩) L cv) ts) (hS : SCol W w.heap.size (.slice (some ⟨gs, 0, none⟩) L cs) ts) (hb : Bas w W)
    (hown : w.heap.size ≤ gu ∧ w.heap.size ≤ gv ∧ w.heap.size ≤ gs ∧ gu ≠ gv) (hT : LAt W t ph) (hT2 : LAt W t pg) (hz1 : z.oneCell' = true) (hz : Rw W z (srt t.all)) (hvG : HVar W bG pg) (hbG : bG ≠ gu) :
    ∃ g1 c1 W1 g2 c2 W2 g3 c3 W3, (Builtin.append_ #[30, 30] 30 #[.slice (some ⟨gu, 0, none⟩) L cu, .slice (some ⟨W.heap.size, 0, none⟩) 1 1]).run Tryz.prog (W.alloc (.cells #[.pointer ph] 29)) = .ok (.slice (some ⟨g1, 0, none⟩) (L + 1) c1) W1 ∧
      W1.cell? ⟨bG, 0, none⟩ = some (.pointer pg) ∧
      (Builtin.append_ #[30, 30] 30 #[.slice (some ⟨gv, 0, none⟩) L cv, .slice (some ⟨W1.heap.size, 0, none⟩) 1 1]).run Tryz.prog (W1.alloc (.cells #[.pointer pg] 29)) = .ok (.slice (some ⟨g2, 0, none⟩) (L + 1) c2) W2 ∧
      (Builtin.append_ #[62, 62] 62 #[.slice (some ⟨gs, 0, none⟩) L cs, .slice (some ⟨W2.heap.size, 0, none⟩) 1 1]).run Tryz.prog (W2.alloc (.cells #[z] 37)) = .ok (.slice (some ⟨g3, 0, none⟩) (L + 1) c3) W3 ∧
      CRel w mb g1 c1 g2 c2 g3 c3 (i + 1) (ts ++ [t]) c m W3 := by
  subst hL
  have hlen := hs.len
  have hgs : ∃ cur, W.heap[gs]? = some (.cells cur 37 (0, 0)) := by
    obtain ⟨g, k, cur, e, -, -, -, -, hh⟩ := hS.blk (by omega)
    rw [hlen] at e; cases e; exact ⟨cur, hh⟩
  obtain ⟨curs, hgs⟩ := hgs
  have hgv : gv < W.heap.size := by
    obtain ⟨g, k, cur, e, -, hh, -⟩ := hV.blk (by omega)
    rw [hlen] at e; cases e; exact hh
  obtain ⟨g1, c1, W1, r1, U1, G1, o1, l1, cur1, hc1⟩ := HCol.push hU hb.below.size (by omega) hT
  have hsu : gs ≠ gu := by rintro rfl; rw [hgs] at hc1; cases hc1
  have V1 := G1.hcol hc1 heapT_ne (fun e => hown.2.2.2 e.symm) hV
  have S1 := G1.scol hc1 (by decide) hsu hS
  have B1 := G1.bas hb he hown.1
  have gs1 := G1.heap hgs hsu
  obtain ⟨g2, c2, W2, r2, V2, G2, o2, l2, cur2, hc2⟩ := HCol.push V1 B1.below.size (by omega) (G1.lat hc1 heapT_ne hT2)
  have hsv : gs ≠ gv := by rintro rfl; rw [gs1] at hc2; cases hc2
  have n1v : g1 ≠ gv := by rcases o1 with e | e <;> omega
  have n1s : g1 ≠ gs := by have := lt_of_heap hgs; rcases o1 with e | e <;> omega
  have n12 : g1 ≠ g2 := by rcases o2 with e | e <;> omega
  have n2s : g2 ≠ gs := by have := lt_of_heap gs1; rcases o2 with e | e <;> omega
  have U2 := G2.hcol hc2 heapT_ne n1v U1
  have S2 := G2.scol hc2 (by decide) hsv S1
  have B2 := G2.bas B1 he hown.2.1
  obtain ⟨g3, c3, W3, r3, S3, G3, o3, l3, cur3, hc3⟩ := SCol.push S2 B2.below.size (by omega) hz1 (G2.rw hc2 (by decide) (G1.rw hc1 (by decide) hz))
  refine ⟨g1, c1, W1, g2, c2, W2, g3, c3, W3, r1, (G1.hvar hbG hvG).c0, r2, r3, ?_⟩
  exact ⟨G3.mat hc3 (by decide) (G2.mat hc2 (by decide) (G1.mat hc1 (by decide) hm)), hcm, hs.snoc h1 h2, G3.hcol hc3 rowT_ne n1s U2, G3.hcol hc3 rowT_ne n2s V2, S3, n12, G3.bas B2 he hown.2.2.1⟩

/-- What is left of a row when the least one is taken out. -/
theorem rw_none {W : World} {v : Value} {t : Lh} (h : Rw W v (srt t.all)) (h0 : t.size = 0) : Rw W v (srt t.pop.all) := by
  cases t with
  | nil => exact h
  | node x o => rw [show (Lh.node x o).size = ((Gn.bAll o).flatMap Lh.els).length + 1 from rfl] at h0; omega
theorem rw_tail {W : World} {A : Option Addr} {n k : Nat} {t : Lh} (h : Rw W (.slice A n k) (srt t.all)) (hn : n = t.size) (hok : t.ok) (h0 : 0 < n) : ∃ b o, A = some ⟨b, o, none⟩ ∧ (k = 1 → Rw W (.slice (some ⟨b, o, none⟩) 0 0) (srt t.pop.all)) ∧ Rw W (.slice (some ⟨b, o + 1 * 2, none⟩) (n - 1) (k - 1)) (srt t.pop.all) := by
  have hl : (srt t.all).length = n := by rw [srt_length, Lh.all_length, hn]
  obtain ⟨b, o, c, e, h1, h2, h3⟩ := h.rest (fun e => by rw [e] at hl; simp at hl; omega)
  rw [hl] at e h1
  cases e
  have h4 := h3 W (Below.refl _ _)
  rw [srt_pop hok]
  refine ⟨b, o, rfl, fun e => ?_, hl ▸ h4.2⟩
  have e2 : (srt t.all).tail = [] := List.eq_nil_of_length_eq_zero (by rw [List.length_tail, hl]; omega)
  rw [e2]
  exact h4.1

end Go.Proofs.YtlmokendajgbdaaGreatDoor.Bo
