/-
  The reference's heaps beside the program's: one of them, all of them as a slice, a variable that is written whole; what stands at the head of a round, and in the midst of one; both slices grow by one. No conditions beyond what each theorem says.
-/
import Derived.Test.YtlaohkflnkjamaaGreatDoorSc2
import Derived.Test.YtlaohkflnkjamaaGreatDoorSr3
import Derived.Deep.RegionHeld3
namespace Go.Proofs.YtlaohkflnkjamaaGreatDoor.Hp
open Go.Sort Go.RowKit

theorem refT_ne : ¬ NodeT 35 := by unfold NodeT TreeT; decide
/-- Blocks that are not the slices', nor the meter's, nor two variables'. -/
def FP (gv mb gu b b' : Nat) (k : Nat) : Prop := k ≠ gv ∧ k ≠ mb ∧ k ≠ gu ∧ k ≠ b ∧ k ≠ b'
/-- A heap of the reference's that says t. -/
def RAt (gv mb gu b b' : Nat) (W : World) (t : Lh) (A : Option Addr) (n c : Nat) : Prop := HAt (FP gv mb gu b b') W t.ts A n c
/-- The slice of the reference's heaps. -/
def RCol (gv mb gu b b' : Nat) (W : World) (base : Nat) (v : Value) (ts : List Lh) : Prop := WCol (FP gv mb gu b b') W base v (ts.map Lh.ts)
/-- A variable is written, whole: a world in which that block alone has turned. -/
structure Wrote1 (b : Nat) (W W' : World) : Prop where
  os : W'.os = W.os
  tape : W'.tape = W.tape
  output : W'.output = W.output
  size : W'.heap.size = W.heap.size
  keep : ∀ k, k ≠ b → W'.heap[k]? = W.heap[k]?
section
variable {W W' : World} {gv mb gu b b' base n c L : Nat} {t : Lh} {A : Option Addr} {v : Value} {ts : List Lh} {mo : Option Nat} {cm mm : Int}
theorem Wrote1.set (W : World) (b : Nat) (u : Value) : Wrote1 b W (W.setCell ⟨b, 0, none⟩ u) := ⟨rfl, rfl, rfl, by simp [World.setCell], fun k hk => Below.heap_setCell W ⟨b, 0, none⟩ u k hk⟩
theorem Wrote1.below {B : Nat} {u : World} (h : Wrote1 b W W') (hb : Below B u W) (hB : B ≤ b) : Below B u W' :=
  ⟨h.os.trans hb.os, h.tape.trans hb.tape, h.output.trans hb.output, by rw [h.size]; exact hb.size, fun k hk => (h.keep k (by omega)).trans (hb.block k hk)⟩
theorem Wrote1.kpt {cs : Array Value} {ty : TypeId} {z : Nat × Nat} {N : TypeId → Prop} (h : Wrote1 b W W') (hb : W.heap[b]? = some (.cells cs ty z)) (hn : ¬ N ty) : Kpt N W W' := fun k cs' t' ht e => (h.keep k (by
  rintro rfl
  rw [e] at hb
  cases hb
  exact hn ht)).trans e
theorem types_ne {g b : Nat} {cur cur' : Array Value} {e e' : TypeId} {z z' : Nat × Nat} (hg : W.heap[g]? = some (.cells cur e z)) (hb : W.heap[b]? = some (.cells cur' e' z')) (hne : e ≠ e') : g ≠ b := by
  rintro rfl
  rw [hg] at hb
  cases hb
  exact hne rfl
theorem HV7.bt (h : HV7 W b A n c) (hb : Bt mo W W') (hm : MAt W mo cm mm) : HV7 W' b A n c := hb.row hm h (by decide)
theorem HV7.set {b' : Nat} (h : HV7 W b' A n c) {b : Nat} (hne : b' ≠ b) (u u' : Value) : HV7 ((W.setCell ⟨b, 0, none⟩ u).setCell ⟨b, 1, none⟩ u') b' A n c := (heap_set2 W b b' u u' hne).trans h
theorem HV7.lt (h : HV7 W b A n c) : b < W.heap.size := lt_of_heap h
theorem HV7.wrote (h : HV7 W b A n c) (B : Option Addr) (m d : Nat) : HV7 (W.setCell ⟨b, 0, none⟩ (.slice B m d)) b B m d ∧ Wrote1 b W (W.setCell ⟨b, 0, none⟩ (.slice B m d)) := ⟨h.put B m d, Wrote1.set W b _⟩

theorem RAt.is (h : RAt gv mb gu b b' W t A n c) : HAt (FP gv mb gu b b') W t.ts A n c := h
theorem RAt.stay (h : RAt gv mb gu b b' W t A n c) (hb : Below W.heap.size W W') : RAt gv mb gu b b' W' t A n c := HAt.stay h hb
theorem RAt.weak {x x' : Nat} (h : RAt gv mb gu b b' W t A n c) (hf : ∀ k, k < W.heap.size → FP gv mb gu b b' k → FP gv mb gu x x' k) : RAt gv mb gu x x' W t A n c := HAt.weak h hf
theorem RAt.bt (h : RAt gv mb gu b b' W t A n c) (hb : Bt (some mb) W W') (_ : MAt W (some mb) cm mm) : RAt gv mb gu b b' W' t A n c :=
  HAt.far h ⟨fun k hk hf => hb.block k hk (fun e => by injection e with e; exact hf.2.1 e.symm), fun _ _ hf => hf⟩
theorem RAt.set {q : HP} (h : RAt gv mb gu b b' W t A n c) (_ : HVar W b' q) (u u' : Value) : RAt gv mb gu b b' ((W.setCell ⟨b', 0, none⟩ u).setCell ⟨b', 1, none⟩ u') t A n c :=
  HAt.far h ⟨fun k _ hf => heap_set2 W b' k u u' hf.2.2.2.2, fun _ _ hf => hf⟩
theorem RCol.weak {x x' : Nat} (h : RCol gv mb gu b b' W base v ts) (hf : ∀ k, k < W.heap.size → FP gv mb gu b b' k → FP gv mb gu x x' k) : RCol gv mb gu x x' W base v ts :=
  WCol.keep h (fun _ _ _ _ => rfl) (fun _ _ _ _ hr => hr.weak hf)
theorem RCol.bt (h : RCol gv mb gu b b' W base v ts) (hb : Bt (some mb) W W') (hm : MAt W (some mb) cm mm) : RCol gv mb gu b b' W' base v ts :=
  WCol.keep h (fun _ _ _ hg => (hb.row hm hg (by decide)).trans hg.symm) (fun _ _ _ _ hr => hr.far ⟨fun k hk hf => hb.block k hk (fun e => by injection e with e; exact hf.2.1 e.symm), fun _ _ hf => hf⟩)
theorem RCol.set {q : HP} (h : RCol gv mb gu b b' W base (.slice (some ⟨gv, 0, none⟩) n c) ts) (_ : HVar W b' q) (hne : b' ≠ gv) (u u' : Value) : RCol gv mb gu b b' ((W.setCell ⟨b', 0, none⟩ u).setCell ⟨b', 1, none⟩ u') base (.slice (some ⟨gv, 0, none⟩) n c) ts :=
  WCol.keep h (fun g' _ e _ => by simp only [Value.ownBlock, Option.some.injEq] at e; subst e; exact heap_set2 W b' _ u u' (fun e => hne e.symm)) (fun _ _ _ _ hr => hr.far ⟨fun k _ hf => heap_set2 W b' k u u' hf.2.2.2.2, fun _ _ hf => hf⟩)
theorem RCol.cell {g k j : Nat} (h : RCol gv mb gu b b' W base (.slice (some ⟨g, 0, none⟩) n k) ts) (ht : ts[j]? = some t) : ∃ (A : Option Addr) (m c : Nat), BCell W g 35 j (.slice A m c) ∧ RAt gv mb gu b b' W t A m c :=
  WCol.at h (by rw [List.getElem?_map, ht]; rfl)
theorem RCol.blk (h : RCol gv mb gu b b' W base v ts) (hl : 0 < ts.length) : ∃ (g cap : Nat) (cur : Array Value), v = .slice (some ⟨g, 0, none⟩) ts.length cap ∧ base ≤ g ∧ g < W.heap.size ∧ ts.length ≤ cap ∧ cap ≤ 9223372036854775807 ∧ W.heap[g]? = some (.cells cur 35 (0, 0)) := by
  unfold RCol WCol at h
  have := Col.blk h (by rw [List.length_map]; exact hl)
  rw [List.length_map] at this
  exact this
/-- One heap more. -/
theorem RCol.push {k : Nat} (h : RCol gv mb gu b b' W base (.slice (some ⟨gv, 0, none⟩) L k) ts) (hb : base ≤ W.heap.size) (hl : L < 1000000) (ht : RAt gv mb gu b b' W t A n c) :
    ∃ g' c' W', (Builtin.append_ #[36, 36] 36 #[.slice (some ⟨gv, 0, none⟩) L k, .slice (some ⟨W.heap.size, 0, none⟩) 1 1]).run Tryz.prog (W.alloc (.cells #[.slice A n c] 35)) = .ok (.slice (some ⟨g', 0, none⟩) (L + 1) c') W' ∧
      WCol (fun k => FP gv mb gu b b' k ∧ k < W.heap.size) W' base (.slice (some ⟨g', 0, none⟩) (L + 1) c') ((ts ++ [t]).map Lh.ts) ∧ Grew W gv W' ∧ (g' = gv ∨ W.heap.size ≤ g') ∧ g' < W'.heap.size ∧ ∃ cur, W.heap[gv]? = some (.cells cur 35 (0, 0)) := by
  obtain ⟨i0, hi, hz0, hz1, hz2⟩ := info_parts infoH7
  have hown : ∃ cur, W.heap[gv]? = some (.cells cur 35 (0, 0)) := by
    obtain ⟨xs, hm, -⟩ := h
    rcases hm.2 with ⟨e, -⟩ | ⟨g', cap, cur, e, -, hg, -⟩
    · cases e
    · cases e; exact ⟨cur, hg⟩
  have h2 : WCol (fun k => FP gv mb gu b b' k ∧ k < W.heap.size) W base (.slice (some ⟨gv, 0, none⟩) L k) (ts.map Lh.ts) := WCol.keep h (fun _ _ _ _ => rfl) (fun _ _ _ _ hr => hr.weak (fun k hk hf => ⟨hf, hk⟩))
  have ht2 : HAt (fun k => FP gv mb gu b b' k ∧ k < W.heap.size) W t.ts A n c := HAt.weak ht (fun k hk hf => ⟨hf, hk⟩)
  obtain ⟨g', c', W', h1, h3, h4, h5, h6⟩ := Col.push (one := fun x : Option Addr × Nat × Nat => .slice x.1 x.2.1 x.2.2) (at_ := fun W' x t => HAt (fun k => FP gv mb gu b b' k ∧ k < W.heap.size) W' t x.1 x.2.1 x.2.2) Tryz.underlying36 hi hz0 hz1 hz2 rfl (by omega) h2 hb hl (A, n, c) t.ts rfl ht2
    (fun W' hG x t' hx => HAt.far hx ⟨fun k hk hf => World.grownBy.block hG k hk (fun e => by injection e with e; exact hf.1.1 e), fun _ _ hf => hf⟩)
  exact ⟨g', c', W', h1, by rw [List.map_append]; exact h3, h4, h5, h6, hown⟩
end

/-- The variable is written: by what holds then. -/
theorem wpList_store_w {ops : Array Oper} {rest : List Oper} {op : Oper} {a : Act} {w : World} {Q : Exit → Act → World → Prop} (hgd : op.guard = none) (x y : Operand) (ho : op.op = .store 35 x y)
    (b : Nat) (hx : a.eval x = .pointer (some ⟨b, 0, none⟩)) {A B : Option Addr} {n c m d : Nat} (hy : a.eval y = .agg #[.slice B m d]) (H : HV7 w b A n c)
    (h : ∀ w', HV7 w' b B m d → Wrote1 b w w' → wpList Tryz.prog ops Q rest (a.put op.dst undef) w') : wpList Tryz.prog ops Q (op :: rest) a w :=
  wpList_store_h7 hgd x y ho b hx hy H (fun w' e => by subst e; exact h _ (H.wrote B m d).1 (H.wrote B m d).2)

section
variable {F : Nat → Prop} {t : Lh} {A : Option Addr} {n c : Nat} {w : World}
theorem refInsert_any (t : Lh) (x1 x2 : Int) (hF : ∀ k, w.heap.size ≤ k → F k) (hs : t.size < 134217728) (h : HAt F w t.ts A n c) :
    Calls Tryz.prog 9 #[.agg #[.int .i64 x1, .int .i64 x2], .agg #[.slice A n c]] w (GaveH F (t.insert (x1, x2)).ts (t.insC + t.insM) w) :=
  refInsert9 F t.ts x1 x2 A n c w hF hs h
theorem refMeld_any (ta tb : Lh) {B : Option Addr} {m d : Nat} (hF : ∀ k, w.heap.size ≤ k → F k) (hs : ta.size + tb.size < 268435456) (ha : HAt F w ta.ts A n c) (hb : HAt F w tb.ts B m d) :
    Calls Tryz.prog 11 #[.agg #[.slice A n c], .agg #[.slice B m d]] w (GaveH F (meld ta tb).ts (2 * meldN ta tb) w) :=
  refMeld9 F ta.ts tb.ts A n c B m d w hF hs ha hb
theorem refPop_any (t : Lh) (hF : ∀ k, w.heap.size ≤ k → F k) (hs : t.size < 134217728) (h : HAt F w t.ts A n c) :
    Calls Tryz.prog 13 #[.agg #[.slice A n c]] w (GaveH F t.pop.ts (t.popC + t.popM + t.tellN) w) := by
  obtain ⟨l⟩ := t
  cases l with
  | nil => exact refPop9_nil F A n c w h
  | cons u r =>
    have hn : n = (u :: r).length := h.1
    have h1 := refPop9_some F (u :: r) A n c w hF hs (by rw [hn]; simp) h
    rw [hn] at h1
    subst hn
    exact h1
theorem refMin_any (t : Lh) (hs : t.size < 268435456) (h : HAt F w t.ts A n c) (x1 x2 : Int) (hx : (x1, x2) = t.min.1) :
    Calls Tryz.prog 17 #[.agg #[.slice A n c]] w fun e w' => e = .returned (.tuple #[.agg #[.int .i64 x1, .int .i64 x2], .int .i64 (t.tellN : Nat)]) ∧ Below w.heap.size w w' := by
  obtain ⟨l⟩ := t
  cases l with
  | nil =>
    have e : (x1, x2) = (0, 0) := hx
    cases e
    exact refMin9_nil F A n c w h
  | cons u r =>
    have hn : n = (u :: r).length := h.1
    have h1 := refMin9_some F (u :: r) A n c w hs (by rw [hn]; simp) h x1 x2 hx
    rw [show (n - 1 : Nat) = (Lh.mk (u :: r)).tellN from by rw [hn]; rfl] at h1
    exact h1
theorem refShow_any (t : Lh) (hs : t.size < 268435456) (hf : fits t.all) (h : HAt F w t.ts A n c) :
    Calls Tryz.prog 19 #[.agg #[.slice A n c]] w fun e w' => e = .returned (.string ⟨t.show.toArray⟩) ∧ Below w.heap.size w w' := by
  obtain ⟨l⟩ := t
  cases l with
  | nil => exact refShow9_nil F A n c w h
  | cons u r =>
    have hn : n = (u :: r).length := h.1
    exact refShow9_some F (u :: r) A n c w hs hf (by rw [hn]; simp) h
theorem refSize_any (t : Lh) (hs : t.size < 268435456) (h : HAt F w t.ts A n c) :
    Calls Tryz.prog 7 #[.agg #[.slice A n c]] w fun e w' => e = .returned (.int .i64 (t.size : Nat)) ∧ Below w.heap.size w w' := refSize9 F t.ts A n c w hs h
end

/-- What stands at the head of a round: i acts are done. -/
structure PRel (w : World) (mb gu cu gv cv : Nat) (i : Nat) (ts : List Lh) (c m : Int) (W : World) : Prop where
  mt : MAt W (some mb) c m
  cm : 0 ≤ c ∧ c ≤ 10000 * (i : Int) ∧ 0 ≤ m ∧ m ≤ 10000 * (i : Int)
  hs : Heaps i ts
  uu : HCol W w.heap.size (.slice (some ⟨gu, 0, none⟩) (i + 1) cu) ts
  vv : RCol gv mb gu mb mb W w.heap.size (.slice (some ⟨gv, 0, none⟩) (i + 1) cv) ts
  bas : Bas w W
theorem PRel.caps {w W : World} {mb gu cu gv cv i : Nat} {ts : List Lh} {c m : Int} (h : PRel w mb gu cu gv cv i ts c m W) : (i + 1 ≤ cu ∧ cu ≤ 9223372036854775807) ∧ (i + 1 ≤ cv ∧ cv ≤ 9223372036854775807) ∧ (w.heap.size ≤ gu ∧ w.heap.size ≤ gv) := by
  have hl := h.hs.len
  obtain ⟨g1, k1, _, e1, b1, -, c1, d1, -⟩ := h.uu.blk (by omega)
  obtain ⟨g2, k2, _, e2, b2, -, c2, d2, -⟩ := h.vv.blk (by omega)
  rw [hl] at e1 e2 c1 c2
  cases e1; cases e2
  exact ⟨⟨by omega, d1⟩, ⟨by omega, d2⟩, b1, b2⟩
theorem PRel.start {w W : World} {mb : Nat} (hm : MAt W (some mb) 0 0) (hb : Bas w W) (he : Env w) :
    PRel w mb W.heap.size 1 (W.heap.size + 1) 1 0 [.nil] 0 0 ((W.alloc (.cells #[.pointer none, .int .i64 0] 31)).alloc (.cells #[.slice none 0 0] 35)) := by
  have hs := hb.below.size
  have e1 : (W.alloc (.cells #[.pointer none, .int .i64 0] 31)).heap.size = W.heap.size + 1 := by simp
  have u1 := HCol.first W w.heap.size hs
  have u2 := WCol.first (FP (W.heap.size + 1) mb W.heap.size mb mb) (W.alloc (.cells #[.pointer none, .int .i64 0] 31)) w.heap.size (by omega)
  rw [e1] at u2
  refine ⟨(hm.alloc _).alloc _, ⟨by omega, by omega, by omega, by omega⟩, Heaps.start, ?_, u2, ?_⟩
  · exact HCol.bt (mo := none) (c := 0) (m := 0) u1 ((Bt.refl _ _).alloc _) trivial
  · exact hb.bt he (mo := none) (((Bt.refl _ _).alloc _).alloc _) (fun _ e => by cases e)

/-- In the midst of a round: the new heap t is made, and is in its variable. -/
structure Mid (w : World) (mb gu cu gv cv L bH bW : Nat) (ts : List Lh) (c m : Int) (t : Lh) (ph : HP) (W : World) : Prop where
  mt : MAt W (some mb) c m
  uu : HCol W w.heap.size (.slice (some ⟨gu, 0, none⟩) L cu) ts
  vv : RCol gv mb gu bW bH W w.heap.size (.slice (some ⟨gv, 0, none⟩) L cv) ts
  bas : Bas w W
  tt : LAt W t ph
  hv : HVar W bH ph
  base : w.heap.size ≤ gu ∧ w.heap.size ≤ gv ∧ w.heap.size ≤ bW
  ne : bH ≠ gu ∧ bW ≠ gv
section
variable {w W W' : World} {mb gu cu gv cv L bH bW : Nat} {ts : List Lh} {c m : Int} {t : Lh} {ph : HP}
theorem Mid.stay (h : Mid w mb gu cu gv cv L bH bW ts c m t ph W) (he : Env w) (hb : Below W.heap.size W W') : Mid w mb gu cu gv cv L bH bW ts c m t ph W' :=
  have k : Bt (some mb) W W' := Bt.ofBelow hb
  ⟨h.mt.stay hb, h.uu.bt k h.mt, h.vv.bt k h.mt, ⟨h.bas.below.trans (hb.mono h.bas.below.size), he.below (h.bas.below.trans (hb.mono h.bas.below.size))⟩, h.tt.bt k h.mt, h.hv.bt k h.mt, h.base, h.ne⟩
theorem Mid.wrote (h : Mid w mb gu cu gv cv L bH bW ts c m t ph W) (he : Env w) {A : Option Addr} {n k : Nat} (hW : HV7 W bW A n k) (hw : Wrote1 bW W W') : Mid w mb gu cu gv cv L bH bW ts c m t ph W' := by
  have hbl := hw.below h.bas.below h.base.2.2
  have hsz : W.heap.size ≤ W'.heap.size := Nat.le_of_eq hw.size.symm
  refine ⟨?_, ?_, ?_, ⟨hbl, he.below hbl⟩, h.tt.kps (hw.kpt hW refT_ne) hsz, (hw.keep bH (types_ne h.hv hW (by decide))).trans h.hv, h.base, h.ne⟩
  · exact (hw.keep mb (types_ne (show W.heap[mb]? = _ from h.mt) hW (by decide))).trans h.mt
  · exact h.uu.keep (fun g cur e hg => hw.keep g (types_ne hg hW (by decide))) (fun _ _ ht => ht.kps (hw.kpt hW refT_ne) hsz)
  · refine WCol.keep h.vv (fun g cur e hg => ?_) (fun _ _ _ _ hr => hr.far ⟨fun k _ hf => hw.keep k hf.2.2.2.1, fun _ _ hf => hf⟩)
    simp only [Value.ownBlock, Option.some.injEq] at e
    subst e
    exact hw.keep _ (fun e => h.ne.2 e.symm)
/-- The two slices, one heap more each. -/
theorem plays_push {i : Nat} {A : Option Addr} {n k : Nat} (he : Env w) (hL : L = i + 1) (hi : i < 30) (hM : Mid w mb gu cu gv cv L bH bW ts c m t ph W) (hcm : 0 ≤ c ∧ c ≤ 10000 * ((i + 1 : Nat) : Int) ∧ 0 ≤ m ∧ m ≤ 10000 * ((i + 1 : Nat) : Int)) (hs : Heaps i ts) (h1 : t.size ≤ 121) (h2 : t.good)
    (hR : RAt gv mb gu bW bH W t A n k) (hW : HV7 W bW A n k) :
    ∃ g1 c1 W1 g2 c2 W2, (Builtin.append_ #[32, 32] 32 #[.slice (some ⟨gu, 0, none⟩) L cu, .slice (some ⟨W.heap.size, 0, none⟩) 1 1]).run Tryz.prog (W.alloc (.cells #[.pointer ph.q, .int .i64 ph.n] 31)) = .ok (.slice (some ⟨g1, 0, none⟩) (L + 1) c1) W1 ∧
      HV7 W1 bW A n k ∧
      (Builtin.append_ #[36, 36] 36 #[.slice (some ⟨gv, 0, none⟩) L cv, .slice (some ⟨W1.heap.size, 0, none⟩) 1 1]).run Tryz.prog (W1.alloc (.cells #[.slice A n k] 35)) = .ok (.slice (some ⟨g2, 0, none⟩) (L + 1) c2) W2 ∧
      PRel w mb g1 c1 g2 c2 (i + 1) (ts ++ [t]) c m W2 := by
  subst hL
  have hlen := hs.len
  have hgv : ∃ cur, W.heap[gv]? = some (.cells cur 35 (0, 0)) := by
    obtain ⟨g, k, cur, e, -, -, -, -, hh⟩ := hM.vv.blk (by omega)
    rw [hlen] at e; cases e; exact ⟨cur, hh⟩
  obtain ⟨curv, hgv⟩ := hgv
  obtain ⟨g1, c1, W1, r1, U1, G1, o1, l1, cur1, hc1⟩ := HCol.push hM.uu hM.bas.below.size (by omega) hM.tt
  have hvu : gv ≠ gu := types_ne hgv hc1 (by decide)
  have far1 : ∀ {l : List Tre} {A : Option Addr} {n c : Nat}, HAt (FP gv mb gu bW bH) W l A n c → HAt (FP gv mb gu bW bH) W1 l A n c := fun hr => hr.far ⟨fun k hk hf => World.grownBy.block G1 k hk (fun e => by injection e with e; exact hf.2.2.1 e), fun _ _ hf => hf⟩
  have V1 : RCol gv mb gu bW bH W1 w.heap.size (.slice (some ⟨gv, 0, none⟩) (i + 1) cv) ts := WCol.keep hM.vv (fun g cur e hg => by
    simp only [Value.ownBlock, Option.some.injEq] at e
    subst e
    exact (G1.heap hg hvu).trans hg.symm) (fun _ _ _ _ hr => far1 hr)
  have B1 := G1.bas hM.bas he hM.base.1
  have W1v : HV7 W1 bW A n k := G1.heap hW (types_ne hW hc1 (by decide))
  -- the heaps' blocks lie ahead of the world that the first slice grew into
  have hR0 : HAt (fun k => FP gv mb gu bW bH k ∧ k < W.heap.size) W1 t.ts A n k := HAt.far hR ⟨fun k hk hf => World.grownBy.block G1 k hk (fun e => by injection e with e; exact hf.2.2.1 e), fun k hk hf => ⟨hf, hk⟩⟩
  have V0 : WCol (fun k => FP gv mb gu bW bH k ∧ k < W.heap.size) W1 w.heap.size (.slice (some ⟨gv, 0, none⟩) (i + 1) cv) (ts.map Lh.ts) := WCol.keep hM.vv (fun g cur e hg => by
    simp only [Value.ownBlock, Option.some.injEq] at e
    subst e
    exact (G1.heap hg hvu).trans hg.symm) (fun _ _ _ _ hr => HAt.far hr ⟨fun k hk hf => World.grownBy.block G1 k hk (fun e => by injection e with e; exact hf.2.2.1 e), fun k hk hf => ⟨hf, hk⟩⟩)
  have n1v : g1 ≠ gv := by have := lt_of_heap hgv; rcases o1 with e | e <;> omega
  have weak1 : ∀ k, k < W1.heap.size → (FP gv mb gu bW bH k ∧ k < W.heap.size) → FP gv mb g1 bW bH k := fun k _ hf => ⟨hf.1.1, hf.1.2.1, by rcases o1 with e | e <;> (have := hf.1.2.2.1; have := hf.2; omega), hf.1.2.2.2.1, hf.1.2.2.2.2⟩
  have V1' : RCol gv mb g1 bW bH W1 w.heap.size (.slice (some ⟨gv, 0, none⟩) (i + 1) cv) ts := WCol.keep V0 (fun _ _ _ _ => rfl) (fun _ _ _ _ hr => hr.weak weak1)
  have hR1 : RAt gv mb g1 bW bH W1 t A n k := hR0.weak weak1
  obtain ⟨g2, c2, W2, r2, V2, G2, o2, l2, cur2, hc2⟩ := RCol.push V1' B1.below.size (by omega) hR1
  have U2 := G2.hcol hc2 refT_ne n1v U1
  have V3 : RCol g2 mb g1 mb mb W2 w.heap.size (.slice (some ⟨g2, 0, none⟩) (i + 1 + 1) c2) (ts ++ [t]) := WCol.keep V2 (fun _ _ _ _ => rfl) (fun _ _ _ _ hr => hr.weak (fun k _ hf => ⟨by rcases o2 with e | e <;> (have := hf.1.1; have := hf.2; omega), hf.1.2.1, hf.1.2.2.1, hf.1.2.1, hf.1.2.1⟩))
  exact ⟨g1, c1, W1, g2, c2, W2, r1, W1v, r2, G2.mat hc2 (by decide) (G1.mat hc1 (by decide) hM.mt), hcm, hs.snoc h1 h2, U2, V3, G2.bas B1 he hM.base.2.1⟩
end

/-- Is there an element: is the size more than 0? -/
theorem some_size (t : Lh) : decide ((0 : Int) < (t.size : Int)) = t.some := by
  rw [some_pos]
  simp
theorem some_size' (t : Lh) : decide (0 < t.size) = t.some := (some_pos t).symm

end Go.Proofs.YtlaohkflnkjamaaGreatDoor.Hp
