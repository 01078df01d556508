/-
  The slice of all of the reference's heaps (three cells a thing): what keeps it, what stands at a place, one heap more; what stands at the head of a round, and in the midst of one. No conditions beyond what each theorem says. LeftistPlays' state: at the head of a round, and in the midst of one; a variable of the reference's is written; both slices grow by one. No conditions beyond what each theorem says.
-/
import Derived.Test.YtliehednnhilkaaDoorRhc
import Derived.Test.YtliehednnhilkaaDoorLc2
import Derived.Test.YtliehednnhilkaaDoorLh5b
namespace Go.Proofs.YtliehednnhilkaaDoor
open Go.Sort Go.RowKit

/-- Blocks that are not the slice's, nor the meter's, nor a variable's. -/
def Fq (gv mb b : Nat) (k : Nat) : Prop := k ≠ gv ∧ k ≠ mb ∧ k ≠ b
theorem refT_ne : ¬ NodeT 35 := by unfold NodeT; decide
/-- The j-th thing of the slice. -/
def WCell (W : World) (g j : Nat) (x : Int × Int) (A : Option Addr) (n c : Nat) : Prop := ∃ cur, W.heap[g]? = some (.cells cur 35 (0, 0)) ∧ cur[j * 3]? = some (.int .i64 x.1) ∧ cur[j * 3 + 1]? = some (.int .i64 x.2) ∧ cur[j * 3 + 2]? = some (.slice A n c)
/-- The slice of the reference's heaps. -/
def WCol (F : Nat → Prop) (W : World) (base : Nat) (v : Value) (ts : List Lh) : Prop :=
  ∃ cs : List Value, W.ownsRow base 35 3 v ts.length cs ∧ ∀ (j : Nat) (t : Lh), ts[j]? = some t → ∃ (x : Int × Int) (A : Option Addr) (n c : Nat), (cs[j * 3]? = some (.int .i64 x.1) ∧ cs[j * 3 + 1]? = some (.int .i64 x.2) ∧ cs[j * 3 + 2]? = some (.slice A n c)) ∧ RAt F W t x A n c

section
variable {W W' : World} {g j n c : Nat} {x : Int × Int} {A : Option Addr} {t : Lh} {F F' : Nat → Prop} {base : Nat} {v : Value} {ts : List Lh} {cm mm : Int} {gv mb b : Nat}
theorem RAt.kp (h : RAt F W t x A n c) (hk : Kpt (fun t => t = 35) W W') : RAt F W' t x A n c := by
  induction t generalizing x A n c with
  | nil => exact h
  | node y l r ihl ihr =>
    obtain ⟨e1, e2, b, xl, xr, Al, Ar, nl, cl, nr, cr, eA, h1, h2, hb, hh, hl, hr⟩ := h
    exact ⟨e1, e2, b, xl, xr, Al, Ar, nl, cl, nr, cr, eA, h1, h2, hb, hk b _ _ rfl hh, ihl hl, ihr hr⟩
theorem RAt.bt (h : RAt (Fq gv mb b) W t x A n c) (hb : Bt (some mb) W W') (_ : MAt W (some mb) cm mm) : RAt (Fq gv mb b) W' t x A n c :=
  h.far ⟨fun k hk hf => hb.block k hk (fun e => by injection e with e; exact hf.2.1 e.symm), fun _ _ hf => hf⟩
theorem RAt.set (h : RAt F W t x A n c) {b : Nat} {q : Option Addr} (hv : HVar W b q) (u : Value) : RAt F (W.setCell ⟨b, 0, none⟩ u) t x A n c := h.kp (Kpt.set hv (by decide) 0 u)
theorem WCell.c0 (h : WCell W g j x A n c) : W.cell? ⟨g, j * 3, none⟩ = some (.int .i64 x.1) := by obtain ⟨cur, h1, h2, -, -⟩ := h; simp [World.cell?, h1, h2]
theorem WCell.c1 (h : WCell W g j x A n c) : W.cell? ⟨g, j * 3 + 1, none⟩ = some (.int .i64 x.2) := by obtain ⟨cur, h1, -, h2, -⟩ := h; simp [World.cell?, h1, h2]
theorem WCell.c2 (h : WCell W g j x A n c) : W.cell? ⟨g, j * 3 + 2, none⟩ = some (.slice A n c) := by obtain ⟨cur, h1, -, -, h2⟩ := h; simp [World.cell?, h1, h2]
theorem WCell.lt (h : WCell W g j x A n c) : g < W.heap.size := by obtain ⟨cur, h1, -⟩ := h; exact lt_of_heap h1
theorem WCell.keep (h : WCell W g j x A n c) (e : W'.heap[g]? = W.heap[g]?) : WCell W' g j x A n c := by obtain ⟨cur, h1, h2⟩ := h; exact ⟨cur, e.trans h1, h2⟩
theorem WCell.stay (h : WCell W g j x A n c) (hb : Below W.heap.size W W') : WCell W' g j x A n c := h.keep (hb.block g h.lt)
theorem WCell.bt {mo : Option Nat} (h : WCell W g j x A n c) (hb : Bt mo W W') (hm : MAt W mo cm mm) : WCell W' g j x A n c := by obtain ⟨cur, h1, h2⟩ := h; exact ⟨cur, hb.row hm h1 (by decide), h2⟩
theorem WCell.set (h : WCell W g j x A n c) {b : Nat} (hne : g ≠ b) (off : Nat) (u : Value) : WCell (W.setCell ⟨b, off, none⟩ u) g j x A n c := h.keep (heap_other _ _ hne)
theorem WVar.bt {mo : Option Nat} {b : Nat} (h : WVar W b x A n c) (hb : Bt mo W W') (hm : MAt W mo cm mm) : WVar W' b x A n c := hb.row hm h (by decide)
theorem WVar.set {b' : Nat} (h : WVar W b' x A n c) {b : Nat} (hne : b' ≠ b) (off : Nat) (u : Value) : WVar (W.setCell ⟨b, off, none⟩ u) b' x A n c := h.keep (heap_other _ _ hne)
theorem WCol.keep (h : WCol F W base v ts) (hk : ∀ (g : Nat) (cur : Array Value), v.ownBlock = some g → W.heap[g]? = some (.cells cur 35 (0, 0)) → W'.heap[g]? = W.heap[g]?) (hf : ∀ (t : Lh) (x : Int × Int) (A : Option Addr) (n c : Nat), RAt F W t x A n c → RAt F' W' t x A n c) : WCol F' W' base v ts := by
  obtain ⟨cs, hm, ha⟩ := h
  refine ⟨cs, ⟨hm.1, ?_⟩, fun j t ht => ?_⟩
  · rcases hm.2 with hn | ⟨g, cap, cur, rfl, hg1, hg, rest⟩
    · exact .inl hn
    · exact .inr ⟨g, cap, cur, rfl, hg1, (hk g cur rfl hg).trans hg, rest⟩
  · obtain ⟨x, A, n, c, h1, h2⟩ := ha j t ht
    exact ⟨x, A, n, c, h1, hf _ _ _ _ _ h2⟩
theorem WCol.bt (h : WCol (Fq gv mb b) W base v ts) (hb : Bt (some mb) W W') (hm : MAt W (some mb) cm mm) : WCol (Fq gv mb b) W' base v ts :=
  h.keep (fun _ _ _ hg => (hb.row hm hg (by decide)).trans hg.symm) (fun _ _ _ _ _ hr => hr.bt hb hm)
theorem WCol.set {k : Nat} (h : WCol F W base (.slice (some ⟨g, 0, none⟩) n k) ts) {b : Nat} {q : Option Addr} (hv : HVar W b q) (hne : b ≠ g) (u : Value) : WCol F (W.setCell ⟨b, 0, none⟩ u) base (.slice (some ⟨g, 0, none⟩) n k) ts :=
  h.keep (fun g' _ e _ => by simp only [Value.ownBlock, Option.some.injEq] at e; subst e; exact Below.heap_setCell W ⟨b, 0, none⟩ u g (fun e => hne e.symm)) (fun _ _ _ _ _ hr => hr.set hv u)
theorem WCol.blk (h : WCol F W base v ts) (hl : 0 < ts.length) : ∃ (g cap : Nat) (cur : Array Value), v = .slice (some ⟨g, 0, none⟩) ts.length cap ∧ base ≤ g ∧ g < W.heap.size ∧ ts.length ≤ cap ∧ cap ≤ 9223372036854775807 ∧ W.heap[g]? = some (.cells cur 35 (0, 0)) := by
  obtain ⟨cs, hm, -⟩ := h
  rcases hm.2 with ⟨-, h0⟩ | ⟨g, cap, cur, e, hb, hg, hc, hmx, -⟩
  · omega
  · exact ⟨g, cap, cur, e, hb, lt_of_heap hg, by omega, by unfold maxLen at hmx; omega, hg⟩
theorem WCol.cell {k : Nat} (h : WCol F W base (.slice (some ⟨g, 0, none⟩) n k) ts) (ht : ts[j]? = some t) : ∃ (x1 x2 : Int) (A : Option Addr) (m c : Nat), WCell W g j (x1, x2) A m c ∧ RAt F W t (x1, x2) A m c := by
  obtain ⟨cs, hm, ha⟩ := h
  obtain ⟨⟨x1, x2⟩, A, m, c, ⟨h0, h1, h2⟩, hr⟩ := ha j t ht
  refine ⟨x1, x2, A, m, c, ?_, hr⟩
  rcases hm.2 with ⟨e, -⟩ | ⟨g', cap, cur, e, -, hg, -, -, -, hc⟩
  · cases e
  · cases e
    have up : ∀ {i : Nat} {u : Value}, cs[i]? = some u → cur[i]? = some u := fun {i u} hi => by
      rw [← hc, List.getElem?_take] at hi
      split at hi
      · simpa using hi
      · cases hi
    exact ⟨cur, hg, up h0, up h1, up h2⟩
end
theorem WCol.first (F : Nat → Prop) (W : World) (base : Nat) (hb : base ≤ W.heap.size) : WCol F (W.alloc (.cells #[.int .i64 0, .int .i64 0, .slice none 0 0] 35)) base (.slice (some ⟨W.heap.size, 0, none⟩) 1 1) [.nil] := by
  refine ⟨[.int .i64 0, .int .i64 0, .slice none 0 0], ⟨rfl, .inr ⟨W.heap.size, 1, #[.int .i64 0, .int .i64 0, .slice none 0 0], rfl, hb, World.alloc_heap_new W _, Nat.le_refl _, by unfold maxLen; simp, rfl, rfl⟩⟩, fun j u hu => ?_⟩
  cases j with
  | zero => simp at hu; subst hu; exact ⟨(0, 0), none, 0, 0, ⟨rfl, rfl, rfl⟩, RAt.zero _ _⟩
  | succ j => simp at hu
/-- One heap more. -/
theorem WCol.push {W : World} {gv mb b L k base : Nat} {ts : List Lh} (h : WCol (Fq gv mb b) W base (.slice (some ⟨gv, 0, none⟩) L k) ts) (hb : base ≤ W.heap.size) (hl : L < 1000000) {x1 x2 : Int} {A : Option Addr} {n c : Nat} {t : Lh} (ht : RAt (Fq gv mb b) W t (x1, x2) A n c) :
    ∃ g' c' W', (Builtin.append_ #[33, 33] 33 #[.slice (some ⟨gv, 0, none⟩) L k, .slice (some ⟨W.heap.size, 0, none⟩) 1 1]).run Tryd.prog (W.alloc (.cells #[.int .i64 x1, .int .i64 x2, .slice A n c] 35)) = .ok (.slice (some ⟨g', 0, none⟩) (L + 1) c') W' ∧
      WCol (Fq g' mb mb) W' base (.slice (some ⟨g', 0, none⟩) (L + 1) c') (ts ++ [t]) ∧ Grew W gv W' ∧ (g' = gv ∨ W.heap.size ≤ g') ∧ g' < W'.heap.size ∧ ∃ cur, W.heap[gv]? = some (.cells cur 35 (0, 0)) := by
  obtain ⟨i0, hi, hz0, hz1, hz2⟩ := info_parts infoR
  have hal := (Below.refl W.heap.size W).alloc (Nat.le_refl _) (.cells #[.int .i64 x1, .int .i64 x2, .slice A n c] 35)
  obtain ⟨cs, hm, ha⟩ := h
  have hown : ∃ cur, W.heap[gv]? = some (.cells cur 35 (0, 0)) := by
    rcases hm.2 with ⟨e, -⟩ | ⟨g', cap, cur, e, -, hg, -⟩
    · cases e
    · cases e; exact ⟨cur, hg⟩
  obtain ⟨cur, hgv⟩ := hown
  have hL : L = ts.length := by
    rcases hm.2 with ⟨e, -⟩ | ⟨g', cap, cur, e, -⟩
    · cases e
    · cases e; rfl
  subst hL
  have hm1 : (W.alloc (.cells #[.int .i64 x1, .int .i64 x2, .slice A n c] 35)).ownsRow base 35 3 (.slice (some ⟨gv, 0, none⟩) ts.length k) ts.length cs :=
    World.ownsRow.kept hm (row := none) ⟨hal.os, hal.tape, hal.output, hal.size, fun k hk _ => hal.block k hk⟩ (.inr (by simp [Value.ownBlock]))
  obtain ⟨v', W', h1, h2, h3, h4, h5⟩ := run_append_own_at (P := Tryd.prog) (W.alloc (.cells #[.int .i64 x1, .int .i64 x2, .slice A n c] 35)) base 33 33 35 i0 _ 3 40 Tryd.underlying33 hi hz0 hz1 hz2 rfl (by omega)
    (.slice (some ⟨gv, 0, none⟩) ts.length k) ts.length cs hm1 ⟨W.heap.size, 0, none⟩ 1 1 [.int .i64 x1, .int .i64 x2, .slice A n c] rfl
    (fun j u hu => by
      rw [add_flat, Nat.zero_add]
      have e1 : (W.alloc (.cells #[.int .i64 x1, .int .i64 x2, .slice A n c] 35)).heap[W.heap.size]? = some (.cells #[.int .i64 x1, .int .i64 x2, .slice A n c] 35 (0, 0)) := new_at rfl
      unfold World.cell?
      rw [e1]
      simpa using hu) (by intro u hu; simp only [List.mem_cons, List.not_mem_nil, or_false] at hu; rcases hu with rfl | rfl | rfl <;> rfl) (by unfold maxLen; omega) (by omega) (Nat.le_trans hb hal.size)
  have hgs : gv < W.heap.size := lt_of_heap hgv
  have hg : Grew W gv W' := ⟨h3.os.trans hal.os, h3.tape.trans hal.tape, h3.output.trans hal.output, Nat.le_trans hal.size h3.size, fun k hk hne => (h3.block k (by have := hal.size; omega) hne).trans (hal.block k hk)⟩
  obtain ⟨g', cap', cur', e', hb', hlt'⟩ : ∃ (g' cap' : Nat) (cur' : Array Value), v' = .slice (some ⟨g', 0, none⟩) (ts.length + 1) cap' ∧ base ≤ g' ∧ g' < W'.heap.size := by
    rcases h2.2 with ⟨-, h0⟩ | ⟨g', cap, cur, e, hb, hg, -⟩
    · omega
    · exact ⟨g', cap, cur, e, hb, lt_of_heap hg⟩
  subst e'
  have hor : g' = gv ∨ W.heap.size ≤ g' := by
    rcases h5 with h5 | h5
    · simp only [Value.ownBlock, Option.some.injEq] at h5; exact .inl h5
    · simp only [Value.ownBlock, Option.some.injEq] at h5; have := hal.size; exact .inr (by omega)
  have hfar : Far (Fq gv mb b) (Fq g' mb mb) W W' := ⟨fun k hk hf => (World.grownBy.block hg k hk (fun e => by injection e with e; exact hf.1 e)), fun k hk hf => ⟨by rcases hor with rfl | e; exact hf.1; omega, hf.2.1, hf.2.1⟩⟩
  have hcl : cs.length = ts.length * 3 := hm.1
  refine ⟨g', cap', W', h1, ⟨cs ++ [.int .i64 x1, .int .i64 x2, .slice A n c], by rw [List.length_append]; exact h2, fun j u hu => ?_⟩, hg, hor, hlt', cur, hgv⟩
  by_cases hj : j < ts.length
  · rw [List.getElem?_append_left hj] at hu
    obtain ⟨y, B, m, d, ⟨k0, k1, k2⟩, hr⟩ := ha j u hu
    exact ⟨y, B, m, d, ⟨by rw [List.getElem?_append_left (by omega)]; exact k0, by rw [List.getElem?_append_left (by omega)]; exact k1, by rw [List.getElem?_append_left (by omega)]; exact k2⟩, hr.far hfar⟩
  · have h9 := (List.getElem?_eq_some_iff.1 hu).1
    simp at h9
    obtain rfl : j = ts.length := by omega
    rw [List.getElem?_append_right (Nat.le_refl _)] at hu
    simp at hu
    subst hu
    have at_ : ∀ (i : Nat) (z : Value), [Value.int .i64 x1, .int .i64 x2, .slice A n c][i]? = some z → (cs ++ [Value.int .i64 x1, .int .i64 x2, .slice A n c])[ts.length * 3 + i]? = some z := fun i z hi => by
      rw [List.getElem?_append_right (by omega), hcl, Nat.add_sub_cancel_left]
      exact hi
    exact ⟨(x1, x2), A, n, c, ⟨at_ 0 _ rfl, at_ 1 _ rfl, at_ 2 _ rfl⟩, ht.far hfar⟩

/-- What stands at the head of a round: i acts are done. -/
structure PRel (w : World) (mb gu cu gv cv : Nat) (i : Nat) (ts : List Lh) (c m : Int) (W : World) : Prop where
  mt : MAt W (some mb) c m
  cm : 0 ≤ c ∧ c ≤ 10000 * (i : Int) ∧ 0 ≤ m ∧ m ≤ 10000 * (i : Int)
  hs : Heaps i ts
  uu : HCol W w.heap.size (.slice (some ⟨gu, 0, none⟩) (i + 1) cu) ts
  vv : WCol (Fq gv mb mb) W w.heap.size (.slice (some ⟨gv, 0, none⟩) (i + 1) cv) ts
  bas : Bas w W
theorem PRel.caps {w W : World} {mb gu cu gv cv i : Nat} {ts : List Lh} {c m : Int} (h : PRel w mb gu cu gv cv i ts c m W) : (i + 1 ≤ cu ∧ cu ≤ 9223372036854775807) ∧ (i + 1 ≤ cv ∧ cv ≤ 9223372036854775807) ∧ (w.heap.size ≤ gu ∧ w.heap.size ≤ gv) := by
  have hl := h.hs.len
  obtain ⟨g1, k1, _, e1, b1, -, c1, d1, -⟩ := h.uu.blk (by omega)
  obtain ⟨g2, k2, _, e2, b2, -, c2, d2, -⟩ := h.vv.blk (by omega)
  rw [hl] at e1 e2 c1 c2
  cases e1; cases e2
  exact ⟨⟨by omega, d1⟩, ⟨by omega, d2⟩, b1, b2⟩
theorem PRel.start {w W : World} {mb : Nat} (hm : MAt W (some mb) 0 0) (hb : Bas w W) (he : Env w) :
    PRel w mb W.heap.size 1 (W.heap.size + 1) 1 0 [.nil] 0 0 ((W.alloc (.cells #[.pointer none] 29)).alloc (.cells #[.int .i64 0, .int .i64 0, .slice none 0 0] 35)) := by
  have hs := hb.below.size
  have e1 : (W.alloc (.cells #[.pointer none] 29)).heap.size = W.heap.size + 1 := by simp
  have u1 := Col.first (fun p => .pointer p) 29 (fun W p t => LAt W t p) W w.heap.size hs none .nil rfl
  have u2 := WCol.first (Fq (W.heap.size + 1) mb mb) (W.alloc (.cells #[.pointer none] 29)) w.heap.size (by omega)
  rw [e1] at u2
  refine ⟨(hm.alloc _).alloc _, ⟨by omega, by omega, by omega, by omega⟩, Heaps.start, ?_, u2, ?_⟩
  · exact HCol.bt (mo := none) (c := 0) (m := 0) u1 ((Bt.refl _ _).alloc _) trivial
  · exact hb.bt he (mo := none) (((Bt.refl _ _).alloc _).alloc _) (fun _ e => by cases e)

/-- In the midst of a round: the new heap t is made, and is in its variable. -/
structure Mid (w : World) (mb gu cu gv cv L bH bW : Nat) (ts : List Lh) (c m : Int) (t : Lh) (ph : Option Addr) (W : World) : Prop where
  mt : MAt W (some mb) c m
  uu : HCol W w.heap.size (.slice (some ⟨gu, 0, none⟩) L cu) ts
  vv : WCol (Fq gv mb bW) W w.heap.size (.slice (some ⟨gv, 0, none⟩) L cv) ts
  bas : Bas w W
  tt : LAt W t ph
  hv : HVar W bH ph
  base : w.heap.size ≤ gu ∧ w.heap.size ≤ gv ∧ w.heap.size ≤ bW
  ne : bH ≠ gu ∧ bW ≠ gv
section
variable {w W W' : World} {mb gu cu gv cv L bH bW : Nat} {ts : List Lh} {c m : Int} {t : Lh} {ph : Option Addr}
theorem Wrote1.kpt {b : Nat} {cs : Array Value} {ty : TypeId} {z : Nat × Nat} {N : TypeId → Prop} (h : Wrote1 b W W') (hb : W.heap[b]? = some (.cells cs ty z)) (hn : ¬ N ty) : Kpt N W W' := fun k cs' t' ht e => (h.keep k (by
  rintro rfl
  rw [e] at hb
  cases hb
  exact hn ht)).trans e
theorem types_ne {g b : Nat} {cur cur' : Array Value} {e e' : TypeId} {z z' : Nat × Nat} (hg : W.heap[g]? = some (.cells cur e z)) (hb : W.heap[b]? = some (.cells cur' e' z')) (hne : e ≠ e') : g ≠ b := by
  rintro rfl
  rw [hg] at hb
  cases hb
  exact hne rfl
theorem Mid.stay (h : Mid w mb gu cu gv cv L bH bW ts c m t ph W) (he : Env w) (hb : Below W.heap.size W W') : Mid w mb gu cu gv cv L bH bW ts c m t ph W' :=
  have k : Bt (some mb) W W' := Bt.ofBelow hb
  ⟨h.mt.stay hb, h.uu.bt k h.mt, h.vv.bt k h.mt, ⟨h.bas.below.trans (hb.mono h.bas.below.size), he.below (h.bas.below.trans (hb.mono h.bas.below.size))⟩, h.tt.bt k h.mt, h.hv.bt k h.mt, h.base, h.ne⟩
theorem Mid.wrote (h : Mid w mb gu cu gv cv L bH bW ts c m t ph W) (he : Env w) {x : Int × Int} {A : Option Addr} {n k : Nat} (hW : WVar W bW x A n k) (hw : Wrote1 bW W W') : Mid w mb gu cu gv cv L bH bW ts c m t ph W' := by
  have hbl := hw.below h.bas.below h.base.2.2
  refine ⟨?_, ?_, ?_, ⟨hbl, he.below hbl⟩, h.tt.kp (hw.kpt hW refT_ne), (hw.keep bH (types_ne h.hv hW (by decide))).trans h.hv, h.base, h.ne⟩
  · exact (hw.keep mb (types_ne (show W.heap[mb]? = _ from h.mt) hW (by decide))).trans h.mt
  · exact h.uu.keep (fun g cur e hg => hw.keep g (types_ne hg hW (by decide))) (fun _ _ ht => ht.kp (hw.kpt hW refT_ne))
  · refine h.vv.keep (fun g cur e hg => ?_) (fun _ _ _ _ _ hr => hr.far ⟨fun k _ hf => hw.keep k hf.2.2, fun _ _ hf => hf⟩)
    simp only [Value.ownBlock, Option.some.injEq] at e
    subst e
    exact hw.keep _ (fun e => h.ne.2 e.symm)
/-- The two slices, one heap more each. -/
theorem plays_push {i : Nat} {z1 z2 : Int} {A : Option Addr} {n k : Nat} (he : Env w) (hL : L = i + 1) (hi : i < 30) (hM : Mid w mb gu cu gv cv L bH bW ts c m t ph W) (hcm : 0 ≤ c ∧ c ≤ 10000 * ((i + 1 : Nat) : Int) ∧ 0 ≤ m ∧ m ≤ 10000 * ((i + 1 : Nat) : Int)) (hs : Heaps i ts) (h1 : t.size ≤ 121) (h2 : t.good)
    (hR : RAt (Fq gv mb bW) W t (z1, z2) A n k) (hW : WVar W bW (z1, z2) A n k) :
    ∃ g1 c1 W1 g2 c2 W2, (Builtin.append_ #[30, 30] 30 #[.slice (some ⟨gu, 0, none⟩) L cu, .slice (some ⟨W.heap.size, 0, none⟩) 1 1]).run Tryd.prog (W.alloc (.cells #[.pointer ph] 29)) = .ok (.slice (some ⟨g1, 0, none⟩) (L + 1) c1) W1 ∧
      WVar W1 bW (z1, z2) A n k ∧
      (Builtin.append_ #[33, 33] 33 #[.slice (some ⟨gv, 0, none⟩) L cv, .slice (some ⟨W1.heap.size, 0, none⟩) 1 1]).run Tryd.prog (W1.alloc (.cells #[.int .i64 z1, .int .i64 z2, .slice A n k] 35)) = .ok (.slice (some ⟨g2, 0, none⟩) (L + 1) c2) W2 ∧
      PRel w mb g1 c1 g2 c2 (i + 1) (ts ++ [t]) c m W2 := by
  subst hL
  have hlen := hs.len
  have hgv : ∃ cur, W.heap[gv]? = some (.cells cur 35 (0, 0)) := by
    obtain ⟨g, k, cur, e, -, -, -, -, hh⟩ := hM.vv.blk (by omega)
    rw [hlen] at e; cases e; exact ⟨cur, hh⟩
  obtain ⟨curv, hgv⟩ := hgv
  obtain ⟨g1, c1, W1, r1, U1, G1, o1, l1, cur1, hc1⟩ := HCol.push hM.uu hM.bas.below.size (by omega) hM.tt
  have hvu : gv ≠ gu := types_ne hgv hc1 (by decide)
  have hk1 : Kpt (fun t => t = 35) W W1 := Kpt.grown G1 (fun g e cs t' hk => by injection e with e; subst e; rw [hc1] at hk; cases hk; decide)
  have V1 : WCol (Fq gv mb bW) W1 w.heap.size (.slice (some ⟨gv, 0, none⟩) (i + 1) cv) ts := hM.vv.keep (fun g cur e hg => by
    simp only [Value.ownBlock, Option.some.injEq] at e
    subst e
    exact (G1.heap hg hvu).trans hg.symm) (fun _ _ _ _ _ hr => hr.kp hk1)
  have B1 := G1.bas hM.bas he hM.base.1
  have W1v : WVar W1 bW (z1, z2) A n k := G1.heap hW (types_ne hW hc1 (by decide))
  obtain ⟨g2, c2, W2, r2, V2, G2, o2, l2, cur2, hc2⟩ := WCol.push V1 B1.below.size (by omega) (hR.kp hk1)
  have n1v : g1 ≠ gv := by have := lt_of_heap hgv; rcases o1 with e | e <;> omega
  have U2 := G2.hcol hc2 refT_ne n1v U1
  exact ⟨g1, c1, W1, g2, c2, W2, r1, W1v, r2, G2.mat hc2 (by decide) (G1.mat hc1 (by decide) hM.mt), hcm, hs.snoc h1 h2, U2, V2, G2.bas B1 he hM.base.2.1⟩
end

/-- Is there an element: is the size more than 0? -/
theorem some_size (t : Lh) : decide ((0 : Int) < (t.size : Int)) = t.some := by
  cases t with
  | nil => rfl
  | node x l r => exact decide_eq_true (by simp only [Lh.size]; omega)
theorem some_size' (t : Lh) : decide (0 < t.size) = t.some := by
  cases t with
  | nil => rfl
  | node x l r => exact decide_eq_true (by simp only [Lh.size]; omega)

end Go.Proofs.YtliehednnhilkaaDoor
