/-
  Columns: slices of the call's own whose things, one cell each, are what heaps so far are at (a heap's address, a row's value): what keeps them, what stands at a place, one thing more. No conditions beyond what each theorem says.
-/
import Derived.Test.YtpclafbolppgcaaDoorLacts8
import Derived.Test.YtpclafbolppgcaaDoorPdb
import Derived.Test.YtpclafbolppgcaaDoorMa
namespace Go.Proofs.YtpclafbolppgcaaDoor
open Go.Sort Go.RowKit

section
variable {α : Type} {one : α → Value} {e : TypeId} {at_ : World → α → Lh → Prop} {W W' : World} {base : Nat} {v : Value} {ts : List Lh}
/-- A slice of the call's own: its things are these heaps'. -/
def Col (one : α → Value) (e : TypeId) (at_ : World → α → Lh → Prop) (W : World) (base : Nat) (v : Value) (ts : List Lh) : Prop :=
  ∃ xs : List α, Mine one e W base v xs ∧ xs.length = ts.length ∧ ∀ (j : Nat) (t : Lh), ts[j]? = some t → ∃ x, xs[j]? = some x ∧ at_ W x t

theorem Col.keep (h : Col one e at_ W base v ts) (hk : ∀ (g : Nat) (cur : Array Value), v.ownBlock = some g → W.heap[g]? = some (.cells cur e (0, 0)) → W'.heap[g]? = W.heap[g]?) (hat : ∀ x t, at_ W x t → at_ W' x t) : Col one e at_ W' base v ts := by
  obtain ⟨xs, hm, hl, ha⟩ := h
  refine ⟨xs, ⟨hm.1, ?_⟩, hl, fun j t ht => ?_⟩
  · rcases hm.2 with hn | ⟨g, cap, cur, rfl, hg1, hg, rest⟩
    · exact .inl hn
    · exact .inr ⟨g, cap, cur, rfl, hg1, (hk g cur rfl hg).trans hg, rest⟩
  · obtain ⟨x, h1, h2⟩ := ha j t ht
    exact ⟨x, h1, hat x t h2⟩
theorem Col.blk (h : Col one e at_ W base v ts) (hl : 0 < ts.length) : ∃ (g cap : Nat) (cur : Array Value), v = .slice (some ⟨g, 0, none⟩) ts.length cap ∧ base ≤ g ∧ g < W.heap.size ∧ ts.length ≤ cap ∧ cap ≤ 9223372036854775807 ∧ W.heap[g]? = some (.cells cur e (0, 0)) := by
  obtain ⟨xs, hm, hxl, -⟩ := h
  rcases hm.2 with ⟨-, h0⟩ | ⟨g, cap, cur, e, hb, hg, hc, hmx, -⟩
  · omega
  · exact ⟨g, cap, cur, by rw [← hxl]; exact e, hb, lt_of_heap hg, by omega, by unfold maxLen at hmx; omega, hg⟩
theorem Col.at {g n c : Nat} (h : Col one e at_ W base (.slice (some ⟨g, 0, none⟩) n c) ts) {j : Nat} {t : Lh} (ht : ts[j]? = some t) : ∃ x, W.cell? ⟨g, j, none⟩ = some (one x) ∧ at_ W x t := by
  obtain ⟨xs, hm, hxl, ha⟩ := h
  obtain ⟨x, h1, h2⟩ := ha j t ht
  refine ⟨x, ?_, h2⟩
  have hn : n = xs.length := by
    rcases hm.2 with ⟨e, -⟩ | ⟨g', cap, cur, e, -⟩
    · cases e
    · cases e; rfl
  subst hn
  have := World.ownsRow.cells hm (g := g) rfl j (one x) (by rw [List.getElem?_map, h1]; rfl)
  rwa [add_flat, Nat.zero_add] at this
theorem Col.block (h : Col one e at_ W base v ts) : ∀ g, v.ownBlock = some g → base ≤ g := by
  obtain ⟨xs, hm, -⟩ := h
  exact hm.block
/-- The first one. -/
theorem Col.first (one : α → Value) (e : TypeId) (at_ : World → α → Lh → Prop) (W : World) (base : Nat) (hb : base ≤ W.heap.size) (x : α) (t : Lh) (h : at_ (W.alloc (.cells #[one x] e)) x t) : Col one e at_ (W.alloc (.cells #[one x] e)) base (.slice (some ⟨W.heap.size, 0, none⟩) 1 1) [t] := by
  refine ⟨[x], ⟨rfl, .inr ⟨W.heap.size, 1, #[one x], rfl, hb, World.alloc_heap_new W _, Nat.le_refl _, by unfold maxLen; simp, rfl, rfl⟩⟩, rfl, fun j u hu => ?_⟩
  cases j with
  | zero => simp at hu; subst hu; exact ⟨x, rfl, h⟩
  | succ j => simp at hu

/-- What has stayed where the block g has grown. -/
def Grew (W : World) (g : Nat) (W' : World) : Prop := W.grownBy W' (some g)
theorem Grew.heap {g : Nat} (h : Grew W g W') {k : Nat} {o : Obj} (hk : W.heap[k]? = some o) (hne : k ≠ g) : W'.heap[k]? = some o :=
  (World.grownBy.block h k (lt_of_heap hk) (fun e => by injection e with e; exact hne (by first | exact e | exact e.symm))).trans hk
theorem Grew.below {B g : Nat} {w0 : World} (h : Grew W g W') (hb : Below B w0 W) (hB : B ≤ W.heap.size) (hg : B ≤ g) : Below B w0 W' := below_grown hb h hB (fun k e => by injection e with e; omega)
/-- One thing more. -/
theorem Col.push {st : TypeId} {i0 : TypeInfo} {z : Value} {bytes g L c : Nat} (hst : Tryd.prog.underlying st = some (.slice e)) (hi : Tryd.prog.info? e = some i0) (hz0 : i0.zero = some z) (hz1 : i0.size = 1) (hz2 : i0.bytes = bytes) (hzs : z.cells.size = 1) (hby : bytes ≤ 24)
    (h : Col one e at_ W base (.slice (some ⟨g, 0, none⟩) L c) ts) (hb : base ≤ W.heap.size) (hl : L < 1000000) (x : α) (t : Lh) (hx1 : (one x).oneCell' = true) (hx : at_ W x t)
    (hat : ∀ W', Grew W g W' → ∀ x t, at_ W x t → at_ W' x t) :
    ∃ g' c' W', (Builtin.append_ #[st, st] st #[.slice (some ⟨g, 0, none⟩) L c, .slice (some ⟨W.heap.size, 0, none⟩) 1 1]).run Tryd.prog (W.alloc (.cells #[one x] e)) = .ok (.slice (some ⟨g', 0, none⟩) (L + 1) c') W' ∧
      Col one e at_ W' base (.slice (some ⟨g', 0, none⟩) (L + 1) c') (ts ++ [t]) ∧ Grew W g W' ∧ (g' = g ∨ W.heap.size ≤ g') ∧ g' < W'.heap.size := by
  have hal := (Below.refl W.heap.size W).alloc (Nat.le_refl _) (.cells #[one x] e)
  obtain ⟨xs, hm, hxl, ha⟩ := h
  have hL : L = xs.length := by
    rcases hm.2 with ⟨e, -⟩ | ⟨g', cap, cur, e, -⟩
    · cases e
    · cases e; rfl
  subst hL
  have hm1 : Mine one e (W.alloc (.cells #[one x] e)) base (.slice (some ⟨g, 0, none⟩) xs.length c) xs := hm.stay hal
  obtain ⟨v', W', h1, h2, h3, h4, h5⟩ := run_append_own_at (P := Tryd.prog) (W.alloc (.cells #[one x] e)) base st st e i0 z 1 bytes hst hi hz0 hz1 hz2 hzs (by omega)
    (.slice (some ⟨g, 0, none⟩) xs.length c) xs.length (xs.map one) hm1 ⟨W.heap.size, 0, none⟩ 1 1 [one x] rfl
    (fun j u hu => by
      rw [add_flat, Nat.zero_add]
      have e1 : (W.alloc (.cells #[one x] e)).heap[W.heap.size]? = some (.cells #[one x] e (0, 0)) := new_at rfl
      unfold World.cell?
      rw [e1]
      simpa using hu) (by intro u hu; simp at hu; subst hu; exact hx1) (by unfold maxLen; omega) (by have : (xs.length + 1) * bytes ≤ 1000000 * 24 := Nat.mul_le_mul (by omega) hby; omega) (Nat.le_trans hb hal.size)
  have hg : Grew W g W' := by
    have hgs : g < W.heap.size := by
      rcases hm.2 with ⟨e, -⟩ | ⟨g', cap, cur, e, -, hh, -⟩
      · cases e
      · cases e; exact lt_of_heap hh
    exact ⟨h3.os.trans hal.os, h3.tape.trans hal.tape, h3.output.trans hal.output, Nat.le_trans hal.size h3.size, fun k hk hne => (h3.block k (by have := hal.size; omega) hne).trans (hal.block k hk)⟩
  have hM : Mine one e W' base v' (xs ++ [x]) := by
    unfold Mine
    rw [List.length_append, List.map_append]
    exact h2
  have hC : Col one e at_ W' base v' (ts ++ [t]) := by
    refine ⟨xs ++ [x], hM, by simp [hxl], fun j u hu => ?_⟩
    by_cases hj : j < ts.length
    · rw [List.getElem?_append_left hj] at hu
      obtain ⟨y, k1, k2⟩ := ha j u hu
      exact ⟨y, by rw [List.getElem?_append_left (by omega)]; exact k1, hat W' hg y u k2⟩
    · have h9 := (List.getElem?_eq_some_iff.1 hu).1
      simp at h9
      have ej : j = ts.length := by omega
      subst ej
      rw [List.getElem?_append_right (Nat.le_refl _)] at hu
      simp at hu
      subst hu
      exact ⟨x, by rw [← hxl, List.getElem?_append_right (Nat.le_refl _)]; simp, hat W' hg x t hx⟩
  obtain ⟨g', c', cur, e', -, hlt, -⟩ := hC.blk (by simp)
  have el : (ts ++ [t]).length = xs.length + 1 := by simp [hxl]
  rw [el] at e'
  subst e'
  refine ⟨g', c', W', h1, hC, hg, ?_, hlt⟩
  rcases h5 with h5 | h5
  · simp only [Value.ownBlock, Option.some.injEq] at h5; exact .inl h5
  · simp only [Value.ownBlock, Option.some.injEq] at h5; have := hal.size; exact .inr (by omega)
end

end Go.Proofs.YtpclafbolppgcaaDoor
