/-
  A heap of the reference's (slagheapref08.H: its root, its kids, its size) at a world, in blocks of which F holds: what it says, and that it stays; a row of kids: the first one, what is behind it; a kid put ahead of a row. No conditions beyond what each theorem says.
-/
import Derived.Test.YtpclafbolppgcaaDoorPd0
import Derived.Test.YtpclafbolppgcaaDoorMb
import Derived.RangeFuncRecord
import Derived.Deep.MidRow
namespace Go.Proofs.YtpclafbolppgcaaDoor
open Go.Sort Go.RowKit

theorem cell_old8 {w : World} {q : Addr} {v : Value} (h : w.cell? q = some v) (o : Obj) : (w.alloc o).cell? q = some v := (((Below.refl w.heap.size w).alloc (Nat.le_refl _) o).cell (block_lt_of_cell h)).trans h
/-- At A, in a block of which F holds, are these cells. -/
def CAt (F : Nat → Prop) (W : World) (A : Option Addr) (cs : List Value) : Prop := 0 < cs.length → ∃ b o, A = some ⟨b, o, none⟩ ∧ F b ∧ ∀ j v, cs[j]? = some v → W.cell? ⟨b, o + j, none⟩ = some v
theorem CAt.nil (F : Nat → Prop) (W : World) (A : Option Addr) : CAt F W A [] := fun h => absurd h (by decide)
/-- The worlds in which the blocks of which F holds are as they were, and F' holds of them. -/
structure Far (F F' : Nat → Prop) (W W' : World) : Prop where
  keep : ∀ k, k < W.heap.size → F k → W'.heap[k]? = W.heap[k]?
  new : ∀ k, k < W.heap.size → F k → F' k
theorem Far.below {F : Nat → Prop} {W W' : World} (h : Below W.heap.size W W') : Far F F W W' := ⟨fun k hk _ => h.block k hk, fun _ _ h => h⟩
theorem Far.cell {F F' : Nat → Prop} {W W' : World} (h : Far F F' W W') {b j : Nat} {v : Value} (hb : F b) (hc : W.cell? ⟨b, j, none⟩ = some v) : W'.cell? ⟨b, j, none⟩ = some v :=
  (World.cell?_of_block (h.keep b (block_lt_of_cell hc) hb)).trans hc
theorem CAt.far {F F' : Nat → Prop} {W W' : World} {A : Option Addr} {cs : List Value} (h : CAt F W A cs) (hf : Far F F' W W') : CAt F' W' A cs := fun h0 => by
  obtain ⟨b, o, e, hb, hc⟩ := h h0
  exact ⟨b, o, e, hf.new b (block_lt_of_cell (hc 0 _ (List.getElem?_eq_getElem h0))) hb, fun j v hj => hf.cell hb (hc j v hj)⟩

/-- The cells of a row of kids. -/
def KL (F : Nat → Prop) (W : World) : Kd → List Value → Prop
  | .nil, cs => cs = []
  | .cons x ks rest, cs => ∃ (A : Option Addr) (c : Nat) (kc cs' : List Value),
      cs = .int .i64 x.1 :: .int .i64 x.2 :: .slice A ks.len c :: .int .i64 (1 + ks.size : Nat) :: cs' ∧
      (ks.len ≤ c ∧ c ≤ 9223372036854775807 ∧ (A = none → c = 0)) ∧ (KL F W ks kc ∧ CAt F W A kc) ∧ KL F W rest cs'
theorem KL.far {F F' : Nat → Prop} {W W' : World} (hf : Far F F' W W') : ∀ {ks : Kd} {cs : List Value}, KL F W ks cs → KL F' W' ks cs
  | .nil, _, h => h
  | .cons _ _ _, _, ⟨A, c, kc, cs', e, hn, ⟨hk, hc⟩, hr⟩ => ⟨A, c, kc, cs', e, hn, ⟨KL.far hf hk, hc.far hf⟩, KL.far hf hr⟩
theorem KL.length {F : Nat → Prop} {W : World} : ∀ {ks : Kd} {cs : List Value}, KL F W ks cs → cs.length = ks.len * 4
  | .nil, _, h => by rw [h]; rfl
  | .cons _ _ _, _, ⟨_, _, _, _, e, _, _, hr⟩ => by rw [e]; simp only [List.length_cons, hr.length, Kd.len]; omega
theorem KL.one {F : Nat → Prop} {W : World} : ∀ {ks : Kd} {cs : List Value}, KL F W ks cs → ∀ u ∈ cs, u.oneCell' = true
  | .nil, _, h => by rw [h]; simp
  | .cons _ _ _, _, ⟨_, _, _, _, e, _, _, hr⟩ => by
    rw [e]
    intro u hu
    simp only [List.mem_cons] at hu
    rcases hu with rfl | rfl | rfl | rfl | hu
    iterate 4 rfl
    exact hr.one u hu

/-- A row of kids as a slice. -/
def KRow (F : Nat → Prop) (W : World) (ks : Kd) (A : Option Addr) (n c : Nat) : Prop := n = ks.len ∧ n ≤ c ∧ c ≤ 9223372036854775807 ∧ (A = none → c = 0) ∧ ∃ kc, KL F W ks kc ∧ CAt F W A kc
/-- A heap's value. -/
abbrev hV (x : Int × Int) (A : Option Addr) (n c N : Nat) : Value := .agg #[.int .i64 x.1, .int .i64 x.2, .slice A n c, .int .i64 (N : Int)]
/-- A heap of the reference's. -/
def RAt (F : Nat → Prop) (W : World) : Lh → (Int × Int) → Option Addr → Nat → Nat → Nat → Prop
  | .nil, x, A, n, c, N => x = (0, 0) ∧ A = none ∧ n = 0 ∧ c = 0 ∧ N = 0
  | .node y ks, x, A, n, c, N => x = y ∧ N = 1 + ks.size ∧ KRow F W ks A n c
section
variable {F F' : Nat → Prop} {W W' : World} {ks : Kd} {A : Option Addr} {n c N : Nat} {x : Int × Int} {t : Lh}
theorem KRow.far (h : KRow F W ks A n c) (hf : Far F F' W W') : KRow F' W' ks A n c := by
  obtain ⟨h1, h2, h3, h4, kc, h5, h6⟩ := h
  exact ⟨h1, h2, h3, h4, kc, h5.far hf, h6.far hf⟩
theorem KRow.stay (h : KRow F W ks A n c) (hb : Below W.heap.size W W') : KRow F W' ks A n c := h.far (Far.below hb)
theorem KRow.nil (F : Nat → Prop) (W : World) : KRow F W .nil none 0 0 := ⟨rfl, Nat.le_refl _, by omega, fun _ => rfl, [], rfl, CAt.nil _ _ _⟩
theorem RAt.far (h : RAt F W t x A n c N) (hf : Far F F' W W') : RAt F' W' t x A n c N := by
  cases t with
  | nil => exact h
  | node y ks => exact ⟨h.1, h.2.1, h.2.2.far hf⟩
theorem RAt.stay (h : RAt F W t x A n c N) (hb : Below W.heap.size W W') : RAt F W' t x A n c N := h.far (Far.below hb)
theorem RAt.zero (F : Nat → Prop) (W : World) : RAt F W .nil (0, 0) none 0 0 0 := ⟨rfl, rfl, rfl, rfl, rfl⟩
theorem RAt.size (h : RAt F W t x A n c N) : N = t.size := by
  cases t with
  | nil => exact h.2.2.2.2
  | node y ks => exact h.2.1
theorem RAt.weak (h : RAt F W t x A n c N) (hf : ∀ k, k < W.heap.size → F k → F' k) : RAt F' W t x A n c N := h.far ⟨fun _ _ _ => rfl, hf⟩
/-- The first kid: its four cells, the heap that it is; what is behind it. -/
theorem KRow.first {y : Int × Int} {ls r : Kd} (h : KRow F W (.cons y ls r) A n c) : ∃ (b o : Nat) (Ak : Option Addr) (ck : Nat), A = some ⟨b, o, none⟩ ∧ F b ∧
    (W.cell? ⟨b, o, none⟩ = some (.int .i64 y.1) ∧ W.cell? ⟨b, o + 1, none⟩ = some (.int .i64 y.2) ∧ W.cell? ⟨b, o + 2, none⟩ = some (.slice Ak ls.len ck) ∧ W.cell? ⟨b, o + 3, none⟩ = some (.int .i64 (1 + ls.size : Nat))) ∧
    RAt F W (.node y ls) y Ak ls.len ck (1 + ls.size) ∧ KRow F W r (some ⟨b, o + 4, none⟩) (n - 1) (c - 1) := by
  obtain ⟨h1, h2, h3, h4, kc, ⟨Ak, ck, kc', cs', e, hn, ⟨hk, hC⟩, hr⟩, hA⟩ := h
  obtain ⟨b, o, rfl, hF, hc⟩ := hA (by rw [e]; simp)
  have cell : ∀ (j : Nat) (v : Value), kc[j]? = some v → W.cell? ⟨b, o + j, none⟩ = some v := hc
  rw [e] at cell
  refine ⟨b, o, Ak, ck, rfl, hF, ⟨cell 0 _ rfl, cell 1 _ rfl, cell 2 _ rfl, cell 3 _ rfl⟩, ⟨rfl, rfl, rfl, hn.1, hn.2.1, hn.2.2, kc', hk, hC⟩, ?_⟩
  simp only [Kd.len] at h1
  refine ⟨by omega, by omega, by omega, (fun e => by cases e), cs', hr, fun h0 => ⟨b, o + 4, rfl, hF, fun j v hj => ?_⟩⟩
  rw [Nat.add_assoc, Nat.add_comm 4 j]
  exact cell (j + 4) v hj
end
theorem infoR : (Tryd.prog.info? 35).map (fun i => (i.zero, i.size, i.bytes)) = some (some (hV (0, 0) none 0 0 0), 4, 48) := by kernel_rfl

/-- A kid of one's own, and what kids there were. -/
theorem append_kids (F : Nat → Prop) (w : World) (hF : ∀ b, w.heap.size ≤ b → F b) (y : Int × Int) (Ak : Option Addr) (ck : Nat) (ls ks : Kd) (A : Option Addr) (n c : Nat) (hl : KRow F w ls Ak ls.len ck) (hk : KRow F w ks A n c) (hn : n < 1000000000) :
    ∃ A' c' w', (Builtin.append_ #[33, 33] 33 #[.slice (some ⟨w.heap.size, 0, none⟩) 1 1, .slice A n c]).run Tryd.prog (w.alloc (.cells #[.int .i64 y.1, .int .i64 y.2, .slice Ak ls.len ck, .int .i64 (1 + ls.size : Nat)] 35)) = .ok (.slice A' (n + 1) c') w' ∧
      KRow F w' (.cons y ls ks) A' (n + 1) c' ∧ Below w.heap.size w w' := by
  obtain ⟨i0, hi, hz0, hz1, hz2⟩ := info_parts infoR
  have hb := (Below.refl w.heap.size w).alloc (Nat.le_refl _) (.cells #[.int .i64 y.1, .int .i64 y.2, .slice Ak ls.len ck, .int .i64 (1 + ls.size : Nat)] 35)
  have hown : (w.alloc (.cells #[.int .i64 y.1, .int .i64 y.2, .slice Ak ls.len ck, .int .i64 (1 + ls.size : Nat)] 35)).ownsRow w.heap.size 35 4 (.slice (some ⟨w.heap.size, 0, none⟩) 1 1) 1 [.int .i64 y.1, .int .i64 y.2, .slice Ak ls.len ck, .int .i64 (1 + ls.size : Nat)] :=
    ⟨rfl, .inr ⟨w.heap.size, 1, #[.int .i64 y.1, .int .i64 y.2, .slice Ak ls.len ck, .int .i64 (1 + ls.size : Nat)], rfl, Nat.le_refl _, World.alloc_heap_new w _, Nat.le_refl _, by unfold maxLen; omega, rfl, rfl⟩⟩
  obtain ⟨-, hl2, hl3, hl4, lc, hlk, hlC⟩ := hl
  obtain ⟨hn1, hn2, hn3, hA, kc, hkk, hkC⟩ := hk
  have hc' := hkC.far (Far.below hb)
  have hkl : kc.length = n * 4 := by rw [hkk.length, hn1]
  have h1 := hkk.one
  generalize hw1 : w.alloc (.cells #[.int .i64 y.1, .int .i64 y.2, .slice Ak ls.len ck, .int .i64 (1 + ls.size : Nat)] 35) = w1 at *
  have fin : ∀ v' w', w'.ownsRow w.heap.size 35 4 v' (1 + n) ([.int .i64 y.1, .int .i64 y.2, .slice Ak ls.len ck, .int .i64 (1 + ls.size : Nat)] ++ kc) → w1.grownBy w' (Value.slice (some ⟨w.heap.size, 0, none⟩) 1 1).ownBlock →
      ∃ A' c', v' = .slice A' (n + 1) c' ∧ KRow F w' (.cons y ls ks) A' (n + 1) c' ∧ Below w.heap.size w w' := fun v' w' ho hg => by
    have hbw := below_grown hb hg hb.size (fun g e => by simp [Value.ownBlock] at e; omega)
    have hf := Far.below (F := F) hbw
    have h0 := ho
    rcases ho.2 with ⟨-, hz⟩ | ⟨g, cap, cur, rfl, hbg, -, hcap, hmax, -⟩
    · omega
    · refine ⟨_, cap, by rw [Nat.add_comm n 1], ⟨by simp only [Kd.len]; omega, by omega, by unfold maxLen at hmax; omega, (fun e => by cases e), _, ⟨Ak, ck, lc, kc, rfl, ⟨hl2, hl3, hl4⟩, ⟨hlk.far hf, hlC.far hf⟩, hkk.far hf⟩, fun _ => ⟨g, 0, rfl, hF g hbg, fun j u hu => ?_⟩⟩, hbw⟩
      have := h0.cells (g := g) rfl j u hu
      rwa [add_plain] at this
  have step : ∀ a : Addr, (∀ j u, kc[j]? = some u → w1.cell? (a.add j) = some u) → ∃ A' c' w', (Builtin.append_ #[33, 33] 33 #[.slice (some ⟨w.heap.size, 0, none⟩) 1 1, .slice (some a) n c]).run Tryd.prog w1 = .ok (.slice A' (n + 1) c') w' ∧
      KRow F w' (.cons y ls ks) A' (n + 1) c' ∧ Below w.heap.size w w' := by
    intro a ha
    obtain ⟨v', w', g1, g2, g3, _⟩ := run_append_own_at (P := Tryd.prog) w1 w.heap.size 33 33 35 i0 _ 4 48 Tryd.underlying33 hi hz0 hz1 hz2 rfl (by omega) _ 1 _ hown a n c kc hkl ha h1 (by unfold maxLen; omega) (by omega) hb.size
    obtain ⟨A', c', rfl, q1, q2⟩ := fin v' w' g2 g3
    exact ⟨A', c', w', g1, q1, q2⟩
  by_cases h0 : 0 < kc.length
  · obtain ⟨b, o, rfl, -, hcell⟩ := hc' h0
    exact step _ (fun j u hu => by rw [add_plain]; exact hcell j u hu)
  · obtain rfl : kc = [] := List.eq_nil_of_length_eq_zero (by omega)
    cases A with
    | some a => exact step a (fun j u hu => by simp at hu)
    | none =>
      obtain rfl := hA rfl
      obtain rfl : n = 0 := by simp at hkl; omega
      have hrun := run_append_owned_none (P := Tryd.prog) (w := w1) w.heap.size 33 33 35 i0 4 Tryd.underlying33 hi _ 1 _ hown
      obtain ⟨A', c', e, q1, q2⟩ := fin _ w1 (by simpa using hown) (World.grownBy.refl w1 _)
      exact ⟨A', c', w1, by rw [hrun, e], q1, q2⟩

/-- A block of four cells: what they are, and that they may be stored to. -/
structure Qd (W : World) (b : Nat) (v0 v1 v2 v3 : Value) : Prop where
  c0 : W.cell? ⟨b, 0, none⟩ = some v0
  c1 : W.cell? ⟨b, 1, none⟩ = some v1
  c2 : W.cell? ⟨b, 2, none⟩ = some v2
  c3 : W.cell? ⟨b, 3, none⟩ = some v3
  z0 : W.frozen? ⟨b, 0, none⟩ = false
  z1 : W.frozen? ⟨b, 1, none⟩ = false
  z2 : W.frozen? ⟨b, 2, none⟩ = false
  z3 : W.frozen? ⟨b, 3, none⟩ = false
theorem qd_at {W : World} {b : Nat} {v0 v1 v2 v3 : Value} {t : TypeId} (h : W.heap[b]? = some (.cells #[v0, v1, v2, v3] t (0, 0))) : Qd W b v0 v1 v2 v3 := by
  constructor <;> simp [World.cell?, World.frozen?, h]
theorem Qd.keep {W W' : World} {b : Nat} {v0 v1 v2 v3 : Value} (h : Qd W b v0 v1 v2 v3) (e : W'.heap[b]? = W.heap[b]?) : Qd W' b v0 v1 v2 v3 := by
  have f : ∀ o, W'.frozen? ⟨b, o, none⟩ = W.frozen? ⟨b, o, none⟩ := fun o => by simp [World.frozen?, e]
  exact ⟨(World.cell?_of_block e).trans h.c0, (World.cell?_of_block e).trans h.c1, (World.cell?_of_block e).trans h.c2, (World.cell?_of_block e).trans h.c3, (f 0).trans h.z0, (f 1).trans h.z1, (f 2).trans h.z2, (f 3).trans h.z3⟩
theorem Qd.lt {W : World} {b : Nat} {v0 v1 v2 v3 : Value} (h : Qd W b v0 v1 v2 v3) : b < W.heap.size := block_lt_of_cell h.c0
/-- A block of four cells stored to whole. -/
def set4 (W : World) (R : Nat) (v0 v1 v2 v3 : Value) : World := (((W.setCell ⟨R, 0, none⟩ v0).setCell ⟨R, 1, none⟩ v1).setCell ⟨R, 2, none⟩ v2).setCell ⟨R, 3, none⟩ v3
theorem set4_far (W : World) (R : Nat) (v0 v1 v2 v3 : Value) (k : Nat) (hk : k ≠ R) : (set4 W R v0 v1 v2 v3).heap[k]? = W.heap[k]? := by
  unfold set4
  rw [Below.heap_setCell _ _ _ _ hk, Below.heap_setCell _ _ _ _ hk, Below.heap_setCell _ _ _ _ hk, Below.heap_setCell _ _ _ _ hk]
theorem set4_below {B : Nat} {a W : World} (h : Below B a W) {R : Nat} (hR : B ≤ R) (v0 v1 v2 v3 : Value) : Below B a (set4 W R v0 v1 v2 v3) :=
  (((h.setCell (p := ⟨R, 0, none⟩) hR v0).setCell (p := ⟨R, 1, none⟩) hR v1).setCell (p := ⟨R, 2, none⟩) hR v2).setCell (p := ⟨R, 3, none⟩) hR v3
theorem setCells_four (W : World) (b : Nat) (v0 v1 v2 v3 : Value) : W.setCells b 0 [v0, v1, v2, v3] = set4 W b v0 v1 v2 v3 := rfl
theorem set4_qd {W : World} {R : Nat} {u0 u1 u2 u3 : Value} (h : Qd W R u0 u1 u2 u3) (v0 v1 v2 v3 : Value) : Qd (set4 W R v0 v1 v2 v3) R v0 v1 v2 v3 := by
  have ot : ∀ (w : World) (i j : Nat) (v u : Value), i ≠ j → w.cell? ⟨R, j, none⟩ = some u → (w.setCell ⟨R, i, none⟩ v).cell? ⟨R, j, none⟩ = some u := fun w i j v u hij hc => (World.cell?_setCell_other _ _ _ _ (fun e => hij (by injection e))).trans hc
  have sm : ∀ (w : World) (j : Nat) (v u : Value), w.cell? ⟨R, j, none⟩ = some u → (w.setCell ⟨R, j, none⟩ v).cell? ⟨R, j, none⟩ = some v := fun w j v u hc => World.cell?_setCell_same _ _ _ hc
  have d : ∀ i j : Nat, (i == j) = false → i ≠ j := fun i j h e => by subst e; simp at h
  have f : ∀ o, (set4 W R v0 v1 v2 v3).frozen? ⟨R, o, none⟩ = W.frozen? ⟨R, o, none⟩ := fun o => by rw [← setCells_four, World.frozen?_setCells]
  refine ⟨?_, ?_, ?_, ?_, (f 0).trans h.z0, (f 1).trans h.z1, (f 2).trans h.z2, (f 3).trans h.z3⟩
  · exact ot _ _ _ _ _ (d 3 0 rfl) (ot _ _ _ _ _ (d 2 0 rfl) (ot _ _ _ _ _ (d 1 0 rfl) (sm _ _ _ _ h.c0)))
  · exact ot _ _ _ _ _ (d 3 1 rfl) (ot _ _ _ _ _ (d 2 1 rfl) (sm _ _ _ _ (ot _ _ _ _ _ (d 0 1 rfl) h.c1)))
  · exact ot _ _ _ _ _ (d 3 2 rfl) (sm _ _ _ _ (ot _ _ _ _ _ (d 1 2 rfl) (ot _ _ _ _ _ (d 0 2 rfl) h.c2)))
  · exact sm _ _ _ _ (ot _ _ _ _ _ (d 2 3 rfl) (ot _ _ _ _ _ (d 1 3 rfl) (ot _ _ _ _ _ (d 0 3 rfl) h.c3)))
theorem infoR4 : (Tryd.prog.info? 35).map (·.size) = some 4 := by kernel_rfl
theorem undR : ∃ d, Tryd.prog.underlying 35 = some d ∧ d.isRow = true := ⟨_, Tryd.underlying35, rfl⟩
theorem wpList_load_qd {ops : Array Oper} {rest : List Oper} {op : Oper} {a : Act} {w : World} {Q : Exit → Act → World → Prop} (hgd : op.guard = none) (x : Operand) (ho : op.op = .load 35 x)
    (b : Nat) (hx : a.eval x = .pointer (some ⟨b, 0, none⟩)) {v0 v1 v2 v3 : Value} (H : Qd w b v0 v1 v2 v3)
    (h : wpList Tryd.prog ops Q rest (a.put op.dst (.agg #[v0, v1, v2, v3])) w) : wpList Tryd.prog ops Q (op :: rest) a w := by
  obtain ⟨d, h1, h2⟩ := undR
  refine wpList_load_mid hgd _ x ho b 0 hx [v0, v1, v2, v3] d (fun j v hj => ?_) h1 h2 infoR4 h
  rw [Nat.zero_add]
  match j, hj with
  | 0, hj => cases hj; exact H.c0
  | 1, hj => cases hj; exact H.c1
  | 2, hj => cases hj; exact H.c2
  | 3, hj => cases hj; exact H.c3
  | j + 4, hj => simp at hj
theorem Qd.there {w : World} {b : Nat} {v0 v1 v2 v3 : Value} (H : Qd w b v0 v1 v2 v3) : w.there b 0 4 := fun j hj => by
  rw [Nat.zero_add]
  match j, hj with
  | 0, _ => exact ⟨by rw [H.c0]; rfl, H.z0⟩
  | 1, _ => exact ⟨by rw [H.c1]; rfl, H.z1⟩
  | 2, _ => exact ⟨by rw [H.c2]; rfl, H.z2⟩
  | 3, _ => exact ⟨by rw [H.c3]; rfl, H.z3⟩
  | j + 4, hj => omega
theorem wpList_store_qd {ops : Array Oper} {rest : List Oper} {op : Oper} {a : Act} {w : World} {Q : Exit → Act → World → Prop} (hgd : op.guard = none) (x y : Operand) (ho : op.op = .store 35 x y)
    (b : Nat) (hx : a.eval x = .pointer (some ⟨b, 0, none⟩)) {u0 u1 u2 u3 v0 v1 v2 v3 : Value} (hy : a.eval y = .agg #[v0, v1, v2, v3]) (H : Qd w b u0 u1 u2 u3)
    (h1 : v0.oneCell' = true ∧ v1.oneCell' = true ∧ v2.oneCell' = true ∧ v3.oneCell' = true)
    (h : ∀ w', Qd w' b v0 v1 v2 v3 → (∀ k, k ≠ b → w'.heap[k]? = w.heap[k]?) → (∀ B W, Below B W w → B ≤ b → Below B W w') → w'.heap.size = w.heap.size → wpList Tryd.prog ops Q rest (a.put op.dst undef) w') : wpList Tryd.prog ops Q (op :: rest) a w := by
  refine wpList_store_mid hgd _ x y ho b 0 _ hx hy H.there infoR4 (all_oneCell_toArray (cs := [v0, v1, v2, v3]) (by obtain ⟨o0, o1, o2, o3⟩ := h1; intro v hv; simp only [List.mem_cons, List.not_mem_nil, or_false] at hv; rcases hv with rfl | rfl | rfl | rfl <;> assumption)) ?_
  exact h _ (set4_qd H _ _ _ _) (fun k hk => set4_far w b v0 v1 v2 v3 k hk) (fun B W hb hB => set4_below hb hB _ _ _ _) (by show (set4 w b v0 v1 v2 v3).heap.size = w.heap.size; unfold set4; simp)

/-- What a call hands back: a heap of the reference's, how many steps there were; nothing that was there has changed. -/
def GaveP (F : Nat → Prop) (t : Lh) (k : Nat) (w : World) (e : Ending) (w' : World) : Prop := ∃ (z1 z2 : Int) (A : Option Addr) (n c N : Nat), e = .returned (.tuple #[.agg #[.int .i64 z1, .int .i64 z2, .slice A n c, .int .i64 (N : Int)], .int .i64 (k : Int)]) ∧ RAt F w' t (z1, z2) A n c N ∧ Below w.heap.size w w'

end Go.Proofs.YtpclafbolppgcaaDoor
