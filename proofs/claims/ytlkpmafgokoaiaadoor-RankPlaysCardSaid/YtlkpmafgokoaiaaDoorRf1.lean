/-
  A tree of the reference's (slagheapref05.T: its rank, its thing, what stands beside it, its kids, its size) at a world, in blocks of which N holds: what it says, and that it stays. Appending kids to one. No conditions beyond what each theorem says. Contracts of the reference's Leaf, Rank and Link (slagheapref05). Condition: trees of fewer than 2 to the 28th things.
-/
import Derived.Test.YtlkpmafgokoaiaaDoorTrN
import Derived.Test.YtlkpmafgokoaiaaDoorAppend
namespace Go.Proofs.YtlkpmafgokoaiaaDoor
open Go.Sort Go.RowKit

/-- At A, in a block of which N holds, are these cells. -/
def CAt (F : Nat → Prop) (W : World) (A : Option Addr) (cs : List Value) : Prop := 0 < cs.length → ∃ b o, A = some ⟨b, o, none⟩ ∧ F b ∧ ∀ j v, cs[j]? = some v → W.cell? ⟨b, o + j, none⟩ = some v
theorem CAt.nil (F : Nat → Prop) (W : World) (A : Option Addr) : CAt F W A [] := fun h => absurd h (by decide)

/-- The worlds in which the blocks of which F holds are as they were, and F' holds of them. -/
structure Far (F F' : Nat → Prop) (W W' : World) : Prop where
  keep : ∀ k, k < W.heap.size → F k → W'.heap[k]? = W.heap[k]?
  new : ∀ k, k < W.heap.size → F k → F' k
theorem Far.below {F : Nat → Prop} {W W' : World} (h : Below W.heap.size W W') : Far F F W W' := ⟨fun k hk _ => h.block k hk, fun _ _ h => h⟩
theorem Far.cell {F F' : Nat → Prop} {W W' : World} (h : Far F F' W W') {b j : Nat} {v : Value} (hb : F b) (hc : W.cell? ⟨b, j, none⟩ = some v) : W'.cell? ⟨b, j, none⟩ = some v :=
  (World.cell?_of_block (h.keep b (block_lt_of_cell hc) hb)).trans hc
theorem CAt.far {F F' : Nat → Prop} {W W' : World} {A : Option Addr} {cs : List Value} (h : CAt F W A cs) (hf : Far F F' W W') : CAt F' W' A cs := fun h0 => by
  obtain ⟨b, o, e, hb, hc⟩ := h h0
  exact ⟨b, o, e, hf.new b (block_lt_of_cell (hc 0 _ (List.getElem?_eq_getElem h0))) hb, fun j v hj => hf.cell hb (hc j v hj)⟩
theorem CAt.row {F : Nat → Prop} {W : World} {A : Option Addr} {xs : List (Int × Int)} (h : CAt F W A (cellsE xs)) : Row W A xs := fun h0 => by
  obtain ⟨b, o, e, -, hc⟩ := h (by rw [cellsE_length]; omega)
  exact ⟨b, o, e, hc⟩

/-- The cells of a row of kids. -/
def KL (F : Nat → Prop) (W : World) : Wood → List Value → Prop
  | .nil, cs => cs = []
  | .cons x bs ks rest, cs => ∃ (Ab Ak : Option Addr) (cb ck : Nat) (kc cs' : List Value),
      cs = .int .i64 ks.len :: .int .i64 x.1 :: .int .i64 x.2 :: .slice Ab bs.length cb :: .slice Ak ks.len ck :: .int .i64 (bs.length + ks.size + 1 : Nat) :: cs' ∧
      (CAt F W Ab (cellsE bs) ∧ (Ab = none → cb = 0)) ∧ (KL F W ks kc ∧ CAt F W Ak kc ∧ (Ak = none → ck = 0)) ∧ KL F W rest cs'
theorem KL.far {F F' : Nat → Prop} {W W' : World} (hf : Far F F' W W') : ∀ {ks : Wood} {cs : List Value}, KL F W ks cs → KL F' W' ks cs
  | .nil, _, h => h
  | .cons _ _ _ _, _, ⟨Ab, Ak, cb, ck, kc, cs', e, hb, ⟨hk, hc, hn⟩, hr⟩ => ⟨Ab, Ak, cb, ck, kc, cs', e, ⟨hb.1.far hf, hb.2⟩, ⟨KL.far hf hk, hc.far hf, hn⟩, KL.far hf hr⟩
theorem KL.length {F : Nat → Prop} {W : World} : ∀ {ks : Wood} {cs : List Value}, KL F W ks cs → cs.length = ks.len * 6
  | .nil, _, h => by rw [h]; rfl
  | .cons _ _ _ _, _, ⟨_, _, _, _, _, _, e, _, _, hr⟩ => by rw [e]; simp only [List.length_cons, hr.length, Wood.len]; omega
theorem KL.one {F : Nat → Prop} {W : World} : ∀ {ks : Wood} {cs : List Value}, KL F W ks cs → ∀ u ∈ cs, u.oneCell' = true
  | .nil, _, h => by rw [h]; simp
  | .cons _ _ _ _, _, ⟨_, _, _, _, _, _, e, _, _, hr⟩ => by
    rw [e]
    intro u hu
    simp only [List.mem_cons] at hu
    rcases hu with rfl | rfl | rfl | rfl | rfl | rfl | hu
    iterate 6 rfl
    exact hr.one u hu

/-- A tree's value. -/
def tV (r : Int) (x : Int × Int) (B K : Value) (s : Int) : Value := .agg #[.int .i64 r, .int .i64 x.1, .int .i64 x.2, B, K, .int .i64 s]
/-- A tree of the reference's, or none. -/
def RT (F : Nat → Prop) (W : World) (V : Value) : Option Tre → Prop
  | none => V = tV 0 (0, 0) (.slice none 0 0) (.slice none 0 0) 0
  | some t => ∃ (Ab Ak : Option Addr) (cb ck : Nat) (kc : List Value), V = tV t.ks.len t.x (.slice Ab t.bs.length cb) (.slice Ak t.ks.len ck) (t.size : Nat) ∧
      (CAt F W Ab (cellsE t.bs) ∧ (Ab = none → cb = 0)) ∧ (KL F W t.ks kc ∧ CAt F W Ak kc ∧ (Ak = none → ck = 0))
theorem RT.far {F F' : Nat → Prop} {W W' : World} {V : Value} {t : Option Tre} (h : RT F W V t) (hf : Far F F' W W') : RT F' W' V t := by
  cases t with
  | none => exact h
  | some t => obtain ⟨Ab, Ak, cb, ck, kc, e, hb, hk, hc, hn⟩ := h; exact ⟨Ab, Ak, cb, ck, kc, e, ⟨hb.1.far hf, hb.2⟩, hk.far hf, hc.far hf, hn⟩
theorem RT.stay {F : Nat → Prop} {W W' : World} {V : Value} {t : Option Tre} (h : RT F W V t) (hb : Below W.heap.size W W') : RT F W' V t := h.far (Far.below hb)

theorem infoT : (Tryd.prog.info? 32).map (fun i => (i.zero, i.size, i.bytes)) = some (some (tV 0 (0, 0) (.slice none 0 0) (.slice none 0 0) 0), 6, 80) := by kernel_rfl

/-- A kid of one's own, and what kids there were. -/
theorem append_kids (F : Nat → Prop) (w : World) (hF : ∀ b, w.heap.size ≤ b → F b) (r : Int) (y : Int × Int) (B K : Value) (s : Int) (A : Option Addr) (n c : Nat) (kc : List Value) (hl : kc.length = n * 6) (h1 : ∀ u ∈ kc, u.oneCell' = true)
    (hc : CAt F w A kc) (hA : A = none → c = 0) (hn : n < 1000000000) :
    ∃ A' c' w', (Builtin.append_ #[30, 30] 30 #[.slice (some ⟨w.heap.size, 0, none⟩) 1 1, .slice A n c]).run Tryd.prog (w.alloc (.cells #[.int .i64 r, .int .i64 y.1, .int .i64 y.2, B, K, .int .i64 s] 32)) = .ok (.slice A' (n + 1) c') w' ∧
      CAt F w' A' (.int .i64 r :: .int .i64 y.1 :: .int .i64 y.2 :: B :: K :: .int .i64 s :: kc) ∧ (A' = none → c' = 0) ∧ Below w.heap.size w w' := by
  obtain ⟨i0, hi, hz0, hz1, hz2⟩ := info_parts infoT
  have hb := (Below.refl w.heap.size w).alloc (Nat.le_refl _) (.cells #[.int .i64 r, .int .i64 y.1, .int .i64 y.2, B, K, .int .i64 s] 32)
  have hown : (w.alloc (.cells #[.int .i64 r, .int .i64 y.1, .int .i64 y.2, B, K, .int .i64 s] 32)).ownsRow w.heap.size 32 6 (.slice (some ⟨w.heap.size, 0, none⟩) 1 1) 1 [.int .i64 r, .int .i64 y.1, .int .i64 y.2, B, K, .int .i64 s] :=
    ⟨rfl, .inr ⟨w.heap.size, 1, #[.int .i64 r, .int .i64 y.1, .int .i64 y.2, B, K, .int .i64 s], rfl, Nat.le_refl _, World.alloc_heap_new w _, Nat.le_refl _, by unfold maxLen; omega, rfl, rfl⟩⟩
  have hc' := hc.far (Far.below hb)
  generalize w.alloc (.cells #[.int .i64 r, .int .i64 y.1, .int .i64 y.2, B, K, .int .i64 s] 32) = w1 at *
  have fin : ∀ v' w', w'.ownsRow w.heap.size 32 6 v' (1 + n) ([.int .i64 r, .int .i64 y.1, .int .i64 y.2, B, K, .int .i64 s] ++ kc) → w1.grownBy w' (Value.slice (some ⟨w.heap.size, 0, none⟩) 1 1).ownBlock →
      ∃ A' c', v' = .slice A' (n + 1) c' ∧ CAt F w' A' (.int .i64 r :: .int .i64 y.1 :: .int .i64 y.2 :: B :: K :: .int .i64 s :: kc) ∧ (A' = none → c' = 0) ∧ Below w.heap.size w w' := fun v' w' ho hg => by
    have hbw := below_grown hb hg hb.size (fun g e => by simp [Value.ownBlock] at e; omega)
    have h0 := ho
    rcases ho.2 with ⟨-, hz⟩ | ⟨g, cap, cur, rfl, hbg, -, -, -, -⟩
    · omega
    · refine ⟨_, cap, by rw [Nat.add_comm n 1], fun _ => ⟨g, 0, rfl, hF g hbg, fun j u hu => ?_⟩, (fun e => by cases e), hbw⟩
      have := h0.cells (g := g) rfl j u hu
      rwa [add_plain] at this
  have step : ∀ a : Addr, (∀ j u, kc[j]? = some u → w1.cell? (a.add j) = some u) → ∃ A' c' w', (Builtin.append_ #[30, 30] 30 #[.slice (some ⟨w.heap.size, 0, none⟩) 1 1, .slice (some a) n c]).run Tryd.prog w1 = .ok (.slice A' (n + 1) c') w' ∧
      CAt F w' A' (.int .i64 r :: .int .i64 y.1 :: .int .i64 y.2 :: B :: K :: .int .i64 s :: kc) ∧ (A' = none → c' = 0) ∧ Below w.heap.size w w' := by
    intro a ha
    obtain ⟨v', w', g1, g2, g3, _⟩ := run_append_own_at (P := Tryd.prog) w1 w.heap.size 30 30 32 i0 _ 6 80 Tryd.underlying30 hi hz0 hz1 hz2 rfl (by omega) _ 1 _ hown a n c kc hl ha h1 (by unfold maxLen; omega) (by omega) hb.size
    obtain ⟨A', c', rfl, q1, q2, q3⟩ := fin v' w' g2 g3
    exact ⟨A', c', w', g1, q1, q2, q3⟩
  by_cases h0 : 0 < kc.length
  · obtain ⟨b, o, rfl, -, hcell⟩ := hc' h0
    exact step _ (fun j u hu => by rw [add_plain]; exact hcell j u hu)
  · obtain rfl : kc = [] := List.eq_nil_of_length_eq_zero (by omega)
    cases A with
    | some a => exact step a (fun j u hu => by simp at hu)
    | none =>
      obtain rfl := hA rfl
      obtain rfl : n = 0 := by simp at hl; omega
      have hrun := run_append_owned_none (P := Tryd.prog) (w := w1) w.heap.size 30 30 32 i0 6 Tryd.underlying30 hi _ 1 _ hown
      obtain ⟨A', c', e, q1, q2, q3⟩ := fin _ w1 (by simpa using hown) (World.grownBy.refl w1 _)
      exact ⟨A', c', w1, by rw [hrun, e], q1, q2, q3⟩

/-- A block of six cells: what they are, and that they may be stored to. -/
structure Hex (W : World) (b : Nat) (v0 v1 v2 v3 v4 v5 : Value) : Prop where
  c0 : W.cell? ⟨b, 0, none⟩ = some v0
  c1 : W.cell? ⟨b, 1, none⟩ = some v1
  c2 : W.cell? ⟨b, 2, none⟩ = some v2
  c3 : W.cell? ⟨b, 3, none⟩ = some v3
  c4 : W.cell? ⟨b, 4, none⟩ = some v4
  c5 : W.cell? ⟨b, 5, none⟩ = some v5
  z0 : W.frozen? ⟨b, 0, none⟩ = false
  z1 : W.frozen? ⟨b, 1, none⟩ = false
  z2 : W.frozen? ⟨b, 2, none⟩ = false
  z3 : W.frozen? ⟨b, 3, none⟩ = false
  z4 : W.frozen? ⟨b, 4, none⟩ = false
  z5 : W.frozen? ⟨b, 5, none⟩ = false
theorem hex_at {W : World} {b : Nat} {v0 v1 v2 v3 v4 v5 : Value} {t : TypeId} (h : W.heap[b]? = some (.cells #[v0, v1, v2, v3, v4, v5] t (0, 0))) : Hex W b v0 v1 v2 v3 v4 v5 := by
  constructor <;> simp [World.cell?, World.frozen?, h]
theorem alloc_old {w : World} {k : Nat} {o : Obj} (h : w.heap[k]? = some o) (o' : Obj) : (w.alloc o').heap[k]? = some o := (((Below.refl w.heap.size w).alloc (Nat.le_refl _) o').block k (lt_of_heap h)).trans h
theorem five_at (w : World) (oA oB oR oW oL : Obj) : let W := ((((w.alloc oA).alloc oB).alloc oR).alloc oW).alloc oL
    W.heap[w.heap.size]? = some oA ∧ W.heap[w.heap.size + 1]? = some oB ∧ W.heap[w.heap.size + 1 + 1]? = some oR ∧ W.heap[w.heap.size + 1 + 1 + 1]? = some oW ∧ W.heap[w.heap.size + 1 + 1 + 1 + 1]? = some oL ∧ W.heap.size = w.heap.size + 5 ∧ Below w.heap.size w W := by
  refine ⟨alloc_old (alloc_old (alloc_old (alloc_old (new_at rfl) _) _) _) _, alloc_old (alloc_old (alloc_old (new_at (by simp)) _) _) _, alloc_old (alloc_old (new_at (by simp)) _) _, alloc_old (new_at (by simp)) _, new_at (by simp), by simp, ?_⟩
  exact (((((Below.refl w.heap.size w).alloc (Nat.le_refl _) oA).alloc (by simp) oB).alloc (by simp; omega) oR).alloc (by simp; omega) oW).alloc (by simp; omega) oL


/-- What a call hands back: a tree of the reference's, and nothing that was there has changed. -/
def GaveR (F : Nat → Prop) (t : Option Tre) (w : World) (e : Ending) (w' : World) : Prop := ∃ V, e = .returned V ∧ RT F w' V t ∧ Below w.heap.size w w'
/-- .. and a number of steps. -/
def GaveRN (F : Nat → Prop) (t : Option Tre) (n : Nat) (w : World) (e : Ending) (w' : World) : Prop := ∃ V, e = .returned (.tuple #[V, .int .i64 (n : Int)]) ∧ RT F w' V t ∧ Below w.heap.size w w'

set_option maxRecDepth 100000 in
theorem refLeaf_any (F : Nat → Prop) (x : Int × Int) (w : World) : Calls Tryd.prog 10 #[el x] w (GaveR F (some (leafT x)) w) := by
  obtain ⟨x1, x2⟩ := x
  go_enter Tryd.func10, Tryd.ntmps10
  go_wp2_with fail
  refine bodyPost_ret (v := tV 0 (x1, x2) (.slice none 0 0) (.slice none 0 0) 1) (by simp [results, Tryd.results10, go_sem, tV]) rfl ?_
  exact ⟨_, rfl, ⟨none, none, 0, 0, [], rfl, ⟨CAt.nil _ _ _, fun _ => rfl⟩, rfl, CAt.nil _ _ _, fun _ => rfl⟩, ((Below.refl _ _).alloc (Nat.le_refl _) _).alloc (by simp) _⟩

theorem RT.size {F : Nat → Prop} {W : World} {V : Value} {t : Option Tre} (h : RT F W V t) : ∃ (r : Int) (x : Int × Int) (A A' : Option Addr) (n c n' c' : Nat), V = tV r x (.slice A n c) (.slice A' n' c') (osize t : Nat) := by
  cases t with
  | none => exact ⟨_, _, _, _, _, _, _, _, h⟩
  | some t => obtain ⟨Ab, Ak, cb, ck, kc, e, -⟩ := h; exact ⟨_, _, _, _, _, _, _, _, e⟩

set_option maxRecDepth 100000 in
theorem refRank_any (F : Nat → Prop) (V : Value) (t : Option Tre) (w : World) (h : RT F w V t) : Calls Tryd.prog 21 #[V] w fun e w' => e = .returned (.int .i64 (orank t)) ∧ Below w.heap.size w w' := by
  cases t with
  | none =>
    obtain rfl := h
    unfold tV
    go_enter Tryd.func21, Tryd.ntmps21
    go_wp2_with fail
    go_ret
    exact ⟨rfl, (Below.refl _ _).alloc (Nat.le_refl _) _⟩
  | some t =>
    obtain ⟨Ab, Ak, cb, ck, kc, rfl, -⟩ := h
    have h0 : ((t.size : Int) == 0) = false := by simp; simp only [Tre.size]; omega
    unfold tV
    go_enter Tryd.func21, Tryd.ntmps21
    go_wp2_with fail
    go_ret
    exact ⟨rfl, (Below.refl _ _).alloc (Nat.le_refl _) _⟩


end Go.Proofs.YtlkpmafgokoaiaaDoor
