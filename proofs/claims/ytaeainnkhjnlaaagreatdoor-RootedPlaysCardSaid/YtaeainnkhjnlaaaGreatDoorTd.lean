/-
  A tree of the reference's (slagheapref05.T: its rank, its thing, what stands beside it, its kids, its size) at a world, in blocks of which N holds: what it says, and that it stays. Appending kids to one. No conditions beyond what each theorem says. Contracts of the reference's Leaf, Rank and Link (slagheapref05). Condition: trees of fewer than 2 to the 28th things.
  Contract of the reference's Link (slagheapref05): the tree, and how many steps there were. Condition: trees of fewer than 2 to the 28th things. Contract of the reference's Link (slagheapref05) where the second tree is the greater one; and of Link whatever it is given. A struct of six cells loaded from, and stored to, a block whole. Condition: trees of fewer than 2 to the 28th things.
-/
import Derived.Test.YtaeainnkhjnlaaaGreatDoorTc
import Derived.Test.YtaeainnkhjnlaaaGreatDoorMb
import Derived.RangeFuncRecord
import Derived.Deep.MidRow
namespace Go.Proofs.YtaeainnkhjnlaaaGreatDoor
open Go.Sort Go.RowKit

theorem cell_old {w : World} {q : Addr} {v : Value} (h : w.cell? q = some v) (o : Obj) : (w.alloc o).cell? q = some v := (((Below.refl w.heap.size w).alloc (Nat.le_refl _) o).cell (block_lt_of_cell h)).trans h

/-- At A, in a block of which N holds, are these cells. -/
def CAt (F : Nat → Prop) (W : World) (A : Option Addr) (cs : List Value) : Prop := 0 < cs.length → ∃ b o, A = some ⟨b, o, none⟩ ∧ F b ∧ ∀ j v, cs[j]? = some v → W.cell? ⟨b, o + j, none⟩ = some v
theorem CAt.nil (F : Nat → Prop) (W : World) (A : Option Addr) : CAt F W A [] := fun h => absurd h (by decide)

/-- The worlds in which the blocks of which F holds are as they were, and F' holds of them. -/
structure Far (F F' : Nat → Prop) (W W' : World) : Prop where
  keep : ∀ k, k < W.heap.size → F k → W'.heap[k]? = W.heap[k]?
  new : ∀ k, k < W.heap.size → F k → F' k
theorem Far.below {F : Nat → Prop} {W W' : World} (h : Below W.heap.size W W') : Far F F W W' := ⟨fun k hk _ => h.block k hk, fun _ _ h => h⟩
theorem Far.cell {F F' : Nat → Prop} {W W' : World} (h : Far F F' W W') {b j : Nat} {v : Value} (hb : F b) (hc : W.cell? ⟨b, j, none⟩ = some v) : W'.cell? ⟨b, j, none⟩ = some v :=
  (World.cell?_of_block (h.keep b (block_lt_of_cell hc) hb)).trans hc
theorem CAt.far {F F' : Nat → Prop} {W W' : World} {A : Option Addr} {cs : List Value} (h : CAt F W A cs) (hf : Far F F' W W') : CAt F' W' A cs := fun h0 => by
  obtain ⟨b, o, e, hb, hc⟩ := h h0
  exact ⟨b, o, e, hf.new b (block_lt_of_cell (hc 0 _ (List.getElem?_eq_getElem h0))) hb, fun j v hj => hf.cell hb (hc j v hj)⟩
theorem CAt.row {F : Nat → Prop} {W : World} {A : Option Addr} {xs : List (Int × Int)} (h : CAt F W A (cellsE xs)) : Row W A xs := fun h0 => by
  obtain ⟨b, o, e, -, hc⟩ := h (by rw [cellsE_length]; omega)
  exact ⟨b, o, e, hc⟩

/-- The cells of a row of kids. -/
def KL (F : Nat → Prop) (W : World) : Wood → List Value → Prop
  | .nil, cs => cs = []
  | .cons x bs ks rest, cs => ∃ (Ab Ak : Option Addr) (cb ck : Nat) (kc cs' : List Value),
      cs = .int .i64 ks.len :: .int .i64 x.1 :: .int .i64 x.2 :: .slice Ab bs.length cb :: .slice Ak ks.len ck :: .int .i64 (bs.length + ks.size + 1 : Nat) :: cs' ∧
      (CAt F W Ab (cellsE bs) ∧ (Ab = none → cb = 0)) ∧ (KL F W ks kc ∧ CAt F W Ak kc ∧ (Ak = none → ck = 0)) ∧ KL F W rest cs'
theorem KL.far {F F' : Nat → Prop} {W W' : World} (hf : Far F F' W W') : ∀ {ks : Wood} {cs : List Value}, KL F W ks cs → KL F' W' ks cs
  | .nil, _, h => h
  | .cons _ _ _ _, _, ⟨Ab, Ak, cb, ck, kc, cs', e, hb, ⟨hk, hc, hn⟩, hr⟩ => ⟨Ab, Ak, cb, ck, kc, cs', e, ⟨hb.1.far hf, hb.2⟩, ⟨KL.far hf hk, hc.far hf, hn⟩, KL.far hf hr⟩
theorem KL.length {F : Nat → Prop} {W : World} : ∀ {ks : Wood} {cs : List Value}, KL F W ks cs → cs.length = ks.len * 6
  | .nil, _, h => by rw [h]; rfl
  | .cons _ _ _ _, _, ⟨_, _, _, _, _, _, e, _, _, hr⟩ => by rw [e]; simp only [List.length_cons, hr.length, Wood.len]; omega
theorem KL.one {F : Nat → Prop} {W : World} : ∀ {ks : Wood} {cs : List Value}, KL F W ks cs → ∀ u ∈ cs, u.oneCell' = true
  | .nil, _, h => by rw [h]; simp
  | .cons _ _ _ _, _, ⟨_, _, _, _, _, _, e, _, _, hr⟩ => by
    rw [e]
    intro u hu
    simp only [List.mem_cons] at hu
    rcases hu with rfl | rfl | rfl | rfl | rfl | rfl | hu
    iterate 6 rfl
    exact hr.one u hu

/-- A tree's value. -/
def tV (r : Int) (x : Int × Int) (B K : Value) (s : Int) : Value := .agg #[.int .i64 r, .int .i64 x.1, .int .i64 x.2, B, K, .int .i64 s]
/-- A tree of the reference's, or none. -/
def RT (F : Nat → Prop) (W : World) (V : Value) : Option Tre → Prop
  | none => V = tV 0 (0, 0) (.slice none 0 0) (.slice none 0 0) 0
  | some t => ∃ (Ab Ak : Option Addr) (cb ck : Nat) (kc : List Value), V = tV t.ks.len t.x (.slice Ab t.bs.length cb) (.slice Ak t.ks.len ck) (t.size : Nat) ∧
      (CAt F W Ab (cellsE t.bs) ∧ (Ab = none → cb = 0)) ∧ (KL F W t.ks kc ∧ CAt F W Ak kc ∧ (Ak = none → ck = 0))
theorem RT.far {F F' : Nat → Prop} {W W' : World} {V : Value} {t : Option Tre} (h : RT F W V t) (hf : Far F F' W W') : RT F' W' V t := by
  cases t with
  | none => exact h
  | some t => obtain ⟨Ab, Ak, cb, ck, kc, e, hb, hk, hc, hn⟩ := h; exact ⟨Ab, Ak, cb, ck, kc, e, ⟨hb.1.far hf, hb.2⟩, hk.far hf, hc.far hf, hn⟩
theorem RT.stay {F : Nat → Prop} {W W' : World} {V : Value} {t : Option Tre} (h : RT F W V t) (hb : Below W.heap.size W W') : RT F W' V t := h.far (Far.below hb)

theorem infoT : (Tryz.prog.info? 104).map (fun i => (i.zero, i.size, i.bytes)) = some (some (tV 0 (0, 0) (.slice none 0 0) (.slice none 0 0) 0), 6, 80) := by kernel_rfl

/-- A kid of one's own, and what kids there were. -/
theorem append_kids (F : Nat → Prop) (w : World) (hF : ∀ b, w.heap.size ≤ b → F b) (r : Int) (y : Int × Int) (B K : Value) (s : Int) (A : Option Addr) (n c : Nat) (kc : List Value) (hl : kc.length = n * 6) (h1 : ∀ u ∈ kc, u.oneCell' = true)
    (hc : CAt F w A kc) (hA : A = none → c = 0) (hn : n < 1000000000) :
    ∃ A' c' w', (Builtin.append_ #[33, 33] 33 #[.slice (some ⟨w.heap.size, 0, none⟩) 1 1, .slice A n c]).run Tryz.prog (w.alloc (.cells #[.int .i64 r, .int .i64 y.1, .int .i64 y.2, B, K, .int .i64 s] 104)) = .ok (.slice A' (n + 1) c') w' ∧
      CAt F w' A' (.int .i64 r :: .int .i64 y.1 :: .int .i64 y.2 :: B :: K :: .int .i64 s :: kc) ∧ (A' = none → c' = 0) ∧ Below w.heap.size w w' := by
  obtain ⟨i0, hi, hz0, hz1, hz2⟩ := info_parts infoT
  have hb := (Below.refl w.heap.size w).alloc (Nat.le_refl _) (.cells #[.int .i64 r, .int .i64 y.1, .int .i64 y.2, B, K, .int .i64 s] 104)
  have hown : (w.alloc (.cells #[.int .i64 r, .int .i64 y.1, .int .i64 y.2, B, K, .int .i64 s] 104)).ownsRow w.heap.size 104 6 (.slice (some ⟨w.heap.size, 0, none⟩) 1 1) 1 [.int .i64 r, .int .i64 y.1, .int .i64 y.2, B, K, .int .i64 s] :=
    ⟨rfl, .inr ⟨w.heap.size, 1, #[.int .i64 r, .int .i64 y.1, .int .i64 y.2, B, K, .int .i64 s], rfl, Nat.le_refl _, World.alloc_heap_new w _, Nat.le_refl _, by unfold maxLen; omega, rfl, rfl⟩⟩
  have hc' := hc.far (Far.below hb)
  generalize w.alloc (.cells #[.int .i64 r, .int .i64 y.1, .int .i64 y.2, B, K, .int .i64 s] 104) = w1 at *
  have fin : ∀ v' w', w'.ownsRow w.heap.size 104 6 v' (1 + n) ([.int .i64 r, .int .i64 y.1, .int .i64 y.2, B, K, .int .i64 s] ++ kc) → w1.grownBy w' (Value.slice (some ⟨w.heap.size, 0, none⟩) 1 1).ownBlock →
      ∃ A' c', v' = .slice A' (n + 1) c' ∧ CAt F w' A' (.int .i64 r :: .int .i64 y.1 :: .int .i64 y.2 :: B :: K :: .int .i64 s :: kc) ∧ (A' = none → c' = 0) ∧ Below w.heap.size w w' := fun v' w' ho hg => by
    have hbw := below_grown hb hg hb.size (fun g e => by simp [Value.ownBlock] at e; omega)
    have h0 := ho
    rcases ho.2 with ⟨-, hz⟩ | ⟨g, cap, cur, rfl, hbg, -, -, -, -⟩
    · omega
    · refine ⟨_, cap, by rw [Nat.add_comm n 1], fun _ => ⟨g, 0, rfl, hF g hbg, fun j u hu => ?_⟩, (fun e => by cases e), hbw⟩
      have := h0.cells (g := g) rfl j u hu
      rwa [add_plain] at this
  have step : ∀ a : Addr, (∀ j u, kc[j]? = some u → w1.cell? (a.add j) = some u) → ∃ A' c' w', (Builtin.append_ #[33, 33] 33 #[.slice (some ⟨w.heap.size, 0, none⟩) 1 1, .slice (some a) n c]).run Tryz.prog w1 = .ok (.slice A' (n + 1) c') w' ∧
      CAt F w' A' (.int .i64 r :: .int .i64 y.1 :: .int .i64 y.2 :: B :: K :: .int .i64 s :: kc) ∧ (A' = none → c' = 0) ∧ Below w.heap.size w w' := by
    intro a ha
    obtain ⟨v', w', g1, g2, g3, _⟩ := run_append_own_at (P := Tryz.prog) w1 w.heap.size 33 33 104 i0 _ 6 80 Tryz.underlying33 hi hz0 hz1 hz2 rfl (by omega) _ 1 _ hown a n c kc hl ha h1 (by unfold maxLen; omega) (by omega) hb.size
    obtain ⟨A', c', rfl, q1, q2, q3⟩ := fin v' w' g2 g3
    exact ⟨A', c', w', g1, q1, q2, q3⟩
  by_cases h0 : 0 < kc.length
  · obtain ⟨b, o, rfl, -, hcell⟩ := hc' h0
    exact step _ (fun j u hu => by rw [add_plain]; exact hcell j u hu)
  · obtain rfl : kc = [] := List.eq_nil_of_length_eq_zero (by omega)
    cases A with
    | some a => exact step a (fun j u hu => by simp at hu)
    | none =>
      obtain rfl := hA rfl
      obtain rfl : n = 0 := by simp at hl; omega
      have hrun := run_append_owned_none (P := Tryz.prog) (w := w1) w.heap.size 33 33 104 i0 6 Tryz.underlying33 hi _ 1 _ hown
      obtain ⟨A', c', e, q1, q2, q3⟩ := fin _ w1 (by simpa using hown) (World.grownBy.refl w1 _)
      exact ⟨A', c', w1, by rw [hrun, e], q1, q2, q3⟩

/-- A block of six cells: what they are, and that they may be stored to. -/
structure Hex (W : World) (b : Nat) (v0 v1 v2 v3 v4 v5 : Value) : Prop where
  c0 : W.cell? ⟨b, 0, none⟩ = some v0
  c1 : W.cell? ⟨b, 1, none⟩ = some v1
  c2 : W.cell? ⟨b, 2, none⟩ = some v2
  c3 : W.cell? ⟨b, 3, none⟩ = some v3
  c4 : W.cell? ⟨b, 4, none⟩ = some v4
  c5 : W.cell? ⟨b, 5, none⟩ = some v5
  z0 : W.frozen? ⟨b, 0, none⟩ = false
  z1 : W.frozen? ⟨b, 1, none⟩ = false
  z2 : W.frozen? ⟨b, 2, none⟩ = false
  z3 : W.frozen? ⟨b, 3, none⟩ = false
  z4 : W.frozen? ⟨b, 4, none⟩ = false
  z5 : W.frozen? ⟨b, 5, none⟩ = false
theorem hex_at {W : World} {b : Nat} {v0 v1 v2 v3 v4 v5 : Value} {t : TypeId} (h : W.heap[b]? = some (.cells #[v0, v1, v2, v3, v4, v5] t (0, 0))) : Hex W b v0 v1 v2 v3 v4 v5 := by
  constructor <;> simp [World.cell?, World.frozen?, h]
theorem alloc_old {w : World} {k : Nat} {o : Obj} (h : w.heap[k]? = some o) (o' : Obj) : (w.alloc o').heap[k]? = some o := (((Below.refl w.heap.size w).alloc (Nat.le_refl _) o').block k (lt_of_heap h)).trans h
theorem five_at (w : World) (oA oB oR oW oL : Obj) : let W := ((((w.alloc oA).alloc oB).alloc oR).alloc oW).alloc oL
    W.heap[w.heap.size]? = some oA ∧ W.heap[w.heap.size + 1]? = some oB ∧ W.heap[w.heap.size + 1 + 1]? = some oR ∧ W.heap[w.heap.size + 1 + 1 + 1]? = some oW ∧ W.heap[w.heap.size + 1 + 1 + 1 + 1]? = some oL ∧ W.heap.size = w.heap.size + 5 ∧ Below w.heap.size w W := by
  refine ⟨alloc_old (alloc_old (alloc_old (alloc_old (new_at rfl) _) _) _) _, alloc_old (alloc_old (alloc_old (new_at (by simp)) _) _) _, alloc_old (alloc_old (new_at (by simp)) _) _, alloc_old (new_at (by simp)) _, new_at (by simp), by simp, ?_⟩
  exact (((((Below.refl w.heap.size w).alloc (Nat.le_refl _) oA).alloc (by simp) oB).alloc (by simp; omega) oR).alloc (by simp; omega) oW).alloc (by simp; omega) oL


/-- What a call hands back: a tree of the reference's, and nothing that was there has changed. -/
def GaveR (F : Nat → Prop) (t : Option Tre) (w : World) (e : Ending) (w' : World) : Prop := ∃ V, e = .returned V ∧ RT F w' V t ∧ Below w.heap.size w w'
/-- .. and a number of steps. -/
def GaveRN (F : Nat → Prop) (t : Option Tre) (n : Nat) (w : World) (e : Ending) (w' : World) : Prop := ∃ V, e = .returned (.tuple #[V, .int .i64 (n : Int)]) ∧ RT F w' V t ∧ Below w.heap.size w w'

set_option maxRecDepth 100000 in
theorem refLeaf_any (F : Nat → Prop) (x : Int × Int) (w : World) : Calls Tryz.prog 51 #[el x] w (GaveR F (some (leafT x)) w) := by
  obtain ⟨x1, x2⟩ := x
  go_enter Tryz.func51, Tryz.ntmps51
  go_wp2_with fail
  refine bodyPost_ret (v := tV 0 (x1, x2) (.slice none 0 0) (.slice none 0 0) 1) (by simp [results, Tryz.results51, go_sem, tV]) rfl ?_
  exact ⟨_, rfl, ⟨none, none, 0, 0, [], rfl, ⟨CAt.nil _ _ _, fun _ => rfl⟩, rfl, CAt.nil _ _ _, fun _ => rfl⟩, ((Below.refl _ _).alloc (Nat.le_refl _) _).alloc (by simp) _⟩

theorem RT.size {F : Nat → Prop} {W : World} {V : Value} {t : Option Tre} (h : RT F W V t) : ∃ (r : Int) (x : Int × Int) (A A' : Option Addr) (n c n' c' : Nat), V = tV r x (.slice A n c) (.slice A' n' c') (osize t : Nat) := by
  cases t with
  | none => exact ⟨_, _, _, _, _, _, _, _, h⟩
  | some t => obtain ⟨Ab, Ak, cb, ck, kc, e, -⟩ := h; exact ⟨_, _, _, _, _, _, _, _, e⟩

end Go.Proofs.YtaeainnkhjnlaaaGreatDoor
namespace Go.Proofs.YtaeainnkhjnlaaaGreatDoor
open Go.Sort Go.RowKit

theorem Tre.size_ne (t : Tre) : ((t.size : Int) == 0) = false := by simp; simp only [Tre.size]; omega

set_option maxRecDepth 100000 in
theorem refLink_none (F : Nat → Prop) (va vb : Value) (tb : Option Tre) (w : World) (ha : RT F w va none) (hb : RT F w vb tb) : Calls Tryz.prog 80 #[va, vb] w (GaveRN F tb 0 w) := by
  obtain rfl := ha
  have HB := Lib.hid hb
  obtain ⟨r, ⟨x1, x2⟩, B, K, n, c, n', c', rfl⟩ := hb.size
  clear hb
  unfold tV
  go_enter Tryz.func80, Tryz.ntmps80
  go_wp2_with fail
  refine bodyPost_ret (v := .tuple #[tV r (x1, x2) (.slice B n c) (.slice K n' c') (osize tb : Nat), .int .i64 0]) (by simp [results, Tryz.results80, go_sem, tV]) rfl ?_
  have hbe := (((Below.refl w.heap.size w).alloc (Nat.le_refl _) (.cells #[.int .i64 0, .int .i64 0, .int .i64 0, .slice none 0 0, .slice none 0 0, .int .i64 0] 104)).alloc (by simp) (.cells #[.int .i64 r, .int .i64 x1, .int .i64 x2, .slice B n c, .slice K n' c', .int .i64 (osize tb : Nat)] 104)).alloc (by simp; omega) (.cells #[.int .i64 r, .int .i64 x1, .int .i64 x2, .slice B n c, .slice K n' c', .int .i64 (osize tb : Nat)] 104)
  exact ⟨_, rfl, HB.out.stay hbe, hbe⟩

set_option maxRecDepth 100000 in
theorem refLink_some (F : Nat → Prop) (va vb : Value) (a : Tre) (w : World) (ha : RT F w va (some a)) (hb : RT F w vb none) : Calls Tryz.prog 80 #[va, vb] w (GaveRN F (some a) 0 w) := by
  obtain rfl := hb
  have HA := Lib.hid ha
  obtain ⟨r, ⟨x1, x2⟩, B, K, n, c, n', c', rfl⟩ := ha.size
  have h0 := a.size_ne
  clear ha
  unfold tV
  simp only [osize]
  go_enter Tryz.func80, Tryz.ntmps80
  go_wp2_with fail
  refine bodyPost_ret (v := .tuple #[tV r (x1, x2) (.slice B n c) (.slice K n' c') (a.size : Nat), .int .i64 0]) (by simp [results, Tryz.results80, go_sem, tV]) rfl ?_
  have hbe := (((Below.refl w.heap.size w).alloc (Nat.le_refl _) (.cells #[.int .i64 r, .int .i64 x1, .int .i64 x2, .slice B n c, .slice K n' c', .int .i64 (a.size : Nat)] 104)).alloc (by simp) (.cells #[.int .i64 0, .int .i64 0, .int .i64 0, .slice none 0 0, .slice none 0 0, .int .i64 0] 104)).alloc (by simp; omega) (.cells #[.int .i64 r, .int .i64 x1, .int .i64 x2, .slice B n c, .slice K n' c', .int .i64 (a.size : Nat)] 104)
  exact ⟨_, rfl, HA.out.stay hbe, hbe⟩

/-- A block of six cells stored to whole. -/
def set6 (W : World) (R : Nat) (v0 v1 v2 v3 v4 v5 : Value) : World := (((((W.setCell ⟨R, 0, none⟩ v0).setCell ⟨R, 1, none⟩ v1).setCell ⟨R, 2, none⟩ v2).setCell ⟨R, 3, none⟩ v3).setCell ⟨R, 4, none⟩ v4).setCell ⟨R, 5, none⟩ v5
theorem set6_far (W : World) (R : Nat) (v0 v1 v2 v3 v4 v5 : Value) (k : Nat) (hk : k ≠ R) : (set6 W R v0 v1 v2 v3 v4 v5).heap[k]? = W.heap[k]? := by
  unfold set6
  rw [Below.heap_setCell _ _ _ _ hk, Below.heap_setCell _ _ _ _ hk, Below.heap_setCell _ _ _ _ hk, Below.heap_setCell _ _ _ _ hk, Below.heap_setCell _ _ _ _ hk, Below.heap_setCell _ _ _ _ hk]
theorem set6_below {B : Nat} {a W : World} (h : Below B a W) {R : Nat} (hR : B ≤ R) (v0 v1 v2 v3 v4 v5 : Value) : Below B a (set6 W R v0 v1 v2 v3 v4 v5) :=
  (((((h.setCell (p := ⟨R, 0, none⟩) hR v0).setCell (p := ⟨R, 1, none⟩) hR v1).setCell (p := ⟨R, 2, none⟩) hR v2).setCell (p := ⟨R, 3, none⟩) hR v3).setCell (p := ⟨R, 4, none⟩) hR v4).setCell (p := ⟨R, 5, none⟩) hR v5
theorem set6_hex {W : World} {R : Nat} {u0 u1 u2 u3 u4 u5 : Value} (h : Hex W R u0 u1 u2 u3 u4 u5) (v0 v1 v2 v3 v4 v5 : Value) :
    let W' := set6 W R v0 v1 v2 v3 v4 v5
    W'.cell? ⟨R, 0, none⟩ = some v0 ∧ W'.cell? ⟨R, 1, none⟩ = some v1 ∧ W'.cell? ⟨R, 2, none⟩ = some v2 ∧ W'.cell? ⟨R, 3, none⟩ = some v3 ∧ W'.cell? ⟨R, 4, none⟩ = some v4 ∧ W'.cell? ⟨R, 5, none⟩ = some v5 := by
  have ot : ∀ (w : World) (i j : Nat) (v u : Value), i ≠ j → w.cell? ⟨R, j, none⟩ = some u → (w.setCell ⟨R, i, none⟩ v).cell? ⟨R, j, none⟩ = some u := fun w i j v u hij hc => (World.cell?_setCell_other _ _ _ _ (fun e => hij (by injection e))).trans hc
  have sm : ∀ (w : World) (j : Nat) (v u : Value), w.cell? ⟨R, j, none⟩ = some u → (w.setCell ⟨R, j, none⟩ v).cell? ⟨R, j, none⟩ = some v := fun w j v u hc => World.cell?_setCell_same _ _ _ hc
  have d : ∀ i j : Nat, (i == j) = false → i ≠ j := fun i j h e => by subst e; simp at h
  refine ⟨?_, ?_, ?_, ?_, ?_, ?_⟩
  · exact ot _ _ _ _ _ (d 5 0 rfl) (ot _ _ _ _ _ (d 4 0 rfl) (ot _ _ _ _ _ (d 3 0 rfl) (ot _ _ _ _ _ (d 2 0 rfl) (ot _ _ _ _ _ (d 1 0 rfl) (sm _ _ _ _ h.c0)))))
  · exact ot _ _ _ _ _ (d 5 1 rfl) (ot _ _ _ _ _ (d 4 1 rfl) (ot _ _ _ _ _ (d 3 1 rfl) (ot _ _ _ _ _ (d 2 1 rfl) (sm _ _ _ _ (ot _ _ _ _ _ (d 0 1 rfl) h.c1)))))
  · exact ot _ _ _ _ _ (d 5 2 rfl) (ot _ _ _ _ _ (d 4 2 rfl) (ot _ _ _ _ _ (d 3 2 rfl) (sm _ _ _ _ (ot _ _ _ _ _ (d 1 2 rfl) (ot _ _ _ _ _ (d 0 2 rfl) h.c2)))))
  · exact ot _ _ _ _ _ (d 5 3 rfl) (ot _ _ _ _ _ (d 4 3 rfl) (sm _ _ _ _ (ot _ _ _ _ _ (d 2 3 rfl) (ot _ _ _ _ _ (d 1 3 rfl) (ot _ _ _ _ _ (d 0 3 rfl) h.c3)))))
  · exact ot _ _ _ _ _ (d 5 4 rfl) (sm _ _ _ _ (ot _ _ _ _ _ (d 3 4 rfl) (ot _ _ _ _ _ (d 2 4 rfl) (ot _ _ _ _ _ (d 1 4 rfl) (ot _ _ _ _ _ (d 0 4 rfl) h.c4)))))
  · exact sm _ _ _ _ (ot _ _ _ _ _ (d 4 5 rfl) (ot _ _ _ _ _ (d 3 5 rfl) (ot _ _ _ _ _ (d 2 5 rfl) (ot _ _ _ _ _ (d 1 5 rfl) (ot _ _ _ _ _ (d 0 5 rfl) h.c5)))))

/-- The winner, with the loser as its first kid. -/
theorem link_fin {F : Nat → Prop} {w w7 W' : World} {R : Nat} (hR : w.heap.size ≤ R) (b7 : Below w.heap.size w w7) (hk : ∀ k, k ≠ R → W'.heap[k]? = w7.heap[k]?) {A L : Tre} {aAb bAb bAk A7 : Option Addr} {acb bcb bck c7 : Nat} {akc bkc : List Value}
    (ha1 : CAt F w aAb (cellsE A.bs) ∧ (aAb = none → acb = 0)) (ha2 : KL F w A.ks akc) (hb1 : CAt F w bAb (cellsE L.bs) ∧ (bAb = none → bcb = 0)) (hb2 : KL F w L.ks bkc ∧ CAt F w bAk bkc ∧ (bAk = none → bck = 0))
    (hC : CAt (fun k => F k ∧ k ≠ R) w7 A7 (.int .i64 L.ks.len :: .int .i64 L.x.1 :: .int .i64 L.x.2 :: .slice bAb L.bs.length bcb :: .slice bAk L.ks.len bck :: .int .i64 (L.size : Nat) :: akc)) (hn : A7 = none → c7 = 0) {s : Int} (hs : s = A.size + L.size) :
    RT F W' (tV ((A.ks.len : Int) + 1) A.x (.slice aAb A.bs.length acb) (.slice A7 (A.ks.len + 1) c7) s) (some ⟨A.x, A.bs, .cons L.x L.bs L.ks A.ks⟩) := by
  have f1 : Far F (fun k => F k ∧ k ≠ R) w w7 := ⟨fun k hk _ => b7.block k hk, fun k hk h => ⟨h, by omega⟩⟩
  have f2 : Far (fun k => F k ∧ k ≠ R) F w7 W' := ⟨fun k _ h => hk k h.2, fun k _ h => h.1⟩
  refine ⟨aAb, A7, acb, c7, _, ?_, ⟨(ha1.1.far f1).far f2, ha1.2⟩, ⟨bAb, bAk, bcb, bck, bkc, akc, ?_, ⟨(hb1.1.far f1).far f2, hb1.2⟩, ⟨(hb2.1.far f1).far f2, (hb2.2.1.far f1).far f2, hb2.2.2⟩, (ha2.far f1).far f2⟩, hC.far f2, hn⟩
  · subst hs
    simp only [tV, Wood.len, Tre.size, Wood.size]
    congr 1
    simp
    omega
  · have e : L.size = L.bs.length + L.ks.size + 1 := by simp only [Tre.size]; omega
    rw [e]

set_option maxRecDepth 100000 in
set_option maxHeartbeats 4000000 in
/-- The first tree is not the greater one: it takes the second as its first kid. -/
theorem refLink_ge (F : Nat → Prop) (va vb : Value) (a b : Tre) (w : World) (hF : ∀ b, w.heap.size ≤ b → F b) (ha : RT F w va (some a)) (hb : RT F w vb (some b)) (ka : a.size < 268435456) (kb : b.size < 268435456) (hl' : ltE b.x a.x = false) : Calls Tryz.prog 80 #[va, vb] w (GaveRN F (some (lnk a b)) 2 w) := by
  obtain ⟨aAb, aAk, acb, ack, akc, rfl, ha1, ha2⟩ := ha
  obtain ⟨bAb, bAk, bcb, bck, bkc, rfl, hb1, hb2⟩ := hb
  have H := Lib.hid (And.intro hF (And.intro ha1 (And.intro ha2 (And.intro hb1 (And.intro hb2 (And.intro ka kb))))))
  have h0 := a.size_ne
  have h1 := b.size_ne
  clear hF ha1 ha2 hb1 hb2 ka kb
  unfold tV
  obtain ⟨⟨x1, x2⟩, hx⟩ : ∃ y, a.x = y := ⟨_, rfl⟩
  obtain ⟨⟨y1, y2⟩, hy⟩ : ∃ y, b.x = y := ⟨_, rfl⟩
  rw [hx, hy]
  go_enter Tryz.func80, Tryz.ntmps80
  go_wp2_with fail
  have h5 := five_at w (.cells #[.int .i64 a.ks.len, .int .i64 x1, .int .i64 x2, .slice aAb a.bs.length acb, .slice aAk a.ks.len ack, .int .i64 (a.size : Nat)] 104) (.cells #[.int .i64 b.ks.len, .int .i64 y1, .int .i64 y2, .slice bAb b.bs.length bcb, .slice bAk b.ks.len bck, .int .i64 (b.size : Nat)] 104)
    (.cells #[.int .i64 0, .int .i64 0, .int .i64 0, .slice none 0 0, .slice none 0 0, .int .i64 0] 104) (.cells #[.int .i64 a.ks.len, .int .i64 x1, .int .i64 x2, .slice aAb a.bs.length acb, .slice aAk a.ks.len ack, .int .i64 (a.size : Nat)] 104) (.cells #[.int .i64 b.ks.len, .int .i64 y1, .int .i64 y2, .slice bAb b.bs.length bcb, .slice bAk b.ks.len bck, .int .i64 (b.size : Nat)] 104)
  ((with_reducible refine (refLessE (y1, y2) (x1, x2) _).mono ?_); rintro e w6 ⟨rfl, hb6⟩)
  generalize ((((w.alloc (.cells #[.int .i64 a.ks.len, .int .i64 x1, .int .i64 x2, .slice aAb a.bs.length acb, .slice aAk a.ks.len ack, .int .i64 (a.size : Nat)] 104)).alloc _).alloc _).alloc _).alloc _ = W5 at *
  obtain ⟨e1, e2, e3, e4, e5, e6, e7⟩ := h5
  have q1 := (hb6.block _ (lt_of_heap e1)).trans e1
  have q2 := (hb6.block _ (lt_of_heap e2)).trans e2
  have q3 := (hb6.block _ (lt_of_heap e3)).trans e3
  have q4 := (hb6.block _ (lt_of_heap e4)).trans e4
  have q5 := (hb6.block _ (lt_of_heap e5)).trans e5
  have B6 := Lib.hid (And.intro (e7.trans (hb6.mono e7.size)) (show w.heap.size + 5 ≤ w6.heap.size by have := hb6.size; omega))
  clear e1 e2 e3 e4 e5 e6 e7 hb6
  have hN2 : ∀ k, w6.heap.size ≤ k → F k ∧ k ≠ w.heap.size + 1 + 1 := fun k hk => by have := B6.out; exact ⟨H.out.1 k (by omega), by omega⟩
  have hfar : Far F (fun k => F k ∧ k ≠ w.heap.size + 1 + 1) w w6 := ⟨fun k hk _ => B6.out.1.block k hk, fun k hk h => ⟨h, by omega⟩⟩
  have hl : ltE (y1, y2) (x1, x2) = false := by rw [← hx, ← hy]; exact hl'
  rw [hl]
  clear hl'
  have d4 := (hex_at q4).c4
  have f0 := (hex_at q5).c0
  have f1 := (hex_at q5).c1
  have f2 := (hex_at q5).c2
  have f3 := (hex_at q5).c3
  have f4 := (hex_at q5).c4
  have f5 := (hex_at q5).c5
  have d4' := fun o => cell_old d4 o
  have hka : a.ks.len < 268435456 := by have := a.ks.len_le; have := H.out.2.2.2.2.2.1; simp only [Tre.size] at this; omega
  obtain ⟨A7, c7, w7, hrun, hC, hn, hb7⟩ := append_kids (fun k => F k ∧ k ≠ w.heap.size + 1 + 1) w6 hN2 b.ks.len (y1, y2) (.slice bAb b.bs.length bcb) (.slice bAk b.ks.len bck) (b.size : Nat) aAk a.ks.len ack akc (KL.length H.out.2.2.1.1) (KL.one H.out.2.2.1.1) (H.out.2.2.1.2.1.far hfar) H.out.2.2.1.2.2 (by omega)
  have P7 := Lib.hid (And.intro hC (And.intro hn hb7))
  have a5 := (hex_at ((hb7.block _ (lt_of_heap q1)).trans q1)).c5
  have b5 := (hex_at ((hb7.block _ (lt_of_heap q2)).trans q2)).c5
  obtain ⟨c0, c1, c2, c3, c4, c5, z0, z1, z2, z3, z4, z5⟩ := hex_at ((hb7.block _ (lt_of_heap q3)).trans q3)
  have g0 := (hex_at ((hb7.block _ (lt_of_heap q4)).trans q4)).c0
  have g1 := (hex_at ((hb7.block _ (lt_of_heap q4)).trans q4)).c1
  have g2 := (hex_at ((hb7.block _ (lt_of_heap q4)).trans q4)).c2
  have g3 := (hex_at ((hb7.block _ (lt_of_heap q4)).trans q4)).c3
  have w1 : IntKind.i64.wrap ((a.ks.len : Int) + 1) = (a.ks.len : Int) + 1 := by rw [IntKind.wrap_i64]; omega
  have w2 : IntKind.i64.wrap ((a.size : Int) + (b.size : Int)) = (a.size : Int) + (b.size : Int) := by have := H.out.2.2.2.2.2; rw [IntKind.wrap_i64]; omega
  clear hC hn hb7 hfar hN2
  go_wp2_with (at_builtin; refine wpList_append_run rfl _ _ _ rfl _ _ _ _ rfl rfl hrun ?_)
  have hx6 := set6_hex ⟨c0, c1, c2, c3, c4, c5, z0, z1, z2, z3, z4, z5⟩ (.int .i64 ((a.ks.len : Int) + 1)) (.int .i64 x1) (.int .i64 x2) (.slice aAb a.bs.length acb) (.slice A7 (a.ks.len + 1) c7) (.int .i64 ((a.size : Int) + b.size))
  have far6 := set6_far w7 (w.heap.size + 1 + 1) (.int .i64 ((a.ks.len : Int) + 1)) (.int .i64 x1) (.int .i64 x2) (.slice aAb a.bs.length acb) (.slice A7 (a.ks.len + 1) c7) (.int .i64 ((a.size : Int) + b.size))
  have b7 := B6.out.1.trans (P7.out.2.2.mono B6.out.1.size)
  have be6 := set6_below b7 (R := w.heap.size + 1 + 1) (by omega) (.int .i64 ((a.ks.len : Int) + 1)) (.int .i64 x1) (.int .i64 x2) (.slice aAb a.bs.length acb) (.slice A7 (a.ks.len + 1) c7) (.int .i64 ((a.size : Int) + b.size))
  simp only [set6] at hx6 far6 be6
  obtain ⟨r0, r1, r2, r3, r4, r5⟩ := hx6
  refine bodyPost_ret (v := .tuple #[tV ((a.ks.len : Int) + 1) (x1, x2) (.slice aAb a.bs.length acb) (.slice A7 (a.ks.len + 1) c7) ((a.size : Int) + b.size), .int .i64 2]) (by simp [results, Tryz.results80, go_sem, tV, r0, r1, r2, r3, r4, r5]) rfl ?_
  refine ⟨_, rfl, ?_, be6⟩
  rw [lnk_ge (by rw [hx, hy]; exact hl), ← hx]
  exact link_fin (by omega) b7 far6 H.out.2.1 H.out.2.2.1.1 H.out.2.2.2.1 H.out.2.2.2.2.1 (by rw [hy]; exact P7.out.1) P7.out.2.1 rfl


theorem setCells_six (W : World) (b : Nat) (v0 v1 v2 v3 v4 v5 : Value) : W.setCells b 0 [v0, v1, v2, v3, v4, v5] = set6 W b v0 v1 v2 v3 v4 v5 := rfl
theorem set6_hex' {W : World} {R : Nat} {u0 u1 u2 u3 u4 u5 : Value} (h : Hex W R u0 u1 u2 u3 u4 u5) (v0 v1 v2 v3 v4 v5 : Value) : Hex (set6 W R v0 v1 v2 v3 v4 v5) R v0 v1 v2 v3 v4 v5 := by
  obtain ⟨h0, h1, h2, h3, h4, h5⟩ := set6_hex h v0 v1 v2 v3 v4 v5
  have f : ∀ o, (set6 W R v0 v1 v2 v3 v4 v5).frozen? ⟨R, o, none⟩ = W.frozen? ⟨R, o, none⟩ := fun o => by rw [← setCells_six, World.frozen?_setCells]
  exact ⟨h0, h1, h2, h3, h4, h5, (f 0).trans h.z0, (f 1).trans h.z1, (f 2).trans h.z2, (f 3).trans h.z3, (f 4).trans h.z4, (f 5).trans h.z5⟩
theorem Hex.keep {W W' : World} {b : Nat} {v0 v1 v2 v3 v4 v5 : Value} (h : Hex W b v0 v1 v2 v3 v4 v5) (e : W'.heap[b]? = W.heap[b]?) : Hex W' b v0 v1 v2 v3 v4 v5 := by
  have f : ∀ o, W'.frozen? ⟨b, o, none⟩ = W.frozen? ⟨b, o, none⟩ := fun o => by simp [World.frozen?, e]
  exact ⟨(World.cell?_of_block e).trans h.c0, (World.cell?_of_block e).trans h.c1, (World.cell?_of_block e).trans h.c2, (World.cell?_of_block e).trans h.c3, (World.cell?_of_block e).trans h.c4, (World.cell?_of_block e).trans h.c5,
    (f 0).trans h.z0, (f 1).trans h.z1, (f 2).trans h.z2, (f 3).trans h.z3, (f 4).trans h.z4, (f 5).trans h.z5⟩
theorem infoT6 : (Tryz.prog.info? 104).map (·.size) = some 6 := by kernel_rfl
theorem undT : ∃ d, Tryz.prog.underlying 104 = some d ∧ d.isRow = true := ⟨_, Tryz.underlying104, rfl⟩

theorem wpList_load_hex {ops : Array Oper} {rest : List Oper} {op : Oper} {a : Act} {w : World} {Q : Exit → Act → World → Prop} (hgd : op.guard = none) (x : Operand) (ho : op.op = .load 104 x)
    (b : Nat) (hx : a.eval x = .pointer (some ⟨b, 0, none⟩)) {v0 v1 v2 v3 v4 v5 : Value} (H : Hex w b v0 v1 v2 v3 v4 v5)
    (h : wpList Tryz.prog ops Q rest (a.put op.dst (.agg #[v0, v1, v2, v3, v4, v5])) w) : wpList Tryz.prog ops Q (op :: rest) a w := by
  obtain ⟨d, h1, h2⟩ := undT
  refine wpList_load_mid hgd _ x ho b 0 hx [v0, v1, v2, v3, v4, v5] d (fun j v hj => ?_) h1 h2 infoT6 h
  rw [Nat.zero_add]
  match j, hj with
  | 0, hj => cases hj; exact H.c0
  | 1, hj => cases hj; exact H.c1
  | 2, hj => cases hj; exact H.c2
  | 3, hj => cases hj; exact H.c3
  | 4, hj => cases hj; exact H.c4
  | 5, hj => cases hj; exact H.c5
  | j + 6, hj => simp at hj
theorem Hex.there {w : World} {b : Nat} {v0 v1 v2 v3 v4 v5 : Value} (H : Hex w b v0 v1 v2 v3 v4 v5) : w.there b 0 6 := fun j hj => by
  rw [Nat.zero_add]
  match j, hj with
  | 0, _ => exact ⟨by rw [H.c0]; rfl, H.z0⟩
  | 1, _ => exact ⟨by rw [H.c1]; rfl, H.z1⟩
  | 2, _ => exact ⟨by rw [H.c2]; rfl, H.z2⟩
  | 3, _ => exact ⟨by rw [H.c3]; rfl, H.z3⟩
  | 4, _ => exact ⟨by rw [H.c4]; rfl, H.z4⟩
  | 5, _ => exact ⟨by rw [H.c5]; rfl, H.z5⟩
  | j + 6, hj => omega
theorem wpList_store_hex {ops : Array Oper} {rest : List Oper} {op : Oper} {a : Act} {w : World} {Q : Exit → Act → World → Prop} (hgd : op.guard = none) (x y : Operand) (ho : op.op = .store 104 x y)
    (b : Nat) (hx : a.eval x = .pointer (some ⟨b, 0, none⟩)) {u0 u1 u2 u3 u4 u5 v0 v1 v2 v3 v4 v5 : Value} (hy : a.eval y = .agg #[v0, v1, v2, v3, v4, v5]) (H : Hex w b u0 u1 u2 u3 u4 u5)
    (h1 : v0.oneCell' = true ∧ v1.oneCell' = true ∧ v2.oneCell' = true ∧ v3.oneCell' = true ∧ v4.oneCell' = true ∧ v5.oneCell' = true)
    (h : ∀ w', Hex w' b v0 v1 v2 v3 v4 v5 → (∀ k, k ≠ b → w'.heap[k]? = w.heap[k]?) → (∀ B W, Below B W w → B ≤ b → Below B W w') → w'.heap.size = w.heap.size → wpList Tryz.prog ops Q rest (a.put op.dst undef) w') : wpList Tryz.prog ops Q (op :: rest) a w := by
  refine wpList_store_mid hgd _ x y ho b 0 _ hx hy H.there infoT6 (all_oneCell_toArray (cs := [v0, v1, v2, v3, v4, v5]) (by obtain ⟨o0, o1, o2, o3, o4, o5⟩ := h1; intro v hv; simp only [List.mem_cons, List.not_mem_nil, or_false] at hv; rcases hv with rfl | rfl | rfl | rfl | rfl | rfl <;> assumption)) ?_
  exact h _ (set6_hex' H _ _ _ _ _ _) (fun k hk => set6_far w b v0 v1 v2 v3 v4 v5 k hk) (fun B W hb hB => set6_below hb hB _ _ _ _ _ _) (by show (set6 w b v0 v1 v2 v3 v4 v5).heap.size = w.heap.size; unfold set6; simp)

set_option maxRecDepth 100000 in
set_option maxHeartbeats 4000000 in
/-- The second tree's thing is the lesser: it takes the first as its first kid. -/
theorem refLink_lt (F : Nat → Prop) (va vb : Value) (a b : Tre) (w : World) (hF : ∀ b, w.heap.size ≤ b → F b) (ha : RT F w va (some a)) (hb : RT F w vb (some b)) (ka : a.size < 268435456) (kb : b.size < 268435456) (hl' : ltE b.x a.x = true) : Calls Tryz.prog 80 #[va, vb] w (GaveRN F (some (lnk a b)) 2 w) := by
  obtain ⟨aAb, aAk, acb, ack, akc, rfl, ha1, ha2⟩ := ha
  obtain ⟨bAb, bAk, bcb, bck, bkc, rfl, hb1, hb2⟩ := hb
  have H := Lib.hid (And.intro hF (And.intro ha1 (And.intro ha2 (And.intro hb1 (And.intro hb2 (And.intro ka kb))))))
  have h0 := a.size_ne
  have h1 := b.size_ne
  clear hF ha1 ha2 hb1 hb2 ka kb
  unfold tV
  obtain ⟨⟨x1, x2⟩, hx⟩ : ∃ y, a.x = y := ⟨_, rfl⟩
  obtain ⟨⟨y1, y2⟩, hy⟩ : ∃ y, b.x = y := ⟨_, rfl⟩
  rw [hx, hy]
  go_enter Tryz.func80, Tryz.ntmps80
  go_wp2_with fail
  have h5 := five_at w (.cells #[.int .i64 a.ks.len, .int .i64 x1, .int .i64 x2, .slice aAb a.bs.length acb, .slice aAk a.ks.len ack, .int .i64 (a.size : Nat)] 104) (.cells #[.int .i64 b.ks.len, .int .i64 y1, .int .i64 y2, .slice bAb b.bs.length bcb, .slice bAk b.ks.len bck, .int .i64 (b.size : Nat)] 104)
    (.cells #[.int .i64 0, .int .i64 0, .int .i64 0, .slice none 0 0, .slice none 0 0, .int .i64 0] 104) (.cells #[.int .i64 a.ks.len, .int .i64 x1, .int .i64 x2, .slice aAb a.bs.length acb, .slice aAk a.ks.len ack, .int .i64 (a.size : Nat)] 104) (.cells #[.int .i64 b.ks.len, .int .i64 y1, .int .i64 y2, .slice bAb b.bs.length bcb, .slice bAk b.ks.len bck, .int .i64 (b.size : Nat)] 104)
  ((with_reducible refine (refLessE (y1, y2) (x1, x2) _).mono ?_); rintro e w6 ⟨rfl, hb6⟩)
  generalize ((((w.alloc (.cells #[.int .i64 a.ks.len, .int .i64 x1, .int .i64 x2, .slice aAb a.bs.length acb, .slice aAk a.ks.len ack, .int .i64 (a.size : Nat)] 104)).alloc _).alloc _).alloc _).alloc _ = W5 at *
  obtain ⟨e1, e2, e3, e4, e5, e6, e7⟩ := h5
  have X1 := hex_at ((hb6.block _ (lt_of_heap e1)).trans e1)
  have X2 := hex_at ((hb6.block _ (lt_of_heap e2)).trans e2)
  have X3 := hex_at ((hb6.block _ (lt_of_heap e3)).trans e3)
  have X4 := hex_at ((hb6.block _ (lt_of_heap e4)).trans e4)
  have X5 := hex_at ((hb6.block _ (lt_of_heap e5)).trans e5)
  have B6 := Lib.hid (And.intro (e7.trans (hb6.mono e7.size)) (show w.heap.size + 5 ≤ w6.heap.size by have := hb6.size; omega))
  clear e1 e2 e3 e4 e5 e6 e7 hb6
  have hl : ltE (y1, y2) (x1, x2) = true := by rw [← hx, ← hy]; exact hl'
  rw [hl]
  clear hl'
  have hka : b.ks.len < 268435456 := by have := b.ks.len_le; have := H.out.2.2.2.2.2.2; simp only [Tre.size] at this; omega
  have w1 : IntKind.i64.wrap ((b.ks.len : Int) + 1) = (b.ks.len : Int) + 1 := by rw [IntKind.wrap_i64]; omega
  have w2 : IntKind.i64.wrap ((a.size : Int) + (b.size : Int)) = (a.size : Int) + (b.size : Int) := by have := H.out.2.2.2.2.2; rw [IntKind.wrap_i64]; omega
  go_wp2_with (first
    | (refine wpList_load_hex rfl _ rfl _ rfl X2 ?_)
    | (refine wpList_load_hex rfl _ rfl _ rfl X1 ?_)
    | (refine wpList_store_hex rfl _ _ rfl _ rfl rfl X4 ⟨rfl, rfl, rfl, rfl, rfl, rfl⟩ ?_
       intro w7 Y4 hk7 hb7 hs7
       replace X1 := X1.keep (hk7 _ (by omega))
       replace X2 := X2.keep (hk7 _ (by omega))
       replace X3 := X3.keep (hk7 _ (by omega))
       replace X5 := X5.keep (hk7 _ (by omega))
       have B7 := Lib.hid (And.intro (hb7 _ _ B6.out.1 (by omega)) (show w.heap.size + 5 ≤ w7.heap.size by rw [hs7]; exact B6.out.2))
       clear X4 hk7 hb7 hs7)
    | (refine wpList_store_hex rfl _ _ rfl _ rfl rfl X5 ⟨rfl, rfl, rfl, rfl, rfl, rfl⟩ ?_
       intro w8 Y5 hk8 hb8 hs8
       replace X1 := X1.keep (hk8 _ (by omega))
       replace X2 := X2.keep (hk8 _ (by omega))
       replace X3 := X3.keep (hk8 _ (by omega))
       replace Y4 := Y4.keep (hk8 _ (by omega))
       have B8 := Lib.hid (And.intro (hb8 _ _ B7.out.1 (by omega)) (show w.heap.size + 5 ≤ w8.heap.size by rw [hs8]; exact B7.out.2))
       have hN2 : ∀ k, w8.heap.size ≤ k → F k ∧ k ≠ w.heap.size + 1 + 1 := fun k hk => by have := B8.out; exact ⟨H.out.1 k (by omega), by omega⟩
       have hfar : Far F (fun k => F k ∧ k ≠ w.heap.size + 1 + 1) w w8 := ⟨fun k hk _ => B8.out.1.block k hk, fun k hk h => ⟨h, by omega⟩⟩
       obtain ⟨A7, c7, w9, hrun, hC, hn, hb9⟩ := append_kids (fun k => F k ∧ k ≠ w.heap.size + 1 + 1) w8 hN2 a.ks.len (x1, x2) (.slice aAb a.bs.length acb) (.slice aAk a.ks.len ack) (a.size : Nat) bAk b.ks.len bck bkc (KL.length H.out.2.2.2.2.1.1) (KL.one H.out.2.2.2.2.1.1) (H.out.2.2.2.2.1.2.1.far hfar) H.out.2.2.2.2.1.2.2 (by omega)
       have P9 := Lib.hid (And.intro hC (And.intro hn hb9))
       have Z1 := X1.keep (hb9.block _ (block_lt_of_cell X1.c0))
       have Z2 := X2.keep (hb9.block _ (block_lt_of_cell X2.c0))
       have Z3 := X3.keep (hb9.block _ (block_lt_of_cell X3.c0))
       have Z4 := Y4.keep (hb9.block _ (block_lt_of_cell Y4.c0))
       have a5 := Z1.c5
       have b5 := Z2.c5
       have g0 := Z4.c0
       have g1 := Z4.c1
       have g2 := Z4.c2
       have g3 := Z4.c3
       have d4 := Y4.c4
       have d4' := fun o => cell_old d4 o
       have L5 := Y5
       clear hk8 hb8 hs8 X5 hN2 hfar hC hn hb9 X1 X2 X3 Y4)
    | (refine wpList_load_hex rfl _ rfl _ rfl L5 ?_)
    | (at_builtin; refine wpList_append_run rfl _ _ _ rfl _ _ _ _ rfl rfl hrun ?_)
    | (refine wpList_store_hex rfl _ _ rfl _ rfl rfl Z3 ⟨rfl, rfl, rfl, rfl, rfl, rfl⟩ ?_
       intro w10 Z hk10 hb10 _))
  obtain ⟨r0, r1, r2, r3, r4, r5⟩ : w10.cell? _ = _ ∧ w10.cell? _ = _ ∧ w10.cell? _ = _ ∧ w10.cell? _ = _ ∧ w10.cell? _ = _ ∧ w10.cell? _ = _ := ⟨Z.c0, Z.c1, Z.c2, Z.c3, Z.c4, Z.c5⟩
  have b9 := B8.out.1.trans (P9.out.2.2.mono B8.out.1.size)
  refine bodyPost_ret (v := .tuple #[tV ((b.ks.len : Int) + 1) (y1, y2) (.slice bAb b.bs.length bcb) (.slice A7 (b.ks.len + 1) c7) ((a.size : Int) + b.size), .int .i64 2]) (by simp [results, Tryz.results80, go_sem, tV, r0, r1, r2, r3, r4, r5]) rfl ?_
  refine ⟨_, rfl, ?_, hb10 _ _ b9 (by omega)⟩
  rw [lnk_lt (by rw [hx, hy]; exact hl), ← hy]
  exact link_fin (by omega) b9 hk10 H.out.2.2.2.1 H.out.2.2.2.2.1.1 H.out.2.1 H.out.2.2.1 (by rw [hx]; exact P9.out.1) P9.out.2.1 (by omega)

theorem refLink_any (F : Nat → Prop) (va vb : Value) (ta tb : Option Tre) (w : World) (hF : ∀ b, w.heap.size ≤ b → F b) (ha : RT F w va ta) (hb : RT F w vb tb) (ka : osize ta < 268435456) (kb : osize tb < 268435456) :
    Calls Tryz.prog 80 #[va, vb] w (GaveRN F (olnk ta tb) (2 * lnkN ta tb) w) := by
  cases ta with
  | none => exact refLink_none F va vb tb w ha hb
  | some a =>
    cases tb with
    | none => exact refLink_some F va vb a w ha hb
    | some b =>
      cases hl : ltE b.x a.x with
      | true => exact refLink_lt F va vb a b w hF ha hb ka kb hl
      | false => exact refLink_ge F va vb a b w hF ha hb ka kb hl


end Go.Proofs.YtaeainnkhjnlaaaGreatDoor
