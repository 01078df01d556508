/-
  Heaps and trees of the reference's (slagheapref11.H: is there one, its root, its queue's trees; slagheapref11.T: a rank, its root, those beside it, its kids) at a world, in blocks of which F holds: what they say, and that they stay; a block of four cells, loaded and stored whole; what is appended to a slice of the call's own. No conditions beyond what each theorem says.
  Contract of the reference's link (slagheapref11), of two trees of heaps: the tree; nothing that was there has changed. Condition: ranks below 2 to the 28th.
  Contract of the reference's put (slagheapref11): a tree of heaps put ahead of others, and how many steps there were; nothing that was there has changed. Condition: fewer than 2 to the 28th heaps.
-/
import Derived.Test.YtlmokendajgbdaaGreatDoorBo
import Derived.Test.YtlmokendajgbdaaGreatDoorMb
import Derived.Test.YtlmokendajgbdaaGreatDoorMa
import Derived.Deep.MidRow
import Derived.Deep.RegionHeld3
import Derived.Deep.DrawnRows
namespace Go.Proofs.YtlmokendajgbdaaGreatDoor.Bo.Zr
open Go.Sort Go.RowKit Go.Proofs.YtlmokendajgbdaaGreatDoor.Gn Go.Proofs.YtlmokendajgbdaaGreatDoor.Bo

/-- At A, in a block of which F holds, are these cells. -/
def CAt (F : Nat → Prop) (W : World) (A : Option Addr) (cs : List Value) : Prop := 0 < cs.length → ∃ b o, A = some ⟨b, o, none⟩ ∧ F b ∧ ∀ j v, cs[j]? = some v → W.cell? ⟨b, o + j, none⟩ = some v
theorem CAt.nil (F : Nat → Prop) (W : World) (A : Option Addr) : CAt F W A [] := fun h => absurd h (by decide)
/-- The worlds in which the blocks of which F holds are as they were, and F' holds of them. -/
structure Far (F F' : Nat → Prop) (W W' : World) : Prop where
  keep : ∀ k, k < W.heap.size → F k → W'.heap[k]? = W.heap[k]?
  new : ∀ k, k < W.heap.size → F k → F' k
theorem Far.below {F : Nat → Prop} {W W' : World} (h : Below W.heap.size W W') : Far F F W W' := ⟨fun k hk _ => h.block k hk, fun _ _ h => h⟩
theorem Far.cell {F F' : Nat → Prop} {W W' : World} (h : Far F F' W W') {b j : Nat} {v : Value} (hb : F b) (hc : W.cell? ⟨b, j, none⟩ = some v) : W'.cell? ⟨b, j, none⟩ = some v :=
  (World.cell?_of_block (h.keep b (block_lt_of_cell hc) hb)).trans hc
theorem CAt.far {F F' : Nat → Prop} {W W' : World} {A : Option Addr} {cs : List Value} (h : CAt F W A cs) (hf : Far F F' W W') : CAt F' W' A cs := fun h0 => by
  obtain ⟨b, o, e, hb, hc⟩ := h h0
  exact ⟨b, o, e, hf.new b (block_lt_of_cell (hc 0 _ (List.getElem?_eq_getElem h0))) hb, fun j v hj => hf.cell hb (hc j v hj)⟩

/-- A slice's length and capacity. -/
structure Cap (A : Option Addr) (n c : Nat) : Prop where
  le : n ≤ c
  max : c ≤ 9223372036854775807
  none : A = none → c = 0
theorem Cap.zero : Cap Option.none 0 0 := ⟨Nat.le_refl _, by omega, fun _ => rfl⟩
/-- A row of heaps, or of trees. -/
inductive Rows
  | hs (l : List Lh)
  | ts (l : List (Gn.Tre Lh))
/-- The cells of a row. -/
inductive RK (F : Nat → Prop) (W : World) : Rows → List Value → Prop
  | h0 : RK F W (.hs []) []
  | hn {r : List Lh} {cs : List Value} (hr : RK F W (.hs r) cs) : RK F W (.hs (.nil :: r)) (.bool false :: .int .i64 0 :: .int .i64 0 :: .slice none 0 0 :: cs)
  | hc {x : Int × Int} {q : List (Gn.Tre Lh)} {r : List Lh} {A : Option Addr} {c : Nat} {qc cs : List Value} (hq : RK F W (.ts q) qc) (ha : CAt F W A qc) (hA : Cap A q.length c) (hr : RK F W (.hs r) cs) :
      RK F W (.hs (.node x q :: r)) (.bool true :: .int .i64 x.1 :: .int .i64 x.2 :: .slice A q.length c :: cs)
  | t0 : RK F W (.ts []) []
  | tc {t : Gn.Tre Lh} {r : List (Gn.Tre Lh)} {Ax Ab Ak : Option Addr} {cx cb ck : Nat} {xc bc kc cs : List Value} (hx : RK F W (.hs [t.x]) xc) (ax : CAt F W Ax xc) (hb : RK F W (.hs t.bs) bc) (ab : CAt F W Ab bc) (nb : Cap Ab t.bs.length cb)
      (hk : RK F W (.ts t.ks.list) kc) (ak : CAt F W Ak kc) (nk : Cap Ak t.rank ck) (hr : RK F W (.ts r) cs) :
      RK F W (.ts (t :: r)) (.int .i64 t.rank :: .slice Ax 1 cx :: .slice Ab t.bs.length cb :: .slice Ak t.rank ck :: cs)
def Rows.len : Rows → Nat
  | .hs l => l.length
  | .ts l => l.length
theorem RK.far {F F' : Nat → Prop} {W W' : World} (hf : Far F F' W W') {k : Rows} {cs : List Value} (h : RK F W k cs) : RK F' W' k cs := by
  induction h with
  | h0 => exact .h0
  | hn _ ih => exact .hn ih
  | hc _ ha hA _ i1 i2 => exact .hc i1 (ha.far hf) hA i2
  | t0 => exact .t0
  | tc _ ax _ ab nb _ ak nk _ i1 i2 i3 i4 => exact .tc i1 (ax.far hf) i2 (ab.far hf) nb i3 (ak.far hf) nk i4
theorem RK.length {F : Nat → Prop} {W : World} {k : Rows} {cs : List Value} (h : RK F W k cs) : cs.length = k.len * 4 := by
  induction h with
  | h0 => rfl
  | hn _ ih => simp only [Rows.len, List.length_cons] at *; omega
  | hc _ _ _ _ _ ih => simp only [Rows.len, List.length_cons] at *; omega
  | t0 => rfl
  | tc _ _ _ _ _ _ _ _ _ _ _ _ ih => simp only [Rows.len, List.length_cons] at *; omega
theorem RK.one {F : Nat → Prop} {W : World} {k : Rows} {cs : List Value} (h : RK F W k cs) : ∀ u ∈ cs, u.oneCell' = true := by
  have four : ∀ (v0 v1 v2 v3 : Value) (r : List Value), v0.oneCell' = true → v1.oneCell' = true → v2.oneCell' = true → v3.oneCell' = true → (∀ u ∈ r, u.oneCell' = true) → ∀ u ∈ v0 :: v1 :: v2 :: v3 :: r, u.oneCell' = true := by
    intro v0 v1 v2 v3 r h0 h1 h2 h3 hr u hu
    simp only [List.mem_cons] at hu
    rcases hu with rfl | rfl | rfl | rfl | hu
    · exact h0
    · exact h1
    · exact h2
    · exact h3
    · exact hr u hu
  induction h with
  | h0 => intro u hu; cases hu
  | hn _ ih => exact four _ _ _ _ _ rfl rfl rfl rfl ih
  | hc _ _ _ _ _ ih => exact four _ _ _ _ _ rfl rfl rfl rfl ih
  | t0 => intro u hu; cases hu
  | tc _ _ _ _ _ _ _ _ _ _ _ _ ih => exact four _ _ _ _ _ rfl rfl rfl rfl ih

/-- A row at an address: a slice of so many. -/
def RowAt (F : Nat → Prop) (W : World) (k : Rows) (A : Option Addr) (n c : Nat) : Prop := n = k.len ∧ Cap A n c ∧ ∃ cs, RK F W k cs ∧ CAt F W A cs
theorem RowAt.far {F F' : Nat → Prop} {W W' : World} {k : Rows} {A : Option Addr} {n c : Nat} (h : RowAt F W k A n c) (hf : Far F F' W W') : RowAt F' W' k A n c := by
  obtain ⟨h1, h2, cs, h3, h4⟩ := h
  exact ⟨h1, h2, cs, h3.far hf, h4.far hf⟩
theorem RowAt.stay {F : Nat → Prop} {W W' : World} {k : Rows} {A : Option Addr} {n c : Nat} (h : RowAt F W k A n c) (hb : Below W.heap.size W W') : RowAt F W' k A n c := h.far (Far.below hb)
theorem RowAt.none_hs (F : Nat → Prop) (W : World) : RowAt F W (.hs []) none 0 0 := ⟨rfl, Cap.zero, [], .h0, CAt.nil _ _ _⟩
theorem RowAt.none_ts (F : Nat → Prop) (W : World) : RowAt F W (.ts []) none 0 0 := ⟨rfl, Cap.zero, [], .t0, CAt.nil _ _ _⟩

/-- A heap's value. -/
abbrev hV (x : Int × Int) (A : Option Addr) (n c : Nat) (N : Bool) : Value := .agg #[.bool N, .int .i64 x.1, .int .i64 x.2, .slice A n c]
/-- A tree's value. -/
abbrev tV (r : Int) (Ax : Option Addr) (nx cx : Nat) (Ab : Option Addr) (nb cb : Nat) (Ak : Option Addr) (nk ck : Nat) : Value := .agg #[.int .i64 r, .slice Ax nx cx, .slice Ab nb cb, .slice Ak nk ck]
/-- A heap of the reference's. -/
def RAt (F : Nat → Prop) (W : World) (t : Lh) (x : Int × Int) (A : Option Addr) (n c : Nat) (N : Bool) : Prop :=
  match t with
  | .nil => x = (0, 0) ∧ A = none ∧ n = 0 ∧ c = 0 ∧ N = false
  | .node y q => x = y ∧ N = true ∧ RowAt F W (.ts q) A n c
/-- A tree of the reference's. -/
structure RT (F : Nat → Prop) (W : World) (t : Gn.Tre Lh) (Ax : Option Addr) (cx : Nat) (Ab : Option Addr) (cb : Nat) (Ak : Option Addr) (ck : Nat) : Prop where
  x : ∃ cs, RK F W (.hs [t.x]) cs ∧ CAt F W Ax cs
  b : RowAt F W (.hs t.bs) Ab t.bs.length cb
  k : RowAt F W (.ts t.ks.list) Ak t.rank ck
section
variable {F F' : Nat → Prop} {W W' : World}
theorem RAt.far {A : Option Addr} {n c : Nat} {N : Bool} {x : Int × Int} {t : Lh} (h : RAt F W t x A n c N) (hf : Far F F' W W') : RAt F' W' t x A n c N := by
  cases t with
  | nil => exact h
  | node y o => exact ⟨h.1, h.2.1, h.2.2.far hf⟩
theorem RAt.stay {A : Option Addr} {n c : Nat} {N : Bool} {x : Int × Int} {t : Lh} (h : RAt F W t x A n c N) (hb : Below W.heap.size W W') : RAt F W' t x A n c N := h.far (Far.below hb)
theorem RAt.zero (F : Nat → Prop) (W : World) : RAt F W .nil (0, 0) none 0 0 false := ⟨rfl, rfl, rfl, rfl, rfl⟩
theorem RAt.key {A : Option Addr} {n c : Nat} {N : Bool} {x : Int × Int} {t : Lh} (h : RAt F W t x A n c N) : x = t.key := by
  cases t with
  | nil => exact h.1
  | node y o => exact h.1
theorem RT.far {t : Gn.Tre Lh} {Ax Ab Ak : Option Addr} {cx cb ck : Nat} (h : RT F W t Ax cx Ab cb Ak ck) (hf : Far F F' W W') : RT F' W' t Ax cx Ab cb Ak ck := by
  obtain ⟨⟨cs, h1, h2⟩, h3, h4⟩ := h
  exact ⟨⟨cs, h1.far hf, h2.far hf⟩, h3.far hf, h4.far hf⟩
theorem RT.stay {t : Gn.Tre Lh} {Ax Ab Ak : Option Addr} {cx cb ck : Nat} (h : RT F W t Ax cx Ab cb Ak ck) (hb : Below W.heap.size W W') : RT F W' t Ax cx Ab cb Ak ck := h.far (Far.below hb)
/-- A heap's cells in a row, and back. -/
theorem RK.head_h {t : Lh} {r : List Lh} {cs : List Value} (h : RK F W (.hs (t :: r)) cs) : ∃ (x : Int × Int) (A : Option Addr) (n c : Nat) (N : Bool) (cs' : List Value), cs = .bool N :: .int .i64 x.1 :: .int .i64 x.2 :: .slice A n c :: cs' ∧ RAt F W t x A n c N ∧ RK F W (.hs r) cs' := by
  cases h with
  | hn hr => exact ⟨(0, 0), _, _, _, _, _, rfl, RAt.zero F W, hr⟩
  | hc hq ha hA hr => exact ⟨_, _, _, _, _, _, rfl, ⟨rfl, rfl, rfl, hA, _, hq, ha⟩, hr⟩
theorem RK.cons_h {t : Lh} {r : List Lh} {cs : List Value} {x : Int × Int} {A : Option Addr} {n c : Nat} {N : Bool} (h : RAt F W t x A n c N) (hr : RK F W (.hs r) cs) : RK F W (.hs (t :: r)) (.bool N :: .int .i64 x.1 :: .int .i64 x.2 :: .slice A n c :: cs) := by
  cases t with
  | nil => obtain ⟨rfl, rfl, rfl, rfl, rfl⟩ := h; exact .hn hr
  | node y q => obtain ⟨rfl, rfl, rfl, hA, qc, hq, ha⟩ := h; exact .hc hq ha hA hr
/-- A tree's cells in a row, and back. -/
theorem RK.head_t {t : Gn.Tre Lh} {r : List (Gn.Tre Lh)} {cs : List Value} (h : RK F W (.ts (t :: r)) cs) : ∃ (Ax Ab Ak : Option Addr) (cx cb ck : Nat) (cs' : List Value), cs = .int .i64 t.rank :: .slice Ax 1 cx :: .slice Ab t.bs.length cb :: .slice Ak t.rank ck :: cs' ∧ RT F W t Ax cx Ab cb Ak ck ∧ RK F W (.ts r) cs' := by
  cases h with
  | tc hx ax hb ab nb hk ak nk hr => exact ⟨_, _, _, _, _, _, _, rfl, ⟨⟨_, hx, ax⟩, ⟨rfl, nb, _, hb, ab⟩, ⟨(Gn.Wood.list_len _).symm, nk, _, hk, ak⟩⟩, hr⟩
theorem RK.cons_t {t : Gn.Tre Lh} {r : List (Gn.Tre Lh)} {cs : List Value} {Ax Ab Ak : Option Addr} {cx cb ck : Nat} (h : RT F W t Ax cx Ab cb Ak ck) (hr : RK F W (.ts r) cs) : RK F W (.ts (t :: r)) (.int .i64 t.rank :: .slice Ax 1 cx :: .slice Ab t.bs.length cb :: .slice Ak t.rank ck :: cs) := by
  obtain ⟨⟨xc, h1, h2⟩, ⟨-, h3, bc, h4, h5⟩, -, h6, kc, h7, h8⟩ := h
  exact .tc h1 h2 h4 h5 h3 h7 h8 h6 hr
end

theorem infoH : (Tryz.prog.info? 35).map (fun i => (i.zero, i.size, i.bytes)) = some (some (hV (0, 0) none 0 0 false), 4, 48) := by kernel_rfl
theorem infoT : (Tryz.prog.info? 97).map (fun i => (i.zero, i.size, i.bytes)) = some (some (tV 0 none 0 0 none 0 0 none 0 0), 4, 80) := by kernel_rfl
theorem add_plain4 (b o j : Nat) : (⟨b, o, none⟩ : Addr).add j = ⟨b, o + j, none⟩ := add_flat b o j

/-- A thing of four cells in a slice of the call's own, and a row behind it. -/
theorem append_h (F : Nat → Prop) (w : World) (hF : ∀ b, w.heap.size ≤ b → F b) (v0 v1 v2 v3 : Value) (A : Option Addr) (n c : Nat) (kc : List Value) (hl : kc.length = n * 4) (h1 : ∀ u ∈ kc, u.oneCell' = true)
    (hc : CAt F w A kc) (hA : A = none → c = 0) (hn : n < 1000000000) :
    ∃ A' c' w', (Builtin.append_ #[36, 36] 36 #[.slice (some ⟨w.heap.size, 0, none⟩) 1 1, .slice A n c]).run Tryz.prog (w.alloc (.cells #[v0, v1, v2, v3] 35)) = .ok (.slice A' (n + 1) c') w' ∧
      CAt F w' A' (v0 :: v1 :: v2 :: v3 :: kc) ∧ Cap A' (n + 1) c' ∧ Below w.heap.size w w' := by
  obtain ⟨i0, hi, hz0, hz1, hz2⟩ := info_parts infoH
  have hb := (Below.refl w.heap.size w).alloc (Nat.le_refl _) (.cells #[v0, v1, v2, v3] 35)
  have hown : (w.alloc (.cells #[v0, v1, v2, v3] 35)).ownsRow w.heap.size 35 4 (.slice (some ⟨w.heap.size, 0, none⟩) 1 1) 1 [v0, v1, v2, v3] :=
    ⟨rfl, .inr ⟨w.heap.size, 1, #[v0, v1, v2, v3], rfl, Nat.le_refl _, World.alloc_heap_new w _, Nat.le_refl _, by unfold maxLen; omega, rfl, rfl⟩⟩
  have hc' := hc.far (Far.below hb)
  generalize w.alloc (.cells #[v0, v1, v2, v3] 35) = w1 at *
  have fin : ∀ v' w', w'.ownsRow w.heap.size 35 4 v' (1 + n) ([v0, v1, v2, v3] ++ kc) → w1.grownBy w' (Value.slice (some ⟨w.heap.size, 0, none⟩) 1 1).ownBlock →
      ∃ A' c', v' = .slice A' (n + 1) c' ∧ CAt F w' A' (v0 :: v1 :: v2 :: v3 :: kc) ∧ Cap A' (n + 1) c' ∧ Below w.heap.size w w' := fun v' w' ho hg => by
    have hbw := below_grown hb hg hb.size (fun g e => by simp [Value.ownBlock] at e; omega)
    have h0 := ho
    rcases ho.2 with ⟨-, hz⟩ | ⟨g, cap, cur, rfl, hbg, -, hcap, hmax, -⟩
    · omega
    · refine ⟨_, cap, by rw [Nat.add_comm n 1], fun _ => ⟨g, 0, rfl, hF g hbg, fun j u hu => ?_⟩, ⟨by omega, by unfold maxLen at hmax; omega, fun e => by cases e⟩, hbw⟩
      have := h0.cells (g := g) rfl j u hu
      rwa [add_plain4] at this
  have step : ∀ a : Addr, (∀ j u, kc[j]? = some u → w1.cell? (a.add j) = some u) → ∃ A' c' w', (Builtin.append_ #[36, 36] 36 #[.slice (some ⟨w.heap.size, 0, none⟩) 1 1, .slice (some a) n c]).run Tryz.prog w1 = .ok (.slice A' (n + 1) c') w' ∧
      CAt F w' A' (v0 :: v1 :: v2 :: v3 :: kc) ∧ Cap A' (n + 1) c' ∧ Below w.heap.size w w' := by
    intro a ha
    obtain ⟨v', w', g1, g2, g3, _⟩ := run_append_own_at (P := Tryz.prog) w1 w.heap.size 36 36 35 i0 _ 4 48 Tryz.underlying36 hi hz0 hz1 hz2 rfl (by omega) _ 1 _ hown a n c kc hl ha h1 (by unfold maxLen; omega) (by omega) hb.size
    obtain ⟨A', c', rfl, q1, q2, q3⟩ := fin v' w' g2 g3
    exact ⟨A', c', w', g1, q1, q2, q3⟩
  by_cases h0 : 0 < kc.length
  · obtain ⟨b, o, rfl, -, hcell⟩ := hc' h0
    exact step _ (fun j u hu => by rw [add_plain4]; exact hcell j u hu)
  · obtain rfl : kc = [] := List.eq_nil_of_length_eq_zero (by omega)
    cases A with
    | some a => exact step a (fun j u hu => by simp at hu)
    | none =>
      obtain rfl := hA rfl
      obtain rfl : n = 0 := by simp at hl; omega
      have hrun := run_append_owned_none (P := Tryz.prog) (w := w1) w.heap.size 36 36 35 i0 4 Tryz.underlying36 hi _ 1 _ hown
      obtain ⟨A', c', e, q1, q2, q3⟩ := fin _ w1 (by simpa using hown) (World.grownBy.refl w1 _)
      exact ⟨A', c', w1, by rw [hrun, e], q1, q2, q3⟩

/-- A thing of four cells in a slice of the call's own, and a row behind it. -/
theorem append_t (F : Nat → Prop) (w : World) (hF : ∀ b, w.heap.size ≤ b → F b) (v0 v1 v2 v3 : Value) (A : Option Addr) (n c : Nat) (kc : List Value) (hl : kc.length = n * 4) (h1 : ∀ u ∈ kc, u.oneCell' = true)
    (hc : CAt F w A kc) (hA : A = none → c = 0) (hn : n < 1000000000) :
    ∃ A' c' w', (Builtin.append_ #[33, 33] 33 #[.slice (some ⟨w.heap.size, 0, none⟩) 1 1, .slice A n c]).run Tryz.prog (w.alloc (.cells #[v0, v1, v2, v3] 97)) = .ok (.slice A' (n + 1) c') w' ∧
      CAt F w' A' (v0 :: v1 :: v2 :: v3 :: kc) ∧ Cap A' (n + 1) c' ∧ Below w.heap.size w w' := by
  obtain ⟨i0, hi, hz0, hz1, hz2⟩ := info_parts infoT
  have hb := (Below.refl w.heap.size w).alloc (Nat.le_refl _) (.cells #[v0, v1, v2, v3] 97)
  have hown : (w.alloc (.cells #[v0, v1, v2, v3] 97)).ownsRow w.heap.size 97 4 (.slice (some ⟨w.heap.size, 0, none⟩) 1 1) 1 [v0, v1, v2, v3] :=
    ⟨rfl, .inr ⟨w.heap.size, 1, #[v0, v1, v2, v3], rfl, Nat.le_refl _, World.alloc_heap_new w _, Nat.le_refl _, by unfold maxLen; omega, rfl, rfl⟩⟩
  have hc' := hc.far (Far.below hb)
  generalize w.alloc (.cells #[v0, v1, v2, v3] 97) = w1 at *
  have fin : ∀ v' w', w'.ownsRow w.heap.size 97 4 v' (1 + n) ([v0, v1, v2, v3] ++ kc) → w1.grownBy w' (Value.slice (some ⟨w.heap.size, 0, none⟩) 1 1).ownBlock →
      ∃ A' c', v' = .slice A' (n + 1) c' ∧ CAt F w' A' (v0 :: v1 :: v2 :: v3 :: kc) ∧ Cap A' (n + 1) c' ∧ Below w.heap.size w w' := fun v' w' ho hg => by
    have hbw := below_grown hb hg hb.size (fun g e => by simp [Value.ownBlock] at e; omega)
    have h0 := ho
    rcases ho.2 with ⟨-, hz⟩ | ⟨g, cap, cur, rfl, hbg, -, hcap, hmax, -⟩
    · omega
    · refine ⟨_, cap, by rw [Nat.add_comm n 1], fun _ => ⟨g, 0, rfl, hF g hbg, fun j u hu => ?_⟩, ⟨by omega, by unfold maxLen at hmax; omega, fun e => by cases e⟩, hbw⟩
      have := h0.cells (g := g) rfl j u hu
      rwa [add_plain4] at this
  have step : ∀ a : Addr, (∀ j u, kc[j]? = some u → w1.cell? (a.add j) = some u) → ∃ A' c' w', (Builtin.append_ #[33, 33] 33 #[.slice (some ⟨w.heap.size, 0, none⟩) 1 1, .slice (some a) n c]).run Tryz.prog w1 = .ok (.slice A' (n + 1) c') w' ∧
      CAt F w' A' (v0 :: v1 :: v2 :: v3 :: kc) ∧ Cap A' (n + 1) c' ∧ Below w.heap.size w w' := by
    intro a ha
    obtain ⟨v', w', g1, g2, g3, _⟩ := run_append_own_at (P := Tryz.prog) w1 w.heap.size 33 33 97 i0 _ 4 80 Tryz.underlying33 hi hz0 hz1 hz2 rfl (by omega) _ 1 _ hown a n c kc hl ha h1 (by unfold maxLen; omega) (by omega) hb.size
    obtain ⟨A', c', rfl, q1, q2, q3⟩ := fin v' w' g2 g3
    exact ⟨A', c', w', g1, q1, q2, q3⟩
  by_cases h0 : 0 < kc.length
  · obtain ⟨b, o, rfl, -, hcell⟩ := hc' h0
    exact step _ (fun j u hu => by rw [add_plain4]; exact hcell j u hu)
  · obtain rfl : kc = [] := List.eq_nil_of_length_eq_zero (by omega)
    cases A with
    | some a => exact step a (fun j u hu => by simp at hu)
    | none =>
      obtain rfl := hA rfl
      obtain rfl : n = 0 := by simp at hl; omega
      have hrun := run_append_owned_none (P := Tryz.prog) (w := w1) w.heap.size 33 33 97 i0 4 Tryz.underlying33 hi _ 1 _ hown
      obtain ⟨A', c', e, q1, q2, q3⟩ := fin _ w1 (by simpa using hown) (World.grownBy.refl w1 _)
      exact ⟨A', c', w1, by rw [hrun, e], q1, q2, q3⟩

/-- A block of four cells: what they are, and that they may be stored to. -/
structure Qd (W : World) (b : Nat) (v0 v1 v2 v3 : Value) : Prop where
  c0 : W.cell? ⟨b, 0, none⟩ = some v0
  c1 : W.cell? ⟨b, 1, none⟩ = some v1
  c2 : W.cell? ⟨b, 2, none⟩ = some v2
  c3 : W.cell? ⟨b, 3, none⟩ = some v3
  z0 : W.frozen? ⟨b, 0, none⟩ = false
  z1 : W.frozen? ⟨b, 1, none⟩ = false
  z2 : W.frozen? ⟨b, 2, none⟩ = false
  z3 : W.frozen? ⟨b, 3, none⟩ = false
theorem qd_at {W : World} {b : Nat} {v0 v1 v2 v3 : Value} {t : TypeId} (h : W.heap[b]? = some (.cells #[v0, v1, v2, v3] t (0, 0))) : Qd W b v0 v1 v2 v3 := by
  constructor <;> simp [World.cell?, World.frozen?, h]
theorem Qd.keep {W W' : World} {b : Nat} {v0 v1 v2 v3 : Value} (h : Qd W b v0 v1 v2 v3) (e : W'.heap[b]? = W.heap[b]?) : Qd W' b v0 v1 v2 v3 := by
  have f : ∀ o, W'.frozen? ⟨b, o, none⟩ = W.frozen? ⟨b, o, none⟩ := fun o => by simp [World.frozen?, e]
  exact ⟨(World.cell?_of_block e).trans h.c0, (World.cell?_of_block e).trans h.c1, (World.cell?_of_block e).trans h.c2, (World.cell?_of_block e).trans h.c3, (f 0).trans h.z0, (f 1).trans h.z1, (f 2).trans h.z2, (f 3).trans h.z3⟩
theorem Qd.lt {W : World} {b : Nat} {v0 v1 v2 v3 : Value} (h : Qd W b v0 v1 v2 v3) : b < W.heap.size := block_lt_of_cell h.c0
/-- A block of four cells stored to whole. -/
def set4 (W : World) (R : Nat) (v0 v1 v2 v3 : Value) : World := (((W.setCell ⟨R, 0, none⟩ v0).setCell ⟨R, 1, none⟩ v1).setCell ⟨R, 2, none⟩ v2).setCell ⟨R, 3, none⟩ v3
theorem set4_far (W : World) (R : Nat) (v0 v1 v2 v3 : Value) (k : Nat) (hk : k ≠ R) : (set4 W R v0 v1 v2 v3).heap[k]? = W.heap[k]? := by
  unfold set4
  rw [Below.heap_setCell _ _ _ _ hk, Below.heap_setCell _ _ _ _ hk, Below.heap_setCell _ _ _ _ hk, Below.heap_setCell _ _ _ _ hk]
theorem set4_below {B : Nat} {a W : World} (h : Below B a W) {R : Nat} (hR : B ≤ R) (v0 v1 v2 v3 : Value) : Below B a (set4 W R v0 v1 v2 v3) :=
  (((h.setCell (p := ⟨R, 0, none⟩) hR v0).setCell (p := ⟨R, 1, none⟩) hR v1).setCell (p := ⟨R, 2, none⟩) hR v2).setCell (p := ⟨R, 3, none⟩) hR v3
theorem setCells_four (W : World) (b : Nat) (v0 v1 v2 v3 : Value) : W.setCells b 0 [v0, v1, v2, v3] = set4 W b v0 v1 v2 v3 := rfl
theorem set4_qd {W : World} {R : Nat} {u0 u1 u2 u3 : Value} (h : Qd W R u0 u1 u2 u3) (v0 v1 v2 v3 : Value) : Qd (set4 W R v0 v1 v2 v3) R v0 v1 v2 v3 := by
  have ot : ∀ (w : World) (i j : Nat) (v u : Value), i ≠ j → w.cell? ⟨R, j, none⟩ = some u → (w.setCell ⟨R, i, none⟩ v).cell? ⟨R, j, none⟩ = some u := fun w i j v u hij hc => (World.cell?_setCell_other _ _ _ _ (fun e => hij (by injection e))).trans hc
  have sm : ∀ (w : World) (j : Nat) (v u : Value), w.cell? ⟨R, j, none⟩ = some u → (w.setCell ⟨R, j, none⟩ v).cell? ⟨R, j, none⟩ = some v := fun w j v u hc => World.cell?_setCell_same _ _ _ hc
  have d : ∀ i j : Nat, (i == j) = false → i ≠ j := fun i j h e => by subst e; simp at h
  have f : ∀ o, (set4 W R v0 v1 v2 v3).frozen? ⟨R, o, none⟩ = W.frozen? ⟨R, o, none⟩ := fun o => by rw [← setCells_four, World.frozen?_setCells]
  refine ⟨?_, ?_, ?_, ?_, (f 0).trans h.z0, (f 1).trans h.z1, (f 2).trans h.z2, (f 3).trans h.z3⟩
  · exact ot _ _ _ _ _ (d 3 0 rfl) (ot _ _ _ _ _ (d 2 0 rfl) (ot _ _ _ _ _ (d 1 0 rfl) (sm _ _ _ _ h.c0)))
  · exact ot _ _ _ _ _ (d 3 1 rfl) (ot _ _ _ _ _ (d 2 1 rfl) (sm _ _ _ _ (ot _ _ _ _ _ (d 0 1 rfl) h.c1)))
  · exact ot _ _ _ _ _ (d 3 2 rfl) (sm _ _ _ _ (ot _ _ _ _ _ (d 1 2 rfl) (ot _ _ _ _ _ (d 0 2 rfl) h.c2)))
  · exact sm _ _ _ _ (ot _ _ _ _ _ (d 2 3 rfl) (ot _ _ _ _ _ (d 1 3 rfl) (ot _ _ _ _ _ (d 0 3 rfl) h.c3)))
theorem Qd.there {w : World} {b : Nat} {v0 v1 v2 v3 : Value} (H : Qd w b v0 v1 v2 v3) : w.there b 0 4 := fun j hj => by
  rw [Nat.zero_add]
  match j, hj with
  | 0, _ => exact ⟨by rw [H.c0]; rfl, H.z0⟩
  | 1, _ => exact ⟨by rw [H.c1]; rfl, H.z1⟩
  | 2, _ => exact ⟨by rw [H.c2]; rfl, H.z2⟩
  | 3, _ => exact ⟨by rw [H.c3]; rfl, H.z3⟩
  | j + 4, hj => omega
theorem infoH4 : (Tryz.prog.info? 35).map (·.size) = some 4 := by kernel_rfl
theorem undH : ∃ d, Tryz.prog.underlying 35 = some d ∧ d.isRow = true := ⟨_, Tryz.underlying35, rfl⟩
theorem infoT4 : (Tryz.prog.info? 97).map (·.size) = some 4 := by kernel_rfl
theorem undT : ∃ d, Tryz.prog.underlying 97 = some d ∧ d.isRow = true := ⟨_, Tryz.underlying97, rfl⟩
theorem wpList_load_h {ops : Array Oper} {rest : List Oper} {op : Oper} {a : Act} {w : World} {Q : Exit → Act → World → Prop} (hgd : op.guard = none) (x : Operand) (ho : op.op = .load 35 x)
    (b : Nat) (hx : a.eval x = .pointer (some ⟨b, 0, none⟩)) {v0 v1 v2 v3 : Value} (H : Qd w b v0 v1 v2 v3)
    (h : wpList Tryz.prog ops Q rest (a.put op.dst (.agg #[v0, v1, v2, v3])) w) : wpList Tryz.prog ops Q (op :: rest) a w := by
  obtain ⟨d, h1, h2⟩ := undH
  refine wpList_load_mid hgd _ x ho b 0 hx [v0, v1, v2, v3] d (fun j v hj => ?_) h1 h2 infoH4 h
  rw [Nat.zero_add]
  match j, hj with
  | 0, hj => cases hj; exact H.c0
  | 1, hj => cases hj; exact H.c1
  | 2, hj => cases hj; exact H.c2
  | 3, hj => cases hj; exact H.c3
  | j + 4, hj => simp at hj
theorem wpList_load_t {ops : Array Oper} {rest : List Oper} {op : Oper} {a : Act} {w : World} {Q : Exit → Act → World → Prop} (hgd : op.guard = none) (x : Operand) (ho : op.op = .load 97 x)
    (b : Nat) (hx : a.eval x = .pointer (some ⟨b, 0, none⟩)) {v0 v1 v2 v3 : Value} (H : Qd w b v0 v1 v2 v3)
    (h : wpList Tryz.prog ops Q rest (a.put op.dst (.agg #[v0, v1, v2, v3])) w) : wpList Tryz.prog ops Q (op :: rest) a w := by
  obtain ⟨d, h1, h2⟩ := undT
  refine wpList_load_mid hgd _ x ho b 0 hx [v0, v1, v2, v3] d (fun j v hj => ?_) h1 h2 infoT4 h
  rw [Nat.zero_add]
  match j, hj with
  | 0, hj => cases hj; exact H.c0
  | 1, hj => cases hj; exact H.c1
  | 2, hj => cases hj; exact H.c2
  | 3, hj => cases hj; exact H.c3
  | j + 4, hj => simp at hj
theorem wpList_store_h {ops : Array Oper} {rest : List Oper} {op : Oper} {a : Act} {w : World} {Q : Exit → Act → World → Prop} (hgd : op.guard = none) (x y : Operand) (ho : op.op = .store 35 x y)
    (b : Nat) (hx : a.eval x = .pointer (some ⟨b, 0, none⟩)) {u0 u1 u2 u3 v0 v1 v2 v3 : Value} (hy : a.eval y = .agg #[v0, v1, v2, v3]) (H : Qd w b u0 u1 u2 u3)
    (h1 : v0.oneCell' = true ∧ v1.oneCell' = true ∧ v2.oneCell' = true ∧ v3.oneCell' = true)
    (h : ∀ w', Qd w' b v0 v1 v2 v3 → (∀ k, k ≠ b → w'.heap[k]? = w.heap[k]?) → (∀ B W, Below B W w → B ≤ b → Below B W w') → w'.heap.size = w.heap.size → wpList Tryz.prog ops Q rest (a.put op.dst undef) w') : wpList Tryz.prog ops Q (op :: rest) a w := by
  refine wpList_store_mid hgd _ x y ho b 0 _ hx hy H.there infoH4 (all_oneCell_toArray (cs := [v0, v1, v2, v3]) (by obtain ⟨o0, o1, o2, o3⟩ := h1; intro v hv; simp only [List.mem_cons, List.not_mem_nil, or_false] at hv; rcases hv with rfl | rfl | rfl | rfl <;> assumption)) ?_
  exact h _ (set4_qd H _ _ _ _) (fun k hk => set4_far w b v0 v1 v2 v3 k hk) (fun B W hb hB => set4_below hb hB _ _ _ _) (by show (set4 w b v0 v1 v2 v3).heap.size = w.heap.size; unfold set4; simp)

theorem wpList_store_t {ops : Array Oper} {rest : List Oper} {op : Oper} {a : Act} {w : World} {Q : Exit → Act → World → Prop} (hgd : op.guard = none) (x y : Operand) (ho : op.op = .store 97 x y)
    (b : Nat) (hx : a.eval x = .pointer (some ⟨b, 0, none⟩)) {u0 u1 u2 u3 v0 v1 v2 v3 : Value} (hy : a.eval y = .agg #[v0, v1, v2, v3]) (H : Qd w b u0 u1 u2 u3)
    (h1 : v0.oneCell' = true ∧ v1.oneCell' = true ∧ v2.oneCell' = true ∧ v3.oneCell' = true)
    (h : ∀ w', Qd w' b v0 v1 v2 v3 → (∀ k, k ≠ b → w'.heap[k]? = w.heap[k]?) → (∀ B W, Below B W w → B ≤ b → Below B W w') → w'.heap.size = w.heap.size → wpList Tryz.prog ops Q rest (a.put op.dst undef) w') : wpList Tryz.prog ops Q (op :: rest) a w := by
  refine wpList_store_mid hgd _ x y ho b 0 _ hx hy H.there infoT4 (all_oneCell_toArray (cs := [v0, v1, v2, v3]) (by obtain ⟨o0, o1, o2, o3⟩ := h1; intro v hv; simp only [List.mem_cons, List.not_mem_nil, or_false] at hv; rcases hv with rfl | rfl | rfl | rfl <;> assumption)) ?_
  exact h _ (set4_qd H _ _ _ _) (fun k hk => set4_far w b v0 v1 v2 v3 k hk) (fun B W hb hB => set4_below hb hB _ _ _ _) (by show (set4 w b v0 v1 v2 v3).heap.size = w.heap.size; unfold set4; simp)


end Go.Proofs.YtlmokendajgbdaaGreatDoor.Bo.Zr
namespace Go.Proofs.YtlmokendajgbdaaGreatDoor.Bo.Zr
open Go.Sort Go.RowKit Go.Proofs.YtlmokendajgbdaaGreatDoor.Gn Go.Proofs.YtlmokendajgbdaaGreatDoor.Bo

theorem RT.root {F : Nat → Prop} {W : World} {t : Gn.Tre Lh} {Ax Ab Ak : Option Addr} {cx cb ck : Nat} (h : RT F W t Ax cx Ab cb Ak ck) : ∃ b o, Ax = some ⟨b, o, none⟩ ∧ W.cell? ⟨b, o + 1, none⟩ = some (.int .i64 t.x.key.1) ∧ W.cell? ⟨b, o + 2, none⟩ = some (.int .i64 t.x.key.2) := by
  obtain ⟨cs, h1, h2⟩ := h.x
  obtain ⟨x, A, n, c, N, cs', rfl, hr, -⟩ := h1.head_h
  obtain ⟨b, o, e, -, hc⟩ := h2 (by simp)
  have := hr.key
  subst this
  exact ⟨b, o, e, hc 1 _ rfl, hc 2 _ rfl⟩
theorem stay_cell {W W' : World} {b o : Nat} {v : Value} (hb : Below W.heap.size W W') (h : W.cell? ⟨b, o, none⟩ = some v) : W'.cell? ⟨b, o, none⟩ = some v := (hb.cell (p := ⟨b, o, none⟩) (block_lt_of_cell h)).trans h
theorem alloc_old {w : World} {k : Nat} {o : Obj} (h : w.heap[k]? = some o) (o' : Obj) : (w.alloc o').heap[k]? = some o := (((Below.refl w.heap.size w).alloc (Nat.le_refl _) o').block k (lt_of_heap h)).trans h
theorem five_at (w : World) (oA oB oR oW oL : Obj) : let W := ((((w.alloc oA).alloc oB).alloc oR).alloc oW).alloc oL
    W.heap[w.heap.size]? = some oA ∧ W.heap[w.heap.size + 1]? = some oB ∧ W.heap[w.heap.size + 1 + 1]? = some oR ∧ W.heap[w.heap.size + 1 + 1 + 1]? = some oW ∧ W.heap[w.heap.size + 1 + 1 + 1 + 1]? = some oL ∧ W.heap.size = w.heap.size + 5 ∧ Below w.heap.size w W := by
  refine ⟨alloc_old (alloc_old (alloc_old (alloc_old (new_at rfl) _) _) _) _, alloc_old (alloc_old (alloc_old (new_at (by simp)) _) _) _, alloc_old (alloc_old (new_at (by simp)) _) _, alloc_old (new_at (by simp)) _, new_at (by simp), by simp, ?_⟩
  exact (((((Below.refl w.heap.size w).alloc (Nat.le_refl _) oA).alloc (by simp) oB).alloc (by simp; omega) oR).alloc (by simp; omega) oW).alloc (by simp; omega) oL
/-- What a call hands back: a tree of the reference's, and nothing that was there has changed. -/
def GaveT (F : Nat → Prop) (t : Gn.Tre Lh) (w : World) (e : Ending) (w' : World) : Prop := ∃ (Ax Ab Ak : Option Addr) (cx cb ck : Nat), e = .returned (tV t.rank Ax 1 cx Ab t.bs.length cb Ak t.rank ck) ∧ RT F w' t Ax cx Ab cb Ak ck ∧ Below w.heap.size w w'
/-- The winner, with the loser as its first kid. -/
theorem link_fin {F : Nat → Prop} {w w7 W' : World} {R : Nat} (hR : w.heap.size ≤ R) (b7 : Below w.heap.size w w7) (hk : ∀ k, k ≠ R → W'.heap[k]? = w7.heap[k]?) {A L : Gn.Tre Lh} {aAx aAb aAk bAx bAb bAk A7 : Option Addr} {acx acb ack bcx bcb bck c7 : Nat} {kc : List Value}
    (ha : RT F w A aAx acx aAb acb aAk ack) (hb : RT F w L bAx bcx bAb bcb bAk bck) (hkc : RK F w (.ts A.ks.list) kc)
    (hC : CAt (fun k => F k ∧ k ≠ R) w7 A7 (.int .i64 L.rank :: .slice bAx 1 bcx :: .slice bAb L.bs.length bcb :: .slice bAk L.rank bck :: kc)) (hn : Cap A7 (A.rank + 1) c7) :
    RT F W' ⟨A.x, A.bs, .cons L.x L.bs L.ks A.ks⟩ aAx acx aAb acb A7 c7 := by
  have f1 : Far F (fun k => F k ∧ k ≠ R) w w7 := ⟨fun k hk _ => b7.block k hk, fun k hk h => ⟨h, by omega⟩⟩
  have f2 : Far (fun k => F k ∧ k ≠ R) F w7 W' := ⟨fun k _ h => hk k h.2, fun k _ h => h.1⟩
  have ha' := (ha.far f1).far f2
  have hb' := (hb.far f1).far f2
  refine ⟨ha'.x, ha'.b, ?_, hn, _, RK.cons_t (t := ⟨L.x, L.bs, L.ks⟩) hb' ((hkc.far f1).far f2), hC.far f2⟩
  show (Gn.Wood.cons L.x L.bs L.ks A.ks).len = _
  rw [← Gn.Wood.list_len]
  rfl

set_option maxRecDepth 100000 in
set_option maxHeartbeats 4000000 in
theorem refLink_ge (F : Nat → Prop) (a b : Gn.Tre Lh) (aAx aAb aAk bAx bAb bAk : Option Addr) (acx acb ack bcx bcb bck : Nat) (w : World) (hF : ∀ b, w.heap.size ≤ b → F b) (ha : RT F w a aAx acx aAb acb aAk ack) (hb : RT F w b bAx bcx bAb bcb bAk bck) (ka : a.rank < 268435456) (hl' : ltE b.x.key a.x.key = false) :
    Calls Tryz.prog 68 #[.agg #[.int .i64 a.rank, .slice aAx 1 acx, .slice aAb a.bs.length acb, .slice aAk a.rank ack], .agg #[.int .i64 b.rank, .slice bAx 1 bcx, .slice bAb b.bs.length bcb, .slice bAk b.rank bck]] w (GaveT F (lnk a b) w) := by
  obtain ⟨ra, oa, rfl, ra1, ra2⟩ := ha.root
  obtain ⟨rb, ob, rfl, rb1, rb2⟩ := hb.root
  have h5 := five_at w (.cells #[.int .i64 a.rank, .slice (some ⟨ra, oa, none⟩) 1 acx, .slice aAb a.bs.length acb, .slice aAk a.rank ack] 97) (.cells #[.int .i64 b.rank, .slice (some ⟨rb, ob, none⟩) 1 bcx, .slice bAb b.bs.length bcb, .slice bAk b.rank bck] 97)
    (.cells #[.int .i64 0, .slice none 0 0, .slice none 0 0, .slice none 0 0] 97) (.cells #[.int .i64 a.rank, .slice (some ⟨ra, oa, none⟩) 1 acx, .slice aAb a.bs.length acb, .slice aAk a.rank ack] 97) (.cells #[.int .i64 b.rank, .slice (some ⟨rb, ob, none⟩) 1 bcx, .slice bAb b.bs.length bcb, .slice bAk b.rank bck] 97)
  have H := Lib.hid (And.intro hF (And.intro ha (And.intro hb ka)))
  obtain ⟨⟨x1, x2⟩, hx⟩ : ∃ y, a.x.key = y := ⟨_, rfl⟩
  obtain ⟨⟨y1, y2⟩, hy⟩ : ∃ y, b.x.key = y := ⟨_, rfl⟩
  rw [hx] at ra1 ra2
  rw [hy] at rb1 rb2
  have HXY := Lib.hid (And.intro hx hy)
  have HLT := Lib.hid hl'
  have HV := Lib.hid (show ltI y1 y2 x1 x2 = false from by rw [hx, hy] at hl'; exact hl')
  have HR := Lib.hid (And.intro ra1 (And.intro ra2 (And.intro rb1 rb2)))
  have H5 := Lib.hid h5
  clear hF ha hb ka ra1 ra2 rb1 rb2 hx hy hl' h5
  go_enter Tryz.func68, Tryz.ntmps68
  go_wp2_with fail
  generalize ((((w.alloc (.cells #[.int .i64 a.rank, .slice (some ⟨ra, oa, none⟩) 1 acx, .slice aAb a.bs.length acb, .slice aAk a.rank ack] 97)).alloc _).alloc _).alloc _).alloc _ = W5 at *
  have hB := H5.out.2.2.2.2.2.2
  have HR5 := Lib.hid (And.intro (stay_cell hB HR.out.1) (And.intro (stay_cell hB HR.out.2.1) (And.intro (stay_cell hB HR.out.2.2.1) (stay_cell hB HR.out.2.2.2))))
  have r1 := HR5.out.1
  have r2 := HR5.out.2.1
  have r3 := HR5.out.2.2.1
  have r4 := HR5.out.2.2.2
  have a1 := (qd_at H5.out.1).c1
  have b1 := (qd_at H5.out.2.1).c1
  clear hB HR
  obtain ⟨n0, hn0⟩ : ∃ n, n = w.heap.size := ⟨_, rfl⟩
  rw [← hn0] at H H5 a1 b1 ⊢
  have HN := Lib.hid hn0
  clear hn0
  go_region_held3 (fun w' => w'.cell? ⟨n0, 1, none⟩ = some (.slice (some ⟨ra, oa, none⟩) 1 acx) ∧ w'.cell? ⟨n0 + 1, 1, none⟩ = some (.slice (some ⟨rb, ob, none⟩) 1 bcx) ∧ w'.cell? ⟨ra, oa + 1, none⟩ = some (.int .i64 x1) ∧ w'.cell? ⟨ra, oa + 2, none⟩ = some (.int .i64 x2) ∧ w'.cell? ⟨rb, ob + 1, none⟩ = some (.int .i64 y1) ∧ w'.cell? ⟨rb, ob + 2, none⟩ = some (.int .i64 y2)) (go_keep)
    (first | (go_at_call 36; ((with_reducible refine (refLess_below y1 y2 x1 x2 _).mono ?_); rintro e w6 ⟨rfl, hb6⟩; rw [HV.out]; have H6 := Lib.hid ((Below.refl W5.heap.size W5).drew.trans (hb6.mono (by exact Nat.le_refl _))); have s1 := stay_cell H6.out HR5.out.1; have s2 := stay_cell H6.out HR5.out.2.1; have s3 := stay_cell H6.out HR5.out.2.2.1; have s4 := stay_cell H6.out HR5.out.2.2.2; have s5 := (qd_at ((H6.out.block _ (lt_of_heap H5.out.1)).trans H5.out.1)).c1; have s6 := (qd_at ((H6.out.block _ (lt_of_heap H5.out.2.1)).trans H5.out.2.1)).c1; clear hb6)))
  clear s1 s2 s3 s4 s5 s6 HR5
  have hbw : Below w.heap.size w w6 := by rw [← HN.out]; exact H5.out.2.2.2.2.2.2.trans (H6.out.mono (by rw [H5.out.2.2.2.2.2.1]; omega))
  have hsz : n0 + 5 ≤ w6.heap.size := by have h1 := H6.out.size; rw [H5.out.2.2.2.2.2.1] at h1; exact h1
  have X3 := (qd_at H5.out.2.2.1).keep (H6.out.block _ (lt_of_heap H5.out.2.2.1))
  have X4 := (qd_at H5.out.2.2.2.1).keep (H6.out.block _ (lt_of_heap H5.out.2.2.2.1))
  have X5 := (qd_at H5.out.2.2.2.2.1).keep (H6.out.block _ (lt_of_heap H5.out.2.2.2.2.1))
  have hN2 : ∀ k, w6.heap.size ≤ k → F k ∧ k ≠ n0 + 1 + 1 := fun k hk => ⟨H.out.1 k (by omega), by omega⟩
  have hfar : Far F (fun k => F k ∧ k ≠ n0 + 1 + 1) w w6 := ⟨fun k hk _ => hbw.block k hk, fun k hk h => ⟨h, by have := HN.out; omega⟩⟩
  obtain ⟨hkn, hkA, kc, hk1, hk2⟩ := H.out.2.1.k
  obtain ⟨A7, c7, w7, hrun, hC, hn, hb7⟩ := append_t (fun k => F k ∧ k ≠ n0 + 1 + 1) w6 hN2 (.int .i64 b.rank) (.slice (some ⟨rb, ob, none⟩) 1 bcx) (.slice bAb b.bs.length bcb) (.slice bAk b.rank bck) aAk a.rank ack kc (by rw [hk1.length, ← hkn]) hk1.one (hk2.far hfar) hkA.none (by have := H.out.2.2.2; omega)
  have P7 := Lib.hid (And.intro hC (And.intro hn (And.intro hb7 (And.intro hbw (And.intro hsz hk1)))))
  have Z3 := X3.keep (hb7.block _ X3.lt)
  have Z4 := X4.keep (hb7.block _ X4.lt)
  have d3 := X4.c3
  have d3' := fun o => stay_cell ((Below.refl w6.heap.size w6).alloc (Nat.le_refl _) o) d3
  have g0 := Z4.c0
  have g1 := Z4.c1
  have g2 := Z4.c2
  have w1' : IntKind.i64.wrap ((a.rank : Int) + 1) = (a.rank : Int) + 1 := by have := H.out.2.2.2; rw [IntKind.wrap_i64]; omega
  clear hC hn hb7 hfar hN2 hbw hsz hk1 hk2 hkA hkn X3 X4
  go_wp2_with (first
    | (refine wpList_load_t rfl _ rfl _ rfl X5 ?_)
    | (at_builtin; refine wpList_append_run rfl _ _ _ rfl _ _ _ _ rfl rfl hrun ?_)
    | (refine wpList_store_t rfl _ _ rfl _ rfl rfl Z3 ⟨rfl, rfl, rfl, rfl⟩ ?_
       intro w8 Z hk8 hb8 _))
  have q0 := Z.c0
  have q1 := Z.c1
  have q2 := Z.c2
  have q3 := Z.c3
  have b7 : Below w.heap.size w w7 := P7.out.2.2.2.1.trans (P7.out.2.2.1.mono P7.out.2.2.2.1.size)
  refine bodyPost_ret (v := tV ((a.rank : Int) + 1) (some ⟨ra, oa, none⟩) 1 acx aAb a.bs.length acb A7 (a.rank + 1) c7) (by simp [results, Tryz.results68, go_sem, tV, q0, q1, q2, q3]) rfl ?_
  rw [lnk_ge (a := a) (b := b) (show ltK b.x a.x = false from HLT.out)]
  exact ⟨_, _, _, _, _, _, rfl, link_fin (R := n0 + 1 + 1) (by rw [← HN.out]; omega) b7 hk8 H.out.2.1 H.out.2.2.1 P7.out.2.2.2.2.2 P7.out.1 P7.out.2.1, hb8 _ _ b7 (by rw [← HN.out]; omega)⟩

set_option maxRecDepth 100000 in
set_option maxHeartbeats 4000000 in
theorem refLink_lt (F : Nat → Prop) (a b : Gn.Tre Lh) (aAx aAb aAk bAx bAb bAk : Option Addr) (acx acb ack bcx bcb bck : Nat) (w : World) (hF : ∀ b, w.heap.size ≤ b → F b) (ha : RT F w a aAx acx aAb acb aAk ack) (hb : RT F w b bAx bcx bAb bcb bAk bck) (kb : b.rank < 268435456) (hl' : ltE b.x.key a.x.key = true) :
    Calls Tryz.prog 68 #[.agg #[.int .i64 a.rank, .slice aAx 1 acx, .slice aAb a.bs.length acb, .slice aAk a.rank ack], .agg #[.int .i64 b.rank, .slice bAx 1 bcx, .slice bAb b.bs.length bcb, .slice bAk b.rank bck]] w (GaveT F (lnk a b) w) := by
  obtain ⟨ra, oa, rfl, ra1, ra2⟩ := ha.root
  obtain ⟨rb, ob, rfl, rb1, rb2⟩ := hb.root
  have h5 := five_at w (.cells #[.int .i64 a.rank, .slice (some ⟨ra, oa, none⟩) 1 acx, .slice aAb a.bs.length acb, .slice aAk a.rank ack] 97) (.cells #[.int .i64 b.rank, .slice (some ⟨rb, ob, none⟩) 1 bcx, .slice bAb b.bs.length bcb, .slice bAk b.rank bck] 97)
    (.cells #[.int .i64 0, .slice none 0 0, .slice none 0 0, .slice none 0 0] 97) (.cells #[.int .i64 a.rank, .slice (some ⟨ra, oa, none⟩) 1 acx, .slice aAb a.bs.length acb, .slice aAk a.rank ack] 97) (.cells #[.int .i64 b.rank, .slice (some ⟨rb, ob, none⟩) 1 bcx, .slice bAb b.bs.length bcb, .slice bAk b.rank bck] 97)
  have H := Lib.hid (And.intro hF (And.intro ha (And.intro hb kb)))
  obtain ⟨⟨x1, x2⟩, hx⟩ : ∃ y, a.x.key = y := ⟨_, rfl⟩
  obtain ⟨⟨y1, y2⟩, hy⟩ : ∃ y, b.x.key = y := ⟨_, rfl⟩
  rw [hx] at ra1 ra2
  rw [hy] at rb1 rb2
  have HXY := Lib.hid (And.intro hx hy)
  have HLT := Lib.hid hl'
  have HV := Lib.hid (show ltI y1 y2 x1 x2 = true from by rw [hx, hy] at hl'; exact hl')
  have HR := Lib.hid (And.intro ra1 (And.intro ra2 (And.intro rb1 rb2)))
  have H5 := Lib.hid h5
  clear hF ha hb kb ra1 ra2 rb1 rb2 hx hy hl' h5
  go_enter Tryz.func68, Tryz.ntmps68
  go_wp2_with fail
  generalize ((((w.alloc (.cells #[.int .i64 a.rank, .slice (some ⟨ra, oa, none⟩) 1 acx, .slice aAb a.bs.length acb, .slice aAk a.rank ack] 97)).alloc _).alloc _).alloc _).alloc _ = W5 at *
  have hB := H5.out.2.2.2.2.2.2
  have HR5 := Lib.hid (And.intro (stay_cell hB HR.out.1) (And.intro (stay_cell hB HR.out.2.1) (And.intro (stay_cell hB HR.out.2.2.1) (stay_cell hB HR.out.2.2.2))))
  have r1 := HR5.out.1
  have r2 := HR5.out.2.1
  have r3 := HR5.out.2.2.1
  have r4 := HR5.out.2.2.2
  have a1 := (qd_at H5.out.1).c1
  have b1 := (qd_at H5.out.2.1).c1
  clear hB HR
  obtain ⟨n0, hn0⟩ : ∃ n, n = w.heap.size := ⟨_, rfl⟩
  rw [← hn0] at H H5 a1 b1 ⊢
  have HN := Lib.hid hn0
  clear hn0
  go_region_held3 (fun w' => w'.cell? ⟨n0, 1, none⟩ = some (.slice (some ⟨ra, oa, none⟩) 1 acx) ∧ w'.cell? ⟨n0 + 1, 1, none⟩ = some (.slice (some ⟨rb, ob, none⟩) 1 bcx) ∧ w'.cell? ⟨ra, oa + 1, none⟩ = some (.int .i64 x1) ∧ w'.cell? ⟨ra, oa + 2, none⟩ = some (.int .i64 x2) ∧ w'.cell? ⟨rb, ob + 1, none⟩ = some (.int .i64 y1) ∧ w'.cell? ⟨rb, ob + 2, none⟩ = some (.int .i64 y2)) (go_keep)
    (first | (go_at_call 36; ((with_reducible refine (refLess_below y1 y2 x1 x2 _).mono ?_); rintro e w6 ⟨rfl, hb6⟩; rw [HV.out]; have H6 := Lib.hid ((Below.refl W5.heap.size W5).drew.trans (hb6.mono (by exact Nat.le_refl _))); have s1 := stay_cell H6.out HR5.out.1; have s2 := stay_cell H6.out HR5.out.2.1; have s3 := stay_cell H6.out HR5.out.2.2.1; have s4 := stay_cell H6.out HR5.out.2.2.2; have s5 := (qd_at ((H6.out.block _ (lt_of_heap H5.out.1)).trans H5.out.1)).c1; have s6 := (qd_at ((H6.out.block _ (lt_of_heap H5.out.2.1)).trans H5.out.2.1)).c1; clear hb6)))
  clear s1 s2 s3 s4 s5 s6 HR5
  have hbw : Below w.heap.size w w6 := by rw [← HN.out]; exact H5.out.2.2.2.2.2.2.trans (H6.out.mono (by rw [H5.out.2.2.2.2.2.1]; omega))
  have hsz : n0 + 5 ≤ w6.heap.size := by have h1 := H6.out.size; rw [H5.out.2.2.2.2.2.1] at h1; exact h1
  have X3 := (qd_at H5.out.2.2.1).keep (H6.out.block _ (lt_of_heap H5.out.2.2.1))
  have X4 := (qd_at H5.out.2.2.2.1).keep (H6.out.block _ (lt_of_heap H5.out.2.2.2.1))
  have X5 := (qd_at H5.out.2.2.2.2.1).keep (H6.out.block _ (lt_of_heap H5.out.2.2.2.2.1))
  have X1 := (qd_at H5.out.1).keep (H6.out.block _ (lt_of_heap H5.out.1))
  have X2 := (qd_at H5.out.2.1).keep (H6.out.block _ (lt_of_heap H5.out.2.1))
  have B6 := Lib.hid (And.intro hbw hsz)
  have w1' : IntKind.i64.wrap ((b.rank : Int) + 1) = (b.rank : Int) + 1 := by have := H.out.2.2.2; rw [IntKind.wrap_i64]; omega
  clear hbw hsz r1 r2 r3 r4 a1 b1
  go_wp2_with (first
    | (refine wpList_load_t rfl _ rfl _ rfl X2 ?_)
    | (refine wpList_load_t rfl _ rfl _ rfl X1 ?_)
    | (refine wpList_store_t rfl _ _ rfl _ rfl rfl X4 ⟨rfl, rfl, rfl, rfl⟩ ?_
       intro w7 Y4 hk7 hb7 hs7
       replace X1 := X1.keep (hk7 _ (by omega))
       replace X2 := X2.keep (hk7 _ (by omega))
       replace X3 := X3.keep (hk7 _ (by omega))
       replace X5 := X5.keep (hk7 _ (by omega))
       have B7 := Lib.hid (And.intro (hb7 _ _ B6.out.1 (by rw [← HN.out]; omega)) (show n0 + 5 ≤ w7.heap.size by rw [hs7]; exact B6.out.2))
       clear X4 hk7 hb7 hs7)
    | (refine wpList_store_t rfl _ _ rfl _ rfl rfl X5 ⟨rfl, rfl, rfl, rfl⟩ ?_
       intro w8 Y5 hk8 hb8 hs8
       replace X1 := X1.keep (hk8 _ (by omega))
       replace X2 := X2.keep (hk8 _ (by omega))
       replace X3 := X3.keep (hk8 _ (by omega))
       replace Y4 := Y4.keep (hk8 _ (by omega))
       have B8 := Lib.hid (And.intro (hb8 _ _ B7.out.1 (by rw [← HN.out]; omega)) (show n0 + 5 ≤ w8.heap.size by rw [hs8]; exact B7.out.2))
       have hN2 : ∀ k, w8.heap.size ≤ k → F k ∧ k ≠ n0 + 1 + 1 := fun k hk => by have := B8.out.2; exact ⟨H.out.1 k (by omega), by omega⟩
       have hfar : Far F (fun k => F k ∧ k ≠ n0 + 1 + 1) w w8 := ⟨fun k hk _ => B8.out.1.block k hk, fun k hk h => ⟨h, by have := HN.out; omega⟩⟩
       obtain ⟨hkn, hkA, kc, hk1, hk2⟩ := H.out.2.2.1.k
       obtain ⟨A7, c7, w9, hrun, hC, hn, hb9⟩ := append_t (fun k => F k ∧ k ≠ n0 + 1 + 1) w8 hN2 (.int .i64 a.rank) (.slice (some ⟨ra, oa, none⟩) 1 acx) (.slice aAb a.bs.length acb) (.slice aAk a.rank ack) bAk b.rank bck kc (by rw [hk1.length, ← hkn]) hk1.one (hk2.far hfar) hkA.none (by have := H.out.2.2.2; omega)
       have P9 := Lib.hid (And.intro hC (And.intro hn (And.intro hb9 hk1)))
       have Z3 := X3.keep (hb9.block _ X3.lt)
       have Z4 := Y4.keep (hb9.block _ Y4.lt)
       have g0 := Z4.c0
       have g1 := Z4.c1
       have g2 := Z4.c2
       have d3 := Y4.c3
       have d3' := fun o => stay_cell ((Below.refl w8.heap.size w8).alloc (Nat.le_refl _) o) d3
       have L5 := Y5
       clear hk8 hb8 hs8 X5 hN2 hfar hC hn hb9 X1 X2 X3 Y4 hkn hkA hk1 hk2)
    | (refine wpList_load_t rfl _ rfl _ rfl L5 ?_)
    | (at_builtin; refine wpList_append_run rfl _ _ _ rfl _ _ _ _ rfl rfl hrun ?_)
    | (refine wpList_store_t rfl _ _ rfl _ rfl rfl Z3 ⟨rfl, rfl, rfl, rfl⟩ ?_
       intro w10 Z hk10 hb10 _))
  have q0 := Z.c0
  have q1 := Z.c1
  have q2 := Z.c2
  have q3 := Z.c3
  have b9 : Below w.heap.size w w9 := B8.out.1.trans (P9.out.2.2.1.mono B8.out.1.size)
  refine bodyPost_ret (v := tV ((b.rank : Int) + 1) (some ⟨rb, ob, none⟩) 1 bcx bAb b.bs.length bcb A7 (b.rank + 1) c7) (by simp [results, Tryz.results68, go_sem, tV, q0, q1, q2, q3]) rfl ?_
  rw [lnk_lt (a := a) (b := b) (show ltK b.x a.x = true from HLT.out)]
  exact ⟨_, _, _, _, _, _, rfl, link_fin (R := n0 + 1 + 1) (by rw [← HN.out]; omega) b9 hk10 H.out.2.2.1 H.out.2.1 P9.out.2.2.2 P9.out.1 P9.out.2.1, hb10 _ _ b9 (by rw [← HN.out]; omega)⟩

theorem refLink_any (F : Nat → Prop) (a b : Gn.Tre Lh) (aAx aAb aAk bAx bAb bAk : Option Addr) (acx acb ack bcx bcb bck : Nat) (w : World) (hF : ∀ b, w.heap.size ≤ b → F b) (ha : RT F w a aAx acx aAb acb aAk ack) (hb : RT F w b bAx bcx bAb bcb bAk bck) (ka : a.rank < 268435456) (kb : b.rank < 268435456) :
    Calls Tryz.prog 68 #[.agg #[.int .i64 a.rank, .slice aAx 1 acx, .slice aAb a.bs.length acb, .slice aAk a.rank ack], .agg #[.int .i64 b.rank, .slice bAx 1 bcx, .slice bAb b.bs.length bcb, .slice bAk b.rank bck]] w (GaveT F (lnk a b) w) := by
  cases hl : ltE b.x.key a.x.key with
  | true => exact refLink_lt F a b aAx aAb aAk bAx bAb bAk acx acb ack bcx bcb bck w hF ha hb kb hl
  | false => exact refLink_ge F a b aAx aAb aAk bAx bAb bAk acx acb ack bcx bcb bck w hF ha hb ka hl

end Go.Proofs.YtlmokendajgbdaaGreatDoor.Bo.Zr
namespace Go.Proofs.YtlmokendajgbdaaGreatDoor.Bo.Zr
open Go.Sort Go.RowKit Go.Proofs.YtlmokendajgbdaaGreatDoor.Gn Go.Proofs.YtlmokendajgbdaaGreatDoor.Bo

theorem bSize_len : ∀ l : List (Gn.Tre Lh), l.length ≤ Gn.bSize l
  | [] => Nat.le_refl _
  | t :: r => by have := bSize_len r; simp only [List.length_cons, Gn.bSize, Gn.Tre.size]; omega
/-- A row of trees. -/
abbrev TsAt (F : Nat → Prop) (W : World) (l : List (Gn.Tre Lh)) (A : Option Addr) (n c : Nat) : Prop := RowAt F W (.ts l) A n c
section
variable {F F' : Nat → Prop} {W W' : World} {l : List (Gn.Tre Lh)} {A : Option Addr} {n c : Nat}
/-- The first one's four cells, its value. -/
theorem ts_first {t : Gn.Tre Lh} (h : TsAt F W (t :: l) A n c) : ∃ (b o : Nat) (Ax Ab Ak : Option Addr) (cx cb ck : Nat), A = some ⟨b, o, none⟩ ∧
    (W.cell? ⟨b, o, none⟩ = some (.int .i64 t.rank) ∧ W.cell? ⟨b, o + 1, none⟩ = some (.slice Ax 1 cx) ∧ W.cell? ⟨b, o + 2, none⟩ = some (.slice Ab t.bs.length cb) ∧ W.cell? ⟨b, o + 3, none⟩ = some (.slice Ak t.rank ck)) ∧ RT F W t Ax cx Ab cb Ak ck := by
  obtain ⟨-, -, cs, hk, hC⟩ := h
  obtain ⟨Ax, Ab, Ak, cx, cb, ck, cs', rfl, ht, -⟩ := hk.head_t
  obtain ⟨b, o, e, -, hc⟩ := hC (by simp)
  exact ⟨b, o, Ax, Ab, Ak, cx, cb, ck, e, ⟨hc 0 _ rfl, hc 1 _ rfl, hc 2 _ rfl, hc 3 _ rfl⟩, ht⟩
/-- What is behind it. -/
theorem ts_rest {t : Gn.Tre Lh} {b o : Nat} (h : TsAt F W (t :: l) (some ⟨b, o, none⟩) n c) : TsAt F W l (some ⟨b, o + 1 * 4, none⟩) (n - 1) (c - 1) := by
  obtain ⟨h1, ⟨h2, h3, -⟩, cs, hk, hC⟩ := h
  obtain ⟨Ax, Ab, Ak, cx, cb, ck, cs', rfl, -, hr⟩ := hk.head_t
  simp only [Rows.len, List.length_cons] at h1
  refine ⟨by simp only [Rows.len]; omega, ⟨by omega, by omega, fun e => by cases e⟩, cs', hr, fun hpos => ?_⟩
  obtain ⟨b2, o2, e2, hb2, hc2⟩ := hC (by simp)
  cases e2
  exact ⟨b, o + 1 * 4, rfl, hb2, fun j v hj => by
    have := hc2 (4 + j) v (by rw [show 4 + j = j + 1 + 1 + 1 + 1 by omega]; exact hj)
    rwa [show o + (4 + j) = o + 1 * 4 + j by omega] at this⟩
theorem ts_zero (F : Nat → Prop) (W : World) (b o : Nat) : TsAt F W [] (some ⟨b, o, none⟩) 0 0 := ⟨rfl, ⟨Nat.le_refl _, by omega, fun e => by cases e⟩, [], .t0, CAt.nil _ _ _⟩
theorem ts_nil {A : Option Addr} {n c : Nat} (h : TsAt F W [] A n c) : n = 0 := h.1
end
/-- What a call hands back: a row of trees, how many steps; nothing that was there has changed. -/
def GaveLN (F : Nat → Prop) (l : List (Gn.Tre Lh)) (k : Nat) (w : World) (e : Ending) (w' : World) : Prop := ∃ A n c, e = .returned (.tuple #[.slice A n c, .int .i64 (k : Int)]) ∧ TsAt F w' l A n c ∧ Below w.heap.size w w'
/-- What put of a row hands back, whatever tree. -/
def PutsR (l : List (Gn.Tre Lh)) : Prop := ∀ (F : Nat → Prop) (t : Gn.Tre Lh) (Ax Ab Ak : Option Addr) (cx cb ck : Nat) (A : Option Addr) (n c : Nat) (w : World), (∀ k, w.heap.size ≤ k → F k) → t.size + Gn.bSize l < 268435456 → RT F w t Ax cx Ab cb Ak ck → TsAt F w l A n c →
  Calls Tryz.prog 103 #[.agg #[.int .i64 t.rank, .slice Ax 1 cx, .slice Ab t.bs.length cb, .slice Ak t.rank ck], .slice A n c] w (GaveLN F (putT l t) (2 * putTN l t) w)

set_option maxRecDepth 100000 in
set_option maxHeartbeats 4000000 in
theorem refPut_nil : PutsR [] := by
  intro F t Ax Ab Ak cx cb ck A n c w hF hs ht hl
  obtain rfl : n = 0 := ts_nil hl
  have hb0 := (Below.refl w.heap.size w).alloc (Nat.le_refl _) (.cells #[.int .i64 t.rank, .slice Ax 1 cx, .slice Ab t.bs.length cb, .slice Ak t.rank ck] 97)
  have hv : Qd (w.alloc (.cells #[.int .i64 t.rank, .slice Ax 1 cx, .slice Ab t.bs.length cb, .slice Ak t.rank ck] 97)) w.heap.size (.int .i64 t.rank) (.slice Ax 1 cx) (.slice Ab t.bs.length cb) (.slice Ak t.rank ck) := qd_at (new_at rfl)
  have H := Lib.hid (And.intro hF (And.intro ht (And.intro hl hb0)))
  clear hF ht hl hb0 hs
  go_enter Tryz.func103, Tryz.ntmps103
  go_wp2_with fail
  generalize w.alloc (.cells #[.int .i64 t.rank, .slice Ax 1 cx, .slice Ab t.bs.length cb, .slice Ak t.rank ck] 97) = w1 at *
  rw [world_self w1]
  generalize w1.drawn = d0
  generalize (#[] : Array Obj) = os0
  refine wp_region_class (by kernel_rfl) (by kernel_rfl) ?_
  repeat (go_big_quiet_step (fail))
  refine wpQuiet_nil ?_
  intro _ hw'
  obtain ⟨⟨dq, osq⟩, hw''⟩ := hw'
  subst hw''
  have hbq := below_regrown w1 dq osq
  have hX := hv.keep (hbq.block _ hv.lt)
  generalize grow (redrawn w1 dq) osq = wq at *
  have HB := Lib.hid (H.out.2.2.2.trans (hbq.mono H.out.2.2.2.size))
  obtain ⟨hkn, hkA, kc, hk1, hk2⟩ := H.out.2.2.1
  have hfar : Far F F w wq := ⟨fun k hk _ => HB.out.block k hk, fun k hk h => h⟩
  obtain ⟨A7, c7, w7, hrun, hC, hn, hb7⟩ := append_t F wq (fun k hk => H.out.1 k (by have := HB.out.size; omega)) (.int .i64 t.rank) (.slice Ax 1 cx) (.slice Ab t.bs.length cb) (.slice Ak t.rank ck) A 0 c kc (by rw [hk1.length, ← hkn]) hk1.one (hk2.far hfar) hkA.none (by omega)
  have P7 := Lib.hid (And.intro hC (And.intro hn (And.intro hb7 (hk1.far hfar))))
  clear hv hbq hkn hkA hk1 hk2 hfar hC hn hb7
  go_wp2_with (first
    | (refine wpList_load_t rfl _ rfl _ rfl hX ?_)
    | (at_builtin; refine wpList_append_run rfl _ _ _ rfl _ _ _ _ rfl rfl hrun ?_))
  refine bodyPost_ret (v := .tuple #[.slice A7 (0 + 1) c7, .int .i64 0]) (by simp [results, Tryz.results103, go_sem]) rfl ?_
  have hB7 := HB.out.trans (P7.out.2.2.1.mono HB.out.size)
  have f7 := Far.below (F := F) P7.out.2.2.1
  exact ⟨A7, 0 + 1, c7, rfl, ⟨rfl, P7.out.2.1, _, RK.cons_t (H.out.2.1.stay hB7) (P7.out.2.2.2.far f7), P7.out.1⟩, hB7⟩

set_option maxRecDepth 100000 in
set_option maxHeartbeats 4000000 in
theorem refPut_cons (u : Gn.Tre Lh) (r : List (Gn.Tre Lh)) (hI : PutsR r) : PutsR (u :: r) := by
  intro F t Ax Ab Ak cx cb ck A n c w hF hs ht hl
  have hb0 := (Below.refl w.heap.size w).alloc (Nat.le_refl _) (.cells #[.int .i64 t.rank, .slice Ax 1 cx, .slice Ab t.bs.length cb, .slice Ak t.rank ck] 97)
  have hv : Qd (w.alloc (.cells #[.int .i64 t.rank, .slice Ax 1 cx, .slice Ab t.bs.length cb, .slice Ak t.rank ck] 97)) w.heap.size (.int .i64 t.rank) (.slice Ax 1 cx) (.slice Ab t.bs.length cb) (.slice Ak t.rank ck) := qd_at (new_at rfl)
  obtain ⟨b, o, Bx, Bb, Bk, dx, db, dk, rfl, ⟨q0, q1, q2, q3⟩, hu⟩ := ts_first hl
  have hR := ts_rest hl
  have hn : n = r.length + 1 := hl.1
  have hcap := hl.2.1.le
  have hcm := hl.2.1.max
  have hz := bSize_len r
  have hts := t.rank_lt
  have hus := u.rank_lt
  simp only [Gn.bSize] at hs
  have hn2 : n < 268435456 := by omega
  have H := Lib.hid (And.intro hF (And.intro ht (And.intro hl (And.intro hu (And.intro hR (And.intro hb0 (And.intro hs (And.intro hn (And.intro hts hus)))))))))
  have HI := Lib.hid hI
  have p0 := stay_cell hb0 q0
  have p1 := stay_cell hb0 q1
  have p2 := stay_cell hb0 q2
  have p3 := stay_cell hb0 q3
  have zn1 : ((n : Int) == 0) = false := by simp; omega
  have zn2 : ¬ n = 0 := by omega
  have zn3 : (0 : Int) < (n : Int) := by omega
  have zn4 : 0 < n := by omega
  clear hF ht hl hu hR hb0 hs hn hI hz hts hus q0 q1 q2 q3
  go_enter Tryz.func103, Tryz.ntmps103
  go_wp2_with fail
  generalize w.alloc (.cells #[.int .i64 t.rank, .slice Ax 1 cx, .slice Ab t.bs.length cb, .slice Ak t.rank ck] 97) = w1 at *
  have PV := Lib.hid (And.intro hv (And.intro p0 (And.intro p1 (And.intro p2 p3))))
  obtain ⟨n0, hn0⟩ : ∃ b, b = w.heap.size := ⟨_, rfl⟩
  rw [← hn0] at hv PV ⊢
  have HN := Lib.hid hn0
  clear hn0
  have kc0 := fun d os => cell_regrown hv.c0 d os
  have kc1 := fun d os => cell_regrown p0 d os
  rw [world_self w1]
  generalize w1.drawn = d0
  generalize (#[] : Array Obj) = os0
  refine wp_region_class (by kernel_rfl) (by kernel_rfl) ?_
  repeat (go_big_quiet_step (fail))
  refine wpQuiet_nil ?_
  intro _ hw'
  obtain ⟨⟨dq, osq⟩, hw''⟩ := hw'
  subst hw''
  have hbq := below_regrown w1 dq osq
  clear kc0 kc1
  generalize grow (redrawn w1 dq) osq = wq at *
  clear hv p0 p1 p2 p3
  have HB := Lib.hid (H.out.2.2.2.2.2.1.trans (hbq.mono H.out.2.2.2.2.2.1.size))
  have hX := PV.out.1.keep (hbq.block _ PV.out.1.lt)
  have p0 := stay_cell hbq PV.out.2.1
  have p1 := stay_cell hbq PV.out.2.2.1
  have p2 := stay_cell hbq PV.out.2.2.2.1
  have p3 := stay_cell hbq PV.out.2.2.2.2
  clear hbq PV
  by_cases hr : t.rank < u.rank
  · have g1 : decide ((t.rank : Int) < (u.rank : Int)) = true := by simp; omega
    have g2 : (t.rank : Int) < (u.rank : Int) := by omega
    obtain ⟨hkn, hkA, kc, hk1, hk2⟩ := H.out.2.2.1
    have hfar : Far F F w wq := ⟨fun k hk _ => HB.out.block k hk, fun k hk h => h⟩
    obtain ⟨A7, c7, w7, hrun, hC, hnn, hb7⟩ := append_t F wq (fun k hk => H.out.1 k (by have := HB.out.size; omega)) (.int .i64 t.rank) (.slice Ax 1 cx) (.slice Ab t.bs.length cb) (.slice Ak t.rank ck) (some ⟨b, o, none⟩) n c kc (by rw [hk1.length, ← hkn]) hk1.one (hk2.far hfar) hkA.none (by omega)
    have P7 := Lib.hid (And.intro hC (And.intro hnn (And.intro hb7 (hk1.far hfar))))
    have HR := Lib.hid hr
    clear hkn hkA hk1 hk2 hfar hC hnn hb7 p0 p1 p2 p3 hr
    go_wp2_with (first
      | (refine wpList_load_t rfl _ rfl _ rfl hX ?_)
      | (at_builtin; refine wpList_append_run rfl _ _ _ rfl _ _ _ _ rfl rfl hrun ?_))
    refine bodyPost_ret (v := .tuple #[.slice A7 (n + 1) c7, .int .i64 0]) (by simp [results, Tryz.results103, go_sem]) rfl ?_
    have hB7 := HB.out.trans (P7.out.2.2.1.mono HB.out.size)
    have f7 := Far.below (F := F) P7.out.2.2.1
    refine ⟨A7, n + 1, c7, ?_, ?_, hB7⟩
    · rw [putTN, if_pos HR.out]; rfl
    · rw [putT, if_pos HR.out]
      exact ⟨by rw [H.out.2.2.2.2.2.2.2.1]; rfl, P7.out.2.1, _, RK.cons_t (H.out.2.1.stay hB7) (P7.out.2.2.2.far f7), P7.out.1⟩
  · have g1 : decide ((t.rank : Int) < (u.rank : Int)) = false := by simp; omega
    have g2 : ¬ (t.rank : Int) < (u.rank : Int) := by omega
    have HR := Lib.hid hr
    have HP := Lib.hid (And.intro hX (And.intro p0 (And.intro p1 (And.intro p2 p3))))
    have x0 := hX.c0
    have x1 := hX.c1
    have x2 := hX.c2
    have x3 := hX.c3
    clear hX hr
    obtain ⟨kk, hkk⟩ : ∃ q, q = 2 * putTN r (lnk t u) := ⟨_, rfl⟩
    have hkb := putT_len r (lnk t u)
    have HKK := Lib.hid (show kk = 2 * putTN r (lnk t u) ∧ kk < 1000000000 from ⟨hkk, by have := H.out.2.2.2.2.2.2.2.1; omega⟩)
    have wk : IntKind.i64.wrap ((kk : Int) + 2) = (kk : Int) + 2 := by have := HKK.out; rw [IntKind.wrap_i64]; omega
    clear hkk hkb
    have HLK := Lib.hid (refLink_any F t u Ax Ab Ak Bx Bb Bk cx cb ck dx db dk wq.drew (fun k hk => H.out.1 k (by have h1 := HB.out.size; have h2 : wq.heap.size ≤ k := hk; omega)) (H.out.2.1.stay (HB.out.trans (((Below.refl wq.heap.size wq).drew).mono HB.out.size))) (H.out.2.2.2.1.stay (HB.out.trans (((Below.refl wq.heap.size wq).drew).mono HB.out.size))) (by have := H.out; omega) (by have := H.out; omega))
    by_cases hc1 : c = 1
    · subst hc1
      have hn1 : n = 1 := by omega
      subst hn1
      have hrn : r = [] := List.eq_nil_of_length_eq_zero (by have := H.out.2.2.2.2.2.2.2.1; omega)
      have hI2 := HI.out
      unfold PutsR at hI2
      have HPU := Lib.hid (fun (w6 : World) (Lx Lb Lk : Option Addr) (lx lb lk : Nat) (hL : RT F w6 (lnk t u) Lx lx Lb lb Lk lk) (hz : Below wq.heap.size wq w6) => hI2 F (lnk t u) Lx Lb Lk lx lb lk (some ⟨b, o, none⟩) 0 0 w6 (fun k hk => H.out.1 k (by have h1 := HB.out.size; have h2 := hz.size; omega)) (by rw [Gn.lnk_size]; have := H.out; omega) hL (by rw [hrn]; exact ts_zero F _ b o))
      clear hI2
      go_wp2_with fail
      go_region_held3 (fun w' => w'.cell? ⟨n0, 0, none⟩ = some (.int .i64 t.rank) ∧ w'.cell? ⟨n0, 1, none⟩ = some (.slice Ax 1 cx) ∧ w'.cell? ⟨n0, 2, none⟩ = some (.slice Ab t.bs.length cb) ∧ w'.cell? ⟨n0, 3, none⟩ = some (.slice Ak t.rank ck) ∧ w'.cell? ⟨b, o, none⟩ = some (.int .i64 u.rank) ∧ w'.cell? ⟨b, o + 1, none⟩ = some (.slice Bx 1 dx) ∧ w'.cell? ⟨b, o + 2, none⟩ = some (.slice Bb u.bs.length db) ∧ w'.cell? ⟨b, o + 3, none⟩ = some (.slice Bk u.rank dk)) (go_keep)
        (first | (go_at_call 68; ((with_reducible refine (HLK.out).mono ?_); rintro e w6 ⟨Lx, Lb, Lk, lx, lb, lk, rfl, hL, hb6⟩; have K6 := Lib.hid (And.intro hL (((Below.refl wq.heap.size wq).drew).trans (hb6.mono (Nat.le_refl _)))); have y0 := (HP.out.1.keep (K6.out.2.block _ HP.out.1.lt)).c0; have y1 := (HP.out.1.keep (K6.out.2.block _ HP.out.1.lt)).c1; have y2 := (HP.out.1.keep (K6.out.2.block _ HP.out.1.lt)).c2; have y3 := (HP.out.1.keep (K6.out.2.block _ HP.out.1.lt)).c3; have y4 := stay_cell K6.out.2 HP.out.2.1; have y5 := stay_cell K6.out.2 HP.out.2.2.1; have y6 := stay_cell K6.out.2 HP.out.2.2.2.1; have y7 := stay_cell K6.out.2 HP.out.2.2.2.2; clear hL hb6)) | (go_at_call 103; ((with_reducible refine (HPU.out _ Lx Lb Lk lx lb lk K6.out.1 K6.out.2).mono ?_); rintro e w7 ⟨A3, n3, c3, rfl, hh, hb7⟩; rw [← HKK.out.1]; have K7 := Lib.hid (And.intro hh (K6.out.2.trans (hb7.mono K6.out.2.size))); have v0 := (HP.out.1.keep (K7.out.2.block _ HP.out.1.lt)).c0; have v1 := (HP.out.1.keep (K7.out.2.block _ HP.out.1.lt)).c1; have v2 := (HP.out.1.keep (K7.out.2.block _ HP.out.1.lt)).c2; have v3 := (HP.out.1.keep (K7.out.2.block _ HP.out.1.lt)).c3; have v4 := stay_cell K7.out.2 HP.out.2.1; have v5 := stay_cell K7.out.2 HP.out.2.2.1; have v6 := stay_cell K7.out.2 HP.out.2.2.2.1; have v7 := stay_cell K7.out.2 HP.out.2.2.2.2; clear hh hb7)))
      clear HP x0 x1 x2 x3 p0 p1 p2 p3 y0 y1 y2 y3 y4 y5 y6 y7 v0 v1 v2 v3 v4 v5 v6 v7
      go_wp2_with fail
      refine bodyPost_ret (v := .tuple #[.slice A3 n3 c3, .int .i64 ((kk : Int) + 2)]) (by simp [results, Tryz.results103, go_sem]) rfl ?_
      refine ⟨A3, n3, c3, ?_, ?_, HB.out.trans (K7.out.2.mono HB.out.size)⟩
      · have e9 : ((2 * putTN (u :: r) t : Nat) : Int) = (kk : Int) + 2 := by
          have h1 : putTN (u :: r) t = 1 + putTN r (lnk t u) := by rw [putTN, if_neg HR.out]
          have h2 := HKK.out.1
          omega
        rw [e9]
      · rw [putT, if_neg HR.out]; exact K7.out.1
    · have m0 : ¬ n < 1 := by omega
      have m1 : 1 ≤ n := by omega
      have m2 : (1 : Int) ≤ (n : Int) := by omega
      have m3 : ¬ (n : Int) < 1 := by omega
      have m4 : ¬ 1 = c := by omega
      have m5 : 0 < c := by omega
      have m6 : (n : Int) ≤ (c : Int) := by omega
      have m7 : (1 : Int) ≤ (c : Int) := by omega
      have m8 : ¬ c - 1 = 0 := by omega
      have m9 : ¬ c ≤ 1 := by omega
      have m10 : 1 < c := by omega
      have m12 : 1 ≤ c := by omega
      have hI2 := HI.out
      unfold PutsR at hI2
      have HPU := Lib.hid (fun (w6 : World) (Lx Lb Lk : Option Addr) (lx lb lk : Nat) (hL : RT F w6 (lnk t u) Lx lx Lb lb Lk lk) (hz : Below wq.heap.size wq w6) => hI2 F (lnk t u) Lx Lb Lk lx lb lk (some ⟨b, o + 1 * 4, none⟩) (n - 1) (c - 1) w6 (fun k hk => H.out.1 k (by have h1 := HB.out.size; have h2 := hz.size; omega)) (by rw [Gn.lnk_size]; have := H.out; omega) hL (H.out.2.2.2.2.1.stay (HB.out.trans (hz.mono HB.out.size))))
      clear hI2
      go_wp2_with fail
      go_region_held3 (fun w' => w'.cell? ⟨n0, 0, none⟩ = some (.int .i64 t.rank) ∧ w'.cell? ⟨n0, 1, none⟩ = some (.slice Ax 1 cx) ∧ w'.cell? ⟨n0, 2, none⟩ = some (.slice Ab t.bs.length cb) ∧ w'.cell? ⟨n0, 3, none⟩ = some (.slice Ak t.rank ck) ∧ w'.cell? ⟨b, o, none⟩ = some (.int .i64 u.rank) ∧ w'.cell? ⟨b, o + 1, none⟩ = some (.slice Bx 1 dx) ∧ w'.cell? ⟨b, o + 2, none⟩ = some (.slice Bb u.bs.length db) ∧ w'.cell? ⟨b, o + 3, none⟩ = some (.slice Bk u.rank dk)) (go_keep)
        (first | (go_at_call 68; ((with_reducible refine (HLK.out).mono ?_); rintro e w6 ⟨Lx, Lb, Lk, lx, lb, lk, rfl, hL, hb6⟩; have K6 := Lib.hid (And.intro hL (((Below.refl wq.heap.size wq).drew).trans (hb6.mono (Nat.le_refl _)))); have y0 := (HP.out.1.keep (K6.out.2.block _ HP.out.1.lt)).c0; have y1 := (HP.out.1.keep (K6.out.2.block _ HP.out.1.lt)).c1; have y2 := (HP.out.1.keep (K6.out.2.block _ HP.out.1.lt)).c2; have y3 := (HP.out.1.keep (K6.out.2.block _ HP.out.1.lt)).c3; have y4 := stay_cell K6.out.2 HP.out.2.1; have y5 := stay_cell K6.out.2 HP.out.2.2.1; have y6 := stay_cell K6.out.2 HP.out.2.2.2.1; have y7 := stay_cell K6.out.2 HP.out.2.2.2.2; clear hL hb6)) | (go_at_call 103; ((with_reducible refine (HPU.out _ Lx Lb Lk lx lb lk K6.out.1 K6.out.2).mono ?_); rintro e w7 ⟨A3, n3, c3, rfl, hh, hb7⟩; rw [← HKK.out.1]; have K7 := Lib.hid (And.intro hh (K6.out.2.trans (hb7.mono K6.out.2.size))); have v0 := (HP.out.1.keep (K7.out.2.block _ HP.out.1.lt)).c0; have v1 := (HP.out.1.keep (K7.out.2.block _ HP.out.1.lt)).c1; have v2 := (HP.out.1.keep (K7.out.2.block _ HP.out.1.lt)).c2; have v3 := (HP.out.1.keep (K7.out.2.block _ HP.out.1.lt)).c3; have v4 := stay_cell K7.out.2 HP.out.2.1; have v5 := stay_cell K7.out.2 HP.out.2.2.1; have v6 := stay_cell K7.out.2 HP.out.2.2.2.1; have v7 := stay_cell K7.out.2 HP.out.2.2.2.2; clear hh hb7)))
      clear HP x0 x1 x2 x3 p0 p1 p2 p3 y0 y1 y2 y3 y4 y5 y6 y7 v0 v1 v2 v3 v4 v5 v6 v7
      go_wp2_with fail
      refine bodyPost_ret (v := .tuple #[.slice A3 n3 c3, .int .i64 ((kk : Int) + 2)]) (by simp [results, Tryz.results103, go_sem]) rfl ?_
      refine ⟨A3, n3, c3, ?_, ?_, HB.out.trans (K7.out.2.mono HB.out.size)⟩
      · have e9 : ((2 * putTN (u :: r) t : Nat) : Int) = (kk : Int) + 2 := by
          have h1 : putTN (u :: r) t = 1 + putTN r (lnk t u) := by rw [putTN, if_neg HR.out]
          have h2 := HKK.out.1
          omega
        rw [e9]
      · rw [putT, if_neg HR.out]; exact K7.out.1

theorem refPuts : ∀ l : List (Gn.Tre Lh), PutsR l
  | [] => refPut_nil
  | u :: r => refPut_cons u r (refPuts r)

end Go.Proofs.YtlmokendajgbdaaGreatDoor.Bo.Zr
