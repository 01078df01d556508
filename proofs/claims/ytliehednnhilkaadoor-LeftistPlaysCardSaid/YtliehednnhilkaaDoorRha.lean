/-
  A heap of the reference's (slagheapref06.H: its element, its two kids or none) at a world, in blocks of which F holds: what it says, and that it stays. No conditions beyond what each theorem says. A variable of three cells that holds a heap of the reference's, and the block of its kids: what their cells are, what keeps them; a whole store to the variable. No conditions beyond what each theorem says. Contracts of the reference's Size, Rank and Min (slagheapref06). Condition: heaps of fewer than 2 to the 28th elements. What the reference's Meld, Pop and Insert (slagheapref06) hand back, and the steps that their walks share: five variables laid at once, blocks outside those of a call's own, a region whose two orders come to one. No conditions beyond what each theorem says.
-/
import Derived.Test.YtliehednnhilkaaDoorLh2
import Derived.Test.YtliehednnhilkaaDoorRow1
import Derived.Deep.MidRow
import Derived.Deep.RegionHeld3
import Derived.Test.YtliehednnhilkaaDoorOrd
namespace Go.Proofs.YtliehednnhilkaaDoor
open Go.Sort Go.RowKit

/-- The worlds in which the blocks of which F holds are as they were, and F' holds of them. -/
structure Far (F F' : Nat → Prop) (W W' : World) : Prop where
  keep : ∀ k, k < W.heap.size → F k → W'.heap[k]? = W.heap[k]?
  new : ∀ k, k < W.heap.size → F k → F' k
theorem Far.below {F : Nat → Prop} {W W' : World} (h : Below W.heap.size W W') : Far F F W W' := ⟨fun k hk _ => h.block k hk, fun _ _ h => h⟩
theorem Far.trans {F F' F'' : Nat → Prop} {W W' W'' : World} (h : Far F F' W W') (hs : W.heap.size ≤ W'.heap.size) (h' : Far F' F'' W' W'') : Far F F'' W W'' :=
  ⟨fun k hk hf => (h'.keep k (by omega) (h.new k hk hf)).trans (h.keep k hk hf), fun k hk hf => h'.new k (by omega) (h.new k hk hf)⟩

/-- A heap's value. -/
abbrev hV (x : Int × Int) (A : Option Addr) (n c : Nat) : Value := .agg #[.int .i64 x.1, .int .i64 x.2, .slice A n c]
/-- A heap of the reference's: the element, the kids' slice. -/
def RAt (F : Nat → Prop) (W : World) : Lh → (Int × Int) → Option Addr → Nat → Nat → Prop
  | .nil, x, A, n, c => x = (0, 0) ∧ A = none ∧ n = 0 ∧ c = 0
  | .node y l r, x, A, n, c => x = y ∧ n = 2 ∧ ∃ (b : Nat) (xl xr : Int × Int) (Al Ar : Option Addr) (nl cl nr cr : Nat), A = some ⟨b, 0, none⟩ ∧ 2 ≤ c ∧ c ≤ 9223372036854775807 ∧ F b ∧
      W.heap[b]? = some (.cells #[.int .i64 xl.1, .int .i64 xl.2, .slice Al nl cl, .int .i64 xr.1, .int .i64 xr.2, .slice Ar nr cr] 35 (0, 0)) ∧
      RAt F W l xl Al nl cl ∧ RAt F W r xr Ar nr cr
theorem RAt.far {F F' : Nat → Prop} {W W' : World} (hf : Far F F' W W') : ∀ {t : Lh} {x : Int × Int} {A : Option Addr} {n c : Nat}, RAt F W t x A n c → RAt F' W' t x A n c
  | .nil, _, _, _, _, h => h
  | .node _ _ _, _, _, _, _, ⟨e1, e2, b, xl, xr, Al, Ar, nl, cl, nr, cr, eA, h1, h2, hb, hh, hl, hr⟩ =>
    ⟨e1, e2, b, xl, xr, Al, Ar, nl, cl, nr, cr, eA, h1, h2, hf.new b (lt_of_heap hh) hb, (hf.keep b (lt_of_heap hh) hb).trans hh, RAt.far hf hl, RAt.far hf hr⟩
theorem RAt.stay {F : Nat → Prop} {W W' : World} {t : Lh} {x : Int × Int} {A : Option Addr} {n c : Nat} (h : RAt F W t x A n c) (hb : Below W.heap.size W W') : RAt F W' t x A n c := h.far (Far.below hb)
theorem RAt.zero (F : Nat → Prop) (W : World) : RAt F W .nil (0, 0) Option.none 0 0 := ⟨rfl, rfl, rfl, rfl⟩
theorem infoR : (Tryd.prog.info? 35).map (fun i => (i.zero, i.size, i.bytes)) = some (some (hV (0, 0) none 0 0), 3, 40) := by kernel_rfl

/-- A variable that holds a heap of the reference's. -/
def WVar (W : World) (b : Nat) (x : Int × Int) (A : Option Addr) (n c : Nat) : Prop := W.heap[b]? = some (.cells #[.int .i64 x.1, .int .i64 x.2, .slice A n c] 35 (0, 0))
/-- A block of two kids. -/
def KAt (W : World) (b : Nat) (xl : Int × Int) (Al : Option Addr) (nl cl : Nat) (xr : Int × Int) (Ar : Option Addr) (nr cr : Nat) : Prop :=
  W.heap[b]? = some (.cells #[.int .i64 xl.1, .int .i64 xl.2, .slice Al nl cl, .int .i64 xr.1, .int .i64 xr.2, .slice Ar nr cr] 35 (0, 0))
section
variable {W W' : World} {b : Nat} {x xl xr : Int × Int} {A Al Ar : Option Addr} {n c nl cl nr cr : Nat}
theorem WVar.c0 (h : WVar W b x A n c) : W.cell? ⟨b, 0, none⟩ = some (.int .i64 x.1) := by unfold WVar at h; simp [World.cell?, h]
theorem WVar.c1 (h : WVar W b x A n c) : W.cell? ⟨b, 1, none⟩ = some (.int .i64 x.2) := by unfold WVar at h; simp [World.cell?, h]
theorem WVar.c2 (h : WVar W b x A n c) : W.cell? ⟨b, 2, none⟩ = some (.slice A n c) := by unfold WVar at h; simp [World.cell?, h]
theorem WVar.z0 (h : WVar W b x A n c) : W.frozen? ⟨b, 0, none⟩ = false := by unfold WVar at h; simp [World.frozen?, h]
theorem WVar.z1 (h : WVar W b x A n c) : W.frozen? ⟨b, 1, none⟩ = false := by unfold WVar at h; simp [World.frozen?, h]
theorem WVar.z2 (h : WVar W b x A n c) : W.frozen? ⟨b, 2, none⟩ = false := by unfold WVar at h; simp [World.frozen?, h]
theorem WVar.lt (h : WVar W b x A n c) : b < W.heap.size := lt_of_heap h
theorem WVar.keep (h : WVar W b x A n c) (e : W'.heap[b]? = W.heap[b]?) : WVar W' b x A n c := e.trans h
theorem WVar.stay (h : WVar W b x A n c) (hb : Below W.heap.size W W') : WVar W' b x A n c := (hb.block b (lt_of_heap h)).trans h
theorem WVar.new (W : World) (x1 x2 : Int) (A : Option Addr) (n c : Nat) {k : Nat} (h : k = W.heap.size) : WVar (W.alloc (.cells #[.int .i64 x1, .int .i64 x2, .slice A n c] 35)) k (x1, x2) A n c := new_at h
theorem KAt.k0 (h : KAt W b xl Al nl cl xr Ar nr cr) : W.cell? ⟨b, 0, none⟩ = some (.int .i64 xl.1) := by unfold KAt at h; simp [World.cell?, h]
theorem KAt.k1 (h : KAt W b xl Al nl cl xr Ar nr cr) : W.cell? ⟨b, 1, none⟩ = some (.int .i64 xl.2) := by unfold KAt at h; simp [World.cell?, h]
theorem KAt.k2 (h : KAt W b xl Al nl cl xr Ar nr cr) : W.cell? ⟨b, 2, none⟩ = some (.slice Al nl cl) := by unfold KAt at h; simp [World.cell?, h]
theorem KAt.k3 (h : KAt W b xl Al nl cl xr Ar nr cr) : W.cell? ⟨b, 3, none⟩ = some (.int .i64 xr.1) := by unfold KAt at h; simp [World.cell?, h]
theorem KAt.k4 (h : KAt W b xl Al nl cl xr Ar nr cr) : W.cell? ⟨b, 4, none⟩ = some (.int .i64 xr.2) := by unfold KAt at h; simp [World.cell?, h]
theorem KAt.k5 (h : KAt W b xl Al nl cl xr Ar nr cr) : W.cell? ⟨b, 5, none⟩ = some (.slice Ar nr cr) := by unfold KAt at h; simp [World.cell?, h]
theorem KAt.lt (h : KAt W b xl Al nl cl xr Ar nr cr) : b < W.heap.size := lt_of_heap h
theorem KAt.keep (h : KAt W b xl Al nl cl xr Ar nr cr) (e : W'.heap[b]? = W.heap[b]?) : KAt W' b xl Al nl cl xr Ar nr cr := e.trans h
theorem KAt.stay (h : KAt W b xl Al nl cl xr Ar nr cr) (hb : Below W.heap.size W W') : KAt W' b xl Al nl cl xr Ar nr cr := (hb.block b (lt_of_heap h)).trans h
/-- A heap that is not none: its kids. -/
theorem RAt.kids {F : Nat → Prop} {y : Int × Int} {l r : Lh} (h : RAt F W (.node y l r) x A n c) : x = y ∧ n = 2 ∧ ∃ (b : Nat) (xl xr : Int × Int) (Al Ar : Option Addr) (nl cl nr cr : Nat), A = some ⟨b, 0, none⟩ ∧ 2 ≤ c ∧ c ≤ 9223372036854775807 ∧ F b ∧ KAt W b xl Al nl cl xr Ar nr cr ∧ RAt F W l xl Al nl cl ∧ RAt F W r xr Ar nr cr := h
theorem RAt.mk {F : Nat → Prop} {y : Int × Int} {l r : Lh} (hc : 2 ≤ c) (hc2 : c ≤ 9223372036854775807) (hF : F b) (hk : KAt W b xl Al nl cl xr Ar nr cr) (hl : RAt F W l xl Al nl cl) (hr : RAt F W r xr Ar nr cr) : RAt F W (.node y l r) y (some ⟨b, 0, none⟩) 2 c :=
  ⟨rfl, rfl, b, xl, xr, Al, Ar, nl, cl, nr, cr, rfl, hc, hc2, hF, hk, hl, hr⟩
/-- How many kids. -/
theorem RAt.len {F : Nat → Prop} {t : Lh} (h : RAt F W t x A n c) : n ≤ c ∧ c ≤ 9223372036854775807 ∧ (n = 0 ∨ n = 2) := by
  cases t with
  | nil => obtain ⟨-, -, rfl, rfl⟩ := h; exact ⟨Nat.le_refl _, by omega, .inl rfl⟩
  | node y l r => obtain ⟨-, rfl, b, xl, xr, Al, Ar, nl, cl, nr, cr, -, h1, h2, -⟩ := h; exact ⟨h1, h2, .inr rfl⟩
theorem RAt.weak {F F' : Nat → Prop} {t : Lh} (h : RAt F W t x A n c) (hf : ∀ k, k < W.heap.size → F k → F' k) : RAt F' W t x A n c := h.far ⟨fun _ _ _ => rfl, hf⟩
end

/-- A variable is written, whole: a world in which that block alone has turned. -/
structure Wrote1 (b : Nat) (W W' : World) : Prop where
  os : W'.os = W.os
  tape : W'.tape = W.tape
  output : W'.output = W.output
  size : W'.heap.size = W.heap.size
  keep : ∀ k, k ≠ b → W'.heap[k]? = W.heap[k]?
theorem infoR3 : (Tryd.prog.info? 35).map (·.size) = some 3 := by kernel_rfl
theorem wpList_store_w {ops : Array Oper} {rest : List Oper} {op : Oper} {a : Act} {w : World} {Q : Exit → Act → World → Prop} (hgd : op.guard = none) (x y : Operand) (ho : op.op = .store 35 x y)
    (b : Nat) (hx : a.eval x = .pointer (some ⟨b, 0, none⟩)) {u : Int × Int} {Au : Option Addr} {nu cu : Nat} {v1 v2 : Int} {Av : Option Addr} {nv cv : Nat} (hy : a.eval y = .agg #[.int .i64 v1, .int .i64 v2, .slice Av nv cv]) (H : WVar w b u Au nu cu)
    (h : ∀ w', WVar w' b (v1, v2) Av nv cv → Wrote1 b w w' → wpList Tryd.prog ops Q rest (a.put op.dst undef) w') : wpList Tryd.prog ops Q (op :: rest) a w := by
  refine wpList_store_mid hgd _ x y ho b 0 _ hx hy (fun j hj => ?_) infoR3 (all_oneCell_toArray (cs := [.int .i64 v1, .int .i64 v2, .slice Av nv cv]) (by intro v hv; simp only [List.mem_cons, List.not_mem_nil, or_false] at hv; rcases hv with rfl | rfl | rfl <;> rfl)) ?_
  · match j, hj with
    | 0, _ => exact ⟨by rw [show (0 + 0 : Nat) = 0 from rfl, H.c0]; rfl, by rw [show (0 + 0 : Nat) = 0 from rfl]; exact H.z0⟩
    | 1, _ => exact ⟨by rw [show (0 + 1 : Nat) = 1 from rfl, H.c1]; rfl, by rw [show (0 + 1 : Nat) = 1 from rfl]; exact H.z1⟩
    | 2, _ => exact ⟨by rw [show (0 + 2 : Nat) = 2 from rfl, H.c2]; rfl, by rw [show (0 + 2 : Nat) = 2 from rfl]; exact H.z2⟩
    | j + 3, hj => simp at hj; omega
  · refine h _ (heap_put (j := 2) (heap_put (j := 1) (heap_put (j := 0) H _) _) _) ⟨rfl, rfl, rfl, by show (((w.setCell ⟨b, 0, none⟩ (.int .i64 v1)).setCell ⟨b, 1, none⟩ (.int .i64 v2)).setCell ⟨b, 2, none⟩ (.slice Av nv cv)).heap.size = w.heap.size; simp, fun k hk => ?_⟩
    show (((w.setCell ⟨b, 0, none⟩ (.int .i64 v1)).setCell ⟨b, 1, none⟩ (.int .i64 v2)).setCell ⟨b, 2, none⟩ (.slice Av nv cv)).heap[k]? = w.heap[k]?
    rw [heap_other _ _ hk, heap_other _ _ hk, heap_other _ _ hk]

set_option maxRecDepth 100000 in
set_option maxHeartbeats 1000000 in
theorem refSize_any (F : Nat → Prop) (t : Lh) : ∀ (x : Int × Int) (A : Option Addr) (n c : Nat) (w : World), RAt F w t x A n c → t.size < 268435456 → Calls Tryd.prog 17 #[hV x A n c] w fun e w' => e = .returned (.int .i64 (t.size : Nat)) ∧ Below w.heap.size w w' := by
  induction t with
  | nil =>
    intro x A n c w h _
    obtain ⟨rfl, rfl, rfl, rfl⟩ := h
    unfold hV
    go_enter Tryd.func17, Tryd.ntmps17
    go_wp2_with fail
    go_ret
    exact ⟨rfl, (Below.refl _ _).alloc (Nat.le_refl _) _⟩
  | node y l r ihl ihr =>
    intro x A n c w h hs
    obtain ⟨rfl, rfl, b, ⟨xl1, xl2⟩, ⟨xr1, xr2⟩, Al, Ar, nl, cl, nr, cr, rfl, hc, hc2, -, hk, hl, hr⟩ := h.kids
    obtain ⟨x1, x2⟩ := x
    unfold hV
    have hb0 := (Below.refl w.heap.size w).alloc (Nat.le_refl _) (.cells #[.int .i64 x1, .int .i64 x2, .slice (some ⟨b, 0, none⟩) 2 c] 35)
    have hv := WVar.new w x1 x2 (some ⟨b, 0, none⟩) 2 c rfl
    have hk1 := hk.stay hb0
    have hl1 := hl.stay hb0
    have hr1 := hr.stay hb0
    obtain ⟨sl, hsl⟩ : ∃ s, s = l.size := ⟨_, rfl⟩
    obtain ⟨sr, hsr⟩ : ∃ s, s = r.size := ⟨_, rfl⟩
    have HI := Lib.hid (And.intro ihl ihr)
    have HT := Lib.hid (show (Lh.node (x1, x2) l r).size = sl + 1 + sr ∧ sl = l.size ∧ sr = r.size ∧ sl + 1 + sr < 268435456 from ⟨by rw [hsl, hsr]; rfl, hsl, hsr, by rw [hsl, hsr]; exact hs⟩)
    have HB := Lib.hid hb0
    clear ihl ihr h hl hr hk hb0 hs
    have w1 : IntKind.i64.wrap (1 + (sl : Int)) = 1 + (sl : Int) := by have := HT.out; rw [IntKind.wrap_i64]; omega
    have w2 : IntKind.i64.wrap (1 + (sl : Int) + (sr : Int)) = 1 + (sl : Int) + (sr : Int) := by have := HT.out; rw [IntKind.wrap_i64]; omega
    go_enter Tryd.func17, Tryd.ntmps17
    go_wp2_with fail
    generalize w.alloc (.cells #[.int .i64 x1, .int .i64 x2, .slice (some ⟨b, 0, none⟩) 2 c] 35) = w1 at *
    have HC1 := Lib.hid (fun d os => in_class (w := w1) (fun W hb => (HI.out.1 (xl1, xl2) Al nl cl W (hl1.stay hb) (by have := HT.out; omega)).mono fun _ _ ⟨he, hb2⟩ => ⟨(show _ = Ending.returned (.int .i64 (sl : Int)) by rw [he, HT.out.2.1]), hb2⟩) d os)
    have HC2 := Lib.hid (fun d os => in_class (w := w1) (fun W hb => (HI.out.2 (xr1, xr2) Ar nr cr W (hr1.stay hb) (by have := HT.out; omega)).mono fun _ _ ⟨he, hb2⟩ => ⟨(show _ = Ending.returned (.int .i64 (sr : Int)) by rw [he, HT.out.2.2.1]), hb2⟩) d os)
    have k2 := fun d os => cell_regrown hv.c2 d os
    have q0 := fun d os => cell_regrown hk1.k0 d os
    have q1 := fun d os => cell_regrown hk1.k1 d os
    have q2 := fun d os => cell_regrown hk1.k2 d os
    have q3 := fun d os => cell_regrown hk1.k3 d os
    have q4 := fun d os => cell_regrown hk1.k4 d os
    have q5 := fun d os => cell_regrown hk1.k5 d os
    clear hv hk1 hl1 hr1 hsl hsr
    simp only [hV] at HC1 HC2
    rw [world_self w1]
    generalize w1.drawn = d0
    generalize (#[] : Array Obj) = os0
    refine wp_region_class (by kernel_rfl) (by kernel_rfl) ?_
    repeat (go_big_quiet_step (first | (with_reducible exact HC1.out _ _) | (with_reducible exact HC2.out _ _) | fail))
    refine wpQuiet_nil ?_
    intro _ hw'
    obtain ⟨⟨dq, osq⟩, hw''⟩ := hw'
    subst hw''
    have hb := below_regrown w1 dq osq
    go_wp2
    go_ret
    refine ⟨?_, HB.out.trans (hb.mono HB.out.size)⟩
    rw [show (((Lh.node (x1, x2) l r).size : Nat) : Int) = 1 + (sl : Int) + (sr : Int) by rw [HT.out.1]; omega]
    rfl

set_option maxRecDepth 100000 in
set_option maxHeartbeats 1000000 in
theorem refRank_any (F : Nat → Prop) (t : Lh) : ∀ (x : Int × Int) (A : Option Addr) (n c : Nat) (w : World), RAt F w t x A n c → t.size < 268435456 → Calls Tryd.prog 40 #[hV x A n c] w fun e w' => e = .returned (.int .i64 (t.rank : Nat)) ∧ Below w.heap.size w w' := by
  induction t with
  | nil =>
    intro x A n c w h _
    obtain ⟨rfl, rfl, rfl, rfl⟩ := h
    unfold hV
    go_enter Tryd.func40, Tryd.ntmps40
    go_wp2_with fail
    go_ret
    exact ⟨rfl, (Below.refl _ _).alloc (Nat.le_refl _) _⟩
  | node y l r ihl ihr =>
    intro x A n c w h hs
    obtain ⟨rfl, rfl, b, ⟨xl1, xl2⟩, ⟨xr1, xr2⟩, Al, Ar, nl, cl, nr, cr, rfl, hc, hc2, -, hk, hl, hr⟩ := h.kids
    obtain ⟨x1, x2⟩ := x
    unfold hV
    have hb0 := (Below.refl w.heap.size w).alloc (Nat.le_refl _) (.cells #[.int .i64 x1, .int .i64 x2, .slice (some ⟨b, 0, none⟩) 2 c] 35)
    have hv := WVar.new w x1 x2 (some ⟨b, 0, none⟩) 2 c rfl
    have hk1 := hk.stay hb0
    have hr1 := hr.stay hb0
    obtain ⟨s, hs1⟩ : ∃ s, s = r.rank := ⟨_, rfl⟩
    have HI := Lib.hid ihr
    have HT := Lib.hid (show (Lh.node (x1, x2) l r).rank = s + 1 ∧ s = r.rank ∧ s < 268435456 ∧ r.size < 268435456 from ⟨by rw [hs1]; rfl, hs1, by have := r.rank_le; simp only [Lh.size] at hs; omega, by simp only [Lh.size] at hs; omega⟩)
    have HR := Lib.hid hr1
    have HB := Lib.hid hb0
    have k2 := hv.c2
    have q3 := hk1.k3
    have q4 := hk1.k4
    have q5 := hk1.k5
    clear ihl ihr h hl hr hk hb0 hs hv hk1 hr1 hs1
    have w1 : IntKind.i64.wrap (1 + (s : Int)) = 1 + (s : Int) := by have := HT.out; rw [IntKind.wrap_i64]; omega
    go_enter Tryd.func40, Tryd.ntmps40
    go_wp2_with fail
    ((with_reducible refine (HI.out (xr1, xr2) Ar nr cr _ HR.out HT.out.2.2.2).mono ?_); rintro e w2 ⟨rfl, hb2⟩)
    rw [← HT.out.2.1]
    go_wp2_with fail
    go_ret
    refine ⟨?_, HB.out.trans (hb2.mono HB.out.size)⟩
    rw [show (((Lh.node (x1, x2) l r).rank : Nat) : Int) = 1 + (s : Int) by rw [HT.out.1]; omega]
    rfl

set_option maxRecDepth 100000 in
theorem refMin_any (F : Nat → Prop) (t : Lh) (x : Int × Int) (A : Option Addr) (n c : Nat) (w : World) (h : RAt F w t x A n c) : Calls Tryd.prog 27 #[hV x A n c] w fun e w' => e = .returned (.tuple #[el t.min.1, .int .i64 0]) ∧ Below w.heap.size w w' := by
  have e : t.min.1 = x := by
    cases t with
    | nil => exact h.1.symm
    | node y l r => exact h.1.symm
  rw [e]
  obtain ⟨x1, x2⟩ := x
  unfold hV
  go_enter Tryd.func27, Tryd.ntmps27
  go_wp2_with fail
  refine bodyPost_ret (v := .tuple #[el (x1, x2), .int .i64 0]) (by simp [results, Tryd.results27, go_sem, el]) rfl ?_
  refine ⟨rfl, ?_⟩
  exact ((Below.refl w.heap.size w).alloc (Nat.le_refl _) (.cells #[.int .i64 x1, .int .i64 x2, .slice A n c] 35)).alloc (by simp) (.cells #[.int .i64 x1, .int .i64 x2] 32)

/-- What a call hands back: a heap of the reference's and a number of steps; nothing that was there has changed. -/
def GaveW (F : Nat → Prop) (t : Lh) (k : Nat) (w : World) (e : Ending) (w' : World) : Prop :=
  ∃ (z1 z2 : Int) (A : Option Addr) (n c : Nat), e = .returned (.tuple #[.agg #[.int .i64 z1, .int .i64 z2, .slice A n c], .int .i64 (k : Int)]) ∧ RAt F w' t (z1, z2) A n c ∧ Below w.heap.size w w'

theorem refLessW (x y : Int × Int) (w : World) : Calls Tryd.prog 37 #[.agg #[.int .i64 x.1, .int .i64 x.2], .agg #[.int .i64 y.1, .int .i64 y.2]] w fun e w' => e = .returned (.bool (ltE x y)) ∧ Below w.heap.size w w' := refLess_below x.1 x.2 y.1 y.2 w

/-- Blocks of which F holds, outside lo .. hi, and not b. -/
def Fo (F : Nat → Prop) (lo hi b : Nat) (k : Nat) : Prop := F k ∧ (k < lo ∨ hi ≤ k) ∧ k ≠ b
theorem Fo.of {F : Nat → Prop} {lo hi b k : Nat} (h : F k) (h2 : k < lo ∨ hi ≤ k) (h3 : k ≠ b) : Fo F lo hi b k := ⟨h, h2, h3⟩
theorem Fo.far {F : Nat → Prop} {w W : World} (hb : Below w.heap.size w W) {hi b : Nat} (h : w.heap.size ≤ b) : Far F (Fo F w.heap.size hi b) w W := ⟨fun k hk _ => hb.block k hk, fun k hk hf => ⟨hf, .inl hk, by omega⟩⟩
theorem Fo.back {F : Nat → Prop} {W W' : World} {lo hi b : Nat} (h : ∀ k, (k < lo ∨ hi ≤ k) → k ≠ b → k < W.heap.size → W'.heap[k]? = W.heap[k]?) : Far (Fo F lo hi b) F W W' := ⟨fun k hk hf => h k hf.2.1 hf.2.2 hk, fun _ _ hf => hf.1⟩

/-- Five variables, one behind the other. -/
theorem five_w (w : World) (x1 x2 y1 y2 : Int) (A B : Option Addr) (n c m d : Nat) : let W := ((((w.alloc (.cells #[.int .i64 x1, .int .i64 x2, .slice A n c] 35)).alloc (.cells #[.int .i64 y1, .int .i64 y2, .slice B m d] 35)).alloc (.cells #[.int .i64 0, .int .i64 0, .slice none 0 0] 35)).alloc (.cells #[.int .i64 x1, .int .i64 x2, .slice A n c] 35)).alloc (.cells #[.int .i64 y1, .int .i64 y2, .slice B m d] 35)
    WVar W w.heap.size (x1, x2) A n c ∧ WVar W (w.heap.size + 1) (y1, y2) B m d ∧ WVar W (w.heap.size + 1 + 1) (0, 0) none 0 0 ∧ WVar W (w.heap.size + 1 + 1 + 1) (x1, x2) A n c ∧ WVar W (w.heap.size + 1 + 1 + 1 + 1) (y1, y2) B m d ∧ W.heap.size = w.heap.size + 5 ∧ Below w.heap.size w W := by
  have st : ∀ (u : World) (k : Nat) (o o' : Obj), u.heap[k]? = some o → (u.alloc o').heap[k]? = some o := fun u k o o' h => (((Below.refl u.heap.size u).alloc (Nat.le_refl _) o').block k (lt_of_heap h)).trans h
  refine ⟨st _ _ _ _ (st _ _ _ _ (st _ _ _ _ (st _ _ _ _ (new_at rfl)))), st _ _ _ _ (st _ _ _ _ (st _ _ _ _ (new_at (by simp)))), st _ _ _ _ (st _ _ _ _ (new_at (by simp))), st _ _ _ _ (new_at (by simp)), new_at (by simp), by simp, ?_⟩
  exact (((((Below.refl w.heap.size w).alloc (Nat.le_refl _) _).alloc (by simp) _).alloc (by simp; omega) _).alloc (by simp; omega) _).alloc (by simp; omega) _

/-- A region's ends, whatever its order, told at once: what follows is walked from there. -/
theorem wp_after {P : Program} {c : Code} {a : Act} {w : World} {Q : Exit → Act → World → Prop} (R : Act → Act → World → Prop) (h1 : c.wp P (fun e a' w' => e = .normal ∧ R a a' w') a w) (h2 : ∀ a' w', R a a' w' → Q .normal a' w') : c.wp P Q a w :=
  Code.wp_mono (fun e a' w' h => by obtain ⟨rfl, hr⟩ := h; exact h2 a' w' hr) h1

/-- A variable that is written cell by cell. -/
theorem WVar.wrote {W : World} {b : Nat} {x : Int × Int} {A : Option Addr} {n c : Nat} (h : WVar W b x A n c) (y1 y2 : Int) (B : Option Addr) (m d : Nat) :
    WVar (((W.setCell ⟨b, 0, none⟩ (.int .i64 y1)).setCell ⟨b, 1, none⟩ (.int .i64 y2)).setCell ⟨b, 2, none⟩ (.slice B m d)) b (y1, y2) B m d ∧ Wrote1 b W (((W.setCell ⟨b, 0, none⟩ (.int .i64 y1)).setCell ⟨b, 1, none⟩ (.int .i64 y2)).setCell ⟨b, 2, none⟩ (.slice B m d)) :=
  ⟨heap_put (j := 2) (heap_put (j := 1) (heap_put (j := 0) h _) _) _, ⟨rfl, rfl, rfl, by simp, fun k hk => by rw [heap_other _ _ hk, heap_other _ _ hk, heap_other _ _ hk]⟩⟩
theorem Wrote1.below {B b : Nat} {w W W' : World} (h : Wrote1 b W W') (hb : Below B w W) (hB : B ≤ b) : Below B w W' :=
  ⟨h.os.trans hb.os, h.tape.trans hb.tape, h.output.trans hb.output, by rw [h.size]; exact hb.size, fun k hk => (h.keep k (by omega)).trans (hb.block k hk)⟩

end Go.Proofs.YtliehednnhilkaaDoor
