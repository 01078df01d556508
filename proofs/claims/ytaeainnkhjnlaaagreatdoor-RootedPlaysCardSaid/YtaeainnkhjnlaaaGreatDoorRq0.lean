/-
  A heap of the reference's (slagheapref10.H: is there one, its root, all others as layer 9's reference has them) at a world, in blocks of which F holds: what it says, and that it stays; a block of four cells, loaded and stored whole; a variable of one. No conditions beyond what each theorem says.
-/
import Derived.Test.YtaeainnkhjnlaaaGreatDoorRj
import Derived.Test.YtaeainnkhjnlaaaGreatDoorSr3
import Derived.Deep.RegionHeld3
import Derived.Deep.DrawnRows
namespace Go.Proofs.YtaeainnkhjnlaaaGreatDoor.Ro
open Go.Sort Go.RowKit

/-- A heap's value. -/
abbrev hV (x : Int × Int) (A : Option Addr) (n c : Nat) (N : Bool) : Value := .agg #[.bool N, .int .i64 x.1, .int .i64 x.2, .slice A n c]
/-- A heap of the reference's. -/
def RAt (F : Nat → Prop) (W : World) (t : Lh) (x : Int × Int) (A : Option Addr) (n c : Nat) (N : Bool) : Prop :=
  match t with
  | .nil => x = (0, 0) ∧ A = none ∧ n = 0 ∧ c = 0 ∧ N = false
  | .node y o => x = y ∧ N = true ∧ HAt F W o.ts A n c
section
variable {F F' : Nat → Prop} {W W' : World} {A : Option Addr} {n c : Nat} {N : Bool} {x : Int × Int} {t : Lh}
theorem RAt.far (h : RAt F W t x A n c N) (hf : Far F F' W W') : RAt F' W' t x A n c N := by
  cases t with
  | nil => exact h
  | node y o => exact ⟨h.1, h.2.1, HAt.far h.2.2 hf⟩
theorem RAt.stay (h : RAt F W t x A n c N) (hb : Below W.heap.size W W') : RAt F W' t x A n c N := h.far (Far.below hb)
theorem RAt.zero (F : Nat → Prop) (W : World) : RAt F W .nil (0, 0) none 0 0 false := ⟨rfl, rfl, rfl, rfl, rfl⟩
theorem RAt.weak (h : RAt F W t x A n c N) (hf : ∀ k, k < W.heap.size → F k → F' k) : RAt F' W t x A n c N := h.far ⟨fun _ _ _ => rfl, hf⟩
theorem RAt.min (h : RAt F W t x A n c N) : t.min.1 = x := by
  cases t with
  | nil => exact h.1.symm
  | node y o => exact h.1.symm
end
theorem infoR : (Tryz.prog.info? 37).map (fun i => (i.zero, i.size, i.bytes)) = some (some (hV (0, 0) none 0 0 false), 4, 48) := by kernel_rfl

/-- A block of four cells: what they are, and that they may be stored to. -/
structure Qd (W : World) (b : Nat) (v0 v1 v2 v3 : Value) : Prop where
  c0 : W.cell? ⟨b, 0, none⟩ = some v0
  c1 : W.cell? ⟨b, 1, none⟩ = some v1
  c2 : W.cell? ⟨b, 2, none⟩ = some v2
  c3 : W.cell? ⟨b, 3, none⟩ = some v3
  z0 : W.frozen? ⟨b, 0, none⟩ = false
  z1 : W.frozen? ⟨b, 1, none⟩ = false
  z2 : W.frozen? ⟨b, 2, none⟩ = false
  z3 : W.frozen? ⟨b, 3, none⟩ = false
theorem qd_at {W : World} {b : Nat} {v0 v1 v2 v3 : Value} {t : TypeId} (h : W.heap[b]? = some (.cells #[v0, v1, v2, v3] t (0, 0))) : Qd W b v0 v1 v2 v3 := by
  constructor <;> simp [World.cell?, World.frozen?, h]
theorem Qd.keep {W W' : World} {b : Nat} {v0 v1 v2 v3 : Value} (h : Qd W b v0 v1 v2 v3) (e : W'.heap[b]? = W.heap[b]?) : Qd W' b v0 v1 v2 v3 := by
  have f : ∀ o, W'.frozen? ⟨b, o, none⟩ = W.frozen? ⟨b, o, none⟩ := fun o => by simp [World.frozen?, e]
  exact ⟨(World.cell?_of_block e).trans h.c0, (World.cell?_of_block e).trans h.c1, (World.cell?_of_block e).trans h.c2, (World.cell?_of_block e).trans h.c3, (f 0).trans h.z0, (f 1).trans h.z1, (f 2).trans h.z2, (f 3).trans h.z3⟩
theorem Qd.lt {W : World} {b : Nat} {v0 v1 v2 v3 : Value} (h : Qd W b v0 v1 v2 v3) : b < W.heap.size := block_lt_of_cell h.c0
/-- A block of four cells stored to whole. -/
def set4 (W : World) (R : Nat) (v0 v1 v2 v3 : Value) : World := (((W.setCell ⟨R, 0, none⟩ v0).setCell ⟨R, 1, none⟩ v1).setCell ⟨R, 2, none⟩ v2).setCell ⟨R, 3, none⟩ v3
theorem set4_far (W : World) (R : Nat) (v0 v1 v2 v3 : Value) (k : Nat) (hk : k ≠ R) : (set4 W R v0 v1 v2 v3).heap[k]? = W.heap[k]? := by
  unfold set4
  rw [Below.heap_setCell _ _ _ _ hk, Below.heap_setCell _ _ _ _ hk, Below.heap_setCell _ _ _ _ hk, Below.heap_setCell _ _ _ _ hk]
theorem set4_below {B : Nat} {a W : World} (h : Below B a W) {R : Nat} (hR : B ≤ R) (v0 v1 v2 v3 : Value) : Below B a (set4 W R v0 v1 v2 v3) :=
  (((h.setCell (p := ⟨R, 0, none⟩) hR v0).setCell (p := ⟨R, 1, none⟩) hR v1).setCell (p := ⟨R, 2, none⟩) hR v2).setCell (p := ⟨R, 3, none⟩) hR v3
theorem setCells_four (W : World) (b : Nat) (v0 v1 v2 v3 : Value) : W.setCells b 0 [v0, v1, v2, v3] = set4 W b v0 v1 v2 v3 := rfl
theorem set4_qd {W : World} {R : Nat} {u0 u1 u2 u3 : Value} (h : Qd W R u0 u1 u2 u3) (v0 v1 v2 v3 : Value) : Qd (set4 W R v0 v1 v2 v3) R v0 v1 v2 v3 := by
  have ot : ∀ (w : World) (i j : Nat) (v u : Value), i ≠ j → w.cell? ⟨R, j, none⟩ = some u → (w.setCell ⟨R, i, none⟩ v).cell? ⟨R, j, none⟩ = some u := fun w i j v u hij hc => (World.cell?_setCell_other _ _ _ _ (fun e => hij (by injection e))).trans hc
  have sm : ∀ (w : World) (j : Nat) (v u : Value), w.cell? ⟨R, j, none⟩ = some u → (w.setCell ⟨R, j, none⟩ v).cell? ⟨R, j, none⟩ = some v := fun w j v u hc => World.cell?_setCell_same _ _ _ hc
  have d : ∀ i j : Nat, (i == j) = false → i ≠ j := fun i j h e => by subst e; simp at h
  have f : ∀ o, (set4 W R v0 v1 v2 v3).frozen? ⟨R, o, none⟩ = W.frozen? ⟨R, o, none⟩ := fun o => by rw [← setCells_four, World.frozen?_setCells]
  refine ⟨?_, ?_, ?_, ?_, (f 0).trans h.z0, (f 1).trans h.z1, (f 2).trans h.z2, (f 3).trans h.z3⟩
  · exact ot _ _ _ _ _ (d 3 0 rfl) (ot _ _ _ _ _ (d 2 0 rfl) (ot _ _ _ _ _ (d 1 0 rfl) (sm _ _ _ _ h.c0)))
  · exact ot _ _ _ _ _ (d 3 1 rfl) (ot _ _ _ _ _ (d 2 1 rfl) (sm _ _ _ _ (ot _ _ _ _ _ (d 0 1 rfl) h.c1)))
  · exact ot _ _ _ _ _ (d 3 2 rfl) (sm _ _ _ _ (ot _ _ _ _ _ (d 1 2 rfl) (ot _ _ _ _ _ (d 0 2 rfl) h.c2)))
  · exact sm _ _ _ _ (ot _ _ _ _ _ (d 2 3 rfl) (ot _ _ _ _ _ (d 1 3 rfl) (ot _ _ _ _ _ (d 0 3 rfl) h.c3)))
theorem infoR4 : (Tryz.prog.info? 37).map (·.size) = some 4 := by kernel_rfl
theorem Qd.there {w : World} {b : Nat} {v0 v1 v2 v3 : Value} (H : Qd w b v0 v1 v2 v3) : w.there b 0 4 := fun j hj => by
  rw [Nat.zero_add]
  match j, hj with
  | 0, _ => exact ⟨by rw [H.c0]; rfl, H.z0⟩
  | 1, _ => exact ⟨by rw [H.c1]; rfl, H.z1⟩
  | 2, _ => exact ⟨by rw [H.c2]; rfl, H.z2⟩
  | 3, _ => exact ⟨by rw [H.c3]; rfl, H.z3⟩
  | j + 4, hj => omega
theorem wpList_store_qd {ops : Array Oper} {rest : List Oper} {op : Oper} {a : Act} {w : World} {Q : Exit → Act → World → Prop} (hgd : op.guard = none) (x y : Operand) (ho : op.op = .store 37 x y)
    (b : Nat) (hx : a.eval x = .pointer (some ⟨b, 0, none⟩)) {u0 u1 u2 u3 v0 v1 v2 v3 : Value} (hy : a.eval y = .agg #[v0, v1, v2, v3]) (H : Qd w b u0 u1 u2 u3)
    (h1 : v0.oneCell' = true ∧ v1.oneCell' = true ∧ v2.oneCell' = true ∧ v3.oneCell' = true)
    (h : ∀ w', Qd w' b v0 v1 v2 v3 → (∀ k, k ≠ b → w'.heap[k]? = w.heap[k]?) → (∀ B W, Below B W w → B ≤ b → Below B W w') → w'.heap.size = w.heap.size → wpList Tryz.prog ops Q rest (a.put op.dst undef) w') : wpList Tryz.prog ops Q (op :: rest) a w := by
  refine wpList_store_mid hgd _ x y ho b 0 _ hx hy H.there infoR4 (all_oneCell_toArray (cs := [v0, v1, v2, v3]) (by obtain ⟨o0, o1, o2, o3⟩ := h1; intro v hv; simp only [List.mem_cons, List.not_mem_nil, or_false] at hv; rcases hv with rfl | rfl | rfl | rfl <;> assumption)) ?_
  exact h _ (set4_qd H _ _ _ _) (fun k hk => set4_far w b v0 v1 v2 v3 k hk) (fun B W hb hB => set4_below hb hB _ _ _ _) (by show (set4 w b v0 v1 v2 v3).heap.size = w.heap.size; unfold set4; simp)

/-- A variable that holds a heap of the reference's. -/
def QVar (W : World) (b : Nat) (x : Int × Int) (A : Option Addr) (n c : Nat) (N : Bool) : Prop := W.heap[b]? = some (.cells #[.bool N, .int .i64 x.1, .int .i64 x.2, .slice A n c] 37 (0, 0))
section
variable {W W' : World} {b : Nat} {x : Int × Int} {A : Option Addr} {n c : Nat} {N : Bool}
theorem QVar.qd (h : QVar W b x A n c N) : Qd W b (.bool N) (.int .i64 x.1) (.int .i64 x.2) (.slice A n c) := qd_at h
theorem QVar.stay (h : QVar W b x A n c N) (hb : Below W.heap.size W W') : QVar W' b x A n c N := (hb.block b (lt_of_heap h)).trans h
theorem QVar.lt (h : QVar W b x A n c N) : b < W.heap.size := lt_of_heap h
theorem QVar.keep (h : QVar W b x A n c N) (e : W'.heap[b]? = W.heap[b]?) : QVar W' b x A n c N := e.trans h
theorem QVar.new (W : World) (x1 x2 : Int) (A : Option Addr) (n c : Nat) (N : Bool) {k : Nat} (h : k = W.heap.size) : QVar (W.alloc (.cells #[.bool N, .int .i64 x1, .int .i64 x2, .slice A n c] 37)) k (x1, x2) A n c N := new_at h
theorem QVar.alloc (h : QVar W b x A n c N) (o : Obj) : QVar (W.alloc o) b x A n c N := (alloc_old o (lt_of_heap h)).trans h
end
/-- What a call hands back: a heap of the reference's, how many steps there were; nothing that was there has changed. -/
def GaveP (F : Nat → Prop) (t : Lh) (k : Nat) (w : World) (e : Ending) (w' : World) : Prop := ∃ (z1 z2 : Int) (A : Option Addr) (n c : Nat) (N : Bool), e = .returned (.tuple #[.agg #[.bool N, .int .i64 z1, .int .i64 z2, .slice A n c], .int .i64 (k : Int)]) ∧ RAt F w' t (z1, z2) A n c N ∧ Below w.heap.size w w'

end Go.Proofs.YtaeainnkhjnlaaaGreatDoor.Ro
