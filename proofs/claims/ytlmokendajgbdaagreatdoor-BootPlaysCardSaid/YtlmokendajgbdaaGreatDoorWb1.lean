/-
  Heaps whose others are heaps, in memory: a node's block of five cells (the root, the value of the queue, a skew binomial heap of the addresses of heaps' nodes, and how many elements there are); they stay where no block of the types of either turns; what becomes of a queue that is put into, melded, taken out of. No conditions beyond what each theorem says.
-/
import Derived.Test.YtlmokendajgbdaaGreatDoorBo
import Derived.Test.YtlmokendajgbdaaGreatDoorV9b
namespace Go.Proofs.YtlmokendajgbdaaGreatDoor.Bo
open Go.Sort Go.RowKit Go.Proofs.YtlmokendajgbdaaGreatDoor.Gn

theorem alloc_old {w : World} {k : Nat} (o : Obj) (h : k < w.heap.size) : (w.alloc o).heap[k]? = w.heap[k]? := ((Below.refl w.heap.size w).alloc (Nat.le_refl _) o).block k h
theorem heap_other {W : World} {b k : Nat} (j : Nat) (v : Value) (h : k ≠ b) : (W.setCell ⟨b, j, none⟩ v).heap[k]? = W.heap[k]? := Below.heap_setCell W ⟨b, j, none⟩ v k h
/-- The types of a heap's blocks. -/
abbrev NodeT : TypeId → Prop := Hp.NodeT
/-- A heap's blocks stay. -/
abbrev Kp (W W' : World) : Prop := Kpt NodeT W W'
theorem node_ne : ¬ NodeT 78 := Hp.node_ne
theorem elemT_ne : ¬ NodeT 32 := Hp.elemT_ne
theorem heapT_ne : ¬ NodeT 29 := by unfold NodeT Hp.NodeT TreeT; decide
theorem addrT_ne : ¬ NodeT 27 := Hp.hvT_ne
theorem skewT_ne : ¬ NodeT 85 := Hp.heapT_ne

/-- The queue of things. -/
abbrev Qh := Go.Proofs.YtlmokendajgbdaaGreatDoor.Lh
/-- What a queue of things stands for. -/
def heaps (o : Qh) : List (Gn.Tre Lh) := o.ts.map (Gn.Tre.map Thing.h)
theorem heaps_all (o : Qh) : Gn.bAll (heaps o) = o.all.map Thing.h := Gn.bAll_map _ _
theorem heaps_size (o : Qh) : Gn.bSize (heaps o) = o.size := Gn.bSize_map _ _
/-- A node's block. -/
def nodeObj (x : Int × Int) (q : Hp.HP) (n : Int) : Obj := .cells #[.int .i64 x.1, .int .i64 x.2, .pointer q.q, .int .i64 q.n, .int .i64 n] 87 (0, 0)
/-- A heap at an address. -/
inductive LAt0 (W : World) : Lh → Option Addr → Prop
  | nil : LAt0 W .nil none
  | node {x : Int × Int} {a : Nat} {q : Hp.HP} {o : Qh} (hb : W.heap[a]? = some (nodeObj x q ((Lh.node x (heaps o)).size : Nat))) (hq : Hp.LAt W o q) (hs : ∀ b ∈ o.all, LAt0 W b.h (some ⟨b.a, 0, none⟩)) : LAt0 W (.node x (heaps o)) (some ⟨a, 0, none⟩)
/-- .. that is right, of at most 2 to the 28th elements. -/
structure LAt (W : World) (t : Lh) (p : Option Addr) : Prop where
  lies : LAt0 W t p
  right : t.ok
  small : t.size ≤ 268435456
/-- A heap's value. -/
abbrev hp (p : Option Addr) : Value := .agg #[.pointer p]

section
variable {W W' : World} {mo : Option Nat} {c m : Int}
theorem LAt0.kps (h : Kp W W') (hs : W.heap.size ≤ W'.heap.size) {t : Lh} {p : Option Addr} (hn : LAt0 W t p) : LAt0 W' t p := by
  induction hn with
  | nil => exact .nil
  | node hb hq _ ih => exact .node (h _ _ _ (.inl (.inr (.inr (.inr rfl)))) hb) (hq.kps h hs) ih
theorem LAt.kps {t : Lh} {p : Option Addr} (hn : LAt W t p) (h : Kp W W') (hs : W.heap.size ≤ W'.heap.size) : LAt W' t p := ⟨hn.lies.kps h hs, hn.right, hn.small⟩
theorem LAt0.stay {t : Lh} {p : Option Addr} (hn : LAt0 W t p) (h : Below W.heap.size W W') : LAt0 W' t p := hn.kps (Kpt.below h) h.size
theorem LAt.stay {t : Lh} {p : Option Addr} (hn : LAt W t p) (h : Below W.heap.size W W') : LAt W' t p := hn.kps (Kpt.below h) h.size
theorem LAt.bt {t : Lh} {p : Option Addr} (h : LAt W t p) (hb : Bt mo W W') (hm : MAt W mo c m) : LAt W' t p := h.kps (hb.kpt hm node_ne) hb.size
theorem LAt.none (w : World) : LAt w .nil Option.none := ⟨.nil, ok_nil, by decide⟩
theorem LAt.no {p : Option Addr} (h : LAt W .nil p) : p = Option.none := by
  have := h.lies
  cases this
  rfl
theorem size_set1 (W : World) (a : Addr) (u : Value) : (W.setCell a u).heap.size = W.heap.size := by simp [World.setCell]
/-- .. where a block of another type is written. -/
theorem LAt.wrote {t : Lh} {p : Option Addr} (hn : LAt W t p) {g : Nat} {cs : Array Value} {ty : TypeId} {z : Nat × Nat} (hg : W.heap[g]? = some (.cells cs ty z)) (ht : ¬ NodeT ty) (off : Nat) (u : Value) : LAt (W.setCell ⟨g, off, Option.none⟩ u) t p :=
  hn.kps (Kpt.set hg ht off u) (by rw [size_set1]; exact Nat.le_refl _)
/-- A heap with a root: its block, its queue. -/
theorem LAt.parts {x : Int × Int} {q : List (Gn.Tre Lh)} {p : Option Addr} (h : LAt W (.node x q) p) : ∃ (a : Nat) (s : Hp.HP) (o : Qh), p = some ⟨a, 0, Option.none⟩ ∧ W.heap[a]? = some (nodeObj x s ((Lh.node x q).size : Nat)) ∧ Hp.LAt W o s ∧ (∀ b ∈ o.all, LAt0 W b.h (some ⟨b.a, 0, Option.none⟩)) ∧ q = heaps o := by
  have := h.lies
  cases this with
  | node hb hq hs => exact ⟨_, _, _, rfl, hb, hq, hs, rfl⟩

/-- The five cells of a node's block. -/
structure Four (W : World) (b : Nat) (x : Int × Int) (q : Hp.HP) (n : Int) : Prop where
  c0 : W.cell? ⟨b, 0, none⟩ = some (.int .i64 x.1)
  c1 : W.cell? ⟨b, 1, none⟩ = some (.int .i64 x.2)
  c2 : W.cell? ⟨b, 2, none⟩ = some (.pointer q.q)
  c3 : W.cell? ⟨b, 3, none⟩ = some (.int .i64 q.n)
  c4 : W.cell? ⟨b, 4, none⟩ = some (.int .i64 n)
theorem four {b : Nat} {x : Int × Int} {q : Hp.HP} {n : Int} (h : W.heap[b]? = some (nodeObj x q n)) : Four W b x q n := by
  constructor <;> simp [World.cell?, h, nodeObj]
theorem four_kp {b : Nat} {x : Int × Int} {q : Hp.HP} {n : Int} (h : W.heap[b]? = some (nodeObj x q n)) (hk : Kp W W') : Four W' b x q n := four (hk b _ _ (.inl (.inr (.inr (.inr rfl)))) h)

/-- A variable that holds a heap. -/
def HVar (W : World) (b : Nat) (p : Option Addr) : Prop := W.heap[b]? = some (.cells #[.pointer p] 29 (0, 0))
theorem HVar.bt {b : Nat} {p : Option Addr} (h : HVar W b p) (hb : Bt mo W W') (hm : MAt W mo c m) : HVar W' b p := hb.row hm h (by decide)
theorem HVar.c0 {b : Nat} {p : Option Addr} (h : HVar W b p) : W.cell? ⟨b, 0, none⟩ = some (.pointer p) := by unfold HVar at h; simp [World.cell?, h]
theorem HVar.z0 {b : Nat} {p : Option Addr} (h : HVar W b p) : W.frozen? ⟨b, 0, none⟩ = false := by unfold HVar at h; simp [World.frozen?, h]
theorem HVar.put {b : Nat} {p : Option Addr} (h : HVar W b p) (q : Option Addr) : HVar (W.setCell ⟨b, 0, none⟩ (.pointer q)) b q := heap_put (j := 0) h _
theorem HVar.set {b' : Nat} {p : Option Addr} (h : HVar W b' p) {b : Nat} (hne : b' ≠ b) (off : Nat) (u : Value) : HVar (W.setCell ⟨b, off, none⟩ u) b' p := (heap_other _ _ hne).trans h

/-- A heap with a root as a thing: its root lies at its address. -/
theorem thing_key {x : Int × Int} {q : List (Gn.Tre Lh)} {a : Nat} (h : LAt0 W (.node x q) (some ⟨a, 0, none⟩)) : KeyC W ⟨.node x q, a⟩ := by
  cases h with
  | node hb hq hs => exact ⟨_, _, _, hb⟩
/-- How many heaps a queue has: no more than the heap has elements beside the root. -/
theorem queue_small_of {x : Int × Int} {o : Qh} (hk : (Lh.node x (heaps o)).ok) : o.size + 1 ≤ (Lh.node x (heaps o)).size := by
  cases hk with
  | node h1 h2 h3 =>
    have := queue_le _ fun b hb => (h3 b hb).1
    rw [Gn.bAll_length, heaps_size] at this
    rw [size_all, all_node, List.length_cons]
    omega
theorem key_same (x : Thing) : Gn.Key.key x.h = Gn.Key.key x := rfl
/-- A queue into which a thing is put. -/
theorem heaps_insert (o : Qh) (y : Thing) : heaps (o.insert y) = Gn.sIns (heaps o) y.h := (Gn.sIns_map Thing.h key_same o.ts y).symm
theorem insert_counts (o : Qh) : o.insC = Gn.sInsN (heaps o) ∧ o.insM = Gn.sInsM (heaps o) := by
  have h := Gn.sInsN_map Thing.h o.ts
  exact ⟨h.1.symm, h.2.symm⟩
theorem insert_lies {o : Qh} {y : Thing} (h : ∀ b ∈ o.all, LAt0 W b.h (some ⟨b.a, 0, none⟩)) (hy : LAt0 W y.h (some ⟨y.a, 0, none⟩)) : ∀ b ∈ (o.insert y).all, LAt0 W b.h (some ⟨b.a, 0, none⟩) := by
  intro b hb
  rcases List.mem_cons.1 ((Go.Proofs.YtlmokendajgbdaaGreatDoor.insert_all o y).subset hb) with rfl | hb
  · exact hy
  · exact h b hb
/-- Two queues melded. -/
theorem heaps_meld (a b : Qh) : heaps (Go.Proofs.YtlmokendajgbdaaGreatDoor.meld a b) = Gn.smeld (heaps a) (heaps b) ∧ Go.Proofs.YtlmokendajgbdaaGreatDoor.meldN a b = Gn.smeldN (heaps a) (heaps b) := by
  have h := Gn.smeld_map Thing.h key_same a.ts b.ts
  exact ⟨h.1.symm, h.2.symm⟩
theorem meld_lies {a b : Qh} (ha : ∀ x ∈ a.all, LAt0 W x.h (some ⟨x.a, 0, none⟩)) (hb : ∀ x ∈ b.all, LAt0 W x.h (some ⟨x.a, 0, none⟩)) : ∀ x ∈ (Go.Proofs.YtlmokendajgbdaaGreatDoor.meld a b).all, LAt0 W x.h (some ⟨x.a, 0, none⟩) := by
  intro x hx
  rcases List.mem_append.1 ((Go.Proofs.YtlmokendajgbdaaGreatDoor.meld_all a b).subset hx) with h | h
  · exact ha x h
  · exact hb x h
/-- A queue without its least one. -/
theorem heaps_pop (o : Qh) : heaps o.pop = Gn.sPop (heaps o) ∧ o.popC = Gn.sPopN (heaps o) ∧ o.popM = Gn.sPopM (heaps o) := by
  have h := Gn.sPop_map Thing.h key_same o.ts
  exact ⟨h.1.symm, h.2.1.symm, h.2.2.symm⟩
theorem heaps_len (o : Qh) : (heaps o).length = o.ts.length := List.length_map ..
theorem heaps_least {o : Qh} (h : o.ts ≠ []) : least (heaps o) = o.min.1.h := Gn.bMin_map Thing.h key_same h
theorem pop_lies {o : Qh} (h : ∀ b ∈ o.all, LAt0 W b.h (some ⟨b.a, 0, none⟩)) (hne : o.ts ≠ []) : LAt0 W o.min.1.h (some ⟨o.min.1.a, 0, none⟩) ∧ ∀ b ∈ o.pop.all, LAt0 W b.h (some ⟨b.a, 0, none⟩) := by
  have hp := Gn.spop_all hne
  exact ⟨h _ (hp.symm.subset (List.mem_cons_self ..)), fun b hb => h b (hp.symm.subset (List.mem_cons_of_mem _ hb))⟩
end

/-- What a call hands back that makes a heap: c comparisons, m things made so far. -/
def Gave (mo : Option Nat) (c m : Int) (t : Lh) (w : World) (e : Ending) (w' : World) : Prop := ∃ p, e = .returned (hp p) ∧ LAt w' t p ∧ MAt w' mo c m ∧ Bt mo w w'

end Go.Proofs.YtlmokendajgbdaaGreatDoor.Bo
