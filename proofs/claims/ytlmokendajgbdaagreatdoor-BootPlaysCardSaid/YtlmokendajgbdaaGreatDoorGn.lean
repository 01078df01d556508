/-
  Plain facts, of no program: trees with ranks and skew binomial heaps of things of any type that has a key, by which alone they are told apart: what is put in, melded, taken out; which things there are, heap order, ranks, sizes, how many links. No conditions beyond what each theorem says.
  Plain facts, of no program: trees and skew binomial heaps of things, and of what these stand for: whatever is done with things is done with what they stand for, where keys are the same; how many comparisons and trees, likewise. No conditions beyond what each theorem says.
-/
import Derived.Test.YtlmokendajgbdaaGreatDoorMc
namespace Go.Proofs.YtlmokendajgbdaaGreatDoor.Gn
open Go.Sort Go.RowKit

/-- Things that have a key. -/
class Key (α : Type) where
  key : α → Int × Int
section
variable {α : Type} [Key α]
def ltK (a b : α) : Bool := ltE (Key.key a) (Key.key b)
theorem ltK_irrefl (a : α) : ltK a a = false := swoE.irrefl _
theorem ltK_ntrans (a b c : α) (h1 : ltK a b = false) (h2 : ltK b c = false) : ltK a c = false := swoE.ntrans _ _ _ h1 h2
theorem ltK_asym {a b : α} (h : ltK a b = true) : ltK b a = false := by
  unfold ltK at *
  rw [ltE_iff] at h
  rw [ltE_not]
  omega
end

/-- A row of trees: the first one's root, what stands beside it, its kids; the trees behind it. -/
inductive Wood (α : Type)
  | nil
  | cons (x : α) (bs : List α) (ks rest : Wood α)
/-- A tree. -/
structure Tre (α : Type) where
  x : α
  bs : List α
  ks : Wood α

/-- How many trees stand in a row. -/
def Wood.len {α : Type} : Wood α → Nat
  | .nil => 0
  | .cons _ _ _ r => r.len + 1
/-- How many things they have. -/
def Wood.size {α : Type} : Wood α → Nat
  | .nil => 0
  | .cons _ bs ks r => 1 + bs.length + ks.size + r.size
def Wood.all {α : Type} : Wood α → List α
  | .nil => []
  | .cons x bs ks r => (x :: (bs ++ ks.all)) ++ r.all
def Tre.rank {α : Type} (t : Tre α) : Nat := t.ks.len
def Tre.size {α : Type} (t : Tre α) : Nat := 1 + t.bs.length + t.ks.size
def Tre.all {α : Type} (t : Tre α) : List α := t.x :: (t.bs ++ t.ks.all)
theorem Wood.len_le {α : Type} : ∀ w : Wood α, w.len ≤ w.size
  | .nil => Nat.le_refl _
  | .cons _ _ _ r => by have := r.len_le; simp only [Wood.len, Wood.size]; omega
theorem Wood.all_length {α : Type} : ∀ w : Wood α, w.all.length = w.size
  | .nil => rfl
  | .cons x bs ks r => by simp only [Wood.all, Wood.size, List.length_append, List.length_cons, ks.all_length, r.all_length]; omega
theorem Tre.all_length {α : Type} (t : Tre α) : t.all.length = t.size := by simp only [Tre.all, Tre.size, List.length_append, List.length_cons, t.ks.all_length]; omega
theorem Tre.rank_lt {α : Type} (t : Tre α) : t.rank < t.size := by have := t.ks.len_le; simp only [Tre.rank, Tre.size]; omega
/-- Two trees linked. -/
def lnk {α : Type} [Key α] (a b : Tre α) : Tre α := if ltK b.x a.x then ⟨b.x, b.bs, .cons a.x a.bs a.ks b.ks⟩ else ⟨a.x, a.bs, .cons b.x b.bs b.ks a.ks⟩
/-- A thing put in skew. -/
def skw {α : Type} [Key α] (y : α) (t : Tre α) : Tre α := if ltK t.x y then ⟨t.x, y :: t.bs, t.ks⟩ else ⟨y, t.x :: t.bs, t.ks⟩
def leafT {α : Type} (x : α) : Tre α := ⟨x, [], .nil⟩
theorem lnk_lt {α : Type} [Key α] {a b : Tre α} (h : ltK b.x a.x = true) : lnk a b = ⟨b.x, b.bs, .cons a.x a.bs a.ks b.ks⟩ := by unfold lnk; rw [if_pos h]
theorem lnk_ge {α : Type} [Key α] {a b : Tre α} (h : ltK b.x a.x = false) : lnk a b = ⟨a.x, a.bs, .cons b.x b.bs b.ks a.ks⟩ := by unfold lnk; rw [if_neg (by rw [h]; simp)]
theorem skw_lt {α : Type} [Key α] {y : α} {t : Tre α} (h : ltK t.x y = true) : skw y t = ⟨t.x, y :: t.bs, t.ks⟩ := by unfold skw; rw [if_pos h]
theorem skw_ge {α : Type} [Key α] {y : α} {t : Tre α} (h : ltK t.x y = false) : skw y t = ⟨y, t.x :: t.bs, t.ks⟩ := by unfold skw; rw [if_neg (by rw [h]; simp)]
theorem lnk_size {α : Type} [Key α] (a b : Tre α) : (lnk a b).size = a.size + b.size := by unfold lnk; split <;> simp [Tre.size, Wood.size] <;> omega
theorem skw_size {α : Type} [Key α] (y : α) (t : Tre α) : (skw y t).size = t.size + 1 := by unfold skw; split <;> simp [Tre.size] <;> omega
theorem leafT_size {α : Type} (x : α) : (leafT x).size = 1 := rfl
/-- The trees of a row. -/
def Wood.list {α : Type} : Wood α → List (Tre α)
  | .nil => []
  | .cons x bs ks r => ⟨x, bs, ks⟩ :: r.list
def bAll {α : Type} : List (Tre α) → List α
  | [] => []
  | t :: r => t.all ++ bAll r
def bSize {α : Type} : List (Tre α) → Nat
  | [] => 0
  | t :: r => t.size + bSize r
/-- A tree put ahead of others. -/
def putT {α : Type} [Key α] : List (Tre α) → Tre α → List (Tre α)
  | [], t => [t]
  | u :: r, t => if t.rank < u.rank then t :: u :: r else putT r (lnk t u)
/-- .. how many links that takes. -/
def putTN {α : Type} [Key α] : List (Tre α) → Tre α → Nat
  | [], _ => 0
  | u :: r, t => if t.rank < u.rank then 0 else 1 + putTN r (lnk t u)
/-- Two heaps melded. -/
def bmeld {α : Type} [Key α] (a b : List (Tre α)) : List (Tre α) := match a, b with
  | [], b => b
  | f :: a, [] => f :: a
  | f :: a, g :: b => if f.rank < g.rank then f :: bmeld a (g :: b) else if g.rank < f.rank then g :: bmeld (f :: a) b else putT (bmeld a b) (lnk f g)
termination_by a.length + b.length
decreasing_by all_goals (simp only [List.length_cons]; omega)
/-- .. how many links that takes. -/
def bmeldN {α : Type} [Key α] (a b : List (Tre α)) : Nat := match a, b with
  | [], _ => 0
  | _ :: _, [] => 0
  | f :: a, g :: b => if f.rank < g.rank then bmeldN a (g :: b) else if g.rank < f.rank then bmeldN (f :: a) b else 1 + bmeldN a b + putTN (bmeld a b) (lnk f g)
termination_by a.length + b.length
decreasing_by all_goals (simp only [List.length_cons]; omega)
def rootAt {α : Type} [Inhabited α] (l : List (Tre α)) (i : Nat) : α := match l[i]? with
  | some t => t.x
  | none => default
/-- Which of the first k + 1 trees has the least root, the first one of several. -/
def leastK {α : Type} [Key α] [Inhabited α] (l : List (Tre α)) : Nat → Nat
  | 0 => 0
  | k + 1 => if ltK (rootAt l (k + 1)) (rootAt l (leastK l k)) = true then k + 1 else leastK l k
def leastI {α : Type} [Key α] [Inhabited α] (l : List (Tre α)) : Nat := leastK l (l.length - 1)
def bMin {α : Type} [Key α] [Inhabited α] : List (Tre α) → α × Bool
  | [] => (default, false)
  | t :: r => (rootAt (t :: r) (leastI (t :: r)), true)
/-- A tree's kids, the other way round. -/
def kidsAt {α : Type} (l : List (Tre α)) (i : Nat) : List (Tre α) := match l[i]? with
  | some t => t.ks.list.reverse
  | none => []
def restAt {α : Type} (l : List (Tre α)) (i : Nat) : List (Tre α) := l.take i ++ l.drop (i + 1)
def bPopN {α : Type} [Key α] [Inhabited α] : List (Tre α) → Nat
  | [] => 0
  | t :: r => bmeldN (kidsAt (t :: r) (leastI (t :: r))) (restAt (t :: r) (leastI (t :: r)))
theorem bmeld_nil {α : Type} [Key α] (b : List (Tre α)) : bmeld [] b = b := by unfold bmeld; rfl
theorem bmeld_right {α : Type} [Key α] (a : List (Tre α)) : bmeld a [] = a := by cases a <;> (unfold bmeld; rfl)
theorem bmeld_lt {α : Type} [Key α] {f g : Tre α} {a b : List (Tre α)} (h : f.rank < g.rank) : bmeld (f :: a) (g :: b) = f :: bmeld a (g :: b) := by rw [bmeld, if_pos h]
theorem bmeld_gt {α : Type} [Key α] {f g : Tre α} {a b : List (Tre α)} (h : g.rank < f.rank) : bmeld (f :: a) (g :: b) = g :: bmeld (f :: a) b := by rw [bmeld, if_neg (by omega), if_pos h]
theorem bmeld_eq {α : Type} [Key α] {f g : Tre α} {a b : List (Tre α)} (h : f.rank = g.rank) : bmeld (f :: a) (g :: b) = putT (bmeld a b) (lnk f g) := by rw [bmeld, if_neg (by omega), if_neg (by omega)]
theorem bmeldN_nil {α : Type} [Key α] (b : List (Tre α)) : bmeldN [] b = 0 := by unfold bmeldN; rfl
theorem bmeldN_right {α : Type} [Key α] (a : List (Tre α)) : bmeldN a [] = 0 := by cases a <;> (unfold bmeldN; rfl)
theorem bmeldN_lt {α : Type} [Key α] {f g : Tre α} {a b : List (Tre α)} (h : f.rank < g.rank) : bmeldN (f :: a) (g :: b) = bmeldN a (g :: b) := by rw [bmeldN, if_pos h]
theorem bmeldN_gt {α : Type} [Key α] {f g : Tre α} {a b : List (Tre α)} (h : g.rank < f.rank) : bmeldN (f :: a) (g :: b) = bmeldN (f :: a) b := by rw [bmeldN, if_neg (by omega), if_pos h]
theorem bmeldN_eq {α : Type} [Key α] {f g : Tre α} {a b : List (Tre α)} (h : f.rank = g.rank) : bmeldN (f :: a) (g :: b) = 1 + bmeldN a b + putTN (bmeld a b) (lnk f g) := by rw [bmeldN, if_neg (by omega), if_neg (by omega)]
/-- What holds of all pairs of heaps: by the way that melding goes. -/
theorem bmeld_ind {α : Type} {P : List (Tre α) → List (Tre α) → Prop} (h1 : ∀ b, P [] b) (h2 : ∀ f a, P (f :: a) [])
    (h3 : ∀ f a g b, f.rank < g.rank → P a (g :: b) → P (f :: a) (g :: b)) (h4 : ∀ f a g b, g.rank < f.rank → P (f :: a) b → P (f :: a) (g :: b))
    (h5 : ∀ f a g b, f.rank = g.rank → P a b → P (f :: a) (g :: b)) : ∀ a b, P a b := by
  have key : ∀ (n : Nat) (a b : List (Tre α)), a.length + b.length = n → P a b := by
    intro n
    induction n using Nat.strongRecOn with
    | ind n ih =>
      intro a b hn
      match a, b with
      | [], b => exact h1 b
      | f :: a, [] => exact h2 f a
      | f :: a, g :: b =>
        simp only [List.length_cons] at hn
        rcases Nat.lt_trichotomy f.rank g.rank with h | h | h
        · exact h3 f a g b h (ih (a.length + (g :: b).length) (by simp only [List.length_cons]; omega) _ _ rfl)
        · exact h5 f a g b h (ih (a.length + b.length) (by omega) _ _ rfl)
        · exact h4 f a g b h (ih ((f :: a).length + b.length) (by simp only [List.length_cons]; omega) _ _ rfl)
  exact fun a b => key _ a b rfl
/-- The elements. -/
theorem lnk_all {α : Type} [Key α] (a b : Tre α) : (lnk a b).all.Perm (a.all ++ b.all) := by
  unfold lnk
  split
  · simp only [Tre.all, Wood.all]
    refine List.Perm.trans ?_ List.perm_append_comm
    simp only [List.cons_append, List.append_assoc]
    refine List.Perm.cons _ (List.Perm.append_left _ ?_)
    have := List.perm_append_comm (l₁ := a.x :: (a.bs ++ a.ks.all)) (l₂ := b.ks.all)
    simpa using this
  · simp only [Tre.all, Wood.all]
    simp only [List.cons_append, List.append_assoc]
    refine List.Perm.cons _ (List.Perm.append_left _ ?_)
    have := List.perm_append_comm (l₁ := b.x :: (b.bs ++ b.ks.all)) (l₂ := a.ks.all)
    simpa using this
theorem putT_all {α : Type} [Key α] : ∀ (l : List (Tre α)) (t : Tre α), (bAll (putT l t)).Perm (t.all ++ bAll l)
  | [], t => by simp [putT, bAll]
  | u :: r, t => by
    unfold putT
    split
    · exact List.Perm.refl _
    · refine (putT_all r (lnk t u)).trans ?_
      simp only [bAll]
      rw [← List.append_assoc]
      exact (lnk_all t u).append_right _
theorem bmeld_all {α : Type} [Key α] : ∀ a b : List (Tre α), (bAll (bmeld a b)).Perm (bAll a ++ bAll b) := by
  refine bmeld_ind ?_ ?_ ?_ ?_ ?_
  · intro b; rw [bmeld_nil]; exact List.Perm.refl _
  · intro f a; rw [bmeld_right]; simp [bAll]
  · intro f a g b h ih
    rw [bmeld_lt h]
    simp only [bAll, List.append_assoc] at ih ⊢
    exact ih.append_left _
  · intro f a g b h ih
    rw [bmeld_gt h]
    simp only [bAll, List.append_assoc] at ih ⊢
    refine (ih.append_left _).trans ?_
    rw [← List.append_assoc, ← List.append_assoc, ← List.append_assoc, ← List.append_assoc]
    refine List.Perm.append_right _ ?_
    rw [List.append_assoc]
    exact List.perm_append_comm
  · intro f a g b h ih
    rw [bmeld_eq h]
    refine (putT_all _ _).trans ?_
    refine ((lnk_all f g).append ih).trans ?_
    simp only [bAll, List.append_assoc]
    refine List.Perm.append_left _ ?_
    rw [← List.append_assoc, ← List.append_assoc]
    exact List.perm_append_comm.append_right _
theorem bAll_length {α : Type} : ∀ l : List (Tre α), (bAll l).length = bSize l
  | [] => rfl
  | t :: r => by simp only [bAll, bSize, List.length_append, t.all_length, bAll_length r]
theorem bmeld_size {α : Type} [Key α] (a b : List (Tre α)) : bSize (bmeld a b) = bSize a + bSize b := by
  have h := (bmeld_all a b).length_eq
  rw [bAll_length, List.length_append, bAll_length, bAll_length] at h
  exact h
/-- How many trees: each link makes one of two. -/
theorem putT_len {α : Type} [Key α] : ∀ (l : List (Tre α)) (t : Tre α), (putT l t).length + putTN l t = l.length + 1
  | [], t => rfl
  | u :: r, t => by
    unfold putT putTN
    split
    · simp
    · have := putT_len r (lnk t u); simp only [List.length_cons]; omega
theorem bmeld_len {α : Type} [Key α] : ∀ a b : List (Tre α), (bmeld a b).length + bmeldN a b = a.length + b.length := by
  refine bmeld_ind ?_ ?_ ?_ ?_ ?_
  · intro b; rw [bmeld_nil, bmeldN_nil]; simp
  · intro f a; rw [bmeld_right, bmeldN_right]; simp
  · intro f a g b h ih; rw [bmeld_lt h, bmeldN_lt h]; simp only [List.length_cons] at *; omega
  · intro f a g b h ih; rw [bmeld_gt h, bmeldN_gt h]; simp only [List.length_cons] at *; omega
  · intro f a g b h ih
    rw [bmeld_eq h, bmeldN_eq h]
    have := putT_len (bmeld a b) (lnk f g)
    simp only [List.length_cons] at *
    omega
/-- Heap order. -/
def Wood.hok {α : Type} [Key α] : Wood α → Prop
  | .nil => True
  | .cons x bs ks r => (∀ e ∈ bs ++ ks.all, ltK e x = false) ∧ ks.hok ∧ r.hok
def Tre.hok {α : Type} [Key α] (t : Tre α) : Prop := (∀ e ∈ t.bs ++ t.ks.all, ltK e t.x = false) ∧ t.ks.hok
theorem Tre.hok.le {α : Type} [Key α] {t : Tre α} (h : t.hok) {e : α} (he : e ∈ t.all) : ltK e t.x = false := by
  rcases List.mem_cons.1 he with rfl | he
  · exact ltK_irrefl _
  · exact h.1 e he
theorem lnk_hok {α : Type} [Key α] {a b : Tre α} (ha : a.hok) (hb : b.hok) : (lnk a b).hok := by
  unfold lnk
  split
  next hv =>
    have hv' : ltK a.x b.x = false := ltK_asym hv
    refine ⟨fun e he => ?_, ⟨ha.1, ha.2, hb.2⟩⟩
    simp only [Wood.all] at he
    rcases List.mem_append.1 he with he | he
    · exact hb.1 e (List.mem_append.2 (.inl he))
    · rcases List.mem_append.1 he with he | he
      · exact ltK_ntrans _ _ _ (ha.le he) hv'
      · exact hb.1 e (List.mem_append.2 (.inr he))
  next hv =>
    have hv' : ltK b.x a.x = false := by simpa using hv
    refine ⟨fun e he => ?_, ⟨hb.1, hb.2, ha.2⟩⟩
    simp only [Wood.all] at he
    rcases List.mem_append.1 he with he | he
    · exact ha.1 e (List.mem_append.2 (.inl he))
    · rcases List.mem_append.1 he with he | he
      · exact ltK_ntrans _ _ _ (hb.le he) hv'
      · exact ha.1 e (List.mem_append.2 (.inr he))
theorem lnk_rank {α : Type} [Key α] {a b : Tre α} (h : a.rank = b.rank) : (lnk a b).rank = a.rank + 1 := by
  unfold lnk
  split <;> simp only [Tre.rank, Wood.len] at h ⊢ <;> omega
theorem leaf_hok {α : Type} [Key α] (x : α) : (leafT x).hok := ⟨by simp [leafT, Wood.all], trivial⟩
/-- Kids. -/
theorem Wood.list_len {α : Type} : ∀ w : Wood α, w.list.length = w.len
  | .nil => rfl
  | .cons _ _ _ r => by simp only [Wood.list, Wood.len, List.length_cons, r.list_len]
theorem Wood.list_all {α : Type} : ∀ w : Wood α, bAll w.list = w.all
  | .nil => rfl
  | .cons x bs ks r => by simp only [Wood.list, bAll, Wood.all, Tre.all, r.list_all]
theorem Wood.list_hok {α : Type} [Key α] : ∀ {w : Wood α}, w.hok → ∀ t ∈ w.list, t.hok
  | .nil, _, _, ht => by simp [Wood.list] at ht
  | .cons x bs ks r, h, t, ht => by
    rcases List.mem_cons.1 ht with rfl | ht
    · exact ⟨h.1, h.2.1⟩
    · exact Wood.list_hok h.2.2 t ht
theorem bAll_append {α : Type} (a b : List (Tre α)) : bAll (a ++ b) = bAll a ++ bAll b := by
  induction a with
  | nil => rfl
  | cons t r ih => simp only [List.cons_append, bAll, ih, List.append_assoc]
theorem bAll_reverse {α : Type} : ∀ l : List (Tre α), (bAll l.reverse).Perm (bAll l)
  | [] => List.Perm.refl _
  | t :: r => by
    rw [List.reverse_cons, bAll_append]
    simp only [bAll, List.append_nil]
    exact ((bAll_reverse r).append_right _).trans List.perm_append_comm
theorem bAll_mem {α : Type} {l : List (Tre α)} {t : Tre α} (h : t ∈ l) {e : α} (he : e ∈ t.all) : e ∈ bAll l := by
  induction l with
  | nil => cases h
  | cons u r ih =>
    rcases List.mem_cons.1 h with rfl | h
    · exact List.mem_append.2 (.inl he)
    · exact List.mem_append.2 (.inr (ih h))
theorem mem_bAll {α : Type} {l : List (Tre α)} {e : α} (h : e ∈ bAll l) : ∃ t ∈ l, e ∈ t.all := by
  induction l with
  | nil => cases h
  | cons u r ih =>
    rcases List.mem_append.1 h with h | h
    · exact ⟨u, by simp, h⟩
    · obtain ⟨t, ht, he⟩ := ih h; exact ⟨t, by simp [ht], he⟩
/-- The least root. -/
theorem leastK_le {α : Type} [Key α] [Inhabited α] (l : List (Tre α)) : ∀ k, leastK l k ≤ k
  | 0 => Nat.le_refl _
  | k + 1 => by unfold leastK; split; exact Nat.le_refl _; have := leastK_le l k; omega
theorem leastK_least {α : Type} [Key α] [Inhabited α] (l : List (Tre α)) : ∀ k i, i ≤ k → ltK (rootAt l i) (rootAt l (leastK l k)) = false
  | 0, i, hi => by
    obtain rfl : i = 0 := by omega
    exact ltK_irrefl _
  | k + 1, i, hi => by
    unfold leastK
    split
    next h =>
      by_cases e : i = k + 1
      · subst e; exact ltK_irrefl _
      · have h1 := leastK_least l k i (by omega)
        have h2 : ltK (rootAt l (leastK l k)) (rootAt l (k + 1)) = false := ltK_asym h
        exact ltK_ntrans _ _ _ h1 h2
    next h =>
      by_cases e : i = k + 1
      · subst e; simpa using h
      · exact leastK_least l k i (by omega)
theorem leastI_lt {α : Type} [Key α] [Inhabited α] {l : List (Tre α)} (h : l ≠ []) : leastI l < l.length := by
  have := leastK_le l (l.length - 1)
  have : 0 < l.length := List.length_pos_iff.2 h
  unfold leastI
  omega
theorem restAt_all {α : Type} {l : List (Tre α)} {i : Nat} (h : i < l.length) : (bAll l).Perm (l[i].all ++ bAll (restAt l i)) := by
  have e : l = l.take i ++ l[i] :: l.drop (i + 1) := by rw [List.getElem_cons_drop, List.take_append_drop]
  have h1 : bAll l = bAll (l.take i) ++ (l[i].all ++ bAll (l.drop (i + 1))) := by
    conv => lhs; rw [e]
    rw [bAll_append]; rfl
  rw [h1, restAt, bAll_append, ← List.append_assoc, ← List.append_assoc]
  exact List.perm_append_comm.append_right _
theorem restAt_mem {α : Type} {l : List (Tre α)} {i : Nat} {t : Tre α} (h : t ∈ restAt l i) : t ∈ l := by
  rcases List.mem_append.1 h with h | h
  · exact List.mem_of_mem_take h
  · exact List.mem_of_mem_drop h
theorem restAt_rise {α : Type} {l : List (Tre α)} {i : Nat} (h : l.Pairwise (fun a b => a.rank < b.rank)) : (restAt l i).Pairwise (fun a b => a.rank < b.rank) := by
  refine List.Pairwise.sublist ?_ h
  have : (l.take i ++ l.drop (i + 1)).Sublist (l.take i ++ l.drop i) := List.Sublist.append (List.Sublist.refl _) (by rw [← List.drop_drop]; exact List.drop_sublist _ _)
  rwa [List.take_append_drop] at this
theorem rise_len {α : Type} : ∀ (l : List (Tre α)) (k q : Nat), (∀ u ∈ l, k ≤ u.rank) → (∀ u ∈ l, u.rank < q) → l.Pairwise (fun a b => a.rank < b.rank) → l.length ≤ q - k
  | [], _, _, _, _, _ => Nat.zero_le _
  | t :: r, k, q, h1, h2, h3 => by
    obtain ⟨p1, p2⟩ := List.pairwise_cons.1 h3
    have := rise_len r (t.rank + 1) q (fun u hu => p1 u hu) (fun u hu => h2 u (by simp [hu])) p2
    have := h1 t (by simp)
    have := h2 t (by simp)
    simp only [List.length_cons]
    omega
theorem bSize_mem {α : Type} {l : List (Tre α)} {t : Tre α} (h : t ∈ l) : t.size ≤ bSize l := by
  induction l with
  | nil => cases h
  | cons u r ih =>
    simp only [bSize]
    rcases List.mem_cons.1 h with rfl | h
    · omega
    · have := ih h; omega
theorem bmeldN_le {α : Type} [Key α] (a b : List (Tre α)) : bmeldN a b ≤ a.length + b.length := by have := bmeld_len a b; omega
theorem bSize_nil {α : Type} {h : List (Tre α)} (hz : bSize h = 0) : h = [] := by
  cases h with
  | nil => rfl
  | cons t r => simp only [bSize, Tre.size] at hz; omega
/-- Trees levelled: the first one put ahead of the others. -/
def levT {α : Type} [Key α] : List (Tre α) → List (Tre α)
  | [] => []
  | t :: r => putT r t
def levN {α : Type} [Key α] : List (Tre α) → Nat
  | [] => 0
  | t :: r => putTN r t
/-- Two trees and a thing put in skew. -/
def skT {α : Type} [Key α] (x : α) (f g : Tre α) : Tre α := skw x (lnk f g)
/-- A thing put in. -/
def sIns {α : Type} [Key α] : List (Tre α) → α → List (Tre α)
  | f :: g :: r, x => if f.rank = g.rank then skT x f g :: r else leafT x :: f :: g :: r
  | h, x => leafT x :: h
/-- .. how many comparisons. -/
def sInsN {α : Type} : List (Tre α) → Nat
  | f :: g :: _ => if f.rank = g.rank then 2 else 0
  | _ => 0
/-- .. how many trees are made. -/
def sInsM {α : Type} : List (Tre α) → Nat
  | f :: g :: _ => if f.rank = g.rank then 2 else 1
  | _ => 1
def sOf {α : Type} [Key α] (l : List α) : List (Tre α) := l.foldl sIns []
/-- How many comparisons putting a row in takes. -/
def sPutN {α : Type} [Key α] : List (Tre α) → List α → Nat
  | _, [] => 0
  | h, x :: r => sInsN h + sPutN (sIns h x) r
def sPutM {α : Type} [Key α] : List (Tre α) → List α → Nat
  | _, [] => 0
  | h, x :: r => sInsM h + sPutM (sIns h x) r
def smeld {α : Type} [Key α] (a b : List (Tre α)) : List (Tre α) := bmeld (levT a) (levT b)
def smeldN {α : Type} [Key α] (a b : List (Tre α)) : Nat := levN a + levN b + bmeldN (levT a) (levT b)
/-- What stands beside a tree's root. -/
def besAt {α : Type} (l : List (Tre α)) (i : Nat) : List α := match l[i]? with
  | some t => t.bs
  | none => []
/-- The least one's kids melded with the others, levelled. -/
def sBase {α : Type} [Key α] (l : List (Tre α)) (i : Nat) : List (Tre α) := bmeld (kidsAt l i) (levT (restAt l i))
def sBaseN {α : Type} [Key α] (l : List (Tre α)) (i : Nat) : Nat := levN (restAt l i) + bmeldN (kidsAt l i) (levT (restAt l i))
def sPop {α : Type} [Key α] [Inhabited α] : List (Tre α) → List (Tre α)
  | [] => []
  | t :: r => (besAt (t :: r) (leastI (t :: r))).foldl sIns (sBase (t :: r) (leastI (t :: r)))
/-- How many comparisons, beyond the telling of the least one, taking it out takes; how many trees it makes. -/
def sPopN {α : Type} [Key α] [Inhabited α] : List (Tre α) → Nat
  | [] => 0
  | t :: r => sBaseN (t :: r) (leastI (t :: r)) + sPutN (sBase (t :: r) (leastI (t :: r))) (besAt (t :: r) (leastI (t :: r)))
def sPopM {α : Type} [Key α] [Inhabited α] : List (Tre α) → Nat
  | [] => 0
  | t :: r => sBaseN (t :: r) (leastI (t :: r)) + sPutM (sBase (t :: r) (leastI (t :: r))) (besAt (t :: r) (leastI (t :: r)))
theorem sIns_eq {α : Type} [Key α] {f g : Tre α} {r : List (Tre α)} (x : α) (h : f.rank = g.rank) : sIns (f :: g :: r) x = skT x f g :: r := by show (if f.rank = g.rank then skT x f g :: r else leafT x :: f :: g :: r) = _; rw [if_pos h]
theorem sIns_ne {α : Type} [Key α] {f g : Tre α} {r : List (Tre α)} (x : α) (h : f.rank ≠ g.rank) : sIns (f :: g :: r) x = leafT x :: f :: g :: r := by show (if f.rank = g.rank then skT x f g :: r else leafT x :: f :: g :: r) = _; rw [if_neg h]
theorem sInsN_le {α : Type} (h : List (Tre α)) : sInsN h ≤ 2 := by
  unfold sInsN; split
  · split <;> omega
  · omega
theorem sInsM_le {α : Type} (h : List (Tre α)) : sInsM h ≤ 2 ∧ sInsN h ≤ sInsM h := by
  match h with
  | [] => exact ⟨by simp [sInsM], by simp [sInsN, sInsM]⟩
  | [f] => exact ⟨by simp [sInsM], by simp [sInsM, sInsN]⟩
  | f :: g :: r =>
    show (if f.rank = g.rank then 2 else 1) ≤ 2 ∧ (if f.rank = g.rank then 2 else 0) ≤ (if f.rank = g.rank then 2 else 1)
    split <;> exact ⟨by omega, by omega⟩
theorem skw_all {α : Type} [Key α] (y : α) (t : Tre α) : (skw y t).all.Perm (y :: t.all) := by
  unfold skw
  split
  · simp only [Tre.all, List.cons_append]; exact List.Perm.swap _ _ _
  · exact List.Perm.refl _
theorem skT_all {α : Type} [Key α] (x : α) (f g : Tre α) : (skT x f g).all.Perm (x :: (f.all ++ g.all)) := (skw_all x _).trans (List.Perm.cons x (lnk_all f g))
theorem skT_size {α : Type} [Key α] (x : α) (f g : Tre α) : (skT x f g).size = f.size + g.size + 1 := by unfold skT; rw [skw_size, lnk_size]
theorem leafT_all {α : Type} (x : α) : (leafT x).all = [x] := rfl
theorem levT_all {α : Type} [Key α] : ∀ l : List (Tre α), (bAll (levT l)).Perm (bAll l)
  | [] => List.Perm.refl _
  | t :: r => putT_all r t
theorem levT_size {α : Type} [Key α] (l : List (Tre α)) : bSize (levT l) = bSize l := by
  have := (levT_all l).length_eq
  rwa [bAll_length, bAll_length] at this
theorem levT_len {α : Type} [Key α] : ∀ l : List (Tre α), (levT l).length + levN l = l.length
  | [] => rfl
  | t :: r => putT_len r t
theorem sIns_all {α : Type} [Key α] (h : List (Tre α)) (x : α) : (bAll (sIns h x)).Perm (x :: bAll h) := by
  match h with
  | [] => exact List.Perm.refl _
  | [f] => exact List.Perm.refl _
  | f :: g :: r =>
    by_cases e : f.rank = g.rank
    · rw [sIns_eq x e]
      simp only [bAll]
      rw [← List.append_assoc, ← List.cons_append]
      exact (skT_all x f g).append_right _
    · rw [sIns_ne x e]
      exact List.Perm.refl _
theorem sIns_size {α : Type} [Key α] (h : List (Tre α)) (x : α) : bSize (sIns h x) = bSize h + 1 := by
  have := (sIns_all h x).length_eq
  rwa [bAll_length, List.length_cons, bAll_length] at this
theorem sfold_all {α : Type} [Key α] : ∀ (l : List α) (h : List (Tre α)), (bAll (l.foldl sIns h)).Perm (bAll h ++ l)
  | [], h => by simp
  | x :: r, h => by
    refine (sfold_all r (sIns h x)).trans ?_
    refine ((sIns_all h x).append_right r).trans ?_
    simp only [List.cons_append]
    exact List.perm_middle.symm
theorem sOf_all {α : Type} [Key α] (l : List α) : (bAll (sOf l)).Perm l := by have := sfold_all l []; simpa [bAll, sOf] using this
theorem sOf_size {α : Type} [Key α] (l : List α) : bSize (sOf l) = l.length := by rw [← bAll_length]; exact (sOf_all l).length_eq
theorem sOf_snoc {α : Type} [Key α] (l : List α) (x : α) : sOf (l ++ [x]) = sIns (sOf l) x := by simp [sOf]
theorem sPutN_snoc {α : Type} [Key α] : ∀ (l : List α) (h : List (Tre α)) (x : α), sPutN h (l ++ [x]) = sPutN h l + sInsN (l.foldl sIns h)
  | [], h, x => by simp [sPutN]
  | y :: l, h, x => by simp only [List.cons_append, sPutN, List.foldl_cons]; rw [sPutN_snoc l (sIns h y) x]; omega
theorem sPutM_snoc {α : Type} [Key α] : ∀ (l : List α) (h : List (Tre α)) (x : α), sPutM h (l ++ [x]) = sPutM h l + sInsM (l.foldl sIns h)
  | [], h, x => by simp [sPutM]
  | y :: l, h, x => by simp only [List.cons_append, sPutM, List.foldl_cons]; rw [sPutM_snoc l (sIns h y) x]; omega
theorem sPutN_le {α : Type} [Key α] : ∀ (l : List α) (h : List (Tre α)), sPutN h l ≤ 2 * l.length ∧ sPutM h l ≤ 2 * l.length
  | [], _ => ⟨Nat.le_refl _, Nat.le_refl _⟩
  | x :: r, h => by
    have h1 := sPutN_le r (sIns h x)
    have h2 := sInsN_le h
    have h3 := sInsM_le h
    simp only [sPutN, sPutM, List.length_cons]
    omega
theorem smeld_all {α : Type} [Key α] (a b : List (Tre α)) : (bAll (smeld a b)).Perm (bAll a ++ bAll b) := (bmeld_all _ _).trans ((levT_all a).append (levT_all b))
theorem smeld_size {α : Type} [Key α] (a b : List (Tre α)) : bSize (smeld a b) = bSize a + bSize b := by unfold smeld; rw [bmeld_size, levT_size, levT_size]
theorem smeldN_le {α : Type} [Key α] (a b : List (Tre α)) : smeldN a b ≤ a.length + b.length := by
  have h1 := levT_len a
  have h2 := levT_len b
  have h3 := bmeld_len (levT a) (levT b)
  unfold smeldN
  omega
/-- A skew binomial tree: beside a root stand at most as many as its rank, a kid's rank is how many stand behind it. -/
def Wood.sk {α : Type} : Wood α → Prop
  | .nil => True
  | .cons _ bs ks r => bs.length ≤ ks.len ∧ ks.len = r.len ∧ ks.sk ∧ r.sk
def Tre.sk {α : Type} (t : Tre α) : Prop := t.bs.length ≤ t.rank ∧ t.ks.sk
theorem lnk_sk {α : Type} [Key α] {a b : Tre α} (h : a.rank = b.rank) (ha : a.sk) (hb : b.sk) : (lnk a b).sk := by
  have h1 := ha.1
  have h2 := hb.1
  simp only [Tre.rank] at h h1 h2
  unfold lnk
  split
  · exact ⟨by simp only [Tre.rank, Wood.len]; omega, h1, h, ha.2, hb.2⟩
  · exact ⟨by simp only [Tre.rank, Wood.len]; omega, h2, h.symm, hb.2, ha.2⟩
theorem skw_rank {α : Type} [Key α] (y : α) (t : Tre α) : (skw y t).rank = t.rank := by unfold skw; split <;> rfl
theorem skT_rank {α : Type} [Key α] {x : α} {a b : Tre α} (h : a.rank = b.rank) : (skT x a b).rank = a.rank + 1 := by unfold skT; rw [skw_rank, lnk_rank h]
theorem skT_sk {α : Type} [Key α] {x : α} {a b : Tre α} (h : a.rank = b.rank) (ha : a.sk) (hb : b.sk) : (skT x a b).sk := by
  have h0 := lnk_sk h ha hb
  have h1 : (lnk a b).bs.length ≤ a.rank := by
    have h1 := ha.1
    have h2 := hb.1
    unfold lnk
    split <;> simp only <;> omega
  have h2 := lnk_rank h
  unfold skT skw
  simp only [Tre.rank] at h1 h2
  split
  · exact ⟨by simp only [Tre.rank, List.length_cons]; omega, h0.2⟩
  · exact ⟨by simp only [Tre.rank, List.length_cons]; omega, h0.2⟩
theorem skw_hok {α : Type} [Key α] {y : α} {t : Tre α} (h : t.hok) : (skw y t).hok := by
  unfold skw
  split
  next hv =>
    refine ⟨fun e he => ?_, h.2⟩
    simp only [List.cons_append, List.mem_cons] at he
    rcases he with rfl | he
    · show ltK e t.x = false
      exact ltK_asym hv
    · exact h.1 e he
  next hv =>
    have hv' : ltK t.x y = false := by simpa using hv
    refine ⟨fun e he => ?_, h.2⟩
    simp only [List.cons_append, List.mem_cons] at he
    rcases he with rfl | he
    · exact hv'
    · exact ltK_ntrans _ _ _ (h.1 e he) hv'
theorem skT_hok {α : Type} [Key α] {x : α} {a b : Tre α} (ha : a.hok) (hb : b.hok) : (skT x a b).hok := skw_hok (lnk_hok ha hb)
theorem leaf_sk {α : Type} (x : α) : (leafT x).sk := ⟨Nat.zero_le _, trivial⟩
theorem Wood.sk_size {α : Type} : ∀ {w : Wood α}, w.sk → 2 ^ w.len ≤ w.size + 1 ∧ w.size + w.len + 2 ≤ 2 ^ (w.len + 1)
  | .nil, _ => ⟨Nat.le_refl _, by simp [Wood.size, Wood.len]⟩
  | .cons x bs ks r, ⟨h1, h2, h3, h4⟩ => by
    have i1 := Wood.sk_size h3
    have i2 := Wood.sk_size h4
    rw [h2] at i1 h1
    simp only [Wood.size, Wood.len, Nat.pow_succ] at *
    omega
theorem Tre.sk.sizes {α : Type} {t : Tre α} (h : t.sk) : 2 ^ t.rank ≤ t.size ∧ t.size < 2 ^ (t.rank + 1) := by
  have h1 := Wood.sk_size h.2
  have h2 := h.1
  simp only [Tre.size, Tre.rank, Nat.pow_succ] at *
  omega
/-- A tree put ahead of others, of its rank at least. -/
theorem putT_sgood {α : Type} [Key α] : ∀ (l : List (Tre α)) (t : Tre α), t.hok → t.sk → (∀ u ∈ l, t.rank ≤ u.rank) → (∀ u ∈ l, u.hok) → (∀ u ∈ l, u.sk) → l.Pairwise (fun a b => a.rank < b.rank) →
    (∀ u ∈ putT l t, u.hok) ∧ (∀ u ∈ putT l t, u.sk) ∧ (putT l t).Pairwise (fun a b => a.rank < b.rank) ∧ ∀ u ∈ putT l t, t.rank ≤ u.rank
  | [], t, h1, h2, _, _, _, _ => by simp [putT, h1, h2]
  | u :: r, t, h1, h2, h3, h4, h5, h6 => by
    unfold putT
    obtain ⟨h7, h8⟩ := List.pairwise_cons.1 h6
    have hu := h3 u (by simp)
    split
    next hr =>
      refine ⟨fun v hv => ?_, fun v hv => ?_, List.pairwise_cons.2 ⟨fun v hv => ?_, h6⟩, fun v hv => ?_⟩
      · rcases List.mem_cons.1 hv with rfl | hv; exact h1; exact h4 v hv
      · rcases List.mem_cons.1 hv with rfl | hv; exact h2; exact h5 v hv
      · rcases List.mem_cons.1 hv with rfl | hv; exact hr; exact Nat.lt_trans hr (h7 v hv)
      · rcases List.mem_cons.1 hv with rfl | hv; exact Nat.le_refl _; exact h3 v hv
    next hr =>
      have he : t.rank = u.rank := by omega
      have hk := lnk_rank he
      obtain ⟨g1, g2, g3, g4⟩ := putT_sgood r (lnk t u) (lnk_hok h1 (h4 u (by simp))) (lnk_sk he h2 (h5 u (by simp))) (fun v hv => by have := h7 v hv; omega) (fun v hv => h4 v (by simp [hv])) (fun v hv => h5 v (by simp [hv])) h8
      exact ⟨g1, g2, g3, fun v hv => by have := g4 v hv; omega⟩
theorem bmeld_sgood {α : Type} [Key α] : ∀ a b : List (Tre α), (∀ t ∈ a, t.hok) → (∀ t ∈ b, t.hok) → (∀ t ∈ a, t.sk) → (∀ t ∈ b, t.sk) → a.Pairwise (fun a b => a.rank < b.rank) → b.Pairwise (fun a b => a.rank < b.rank) →
    (∀ u ∈ bmeld a b, u.hok) ∧ (∀ u ∈ bmeld a b, u.sk) ∧ (bmeld a b).Pairwise (fun a b => a.rank < b.rank) ∧ ∀ k, (∀ u ∈ a, k ≤ u.rank) → (∀ u ∈ b, k ≤ u.rank) → ∀ u ∈ bmeld a b, k ≤ u.rank := by
  refine bmeld_ind (P := fun (a b : List (Tre α)) => (∀ t ∈ a, t.hok) → (∀ t ∈ b, t.hok) → (∀ t ∈ a, t.sk) → (∀ t ∈ b, t.sk) → a.Pairwise (fun a b => a.rank < b.rank) → b.Pairwise (fun a b => a.rank < b.rank) →
    (∀ u ∈ bmeld a b, u.hok) ∧ (∀ u ∈ bmeld a b, u.sk) ∧ (bmeld a b).Pairwise (fun a b => a.rank < b.rank) ∧ ∀ k, (∀ u ∈ a, k ≤ u.rank) → (∀ u ∈ b, k ≤ u.rank) → ∀ u ∈ bmeld a b, k ≤ u.rank) ?_ ?_ ?_ ?_ ?_
  · intro b _ h2 _ h4 _ h6; rw [bmeld_nil]; exact ⟨h2, h4, h6, fun k _ hk => hk⟩
  · intro f a h1 _ h3 _ h5 _; rw [bmeld_right]; exact ⟨h1, h3, h5, fun k hk _ => hk⟩
  · intro f a g b h ih h1 h2 h3 h4 h5 h6
    rw [bmeld_lt h]
    obtain ⟨p1, p2⟩ := List.pairwise_cons.1 h5
    obtain ⟨q1, q2⟩ := List.pairwise_cons.1 h6
    obtain ⟨g1, g2, g3, g4⟩ := ih (fun t ht => h1 t (by simp [ht])) h2 (fun t ht => h3 t (by simp [ht])) h4 p2 h6
    refine ⟨fun v hv => ?_, fun v hv => ?_, List.pairwise_cons.2 ⟨fun v hv => ?_, g3⟩, fun k hk1 hk2 v hv => ?_⟩
    · rcases List.mem_cons.1 hv with rfl | hv; exact h1 _ (by simp); exact g1 v hv
    · rcases List.mem_cons.1 hv with rfl | hv; exact h3 _ (by simp); exact g2 v hv
    · refine g4 (f.rank + 1) (fun u hu => p1 u hu) (fun u hu => ?_) v hv
      rcases List.mem_cons.1 hu with rfl | hu
      · exact h
      · have := q1 u hu; omega
    · rcases List.mem_cons.1 hv with rfl | hv; exact hk1 _ (by simp); exact g4 k (fun u hu => hk1 u (by simp [hu])) hk2 v hv
  · intro f a g b h ih h1 h2 h3 h4 h5 h6
    rw [bmeld_gt h]
    obtain ⟨p1, p2⟩ := List.pairwise_cons.1 h5
    obtain ⟨q1, q2⟩ := List.pairwise_cons.1 h6
    obtain ⟨g1, g2, g3, g4⟩ := ih h1 (fun t ht => h2 t (by simp [ht])) h3 (fun t ht => h4 t (by simp [ht])) h5 q2
    refine ⟨fun v hv => ?_, fun v hv => ?_, List.pairwise_cons.2 ⟨fun v hv => ?_, g3⟩, fun k hk1 hk2 v hv => ?_⟩
    · rcases List.mem_cons.1 hv with rfl | hv; exact h2 _ (by simp); exact g1 v hv
    · rcases List.mem_cons.1 hv with rfl | hv; exact h4 _ (by simp); exact g2 v hv
    · refine g4 (g.rank + 1) (fun u hu => ?_) (fun u hu => q1 u hu) v hv
      rcases List.mem_cons.1 hu with rfl | hu
      · exact h
      · have := p1 u hu; omega
    · rcases List.mem_cons.1 hv with rfl | hv; exact hk2 _ (by simp); exact g4 k hk1 (fun u hu => hk2 u (by simp [hu])) v hv
  · intro f a g b h ih h1 h2 h3 h4 h5 h6
    rw [bmeld_eq h]
    obtain ⟨p1, p2⟩ := List.pairwise_cons.1 h5
    obtain ⟨q1, q2⟩ := List.pairwise_cons.1 h6
    obtain ⟨g1, g2, g3, g4⟩ := ih (fun t ht => h1 t (by simp [ht])) (fun t ht => h2 t (by simp [ht])) (fun t ht => h3 t (by simp [ht])) (fun t ht => h4 t (by simp [ht])) p2 q2
    have hk := lnk_rank h
    have g5 := g4 (f.rank + 1) (fun u hu => p1 u hu) (fun u hu => by have := q1 u hu; omega)
    obtain ⟨k1, k2, k3, k4⟩ := putT_sgood (bmeld a b) (lnk f g) (lnk_hok (h1 f (by simp)) (h2 g (by simp))) (lnk_sk h (h3 f (by simp)) (h4 g (by simp))) (fun u hu => by have := g5 u hu; omega) g1 g2 g3
    refine ⟨k1, k2, k3, fun k hk1 hk2 v hv => ?_⟩
    have := k4 v hv
    have := hk1 f (by simp)
    omega
theorem Wood.list_sk {α : Type} : ∀ {w : Wood α}, w.sk → ∀ t ∈ w.list, t.sk ∧ t.rank < w.len
  | .nil, _, _, ht => by simp [Wood.list] at ht
  | .cons x bs ks r, h, t, ht => by
    rcases List.mem_cons.1 ht with rfl | ht
    · exact ⟨⟨h.1, h.2.2.1⟩, by simp only [Tre.rank, Wood.len]; have := h.2.1; omega⟩
    · have := Wood.list_sk h.2.2.2 t ht; exact ⟨this.1, by simp only [Wood.len]; omega⟩
theorem Wood.list_srise {α : Type} : ∀ {w : Wood α}, w.sk → w.list.reverse.Pairwise (fun a b => a.rank < b.rank)
  | .nil, _ => by simp [Wood.list]
  | .cons x bs ks r, h => by
    simp only [Wood.list, List.reverse_cons, List.pairwise_append]
    refine ⟨Wood.list_srise h.2.2.2, by simp, fun a ha b hb => ?_⟩
    simp only [List.mem_singleton] at hb
    subst hb
    have := (Wood.list_sk h.2.2.2 a (by simpa using ha)).2
    simp only [Tre.rank] at *
    have := h.2.1
    omega
/-- Ranks rise; the first two may have one. -/
def upto {α : Type} : List (Tre α) → Prop
  | [] => True
  | t :: r => (∀ u ∈ r, t.rank ≤ u.rank) ∧ r.Pairwise (fun a b => a.rank < b.rank)
theorem upto_of {α : Type} {l : List (Tre α)} (h : l.Pairwise (fun a b => a.rank < b.rank)) : upto l := by
  cases l with
  | nil => trivial
  | cons t r => obtain ⟨h1, h2⟩ := List.pairwise_cons.1 h; exact ⟨fun u hu => Nat.le_of_lt (h1 u hu), h2⟩
/-- A skew binomial heap. -/
structure sOk {α : Type} [Key α] (h : List (Tre α)) : Prop where
  hok : ∀ t ∈ h, t.hok
  sk : ∀ t ∈ h, t.sk
  up : upto h
theorem levT_good {α : Type} [Key α] {h : List (Tre α)} (k : sOk h) : (∀ u ∈ levT h, u.hok) ∧ (∀ u ∈ levT h, u.sk) ∧ (levT h).Pairwise (fun a b => a.rank < b.rank) := by
  cases h with
  | nil => exact ⟨by simp [levT], by simp [levT], List.Pairwise.nil⟩
  | cons t r =>
    obtain ⟨g1, g2, g3, -⟩ := putT_sgood r t (k.hok t (by simp)) (k.sk t (by simp)) k.up.1 (fun u hu => k.hok u (by simp [hu])) (fun u hu => k.sk u (by simp [hu])) k.up.2
    exact ⟨g1, g2, g3⟩
theorem sok_nil {α : Type} [Key α] : sOk ([] : List (Tre α)) := ⟨by simp, by simp, trivial⟩
theorem sok_meld {α : Type} [Key α] {a b : List (Tre α)} (ha : sOk a) (hb : sOk b) : sOk (smeld a b) := by
  obtain ⟨a1, a2, a3⟩ := levT_good ha
  obtain ⟨b1, b2, b3⟩ := levT_good hb
  obtain ⟨h1, h2, h3, -⟩ := bmeld_sgood (levT a) (levT b) a1 b1 a2 b2 a3 b3
  exact ⟨h1, h2, upto_of h3⟩
theorem sok_ins {α : Type} [Key α] {h : List (Tre α)} (x : α) (k : sOk h) : sOk (sIns h x) := by
  have leaf : ∀ l : List (Tre α), (∀ u ∈ l, u.hok) → (∀ u ∈ l, u.sk) → l.Pairwise (fun a b => a.rank < b.rank) → sOk (leafT x :: l) := fun l h1 h2 h3 =>
    ⟨fun u hu => by rcases List.mem_cons.1 hu with rfl | hu; exact leaf_hok x; exact h1 u hu, fun u hu => by rcases List.mem_cons.1 hu with rfl | hu; exact leaf_sk x; exact h2 u hu, fun u _ => Nat.zero_le _, h3⟩
  match h, k with
  | [], k => exact leaf [] k.hok k.sk List.Pairwise.nil
  | [f], k => exact leaf [f] k.hok k.sk (by simp)
  | f :: g :: r, k =>
    obtain ⟨u1, u2⟩ := k.up
    obtain ⟨u3, u4⟩ := List.pairwise_cons.1 u2
    by_cases e : f.rank = g.rank
    · rw [sIns_eq x e]
      have hr := skT_rank (x := x) e
      refine ⟨fun u hu => ?_, fun u hu => ?_, fun u hu => ?_, u4⟩
      · rcases List.mem_cons.1 hu with rfl | hu
        · exact skT_hok (k.hok f (by simp)) (k.hok g (by simp))
        · exact k.hok u (by simp [hu])
      · rcases List.mem_cons.1 hu with rfl | hu
        · exact skT_sk e (k.sk f (by simp)) (k.sk g (by simp))
        · exact k.sk u (by simp [hu])
      · have := u3 u hu; omega
    · rw [sIns_ne x e]
      refine leaf _ k.hok k.sk (List.pairwise_cons.2 ⟨fun u hu => ?_, u2⟩)
      have h1 := u1 g (by simp)
      rcases List.mem_cons.1 hu with rfl | hu
      · omega
      · have := u3 u hu; omega
theorem sok_fold {α : Type} [Key α] : ∀ (l : List α) (h : List (Tre α)), sOk h → sOk (l.foldl sIns h)
  | [], _, hh => hh
  | x :: r, _, hh => sok_fold r _ (sok_ins x hh)
theorem sok_of {α : Type} [Key α] (l : List α) : sOk (sOf l) := sok_fold l [] sok_nil
theorem restAt_up {α : Type} {l : List (Tre α)} {i : Nat} (h : upto l) : upto (restAt l i) := by
  cases l with
  | nil => simp [restAt, upto]
  | cons t r =>
    cases i with
    | zero => simp only [restAt, List.take_zero, List.nil_append, Nat.zero_add, List.drop_succ_cons, List.drop_zero]; exact upto_of h.2
    | succ i =>
      have e : restAt (t :: r) (i + 1) = t :: restAt r i := by simp [restAt]
      rw [e]
      exact ⟨fun u hu => h.1 u (restAt_mem hu), restAt_rise h.2⟩
theorem sok_base {α : Type} [Key α] {h : List (Tre α)} (hh : sOk h) {i : Nat} (hi : i < h.length) : sOk (sBase h i) := by
  have hm := List.getElem_mem hi
  have hk : kidsAt h i = h[i].ks.list.reverse := by unfold kidsAt; rw [List.getElem?_eq_getElem hi]
  unfold sBase
  rw [hk]
  generalize h[i] = u at *
  have hu := hh.hok u hm
  have hb := hh.sk u hm
  obtain ⟨b1, b2, b3⟩ := levT_good (h := restAt h i) ⟨fun v hv => hh.hok v (restAt_mem hv), fun v hv => hh.sk v (restAt_mem hv), restAt_up hh.up⟩
  obtain ⟨h1, h2, h3, -⟩ := bmeld_sgood u.ks.list.reverse (levT (restAt h i)) (fun v hv => Wood.list_hok hu.2 v (by simpa using hv)) b1 (fun v hv => (Wood.list_sk hb.2 v (by simpa using hv)).1) b2 (Wood.list_srise hb.2) b3
  exact ⟨h1, h2, upto_of h3⟩
theorem sok_pop {α : Type} [Key α] [Inhabited α] {h : List (Tre α)} (hh : sOk h) : sOk (sPop h) := by
  match h, hh with
  | [], _ => exact sok_nil
  | t :: r, hh => exact sok_fold _ _ (sok_base hh (leastI_lt (l := t :: r) (by simp)))
theorem sbase_all {α : Type} [Key α] {h : List (Tre α)} {i : Nat} (hi : i < h.length) : (bAll h).Perm (h[i].x :: (besAt h i ++ bAll (sBase h i))) := by
  have hp := restAt_all hi
  have hk : kidsAt h i = h[i].ks.list.reverse := by unfold kidsAt; rw [List.getElem?_eq_getElem hi]
  have hb : besAt h i = h[i].bs := by unfold besAt; rw [List.getElem?_eq_getElem hi]
  unfold sBase
  rw [hk, hb]
  generalize h[i] = u at *
  refine hp.trans ?_
  simp only [Tre.all, List.cons_append, List.append_assoc]
  refine List.Perm.cons _ (List.Perm.append_left _ ?_)
  refine List.Perm.trans ?_ (bmeld_all _ _).symm
  refine List.Perm.append ?_ (levT_all _).symm
  exact ((bAll_reverse _).trans (by rw [Wood.list_all])).symm
theorem spop_all {α : Type} [Key α] [Inhabited α] {h : List (Tre α)} (hne : h ≠ []) : (bAll h).Perm ((bMin h).1 :: bAll (sPop h)) := by
  match h, hne with
  | t :: r, _ =>
    have hl := leastI_lt (l := t :: r) (by simp)
    have hroot : rootAt (t :: r) (leastI (t :: r)) = ((t :: r)[leastI (t :: r)]).x := by unfold rootAt; rw [List.getElem?_eq_getElem hl]
    show (bAll (t :: r)).Perm (rootAt (t :: r) (leastI (t :: r)) :: bAll ((besAt (t :: r) (leastI (t :: r))).foldl sIns (sBase (t :: r) (leastI (t :: r)))))
    rw [hroot]
    refine (sbase_all hl).trans (List.Perm.cons _ ?_)
    exact List.perm_append_comm.trans (sfold_all _ _).symm
theorem spop_size {α : Type} [Key α] [Inhabited α] {h : List (Tre α)} (hne : h ≠ []) : bSize (sPop h) + 1 = bSize h := by
  have := (spop_all hne).length_eq
  rw [bAll_length, List.length_cons, bAll_length] at this
  exact this.symm
theorem bmin_least {α : Type} [Key α] [Inhabited α] {h : List (Tre α)} (hh : ∀ t ∈ h, t.hok) (hne : h ≠ []) : ∀ e ∈ bAll h, ltK e (bMin h).1 = false := by
  match h, hne with
  | t :: r, _ =>
    intro e he
    obtain ⟨v, hv, hev⟩ := mem_bAll he
    obtain ⟨j, hj, rfl⟩ := List.getElem_of_mem hv
    have h1 := (hh _ hv).le hev
    have h2 := leastK_least (t :: r) ((t :: r).length - 1) j (by omega)
    have h3 : rootAt (t :: r) j = ((t :: r)[j]).x := by unfold rootAt; rw [List.getElem?_eq_getElem hj]
    rw [h3] at h2
    exact ltK_ntrans _ _ _ h1 h2
/-- How many trees: as many as the size has bits, and one more. -/
theorem up_len {α : Type} : ∀ (l : List (Tre α)), upto l → ∀ q, (∀ u ∈ l, u.rank < q) → l.length ≤ q + 1
  | [], _, _, _ => Nat.zero_le _
  | t :: r, h, q, hq => by
    have h1 := rise_len r t.rank q h.1 (fun u hu => hq u (by simp [hu])) h.2
    have h2 := hq t (by simp)
    simp only [List.length_cons]
    omega
theorem srank_lt {α : Type} {h : List (Tre α)} (hg : ∀ t ∈ h, t.sk) {q : Nat} (hq : bSize h < 2 ^ q) {t : Tre α} (ht : t ∈ h) : t.rank < q := by
  have h1 := (hg t ht).sizes.1
  have h2 := bSize_mem ht
  exact (Nat.pow_lt_pow_iff_right (by omega)).1 (Nat.lt_of_le_of_lt (Nat.le_trans h1 h2) hq)
theorem strees_le {α : Type} [Key α] {h : List (Tre α)} (hg : sOk h) {q : Nat} (hq : bSize h < 2 ^ q) : h.length ≤ q + 1 := up_len h hg.up q (fun _ hu => srank_lt hg.sk hq hu)
theorem spop_le {α : Type} [Key α] [Inhabited α] {h : List (Tre α)} (hg : sOk h) {q : Nat} (hq : bSize h < 2 ^ q) : sPopN h + sPopM h ≤ 8 * q := by
  match h, hg, hq with
  | [], _, _ => exact Nat.zero_le _
  | t :: r, hg, hq =>
    have hl := leastI_lt (l := t :: r) (by simp)
    have hm := List.getElem_mem hl
    have h1 := strees_le hg hq
    have h2 := srank_lt hg.sk hq hm
    have h3 := (hg.sk _ hm).1
    have hk : kidsAt (t :: r) (leastI (t :: r)) = ((t :: r)[leastI (t :: r)]).ks.list.reverse := by unfold kidsAt; rw [List.getElem?_eq_getElem hl]
    have hb : besAt (t :: r) (leastI (t :: r)) = ((t :: r)[leastI (t :: r)]).bs := by unfold besAt; rw [List.getElem?_eq_getElem hl]
    have hr : (restAt (t :: r) (leastI (t :: r))).length + 1 = (t :: r).length := by
      unfold restAt
      rw [List.length_append, List.length_take, List.length_drop]
      omega
    have h4 := levT_len (restAt (t :: r) (leastI (t :: r)))
    have h5 := bmeld_len (kidsAt (t :: r) (leastI (t :: r))) (levT (restAt (t :: r) (leastI (t :: r))))
    have h6 : (kidsAt (t :: r) (leastI (t :: r))).length = ((t :: r)[leastI (t :: r)]).rank := by rw [hk, List.length_reverse, Wood.list_len]; rfl
    have h7 := sPutN_le (besAt (t :: r) (leastI (t :: r))) (sBase (t :: r) (leastI (t :: r)))
    rw [hb] at h7
    simp only [sPopN, sPopM, sBaseN]
    rw [hb]
    omega

end Go.Proofs.YtlmokendajgbdaaGreatDoor.Gn
namespace Go.Proofs.YtlmokendajgbdaaGreatDoor.Gn
open Go.Sort Go.RowKit

def Wood.map {α β : Type} (f : α → β) : Wood α → Wood β
  | .nil => .nil
  | .cons x bs ks r => .cons (f x) (bs.map f) (ks.map f) (r.map f)
def Tre.map {α β : Type} (f : α → β) (t : Tre α) : Tre β := ⟨f t.x, t.bs.map f, t.ks.map f⟩
theorem Wood.map_len {α β : Type} (f : α → β) : ∀ w : Wood α, (w.map f).len = w.len
  | .nil => rfl
  | .cons _ _ _ r => by simp only [Wood.map, Wood.len, r.map_len f]
theorem Wood.map_all {α β : Type} (f : α → β) : ∀ w : Wood α, (w.map f).all = w.all.map f
  | .nil => rfl
  | .cons x bs ks r => by simp only [Wood.map, Wood.all, ks.map_all f, r.map_all f, List.map_append, List.map_cons]
theorem Tre.map_all {α β : Type} (f : α → β) (t : Tre α) : (t.map f).all = t.all.map f := by simp only [Tre.map, Tre.all, Wood.map_all, List.map_append, List.map_cons]
theorem Tre.map_rank {α β : Type} (f : α → β) (t : Tre α) : (t.map f).rank = t.rank := Wood.map_len f t.ks
theorem Wood.map_list {α β : Type} (f : α → β) : ∀ w : Wood α, (w.map f).list = w.list.map (Tre.map f)
  | .nil => rfl
  | .cons x bs ks r => by simp only [Wood.map, Wood.list, r.map_list f, List.map_cons, Tre.map]
theorem bAll_map {α β : Type} (f : α → β) : ∀ l : List (Tre α), bAll (l.map (Tre.map f)) = (bAll l).map f
  | [] => rfl
  | t :: r => by simp only [List.map_cons, bAll, bAll_map f r, Tre.map_all, List.map_append]
theorem bSize_map {α β : Type} (f : α → β) (l : List (Tre α)) : bSize (l.map (Tre.map f)) = bSize l := by rw [← bAll_length, bAll_map, List.length_map, bAll_length]

theorem ltK_map {α β : Type} [Key α] [Key β] (f : α → β) (hf : ∀ a : α, Key.key (f a) = Key.key a) (a b : α) : ltK (f a) (f b) = ltK a b := by unfold ltK; rw [hf, hf]
theorem lnk_map {α β : Type} [Key α] [Key β] (f : α → β) (hf : ∀ a : α, Key.key (f a) = Key.key a) (a b : Tre α) : lnk (a.map f) (b.map f) = (lnk a b).map f := by
  cases h : ltK b.x a.x with
  | true => rw [lnk_lt h, lnk_lt (by show ltK (f b.x) (f a.x) = true; rw [ltK_map f hf]; exact h)]; rfl
  | false => rw [lnk_ge h, lnk_ge (by show ltK (f b.x) (f a.x) = false; rw [ltK_map f hf]; exact h)]; rfl
theorem skw_map {α β : Type} [Key α] [Key β] (f : α → β) (hf : ∀ a : α, Key.key (f a) = Key.key a) (y : α) (t : Tre α) : skw (f y) (t.map f) = (skw y t).map f := by
  cases h : ltK t.x y with
  | true => rw [skw_lt h, skw_lt (by show ltK (f t.x) (f y) = true; rw [ltK_map f hf]; exact h)]; rfl
  | false => rw [skw_ge h, skw_ge (by show ltK (f t.x) (f y) = false; rw [ltK_map f hf]; exact h)]; rfl
theorem putT_map {α β : Type} [Key α] [Key β] (f : α → β) (hf : ∀ a : α, Key.key (f a) = Key.key a) : ∀ (l : List (Tre α)) (t : Tre α), putT (l.map (Tre.map f)) (t.map f) = (putT l t).map (Tre.map f) ∧ putTN (l.map (Tre.map f)) (t.map f) = putTN l t
  | [], _ => ⟨rfl, rfl⟩
  | u :: r, t => by
    have h := putT_map f hf r (lnk t u)
    rw [← lnk_map f hf] at h
    simp only [List.map_cons, putT, putTN, Tre.map_rank]
    split
    · exact ⟨rfl, rfl⟩
    · exact ⟨h.1, by rw [h.2]⟩
theorem bmeld_map {α β : Type} [Key α] [Key β] (f : α → β) (hf : ∀ a : α, Key.key (f a) = Key.key a) : ∀ a b : List (Tre α), bmeld (a.map (Tre.map f)) (b.map (Tre.map f)) = (bmeld a b).map (Tre.map f) ∧ bmeldN (a.map (Tre.map f)) (b.map (Tre.map f)) = bmeldN a b := by
  refine bmeld_ind ?_ ?_ ?_ ?_ ?_
  · intro b; rw [List.map_nil, bmeld_nil, bmeld_nil, bmeldN_nil, bmeldN_nil]; exact ⟨rfl, rfl⟩
  · intro g a; rw [List.map_nil, bmeld_right, bmeld_right, bmeldN_right, bmeldN_right]; exact ⟨rfl, rfl⟩
  · intro g a k b h ih
    have h' : (g.map f).rank < (k.map f).rank := by rw [Tre.map_rank, Tre.map_rank]; exact h
    rw [bmeld_lt h, bmeldN_lt h, List.map_cons, List.map_cons, bmeld_lt h', bmeldN_lt h']
    rw [List.map_cons] at ih
    rw [ih.1, ih.2]; exact ⟨rfl, rfl⟩
  · intro g a k b h ih
    have h' : (k.map f).rank < (g.map f).rank := by rw [Tre.map_rank, Tre.map_rank]; exact h
    rw [bmeld_gt h, bmeldN_gt h, List.map_cons, List.map_cons, bmeld_gt h', bmeldN_gt h']
    rw [List.map_cons] at ih
    rw [ih.1, ih.2]; exact ⟨rfl, rfl⟩
  · intro g a k b h ih
    have h' : (g.map f).rank = (k.map f).rank := by rw [Tre.map_rank, Tre.map_rank]; exact h
    rw [bmeld_eq h, bmeldN_eq h, List.map_cons, List.map_cons, bmeld_eq h', bmeldN_eq h', ih.1, ih.2, lnk_map f hf, (putT_map f hf _ _).1, (putT_map f hf _ _).2]
    exact ⟨rfl, rfl⟩
theorem levT_map {α β : Type} [Key α] [Key β] (f : α → β) (hf : ∀ a : α, Key.key (f a) = Key.key a) (l : List (Tre α)) : levT (l.map (Tre.map f)) = (levT l).map (Tre.map f) ∧ levN (l.map (Tre.map f)) = levN l := by
  cases l with
  | nil => exact ⟨rfl, rfl⟩
  | cons t r => exact putT_map f hf r t
theorem smeld_map {α β : Type} [Key α] [Key β] (f : α → β) (hf : ∀ a : α, Key.key (f a) = Key.key a) (a b : List (Tre α)) : smeld (a.map (Tre.map f)) (b.map (Tre.map f)) = (smeld a b).map (Tre.map f) ∧ smeldN (a.map (Tre.map f)) (b.map (Tre.map f)) = smeldN a b := by
  have h1 := levT_map f hf a
  have h2 := levT_map f hf b
  have h3 := bmeld_map f hf (levT a) (levT b)
  unfold smeld smeldN
  rw [h1.1, h1.2, h2.1, h2.2, h3.1, h3.2]
  exact ⟨rfl, rfl⟩
theorem sIns_map {α β : Type} [Key α] [Key β] (f : α → β) (hf : ∀ a : α, Key.key (f a) = Key.key a) (h : List (Tre α)) (x : α) : sIns (h.map (Tre.map f)) (f x) = (sIns h x).map (Tre.map f) := by
  match h with
  | [] => rfl
  | [g] => rfl
  | g :: k :: r =>
    by_cases e : g.rank = k.rank
    · rw [sIns_eq x e, List.map_cons, List.map_cons, sIns_eq (f x) (by rw [Tre.map_rank, Tre.map_rank]; exact e)]
      unfold skT
      rw [lnk_map f hf, skw_map f hf]
      rfl
    · rw [sIns_ne x e, List.map_cons, List.map_cons, sIns_ne (f x) (by rw [Tre.map_rank, Tre.map_rank]; exact e)]
      rfl
theorem sInsN_map {α β : Type} (f : α → β) (h : List (Tre α)) : sInsN (h.map (Tre.map f)) = sInsN h ∧ sInsM (h.map (Tre.map f)) = sInsM h := by
  match h with
  | [] => exact ⟨rfl, rfl⟩
  | [g] => exact ⟨rfl, rfl⟩
  | g :: k :: r => simp only [List.map_cons, sInsN, sInsM, Tre.map_rank]; exact ⟨trivial, trivial⟩
theorem sfold_map {α β : Type} [Key α] [Key β] (f : α → β) (hf : ∀ a : α, Key.key (f a) = Key.key a) : ∀ (l : List α) (h : List (Tre α)), (l.map f).foldl sIns (h.map (Tre.map f)) = (l.foldl sIns h).map (Tre.map f) ∧ sPutN (h.map (Tre.map f)) (l.map f) = sPutN h l ∧ sPutM (h.map (Tre.map f)) (l.map f) = sPutM h l
  | [], _ => ⟨rfl, rfl, rfl⟩
  | x :: r, h => by
    have h1 := sfold_map f hf r (sIns h x)
    rw [← sIns_map f hf] at h1
    have h2 := sInsN_map f h
    simp only [List.map_cons, List.foldl_cons, sPutN, sPutM]
    rw [h1.1, h1.2.1, h1.2.2, h2.1, h2.2]
    exact ⟨rfl, rfl, rfl⟩
theorem rootAt_map {α β : Type} [Inhabited α] [Inhabited β] (f : α → β) {l : List (Tre α)} {i : Nat} (h : i < l.length) : rootAt (l.map (Tre.map f)) i = f (rootAt l i) := by
  unfold rootAt
  rw [List.getElem?_map, List.getElem?_eq_getElem h]
  rfl
theorem leastK_map {α β : Type} [Key α] [Key β] [Inhabited α] [Inhabited β] (f : α → β) (hf : ∀ a : α, Key.key (f a) = Key.key a) (l : List (Tre α)) : ∀ k, k < l.length → leastK (l.map (Tre.map f)) k = leastK l k
  | 0, _ => rfl
  | k + 1, h => by
    have h1 := leastK_map f hf l k (by omega)
    have h2 := leastK_le l k
    unfold leastK
    rw [h1, rootAt_map f h, rootAt_map f (by omega), ltK_map f hf]
theorem leastI_map {α β : Type} [Key α] [Key β] [Inhabited α] [Inhabited β] (f : α → β) (hf : ∀ a : α, Key.key (f a) = Key.key a) {l : List (Tre α)} (h : l ≠ []) : leastI (l.map (Tre.map f)) = leastI l := by
  unfold leastI
  rw [List.length_map]
  exact leastK_map f hf l _ (by have := List.length_pos_iff.2 h; omega)
theorem at_map {α β : Type} (f : α → β) (l : List (Tre α)) (i : Nat) : kidsAt (l.map (Tre.map f)) i = (kidsAt l i).map (Tre.map f) ∧ besAt (l.map (Tre.map f)) i = (besAt l i).map f ∧ restAt (l.map (Tre.map f)) i = (restAt l i).map (Tre.map f) := by
  unfold kidsAt besAt restAt
  rw [List.getElem?_map]
  refine ⟨?_, ?_, ?_⟩
  · cases l[i]? with
    | none => rfl
    | some t => show (t.ks.map f).list.reverse = _; rw [Wood.map_list, List.map_reverse]
  · cases l[i]? with
    | none => rfl
    | some t => rfl
  · rw [List.map_append, List.map_take, List.map_drop]
theorem sBase_map {α β : Type} [Key α] [Key β] (f : α → β) (hf : ∀ a : α, Key.key (f a) = Key.key a) (l : List (Tre α)) (i : Nat) : sBase (l.map (Tre.map f)) i = (sBase l i).map (Tre.map f) ∧ sBaseN (l.map (Tre.map f)) i = sBaseN l i := by
  obtain ⟨h1, -, h2⟩ := at_map f l i
  have h3 := levT_map f hf (restAt l i)
  have h4 := bmeld_map f hf (kidsAt l i) (levT (restAt l i))
  unfold sBase sBaseN
  rw [h1, h2, h3.1, h3.2, h4.1, h4.2]
  exact ⟨rfl, rfl⟩
theorem bMin_map {α β : Type} [Key α] [Key β] [Inhabited α] [Inhabited β] (f : α → β) (hf : ∀ a : α, Key.key (f a) = Key.key a) {l : List (Tre α)} (h : l ≠ []) : (bMin (l.map (Tre.map f))).1 = f (bMin l).1 := by
  match l, h with
  | t :: r, _ =>
    show rootAt ((t :: r).map (Tre.map f)) (leastI ((t :: r).map (Tre.map f))) = f (rootAt (t :: r) (leastI (t :: r)))
    rw [leastI_map f hf (by simp), rootAt_map f (leastI_lt (by simp))]
theorem sPop_map {α β : Type} [Key α] [Key β] [Inhabited α] [Inhabited β] (f : α → β) (hf : ∀ a : α, Key.key (f a) = Key.key a) (l : List (Tre α)) : sPop (l.map (Tre.map f)) = (sPop l).map (Tre.map f) ∧ sPopN (l.map (Tre.map f)) = sPopN l ∧ sPopM (l.map (Tre.map f)) = sPopM l := by
  match l with
  | [] => exact ⟨rfl, rfl, rfl⟩
  | t :: r =>
    have hi := leastI_map f hf (l := t :: r) (by simp)
    have hb := sBase_map f hf (t :: r) (leastI (t :: r))
    have hs := (at_map f (t :: r) (leastI (t :: r))).2.1
    have hp := sfold_map f hf (besAt (t :: r) (leastI (t :: r))) (sBase (t :: r) (leastI (t :: r)))
    rw [← hb.1, ← hs, ← hi] at hp
    refine ⟨?_, ?_, ?_⟩
    · show (besAt ((t :: r).map (Tre.map f)) (leastI ((t :: r).map (Tre.map f)))).foldl sIns (sBase ((t :: r).map (Tre.map f)) (leastI ((t :: r).map (Tre.map f)))) = _
      rw [hp.1, hi]; rfl
    · show sBaseN ((t :: r).map (Tre.map f)) (leastI ((t :: r).map (Tre.map f))) + sPutN (sBase ((t :: r).map (Tre.map f)) (leastI ((t :: r).map (Tre.map f)))) (besAt ((t :: r).map (Tre.map f)) (leastI ((t :: r).map (Tre.map f)))) = _
      rw [hp.2.1, hi, hb.2]; rfl
    · show sBaseN ((t :: r).map (Tre.map f)) (leastI ((t :: r).map (Tre.map f))) + sPutM (sBase ((t :: r).map (Tre.map f)) (leastI ((t :: r).map (Tre.map f)))) (besAt ((t :: r).map (Tre.map f)) (leastI ((t :: r).map (Tre.map f)))) = _
      rw [hp.2.2, hi, hb.2]; rfl

end Go.Proofs.YtlmokendajgbdaaGreatDoor.Gn
