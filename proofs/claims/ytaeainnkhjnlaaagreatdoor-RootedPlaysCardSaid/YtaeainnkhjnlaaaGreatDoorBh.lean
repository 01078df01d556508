/-
  Plain facts, of no program: binomial heaps as data: a tree put ahead of others, two heaps melded, which tree has the least root, the least one taken out: the elements, heap order, the trees' shapes and ranks, how many links. No conditions.
  Plain facts on binomial heaps: a heap of n elements has as many trees as n has bits that are 1; how many steps taking out makes, in bits. No conditions.
  Plain facts, of no program: skew binomial heaps as data: trees levelled, a thing put in, two heaps melded, the least one taken out, what stands beside its root put in again: the elements, heap order, the trees' shapes and ranks, sizes, counts. No conditions.
  Plain facts, of no program: skew binomial heaps under the names that the laws' walks use (those of layers 6 to 8): melded, put in, of a row, the least one taken out: elements, order, sizes, counts (comparisons and trees made apart). No conditions.
-/
import Derived.Test.YtaeainnkhjnlaaaGreatDoorTa
namespace Go.Proofs.YtaeainnkhjnlaaaGreatDoor
open Go.Sort Go.RowKit

/-- The trees of a row. -/
def Wood.list : Wood → List Tre
  | .nil => []
  | .cons x bs ks r => ⟨x, bs, ks⟩ :: r.list
def bAll : List Tre → List (Int × Int)
  | [] => []
  | t :: r => t.all ++ bAll r
def bSize : List Tre → Nat
  | [] => 0
  | t :: r => t.size + bSize r
/-- A tree put ahead of others. -/
def putT : List Tre → Tre → List Tre
  | [], t => [t]
  | u :: r, t => if t.rank < u.rank then t :: u :: r else putT r (lnk t u)
/-- .. how many links that takes. -/
def putTN : List Tre → Tre → Nat
  | [], _ => 0
  | u :: r, t => if t.rank < u.rank then 0 else 1 + putTN r (lnk t u)
/-- Two heaps melded. -/
def bmeld (a b : List Tre) : List Tre := match a, b with
  | [], b => b
  | f :: a, [] => f :: a
  | f :: a, g :: b => if f.rank < g.rank then f :: bmeld a (g :: b) else if g.rank < f.rank then g :: bmeld (f :: a) b else putT (bmeld a b) (lnk f g)
termination_by a.length + b.length
decreasing_by all_goals (simp only [List.length_cons]; omega)
/-- .. how many links that takes. -/
def bmeldN (a b : List Tre) : Nat := match a, b with
  | [], _ => 0
  | _ :: _, [] => 0
  | f :: a, g :: b => if f.rank < g.rank then bmeldN a (g :: b) else if g.rank < f.rank then bmeldN (f :: a) b else 1 + bmeldN a b + putTN (bmeld a b) (lnk f g)
termination_by a.length + b.length
decreasing_by all_goals (simp only [List.length_cons]; omega)
def rootAt (l : List Tre) (i : Nat) : Int × Int := match l[i]? with
  | some t => t.x
  | none => (0, 0)
/-- Which of the first k + 1 trees has the least root, the first one of several. -/
def leastK (l : List Tre) : Nat → Nat
  | 0 => 0
  | k + 1 => if ltE (rootAt l (k + 1)) (rootAt l (leastK l k)) = true then k + 1 else leastK l k
def leastI (l : List Tre) : Nat := leastK l (l.length - 1)
def bMin : List Tre → (Int × Int) × Bool
  | [] => ((0, 0), false)
  | t :: r => (rootAt (t :: r) (leastI (t :: r)), true)
/-- A tree's kids, the other way round. -/
def kidsAt (l : List Tre) (i : Nat) : List Tre := match l[i]? with
  | some t => t.ks.list.reverse
  | none => []
def restAt (l : List Tre) (i : Nat) : List Tre := l.take i ++ l.drop (i + 1)
theorem bmeld_nil (b : List Tre) : bmeld [] b = b := by unfold bmeld; rfl
theorem bmeld_right (a : List Tre) : bmeld a [] = a := by cases a <;> (unfold bmeld; rfl)
theorem bmeld_lt {f g : Tre} {a b : List Tre} (h : f.rank < g.rank) : bmeld (f :: a) (g :: b) = f :: bmeld a (g :: b) := by rw [bmeld, if_pos h]
theorem bmeld_gt {f g : Tre} {a b : List Tre} (h : g.rank < f.rank) : bmeld (f :: a) (g :: b) = g :: bmeld (f :: a) b := by rw [bmeld, if_neg (by omega), if_pos h]
theorem bmeld_eq {f g : Tre} {a b : List Tre} (h : f.rank = g.rank) : bmeld (f :: a) (g :: b) = putT (bmeld a b) (lnk f g) := by rw [bmeld, if_neg (by omega), if_neg (by omega)]
theorem bmeldN_nil (b : List Tre) : bmeldN [] b = 0 := by unfold bmeldN; rfl
theorem bmeldN_right (a : List Tre) : bmeldN a [] = 0 := by cases a <;> (unfold bmeldN; rfl)
theorem bmeldN_lt {f g : Tre} {a b : List Tre} (h : f.rank < g.rank) : bmeldN (f :: a) (g :: b) = bmeldN a (g :: b) := by rw [bmeldN, if_pos h]
theorem bmeldN_gt {f g : Tre} {a b : List Tre} (h : g.rank < f.rank) : bmeldN (f :: a) (g :: b) = bmeldN (f :: a) b := by rw [bmeldN, if_neg (by omega), if_pos h]
theorem bmeldN_eq {f g : Tre} {a b : List Tre} (h : f.rank = g.rank) : bmeldN (f :: a) (g :: b) = 1 + bmeldN a b + putTN (bmeld a b) (lnk f g) := by rw [bmeldN, if_neg (by omega), if_neg (by omega)]

/-- What holds of all pairs of heaps: by the way that melding goes. -/
theorem bmeld_ind {P : List Tre → List Tre → Prop} (h1 : ∀ b, P [] b) (h2 : ∀ f a, P (f :: a) [])
    (h3 : ∀ f a g b, f.rank < g.rank → P a (g :: b) → P (f :: a) (g :: b)) (h4 : ∀ f a g b, g.rank < f.rank → P (f :: a) b → P (f :: a) (g :: b))
    (h5 : ∀ f a g b, f.rank = g.rank → P a b → P (f :: a) (g :: b)) : ∀ a b, P a b := by
  have key : ∀ (n : Nat) (a b : List Tre), a.length + b.length = n → P a b := by
    intro n
    induction n using Nat.strongRecOn with
    | ind n ih =>
      intro a b hn
      match a, b with
      | [], b => exact h1 b
      | f :: a, [] => exact h2 f a
      | f :: a, g :: b =>
        simp only [List.length_cons] at hn
        rcases Nat.lt_trichotomy f.rank g.rank with h | h | h
        · exact h3 f a g b h (ih (a.length + (g :: b).length) (by simp only [List.length_cons]; omega) _ _ rfl)
        · exact h5 f a g b h (ih (a.length + b.length) (by omega) _ _ rfl)
        · exact h4 f a g b h (ih ((f :: a).length + b.length) (by simp only [List.length_cons]; omega) _ _ rfl)
  exact fun a b => key _ a b rfl

/-- The elements. -/
theorem lnk_all (a b : Tre) : (lnk a b).all.Perm (a.all ++ b.all) := by
  unfold lnk
  split
  · simp only [Tre.all, Wood.all]
    refine List.Perm.trans ?_ List.perm_append_comm
    simp only [List.cons_append, List.append_assoc]
    refine List.Perm.cons _ (List.Perm.append_left _ ?_)
    have := List.perm_append_comm (l₁ := a.x :: (a.bs ++ a.ks.all)) (l₂ := b.ks.all)
    simpa using this
  · simp only [Tre.all, Wood.all]
    simp only [List.cons_append, List.append_assoc]
    refine List.Perm.cons _ (List.Perm.append_left _ ?_)
    have := List.perm_append_comm (l₁ := b.x :: (b.bs ++ b.ks.all)) (l₂ := a.ks.all)
    simpa using this
theorem putT_all : ∀ (l : List Tre) (t : Tre), (bAll (putT l t)).Perm (t.all ++ bAll l)
  | [], t => by simp [putT, bAll]
  | u :: r, t => by
    unfold putT
    split
    · exact List.Perm.refl _
    · refine (putT_all r (lnk t u)).trans ?_
      simp only [bAll]
      rw [← List.append_assoc]
      exact (lnk_all t u).append_right _
theorem bmeld_all : ∀ a b : List Tre, (bAll (bmeld a b)).Perm (bAll a ++ bAll b) := by
  refine bmeld_ind ?_ ?_ ?_ ?_ ?_
  · intro b; rw [bmeld_nil]; exact List.Perm.refl _
  · intro f a; rw [bmeld_right]; simp [bAll]
  · intro f a g b h ih
    rw [bmeld_lt h]
    simp only [bAll, List.append_assoc] at ih ⊢
    exact ih.append_left _
  · intro f a g b h ih
    rw [bmeld_gt h]
    simp only [bAll, List.append_assoc] at ih ⊢
    refine (ih.append_left _).trans ?_
    rw [← List.append_assoc, ← List.append_assoc, ← List.append_assoc, ← List.append_assoc]
    refine List.Perm.append_right _ ?_
    rw [List.append_assoc]
    exact List.perm_append_comm
  · intro f a g b h ih
    rw [bmeld_eq h]
    refine (putT_all _ _).trans ?_
    refine ((lnk_all f g).append ih).trans ?_
    simp only [bAll, List.append_assoc]
    refine List.Perm.append_left _ ?_
    rw [← List.append_assoc, ← List.append_assoc]
    exact List.perm_append_comm.append_right _
theorem bAll_length : ∀ l : List Tre, (bAll l).length = bSize l
  | [] => rfl
  | t :: r => by simp only [bAll, bSize, List.length_append, t.all_length, bAll_length r]
theorem bmeld_size (a b : List Tre) : bSize (bmeld a b) = bSize a + bSize b := by
  have h := (bmeld_all a b).length_eq
  rw [bAll_length, List.length_append, bAll_length, bAll_length] at h
  exact h
/-- How many trees: each link makes one of two. -/
theorem putT_len : ∀ (l : List Tre) (t : Tre), (putT l t).length + putTN l t = l.length + 1
  | [], t => rfl
  | u :: r, t => by
    unfold putT putTN
    split
    · simp
    · have := putT_len r (lnk t u); simp only [List.length_cons]; omega
theorem bmeld_len : ∀ a b : List Tre, (bmeld a b).length + bmeldN a b = a.length + b.length := by
  refine bmeld_ind ?_ ?_ ?_ ?_ ?_
  · intro b; rw [bmeld_nil, bmeldN_nil]; simp
  · intro f a; rw [bmeld_right, bmeldN_right]; simp
  · intro f a g b h ih; rw [bmeld_lt h, bmeldN_lt h]; simp only [List.length_cons] at *; omega
  · intro f a g b h ih; rw [bmeld_gt h, bmeldN_gt h]; simp only [List.length_cons] at *; omega
  · intro f a g b h ih
    rw [bmeld_eq h, bmeldN_eq h]
    have := putT_len (bmeld a b) (lnk f g)
    simp only [List.length_cons] at *
    omega

/-- Heap order. -/
def Wood.hok : Wood → Prop
  | .nil => True
  | .cons x bs ks r => (∀ e ∈ bs ++ ks.all, ltE e x = false) ∧ ks.hok ∧ r.hok
def Tre.hok (t : Tre) : Prop := (∀ e ∈ t.bs ++ t.ks.all, ltE e t.x = false) ∧ t.ks.hok
theorem Tre.hok.le {t : Tre} (h : t.hok) {e : Int × Int} (he : e ∈ t.all) : ltE e t.x = false := by
  rcases List.mem_cons.1 he with rfl | he
  · exact swoE.irrefl _
  · exact h.1 e he
theorem lnk_hok {a b : Tre} (ha : a.hok) (hb : b.hok) : (lnk a b).hok := by
  unfold lnk
  split
  next hv =>
    have hv' : ltE a.x b.x = false := by rw [ltE_not]; rw [ltE_iff] at hv; omega
    refine ⟨fun e he => ?_, ⟨ha.1, ha.2, hb.2⟩⟩
    simp only [Wood.all] at he
    rcases List.mem_append.1 he with he | he
    · exact hb.1 e (List.mem_append.2 (.inl he))
    · rcases List.mem_append.1 he with he | he
      · exact swoE.ntrans _ _ _ (ha.le he) hv'
      · exact hb.1 e (List.mem_append.2 (.inr he))
  next hv =>
    have hv' : ltE b.x a.x = false := by simpa using hv
    refine ⟨fun e he => ?_, ⟨hb.1, hb.2, ha.2⟩⟩
    simp only [Wood.all] at he
    rcases List.mem_append.1 he with he | he
    · exact ha.1 e (List.mem_append.2 (.inl he))
    · rcases List.mem_append.1 he with he | he
      · exact swoE.ntrans _ _ _ (hb.le he) hv'
      · exact ha.1 e (List.mem_append.2 (.inr he))
theorem lnk_rank {a b : Tre} (h : a.rank = b.rank) : (lnk a b).rank = a.rank + 1 := by
  unfold lnk
  split <;> simp only [Tre.rank, Wood.len] at h ⊢ <;> omega
theorem leaf_hok (x : Int × Int) : (leafT x).hok := ⟨by simp [leafT, Wood.all], trivial⟩
/-- Kids. -/
theorem Wood.list_len : ∀ w : Wood, w.list.length = w.len
  | .nil => rfl
  | .cons _ _ _ r => by simp only [Wood.list, Wood.len, List.length_cons, r.list_len]
theorem Wood.list_all : ∀ w : Wood, bAll w.list = w.all
  | .nil => rfl
  | .cons x bs ks r => by simp only [Wood.list, bAll, Wood.all, Tre.all, r.list_all]
theorem Wood.list_hok : ∀ {w : Wood}, w.hok → ∀ t ∈ w.list, t.hok
  | .nil, _, _, ht => by simp [Wood.list] at ht
  | .cons x bs ks r, h, t, ht => by
    rcases List.mem_cons.1 ht with rfl | ht
    · exact ⟨h.1, h.2.1⟩
    · exact Wood.list_hok h.2.2 t ht
theorem bAll_append (a b : List Tre) : bAll (a ++ b) = bAll a ++ bAll b := by
  induction a with
  | nil => rfl
  | cons t r ih => simp only [List.cons_append, bAll, ih, List.append_assoc]
theorem bAll_reverse : ∀ l : List Tre, (bAll l.reverse).Perm (bAll l)
  | [] => List.Perm.refl _
  | t :: r => by
    rw [List.reverse_cons, bAll_append]
    simp only [bAll, List.append_nil]
    exact ((bAll_reverse r).append_right _).trans List.perm_append_comm
theorem bAll_mem {l : List Tre} {t : Tre} (h : t ∈ l) {e : Int × Int} (he : e ∈ t.all) : e ∈ bAll l := by
  induction l with
  | nil => cases h
  | cons u r ih =>
    rcases List.mem_cons.1 h with rfl | h
    · exact List.mem_append.2 (.inl he)
    · exact List.mem_append.2 (.inr (ih h))
theorem mem_bAll {l : List Tre} {e : Int × Int} (h : e ∈ bAll l) : ∃ t ∈ l, e ∈ t.all := by
  induction l with
  | nil => cases h
  | cons u r ih =>
    rcases List.mem_append.1 h with h | h
    · exact ⟨u, by simp, h⟩
    · obtain ⟨t, ht, he⟩ := ih h; exact ⟨t, by simp [ht], he⟩

/-- The least root. -/
theorem leastK_le (l : List Tre) : ∀ k, leastK l k ≤ k
  | 0 => Nat.le_refl _
  | k + 1 => by unfold leastK; split; exact Nat.le_refl _; have := leastK_le l k; omega
theorem leastK_least (l : List Tre) : ∀ k i, i ≤ k → ltE (rootAt l i) (rootAt l (leastK l k)) = false
  | 0, i, hi => by
    obtain rfl : i = 0 := by omega
    exact swoE.irrefl _
  | k + 1, i, hi => by
    unfold leastK
    split
    next h =>
      by_cases e : i = k + 1
      · subst e; exact swoE.irrefl _
      · have h1 := leastK_least l k i (by omega)
        have h2 : ltE (rootAt l (leastK l k)) (rootAt l (k + 1)) = false := by rw [ltE_not]; rw [ltE_iff] at h; omega
        exact swoE.ntrans _ _ _ h1 h2
    next h =>
      by_cases e : i = k + 1
      · subst e; simpa using h
      · exact leastK_least l k i (by omega)
theorem leastI_lt {l : List Tre} (h : l ≠ []) : leastI l < l.length := by
  have := leastK_le l (l.length - 1)
  have : 0 < l.length := List.length_pos_iff.2 h
  unfold leastI
  omega
theorem restAt_all {l : List Tre} {i : Nat} (h : i < l.length) : (bAll l).Perm (l[i].all ++ bAll (restAt l i)) := by
  have e : l = l.take i ++ l[i] :: l.drop (i + 1) := by rw [List.getElem_cons_drop, List.take_append_drop]
  have h1 : bAll l = bAll (l.take i) ++ (l[i].all ++ bAll (l.drop (i + 1))) := by
    conv => lhs; rw [e]
    rw [bAll_append]; rfl
  rw [h1, restAt, bAll_append, ← List.append_assoc, ← List.append_assoc]
  exact List.perm_append_comm.append_right _
theorem restAt_mem {l : List Tre} {i : Nat} {t : Tre} (h : t ∈ restAt l i) : t ∈ l := by
  rcases List.mem_append.1 h with h | h
  · exact List.mem_of_mem_take h
  · exact List.mem_of_mem_drop h
theorem restAt_rise {l : List Tre} {i : Nat} (h : l.Pairwise (fun a b => a.rank < b.rank)) : (restAt l i).Pairwise (fun a b => a.rank < b.rank) := by
  refine List.Pairwise.sublist ?_ h
  have : (l.take i ++ l.drop (i + 1)).Sublist (l.take i ++ l.drop i) := List.Sublist.append (List.Sublist.refl _) (by rw [← List.drop_drop]; exact List.drop_sublist _ _)
  rwa [List.take_append_drop] at this
/-- Trees as texts, a blank ahead of each. -/
def bTail : List Tre → List UInt8
  | [] => []
  | t :: r => 32 :: (t.show ++ bTail r)
def bTxt : List Tre → List UInt8
  | [] => []
  | t :: r => t.show ++ bTail r
def bShow : List Tre → List UInt8
  | [] => [46]
  | t :: r => t.show ++ bTail r
theorem bTail_snoc : ∀ (l : List Tre) (t : Tre), bTail (l ++ [t]) = bTail l ++ 32 :: t.show
  | [], t => by simp [bTail]
  | u :: r, t => by simp only [List.cons_append, bTail, bTail_snoc r t, List.append_assoc]
theorem bTxt_snoc {l : List Tre} (t : Tre) (h : l ≠ []) : bTxt (l ++ [t]) = bTxt l ++ 32 :: t.show := by
  cases l with
  | nil => exact absurd rfl h
  | cons u r => simp only [List.cons_append, bTxt, bTail_snoc, List.append_assoc]

end Go.Proofs.YtaeainnkhjnlaaaGreatDoor
namespace Go.Proofs.YtaeainnkhjnlaaaGreatDoor
open Go.Sort Go.RowKit

theorem bSize_mem {l : List Tre} {t : Tre} (h : t ∈ l) : t.size ≤ bSize l := by
  induction l with
  | nil => cases h
  | cons u r ih =>
    simp only [bSize]
    rcases List.mem_cons.1 h with rfl | h
    · omega
    · have := ih h; omega
theorem bSize_nil {h : List Tre} (hz : bSize h = 0) : h = [] := by
  cases h with
  | nil => rfl
  | cons t r => simp only [bSize, Tre.size] at hz; omega

end Go.Proofs.YtaeainnkhjnlaaaGreatDoor
namespace Go.Proofs.YtaeainnkhjnlaaaGreatDoor
open Go.Sort Go.RowKit

/-- Trees levelled: the first one put ahead of the others. -/
def levT : List Tre → List Tre
  | [] => []
  | t :: r => putT r t
def levN : List Tre → Nat
  | [] => 0
  | t :: r => putTN r t
/-- Two trees and a thing put in skew. -/
def skT (x : Int × Int) (f g : Tre) : Tre := skw x (lnk f g)
/-- A thing put in. -/
def sIns : List Tre → (Int × Int) → List Tre
  | f :: g :: r, x => if f.rank = g.rank then skT x f g :: r else leafT x :: f :: g :: r
  | h, x => leafT x :: h
/-- .. how many comparisons. -/
def sInsN : List Tre → Nat
  | f :: g :: _ => if f.rank = g.rank then 2 else 0
  | _ => 0
/-- .. how many trees are made. -/
def sInsM : List Tre → Nat
  | f :: g :: _ => if f.rank = g.rank then 2 else 1
  | _ => 1
def sOf (l : List (Int × Int)) : List Tre := l.foldl sIns []
/-- How many comparisons putting a row in takes. -/
def sPutN : List Tre → List (Int × Int) → Nat
  | _, [] => 0
  | h, x :: r => sInsN h + sPutN (sIns h x) r
def sPutM : List Tre → List (Int × Int) → Nat
  | _, [] => 0
  | h, x :: r => sInsM h + sPutM (sIns h x) r
def smeld (a b : List Tre) : List Tre := bmeld (levT a) (levT b)
def smeldN (a b : List Tre) : Nat := levN a + levN b + bmeldN (levT a) (levT b)
/-- What stands beside a tree's root. -/
def besAt (l : List Tre) (i : Nat) : List (Int × Int) := match l[i]? with
  | some t => t.bs
  | none => []
/-- The least one's kids melded with the others, levelled. -/
def sBase (l : List Tre) (i : Nat) : List Tre := bmeld (kidsAt l i) (levT (restAt l i))
def sBaseN (l : List Tre) (i : Nat) : Nat := levN (restAt l i) + bmeldN (kidsAt l i) (levT (restAt l i))
def sPop : List Tre → List Tre
  | [] => []
  | t :: r => (besAt (t :: r) (leastI (t :: r))).foldl sIns (sBase (t :: r) (leastI (t :: r)))

/-- How many comparisons, beyond the telling of the least one, taking it out takes; how many trees it makes. -/
def sPopN : List Tre → Nat
  | [] => 0
  | t :: r => sBaseN (t :: r) (leastI (t :: r)) + sPutN (sBase (t :: r) (leastI (t :: r))) (besAt (t :: r) (leastI (t :: r)))
def sPopM : List Tre → Nat
  | [] => 0
  | t :: r => sBaseN (t :: r) (leastI (t :: r)) + sPutM (sBase (t :: r) (leastI (t :: r))) (besAt (t :: r) (leastI (t :: r)))

theorem sIns_eq {f g : Tre} {r : List Tre} (x : Int × Int) (h : f.rank = g.rank) : sIns (f :: g :: r) x = skT x f g :: r := by show (if f.rank = g.rank then skT x f g :: r else leafT x :: f :: g :: r) = _; rw [if_pos h]
theorem sIns_ne {f g : Tre} {r : List Tre} (x : Int × Int) (h : f.rank ≠ g.rank) : sIns (f :: g :: r) x = leafT x :: f :: g :: r := by show (if f.rank = g.rank then skT x f g :: r else leafT x :: f :: g :: r) = _; rw [if_neg h]
theorem sInsN_le (h : List Tre) : sInsN h ≤ 2 := by
  unfold sInsN; split
  · split <;> omega
  · omega
theorem sInsM_le (h : List Tre) : sInsM h ≤ 2 ∧ sInsN h ≤ sInsM h := by
  match h with
  | [] => exact ⟨by decide, by decide⟩
  | [f] => exact ⟨by simp [sInsM], by simp [sInsM, sInsN]⟩
  | f :: g :: r =>
    show (if f.rank = g.rank then 2 else 1) ≤ 2 ∧ (if f.rank = g.rank then 2 else 0) ≤ (if f.rank = g.rank then 2 else 1)
    split <;> exact ⟨by omega, by omega⟩
theorem skw_all (y : Int × Int) (t : Tre) : (skw y t).all.Perm (y :: t.all) := by
  unfold skw
  split
  · simp only [Tre.all, List.cons_append]; exact List.Perm.swap _ _ _
  · exact List.Perm.refl _
theorem skT_all (x : Int × Int) (f g : Tre) : (skT x f g).all.Perm (x :: (f.all ++ g.all)) := (skw_all x _).trans (List.Perm.cons x (lnk_all f g))
theorem skT_size (x : Int × Int) (f g : Tre) : (skT x f g).size = f.size + g.size + 1 := by unfold skT; rw [skw_size, lnk_size]
theorem levT_all : ∀ l : List Tre, (bAll (levT l)).Perm (bAll l)
  | [] => List.Perm.refl _
  | t :: r => putT_all r t
theorem levT_size (l : List Tre) : bSize (levT l) = bSize l := by
  have := (levT_all l).length_eq
  rwa [bAll_length, bAll_length] at this
theorem levT_len : ∀ l : List Tre, (levT l).length + levN l = l.length
  | [] => rfl
  | t :: r => putT_len r t
theorem sIns_all (h : List Tre) (x : Int × Int) : (bAll (sIns h x)).Perm (x :: bAll h) := by
  match h with
  | [] => exact List.Perm.refl _
  | [f] => exact List.Perm.refl _
  | f :: g :: r =>
    by_cases e : f.rank = g.rank
    · rw [sIns_eq x e]
      simp only [bAll]
      rw [← List.append_assoc, ← List.cons_append]
      exact (skT_all x f g).append_right _
    · rw [sIns_ne x e]
      exact List.Perm.refl _
theorem sIns_size (h : List Tre) (x : Int × Int) : bSize (sIns h x) = bSize h + 1 := by
  have := (sIns_all h x).length_eq
  rwa [bAll_length, List.length_cons, bAll_length] at this
theorem sfold_all : ∀ (l : List (Int × Int)) (h : List Tre), (bAll (l.foldl sIns h)).Perm (bAll h ++ l)
  | [], h => by simp
  | x :: r, h => by
    refine (sfold_all r (sIns h x)).trans ?_
    refine ((sIns_all h x).append_right r).trans ?_
    simp only [List.cons_append]
    exact List.perm_middle.symm
theorem sOf_all (l : List (Int × Int)) : (bAll (sOf l)).Perm l := by have := sfold_all l []; simpa [bAll, sOf] using this
theorem sOf_size (l : List (Int × Int)) : bSize (sOf l) = l.length := by rw [← bAll_length]; exact (sOf_all l).length_eq
theorem sPutN_snoc : ∀ (l : List (Int × Int)) (h : List Tre) (x : Int × Int), sPutN h (l ++ [x]) = sPutN h l + sInsN (l.foldl sIns h)
  | [], h, x => by simp [sPutN]
  | y :: l, h, x => by simp only [List.cons_append, sPutN, List.foldl_cons]; rw [sPutN_snoc l (sIns h y) x]; omega
theorem sPutM_snoc : ∀ (l : List (Int × Int)) (h : List Tre) (x : Int × Int), sPutM h (l ++ [x]) = sPutM h l + sInsM (l.foldl sIns h)
  | [], h, x => by simp [sPutM]
  | y :: l, h, x => by simp only [List.cons_append, sPutM, List.foldl_cons]; rw [sPutM_snoc l (sIns h y) x]; omega
theorem sPutN_le : ∀ (l : List (Int × Int)) (h : List Tre), sPutN h l ≤ 2 * l.length ∧ sPutM h l ≤ 2 * l.length
  | [], _ => ⟨Nat.le_refl _, Nat.le_refl _⟩
  | x :: r, h => by
    have h1 := sPutN_le r (sIns h x)
    have h2 := sInsN_le h
    have h3 := sInsM_le h
    simp only [sPutN, sPutM, List.length_cons]
    omega
theorem smeld_all (a b : List Tre) : (bAll (smeld a b)).Perm (bAll a ++ bAll b) := (bmeld_all _ _).trans ((levT_all a).append (levT_all b))
theorem smeld_size (a b : List Tre) : bSize (smeld a b) = bSize a + bSize b := by unfold smeld; rw [bmeld_size, levT_size, levT_size]
theorem smeldN_le (a b : List Tre) : smeldN a b ≤ a.length + b.length := by
  have h1 := levT_len a
  have h2 := levT_len b
  have h3 := bmeld_len (levT a) (levT b)
  unfold smeldN
  omega

/-- A skew binomial tree: beside a root stand at most as many as its rank, a kid's rank is how many stand behind it. -/
def Wood.sk : Wood → Prop
  | .nil => True
  | .cons _ bs ks r => bs.length ≤ ks.len ∧ ks.len = r.len ∧ ks.sk ∧ r.sk
def Tre.sk (t : Tre) : Prop := t.bs.length ≤ t.rank ∧ t.ks.sk
theorem lnk_sk {a b : Tre} (h : a.rank = b.rank) (ha : a.sk) (hb : b.sk) : (lnk a b).sk := by
  have h1 := ha.1
  have h2 := hb.1
  simp only [Tre.rank] at h h1 h2
  unfold lnk
  split
  · exact ⟨by simp only [Tre.rank, Wood.len]; omega, h1, h, ha.2, hb.2⟩
  · exact ⟨by simp only [Tre.rank, Wood.len]; omega, h2, h.symm, hb.2, ha.2⟩
theorem skw_rank (y : Int × Int) (t : Tre) : (skw y t).rank = t.rank := by unfold skw; split <;> rfl
theorem skT_rank {x : Int × Int} {a b : Tre} (h : a.rank = b.rank) : (skT x a b).rank = a.rank + 1 := by unfold skT; rw [skw_rank, lnk_rank h]
theorem skT_sk {x : Int × Int} {a b : Tre} (h : a.rank = b.rank) (ha : a.sk) (hb : b.sk) : (skT x a b).sk := by
  have h0 := lnk_sk h ha hb
  have h1 : (lnk a b).bs.length ≤ a.rank := by
    have h1 := ha.1
    have h2 := hb.1
    unfold lnk
    split <;> simp only <;> omega
  have h2 := lnk_rank h
  unfold skT skw
  simp only [Tre.rank] at h1 h2
  split
  · exact ⟨by simp only [Tre.rank, List.length_cons]; omega, h0.2⟩
  · exact ⟨by simp only [Tre.rank, List.length_cons]; omega, h0.2⟩
theorem skw_hok {y : Int × Int} {t : Tre} (h : t.hok) : (skw y t).hok := by
  unfold skw
  split
  next hv =>
    refine ⟨fun e he => ?_, h.2⟩
    simp only [List.cons_append, List.mem_cons] at he
    rcases he with rfl | he
    · show ltE e t.x = false
      rw [ltE_not]; rw [ltE_iff] at hv; omega
    · exact h.1 e he
  next hv =>
    have hv' : ltE t.x y = false := by simpa using hv
    refine ⟨fun e he => ?_, h.2⟩
    simp only [List.cons_append, List.mem_cons] at he
    rcases he with rfl | he
    · exact hv'
    · exact swoE.ntrans _ _ _ (h.1 e he) hv'
theorem skT_hok {x : Int × Int} {a b : Tre} (ha : a.hok) (hb : b.hok) : (skT x a b).hok := skw_hok (lnk_hok ha hb)
theorem leaf_sk (x : Int × Int) : (leafT x).sk := ⟨Nat.zero_le _, trivial⟩
/-- A tree put ahead of others, of its rank at least. -/
theorem putT_sgood : ∀ (l : List Tre) (t : Tre), t.hok → t.sk → (∀ u ∈ l, t.rank ≤ u.rank) → (∀ u ∈ l, u.hok) → (∀ u ∈ l, u.sk) → l.Pairwise (fun a b => a.rank < b.rank) →
    (∀ u ∈ putT l t, u.hok) ∧ (∀ u ∈ putT l t, u.sk) ∧ (putT l t).Pairwise (fun a b => a.rank < b.rank) ∧ ∀ u ∈ putT l t, t.rank ≤ u.rank
  | [], t, h1, h2, _, _, _, _ => by simp [putT, h1, h2]
  | u :: r, t, h1, h2, h3, h4, h5, h6 => by
    unfold putT
    obtain ⟨h7, h8⟩ := List.pairwise_cons.1 h6
    have hu := h3 u (by simp)
    split
    next hr =>
      refine ⟨fun v hv => ?_, fun v hv => ?_, List.pairwise_cons.2 ⟨fun v hv => ?_, h6⟩, fun v hv => ?_⟩
      · rcases List.mem_cons.1 hv with rfl | hv; exact h1; exact h4 v hv
      · rcases List.mem_cons.1 hv with rfl | hv; exact h2; exact h5 v hv
      · rcases List.mem_cons.1 hv with rfl | hv; exact hr; exact Nat.lt_trans hr (h7 v hv)
      · rcases List.mem_cons.1 hv with rfl | hv; exact Nat.le_refl _; exact h3 v hv
    next hr =>
      have he : t.rank = u.rank := by omega
      have hk := lnk_rank he
      obtain ⟨g1, g2, g3, g4⟩ := putT_sgood r (lnk t u) (lnk_hok h1 (h4 u (by simp))) (lnk_sk he h2 (h5 u (by simp))) (fun v hv => by have := h7 v hv; omega) (fun v hv => h4 v (by simp [hv])) (fun v hv => h5 v (by simp [hv])) h8
      exact ⟨g1, g2, g3, fun v hv => by have := g4 v hv; omega⟩
theorem bmeld_sgood : ∀ a b : List Tre, (∀ t ∈ a, t.hok) → (∀ t ∈ b, t.hok) → (∀ t ∈ a, t.sk) → (∀ t ∈ b, t.sk) → a.Pairwise (fun a b => a.rank < b.rank) → b.Pairwise (fun a b => a.rank < b.rank) →
    (∀ u ∈ bmeld a b, u.hok) ∧ (∀ u ∈ bmeld a b, u.sk) ∧ (bmeld a b).Pairwise (fun a b => a.rank < b.rank) ∧ ∀ k, (∀ u ∈ a, k ≤ u.rank) → (∀ u ∈ b, k ≤ u.rank) → ∀ u ∈ bmeld a b, k ≤ u.rank := by
  refine bmeld_ind (P := fun a b => (∀ t ∈ a, t.hok) → (∀ t ∈ b, t.hok) → (∀ t ∈ a, t.sk) → (∀ t ∈ b, t.sk) → a.Pairwise (fun a b => a.rank < b.rank) → b.Pairwise (fun a b => a.rank < b.rank) →
    (∀ u ∈ bmeld a b, u.hok) ∧ (∀ u ∈ bmeld a b, u.sk) ∧ (bmeld a b).Pairwise (fun a b => a.rank < b.rank) ∧ ∀ k, (∀ u ∈ a, k ≤ u.rank) → (∀ u ∈ b, k ≤ u.rank) → ∀ u ∈ bmeld a b, k ≤ u.rank) ?_ ?_ ?_ ?_ ?_
  · intro b _ h2 _ h4 _ h6; rw [bmeld_nil]; exact ⟨h2, h4, h6, fun k _ hk => hk⟩
  · intro f a h1 _ h3 _ h5 _; rw [bmeld_right]; exact ⟨h1, h3, h5, fun k hk _ => hk⟩
  · intro f a g b h ih h1 h2 h3 h4 h5 h6
    rw [bmeld_lt h]
    obtain ⟨p1, p2⟩ := List.pairwise_cons.1 h5
    obtain ⟨q1, q2⟩ := List.pairwise_cons.1 h6
    obtain ⟨g1, g2, g3, g4⟩ := ih (fun t ht => h1 t (by simp [ht])) h2 (fun t ht => h3 t (by simp [ht])) h4 p2 h6
    refine ⟨fun v hv => ?_, fun v hv => ?_, List.pairwise_cons.2 ⟨fun v hv => ?_, g3⟩, fun k hk1 hk2 v hv => ?_⟩
    · rcases List.mem_cons.1 hv with rfl | hv; exact h1 _ (by simp); exact g1 v hv
    · rcases List.mem_cons.1 hv with rfl | hv; exact h3 _ (by simp); exact g2 v hv
    · refine g4 (f.rank + 1) (fun u hu => p1 u hu) (fun u hu => ?_) v hv
      rcases List.mem_cons.1 hu with rfl | hu
      · exact h
      · have := q1 u hu; omega
    · rcases List.mem_cons.1 hv with rfl | hv; exact hk1 _ (by simp); exact g4 k (fun u hu => hk1 u (by simp [hu])) hk2 v hv
  · intro f a g b h ih h1 h2 h3 h4 h5 h6
    rw [bmeld_gt h]
    obtain ⟨p1, p2⟩ := List.pairwise_cons.1 h5
    obtain ⟨q1, q2⟩ := List.pairwise_cons.1 h6
    obtain ⟨g1, g2, g3, g4⟩ := ih h1 (fun t ht => h2 t (by simp [ht])) h3 (fun t ht => h4 t (by simp [ht])) h5 q2
    refine ⟨fun v hv => ?_, fun v hv => ?_, List.pairwise_cons.2 ⟨fun v hv => ?_, g3⟩, fun k hk1 hk2 v hv => ?_⟩
    · rcases List.mem_cons.1 hv with rfl | hv; exact h2 _ (by simp); exact g1 v hv
    · rcases List.mem_cons.1 hv with rfl | hv; exact h4 _ (by simp); exact g2 v hv
    · refine g4 (g.rank + 1) (fun u hu => ?_) (fun u hu => q1 u hu) v hv
      rcases List.mem_cons.1 hu with rfl | hu
      · exact h
      · have := p1 u hu; omega
    · rcases List.mem_cons.1 hv with rfl | hv; exact hk2 _ (by simp); exact g4 k hk1 (fun u hu => hk2 u (by simp [hu])) v hv
  · intro f a g b h ih h1 h2 h3 h4 h5 h6
    rw [bmeld_eq h]
    obtain ⟨p1, p2⟩ := List.pairwise_cons.1 h5
    obtain ⟨q1, q2⟩ := List.pairwise_cons.1 h6
    obtain ⟨g1, g2, g3, g4⟩ := ih (fun t ht => h1 t (by simp [ht])) (fun t ht => h2 t (by simp [ht])) (fun t ht => h3 t (by simp [ht])) (fun t ht => h4 t (by simp [ht])) p2 q2
    have hk := lnk_rank h
    have g5 := g4 (f.rank + 1) (fun u hu => p1 u hu) (fun u hu => by have := q1 u hu; omega)
    obtain ⟨k1, k2, k3, k4⟩ := putT_sgood (bmeld a b) (lnk f g) (lnk_hok (h1 f (by simp)) (h2 g (by simp))) (lnk_sk h (h3 f (by simp)) (h4 g (by simp))) (fun u hu => by have := g5 u hu; omega) g1 g2 g3
    refine ⟨k1, k2, k3, fun k hk1 hk2 v hv => ?_⟩
    have := k4 v hv
    have := hk1 f (by simp)
    omega

theorem Wood.list_sk : ∀ {w : Wood}, w.sk → ∀ t ∈ w.list, t.sk ∧ t.rank < w.len
  | .nil, _, _, ht => by simp [Wood.list] at ht
  | .cons x bs ks r, h, t, ht => by
    rcases List.mem_cons.1 ht with rfl | ht
    · exact ⟨⟨h.1, h.2.2.1⟩, by simp only [Tre.rank, Wood.len]; have := h.2.1; omega⟩
    · have := Wood.list_sk h.2.2.2 t ht; exact ⟨this.1, by simp only [Wood.len]; omega⟩
theorem Wood.list_srise : ∀ {w : Wood}, w.sk → w.list.reverse.Pairwise (fun a b => a.rank < b.rank)
  | .nil, _ => by simp [Wood.list]
  | .cons x bs ks r, h => by
    simp only [Wood.list, List.reverse_cons, List.pairwise_append]
    refine ⟨Wood.list_srise h.2.2.2, by simp, fun a ha b hb => ?_⟩
    simp only [List.mem_singleton] at hb
    subst hb
    have := (Wood.list_sk h.2.2.2 a (by simpa using ha)).2
    simp only [Tre.rank] at *
    have := h.2.1
    omega
/-- Ranks rise; the first two may have one. -/
def upto : List Tre → Prop
  | [] => True
  | t :: r => (∀ u ∈ r, t.rank ≤ u.rank) ∧ r.Pairwise (fun a b => a.rank < b.rank)
theorem upto_of {l : List Tre} (h : l.Pairwise (fun a b => a.rank < b.rank)) : upto l := by
  cases l with
  | nil => trivial
  | cons t r => obtain ⟨h1, h2⟩ := List.pairwise_cons.1 h; exact ⟨fun u hu => Nat.le_of_lt (h1 u hu), h2⟩
/-- A skew binomial heap. -/
structure sOk (h : List Tre) : Prop where
  hok : ∀ t ∈ h, t.hok
  sk : ∀ t ∈ h, t.sk
  up : upto h
structure sGood (h : List Tre) : Prop where
  ok : sOk h
  fit : fits (bAll h)
theorem levT_good {h : List Tre} (k : sOk h) : (∀ u ∈ levT h, u.hok) ∧ (∀ u ∈ levT h, u.sk) ∧ (levT h).Pairwise (fun a b => a.rank < b.rank) := by
  cases h with
  | nil => exact ⟨by simp [levT], by simp [levT], List.Pairwise.nil⟩
  | cons t r =>
    obtain ⟨g1, g2, g3, -⟩ := putT_sgood r t (k.hok t (by simp)) (k.sk t (by simp)) k.up.1 (fun u hu => k.hok u (by simp [hu])) (fun u hu => k.sk u (by simp [hu])) k.up.2
    exact ⟨g1, g2, g3⟩
theorem sok_nil : sOk [] := ⟨by simp, by simp, trivial⟩
theorem sok_meld {a b : List Tre} (ha : sOk a) (hb : sOk b) : sOk (smeld a b) := by
  obtain ⟨a1, a2, a3⟩ := levT_good ha
  obtain ⟨b1, b2, b3⟩ := levT_good hb
  obtain ⟨h1, h2, h3, -⟩ := bmeld_sgood (levT a) (levT b) a1 b1 a2 b2 a3 b3
  exact ⟨h1, h2, upto_of h3⟩
theorem sok_ins {h : List Tre} (x : Int × Int) (k : sOk h) : sOk (sIns h x) := by
  have leaf : ∀ l : List Tre, (∀ u ∈ l, u.hok) → (∀ u ∈ l, u.sk) → l.Pairwise (fun a b => a.rank < b.rank) → sOk (leafT x :: l) := fun l h1 h2 h3 =>
    ⟨fun u hu => by rcases List.mem_cons.1 hu with rfl | hu; exact leaf_hok x; exact h1 u hu, fun u hu => by rcases List.mem_cons.1 hu with rfl | hu; exact leaf_sk x; exact h2 u hu, fun u _ => Nat.zero_le _, h3⟩
  match h, k with
  | [], k => exact leaf [] k.hok k.sk List.Pairwise.nil
  | [f], k => exact leaf [f] k.hok k.sk (by simp)
  | f :: g :: r, k =>
    obtain ⟨u1, u2⟩ := k.up
    obtain ⟨u3, u4⟩ := List.pairwise_cons.1 u2
    by_cases e : f.rank = g.rank
    · rw [sIns_eq x e]
      have hr := skT_rank (x := x) e
      refine ⟨fun u hu => ?_, fun u hu => ?_, fun u hu => ?_, u4⟩
      · rcases List.mem_cons.1 hu with rfl | hu
        · exact skT_hok (k.hok f (by simp)) (k.hok g (by simp))
        · exact k.hok u (by simp [hu])
      · rcases List.mem_cons.1 hu with rfl | hu
        · exact skT_sk e (k.sk f (by simp)) (k.sk g (by simp))
        · exact k.sk u (by simp [hu])
      · have := u3 u hu; omega
    · rw [sIns_ne x e]
      refine leaf _ k.hok k.sk (List.pairwise_cons.2 ⟨fun u hu => ?_, u2⟩)
      have h1 := u1 g (by simp)
      rcases List.mem_cons.1 hu with rfl | hu
      · omega
      · have := u3 u hu; omega
theorem sok_fold : ∀ (l : List (Int × Int)) (h : List Tre), sOk h → sOk (l.foldl sIns h)
  | [], _, hh => hh
  | x :: r, _, hh => sok_fold r _ (sok_ins x hh)
theorem sok_of (l : List (Int × Int)) : sOk (sOf l) := sok_fold l [] sok_nil
theorem restAt_up {l : List Tre} {i : Nat} (h : upto l) : upto (restAt l i) := by
  cases l with
  | nil => simp [restAt, upto]
  | cons t r =>
    cases i with
    | zero => simp only [restAt, List.take_zero, List.nil_append, Nat.zero_add, List.drop_succ_cons, List.drop_zero]; exact upto_of h.2
    | succ i =>
      have e : restAt (t :: r) (i + 1) = t :: restAt r i := by simp [restAt]
      rw [e]
      exact ⟨fun u hu => h.1 u (restAt_mem hu), restAt_rise h.2⟩
theorem sok_base {h : List Tre} (hh : sOk h) {i : Nat} (hi : i < h.length) : sOk (sBase h i) := by
  have hm := List.getElem_mem hi
  have hk : kidsAt h i = h[i].ks.list.reverse := by unfold kidsAt; rw [List.getElem?_eq_getElem hi]
  unfold sBase
  rw [hk]
  generalize h[i] = u at *
  have hu := hh.hok u hm
  have hb := hh.sk u hm
  obtain ⟨b1, b2, b3⟩ := levT_good (h := restAt h i) ⟨fun v hv => hh.hok v (restAt_mem hv), fun v hv => hh.sk v (restAt_mem hv), restAt_up hh.up⟩
  obtain ⟨h1, h2, h3, -⟩ := bmeld_sgood u.ks.list.reverse (levT (restAt h i)) (fun v hv => Wood.list_hok hu.2 v (by simpa using hv)) b1 (fun v hv => (Wood.list_sk hb.2 v (by simpa using hv)).1) b2 (Wood.list_srise hb.2) b3
  exact ⟨h1, h2, upto_of h3⟩
theorem sok_pop {h : List Tre} (hh : sOk h) : sOk (sPop h) := by
  match h, hh with
  | [], _ => exact sok_nil
  | t :: r, hh => exact sok_fold _ _ (sok_base hh (leastI_lt (l := t :: r) (by simp)))
theorem sbase_all {h : List Tre} {i : Nat} (hi : i < h.length) : (bAll h).Perm (h[i].x :: (besAt h i ++ bAll (sBase h i))) := by
  have hp := restAt_all hi
  have hk : kidsAt h i = h[i].ks.list.reverse := by unfold kidsAt; rw [List.getElem?_eq_getElem hi]
  have hb : besAt h i = h[i].bs := by unfold besAt; rw [List.getElem?_eq_getElem hi]
  unfold sBase
  rw [hk, hb]
  generalize h[i] = u at *
  refine hp.trans ?_
  simp only [Tre.all, List.cons_append, List.append_assoc]
  refine List.Perm.cons _ (List.Perm.append_left _ ?_)
  refine List.Perm.trans ?_ (bmeld_all _ _).symm
  refine List.Perm.append ?_ (levT_all _).symm
  exact ((bAll_reverse _).trans (by rw [Wood.list_all])).symm
theorem spop_all {h : List Tre} (hne : h ≠ []) : (bAll h).Perm ((bMin h).1 :: bAll (sPop h)) := by
  match h, hne with
  | t :: r, _ =>
    have hl := leastI_lt (l := t :: r) (by simp)
    have hroot : rootAt (t :: r) (leastI (t :: r)) = ((t :: r)[leastI (t :: r)]).x := by unfold rootAt; rw [List.getElem?_eq_getElem hl]
    show (bAll (t :: r)).Perm (rootAt (t :: r) (leastI (t :: r)) :: bAll ((besAt (t :: r) (leastI (t :: r))).foldl sIns (sBase (t :: r) (leastI (t :: r)))))
    rw [hroot]
    refine (sbase_all hl).trans (List.Perm.cons _ ?_)
    exact List.perm_append_comm.trans (sfold_all _ _).symm
theorem sgood_pop {h : List Tre} (hh : sGood h) : sGood (sPop h) := by
  refine ⟨sok_pop hh.ok, ?_⟩
  by_cases hne : h = []
  · subst hne; simp [sPop, bAll, fits.nil]
  · exact (hh.fit.perm (spop_all hne)).cons.2
theorem spop_size {h : List Tre} (hne : h ≠ []) : bSize (sPop h) + 1 = bSize h := by
  have := (spop_all hne).length_eq
  rw [bAll_length, List.length_cons, bAll_length] at this
  exact this.symm
theorem bmin_least {h : List Tre} (hh : ∀ t ∈ h, t.hok) (hne : h ≠ []) : ∀ e ∈ bAll h, ltE e (bMin h).1 = false := by
  match h, hne with
  | t :: r, _ =>
    intro e he
    obtain ⟨v, hv, hev⟩ := mem_bAll he
    obtain ⟨j, hj, rfl⟩ := List.getElem_of_mem hv
    have h1 := (hh _ hv).le hev
    have h2 := leastK_least (t :: r) ((t :: r).length - 1) j (by omega)
    have h3 : rootAt (t :: r) j = ((t :: r)[j]).x := by unfold rootAt; rw [List.getElem?_eq_getElem hj]
    rw [h3] at h2
    exact swoE.ntrans _ _ _ h1 h2
end Go.Proofs.YtaeainnkhjnlaaaGreatDoor
namespace Go.Proofs.YtaeainnkhjnlaaaGreatDoor
open Go.Sort Go.RowKit

/-- A heap: its trees. -/
structure Lh where
  ts : List Tre
def Lh.nil : Lh := ⟨[]⟩
def Lh.size (h : Lh) : Nat := bSize h.ts
def Lh.all (h : Lh) : List (Int × Int) := bAll h.ts
def Lh.show (h : Lh) : List UInt8 := bShow h.ts
def Lh.min (h : Lh) : (Int × Int) × Bool := bMin h.ts
def Lh.some (h : Lh) : Bool := h.min.2
def Lh.one (x : Int × Int) : Lh := ⟨[leafT x]⟩
def meld (a b : Lh) : Lh := ⟨smeld a.ts b.ts⟩
/-- How many links, and as many comparisons. -/
def meldN (a b : Lh) : Nat := smeldN a.ts b.ts
def Lh.insert (h : Lh) (x : Int × Int) : Lh := ⟨sIns h.ts x⟩
/-- How many comparisons putting one in takes. -/
def Lh.insC (h : Lh) : Nat := sInsN h.ts
/-- How many trees it makes. -/
def Lh.insM (h : Lh) : Nat := sInsM h.ts
def Lh.pop (h : Lh) : Lh := ⟨sPop h.ts⟩
/-- How many comparisons taking the least one out takes, beyond telling it. -/
def Lh.popC (h : Lh) : Nat := sPopN h.ts
/-- How many trees it makes. -/
def Lh.popM (h : Lh) : Nat := sPopM h.ts
/-- How many comparisons telling the least root takes. -/
def Lh.tellN (h : Lh) : Nat := h.ts.length - 1
def ofL (l : List (Int × Int)) : Lh := l.foldl Lh.insert .nil
def putC : Lh → List (Int × Int) → Nat
  | _, [] => 0
  | h, x :: r => h.insC + putC (h.insert x) r
def putM : Lh → List (Int × Int) → Nat
  | _, [] => 0
  | h, x :: r => h.insM + putM (h.insert x) r

theorem fold_ts : ∀ (l : List (Int × Int)) (h : Lh), (l.foldl Lh.insert h).ts = l.foldl sIns h.ts
  | [], _ => rfl
  | x :: r, h => by rw [List.foldl_cons, List.foldl_cons, fold_ts r (h.insert x)]; rfl
theorem ofL_ts (l : List (Int × Int)) : (ofL l).ts = sOf l := fold_ts l .nil
theorem Lh.all_length (h : Lh) : h.all.length = h.size := bAll_length _
theorem meld_all (a b : Lh) : (meld a b).all.Perm (a.all ++ b.all) := smeld_all _ _
theorem meld_size (a b : Lh) : (meld a b).size = a.size + b.size := smeld_size _ _
theorem insert_all (h : Lh) (x : Int × Int) : (h.insert x).all.Perm (x :: h.all) := sIns_all _ _
theorem insert_size (h : Lh) (x : Int × Int) : (h.insert x).size = h.size + 1 := sIns_size _ _
theorem insC_le (h : Lh) : h.insC ≤ 2 := sInsN_le _
theorem insM_le (h : Lh) : h.insM ≤ 2 := (sInsM_le h.ts).1
theorem ofL_all (l : List (Int × Int)) : (ofL l).all.Perm l := by unfold Lh.all; rw [ofL_ts]; exact sOf_all l
theorem ofL_size (l : List (Int × Int)) : (ofL l).size = l.length := by unfold Lh.size; rw [ofL_ts]; exact sOf_size l
theorem ofL_snoc (l : List (Int × Int)) (x : Int × Int) : ofL (l ++ [x]) = (ofL l).insert x := by simp [ofL]
theorem putC_snoc : ∀ (l : List (Int × Int)) (h : Lh) (x : Int × Int), putC h (l ++ [x]) = putC h l + (l.foldl Lh.insert h).insC
  | [], h, x => by simp [putC]
  | y :: l, h, x => by simp only [List.cons_append, putC, List.foldl_cons]; rw [putC_snoc l (h.insert y) x]; omega
theorem putM_snoc : ∀ (l : List (Int × Int)) (h : Lh) (x : Int × Int), putM h (l ++ [x]) = putM h l + (l.foldl Lh.insert h).insM
  | [], h, x => by simp [putM]
  | y :: l, h, x => by simp only [List.cons_append, putM, List.foldl_cons]; rw [putM_snoc l (h.insert y) x]; omega
theorem put_le : ∀ (l : List (Int × Int)) (h : Lh), putC h l ≤ 2 * l.length ∧ putM h l ≤ 2 * l.length
  | [], _ => ⟨Nat.le_refl _, Nat.le_refl _⟩
  | x :: r, h => by
    have h1 := put_le r (h.insert x)
    have h2 := insC_le h
    have h3 := insM_le h
    simp only [putC, putM, List.length_cons]
    omega
def Lh.ok (h : Lh) : Prop := sOk h.ts
theorem meld_ok (a b : Lh) (ha : a.ok) (hb : b.ok) : (meld a b).ok := sok_meld ha hb
theorem insert_ok {h : Lh} (x : Int × Int) (hk : h.ok) : (h.insert x).ok := sok_ins x hk
theorem one_ok (x : Int × Int) : (Lh.one x).ok := sok_ins x sok_nil
theorem ofL_ok (l : List (Int × Int)) : (ofL l).ok := by unfold Lh.ok; rw [ofL_ts]; exact sok_of l
theorem pop_ok {h : Lh} (hk : h.ok) : h.pop.ok := sok_pop hk
theorem Lh.size_nil {h : Lh} (hz : h.size = 0) : h = .nil := by
  obtain ⟨l⟩ := h
  have : l = [] := bSize_nil hz
  subst this; rfl
theorem pop_size (h : Lh) : h.pop.size = h.size - 1 := by
  by_cases hne : h.ts = []
  · unfold Lh.pop Lh.size; rw [hne]; rfl
  · have := spop_size hne
    unfold Lh.pop Lh.size
    show bSize (sPop h.ts) = bSize h.ts - 1
    omega
theorem trees_size (h : Lh) : h.ts.length ≤ h.size := by
  obtain ⟨l⟩ := h
  show l.length ≤ bSize l
  induction l with
  | nil => exact Nat.le_refl _
  | cons t r ih => simp only [List.length_cons, bSize, Tre.size]; omega
theorem meldN_size (a b : Lh) : meldN a b ≤ a.size + b.size := by
  have h1 := smeldN_le a.ts b.ts
  have h2 := trees_size a
  have h3 := trees_size b
  unfold meldN
  omega
theorem tellN_size (h : Lh) : h.tellN ≤ h.size := by have := trees_size h; unfold Lh.tellN; omega
theorem pop_counts (h : Lh) : h.popC ≤ 2 * h.size ∧ h.popM ≤ 2 * h.size := by
  obtain ⟨l⟩ := h
  match l with
  | [] => exact ⟨Nat.zero_le _, Nat.zero_le _⟩
  | t :: r =>
    have hl := leastI_lt (l := t :: r) (by simp)
    have hk : kidsAt (t :: r) (leastI (t :: r)) = ((t :: r)[leastI (t :: r)]).ks.list.reverse := by unfold kidsAt; rw [List.getElem?_eq_getElem hl]
    have hb : besAt (t :: r) (leastI (t :: r)) = ((t :: r)[leastI (t :: r)]).bs := by unfold besAt; rw [List.getElem?_eq_getElem hl]
    have h1 := levT_len (restAt (t :: r) (leastI (t :: r)))
    have h2 := bmeld_len (kidsAt (t :: r) (leastI (t :: r))) (levT (restAt (t :: r) (leastI (t :: r))))
    have h3 := trees_size ⟨restAt (t :: r) (leastI (t :: r))⟩
    have h4 := (restAt_all hl).length_eq
    rw [bAll_length, List.length_append, bAll_length, Tre.all_length] at h4
    have h5 := ((t :: r)[leastI (t :: r)]).ks.len_le
    have h6 : (kidsAt (t :: r) (leastI (t :: r))).length = ((t :: r)[leastI (t :: r)]).ks.len := by rw [hk, List.length_reverse, Wood.list_len]
    have h7 := sPutN_le (besAt (t :: r) (leastI (t :: r))) (sBase (t :: r) (leastI (t :: r)))
    have h8 : ((t :: r)[leastI (t :: r)]).size = 1 + ((t :: r)[leastI (t :: r)]).bs.length + ((t :: r)[leastI (t :: r)]).ks.size := rfl
    rw [hb] at h7
    simp only [Lh.size] at h3
    show sPopN (t :: r) ≤ 2 * bSize (t :: r) ∧ sPopM (t :: r) ≤ 2 * bSize (t :: r)
    simp only [sPopN, sPopM, sBaseN]
    rw [hb]
    omega
/-- What a walk asks of a heap. -/
structure Lh.good (h : Lh) : Prop where
  ok : h.ok
  fit : fits h.all
theorem good_nil : Lh.good .nil := ⟨sok_nil, fits.nil⟩
theorem good_meld {a b : Lh} (ha : a.good) (hb : b.good) : (meld a b).good := ⟨meld_ok _ _ ha.ok hb.ok, (ha.fit.join hb.fit).perm (meld_all a b).symm⟩
theorem good_insert {a : Lh} {x : Int × Int} (ha : a.good) (h : in64 x.1 ∧ in64 x.2) : (a.insert x).good := ⟨insert_ok x ha.ok, (fits.more h ha.fit).perm (insert_all a x).symm⟩
theorem good_of {l : List (Int × Int)} (h : fits l) : (ofL l).good := ⟨ofL_ok l, h.perm (ofL_all l).symm⟩
theorem good_pop {a : Lh} (ha : a.good) : a.pop.good := ⟨pop_ok ha.ok, (sgood_pop ⟨ha.ok, ha.fit⟩).fit⟩
theorem some_pos (t : Lh) : t.some = decide (0 < t.size) := by
  obtain ⟨l⟩ := t
  cases l with
  | nil => rfl
  | cons t r =>
    show true = decide (0 < bSize (t :: r))
    exact (decide_eq_true (by simp only [bSize, Tre.size]; omega)).symm
theorem min_some (t : Lh) : t.min.2 = t.some := rfl
end Go.Proofs.YtaeainnkhjnlaaaGreatDoor
