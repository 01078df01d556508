/-
  Plain facts, of no program: leftist heaps as data: rank, size, elements, text; two melded, one put in, those of a row, the least one taken out: the elements, heap order, how short right ways are, how many comparisons. No conditions.
-/
import Derived.Test.YtliehednnhilkaaDoorFit
namespace Go.Proofs.YtliehednnhilkaaDoor
open Go.Sort Go.RowKit

/-- A leftist heap. -/
inductive Lh
  | nil
  | node (x : Int × Int) (l r : Lh)
def Lh.rank : Lh → Nat
  | .nil => 0
  | .node _ _ r => r.rank + 1
def Lh.size : Lh → Nat
  | .nil => 0
  | .node _ l r => l.size + 1 + r.size
def Lh.all : Lh → List (Int × Int)
  | .nil => []
  | .node x l r => x :: (l.all ++ r.all)
def Lh.show : Lh → List UInt8
  | .nil => [46]
  | .node x l r => 40 :: (textOf x.1 x.2 ++ 32 :: (l.show ++ 32 :: (r.show ++ [41])))
/-- The least one; false: there is none. -/
def Lh.min : Lh → (Int × Int) × Bool
  | .nil => ((0, 0), false)
  | .node x _ _ => (x, true)
/-- A root and two, of which the one with the greater rank, or else the first, is the left one. -/
def mkH (x : Int × Int) (l r : Lh) : Lh := if l.rank < r.rank then .node x r l else .node x l r
/-- Two melded. -/
def meld (a b : Lh) : Lh := match a, b with
  | .nil, o => o
  | .node x l r, .nil => .node x l r
  | .node x l r, .node y l' r' => if ltE y x = true then mkH y l' (meld r' (.node x l r)) else mkH x l (meld r (.node y l' r'))
termination_by a.size + b.size
decreasing_by all_goals (simp only [Lh.size]; omega)
/-- .. how many comparisons that takes, and as many nodes. -/
def meldN (a b : Lh) : Nat := match a, b with
  | .nil, _ => 0
  | .node _ _ _, .nil => 0
  | .node x l r, .node y l' r' => if ltE y x = true then 1 + meldN r' (.node x l r) else 1 + meldN r (.node y l' r')
termination_by a.size + b.size
decreasing_by all_goals (simp only [Lh.size]; omega)
def Lh.one (x : Int × Int) : Lh := .node x .nil .nil
def Lh.insert (h : Lh) (x : Int × Int) : Lh := meld (.one x) h
def Lh.pop : Lh → Lh
  | .nil => .nil
  | .node _ l r => meld l r
def Lh.popN : Lh → Nat
  | .nil => 0
  | .node _ l r => meldN l r
def ofL (l : List (Int × Int)) : Lh := l.foldl Lh.insert .nil
/-- How many comparisons putting a row in takes. -/
def putN : Lh → List (Int × Int) → Nat
  | _, [] => 0
  | h, x :: r => meldN (.one x) h + putN (h.insert x) r

theorem meld_nil (o : Lh) : meld .nil o = o := by unfold meld; rfl
theorem meld_right (h : Lh) : meld h .nil = h := by cases h <;> (unfold meld; rfl)
theorem meld_lt {x y : Int × Int} {l r l' r' : Lh} (h : ltE y x = true) : meld (.node x l r) (.node y l' r') = mkH y l' (meld r' (.node x l r)) := by
  rw [meld]; exact if_pos h
theorem meld_ge {x y : Int × Int} {l r l' r' : Lh} (h : ltE y x = false) : meld (.node x l r) (.node y l' r') = mkH x l (meld r (.node y l' r')) := by
  rw [meld]; exact if_neg (by rw [h]; simp)
theorem meldN_nil (o : Lh) : meldN .nil o = 0 := by unfold meldN; rfl
theorem meldN_right (h : Lh) : meldN h .nil = 0 := by cases h <;> (unfold meldN; rfl)
theorem meldN_lt {x y : Int × Int} {l r l' r' : Lh} (h : ltE y x = true) : meldN (.node x l r) (.node y l' r') = 1 + meldN r' (.node x l r) := by
  rw [meldN]; exact if_pos h
theorem meldN_ge {x y : Int × Int} {l r l' r' : Lh} (h : ltE y x = false) : meldN (.node x l r) (.node y l' r') = 1 + meldN r (.node y l' r') := by
  rw [meldN]; exact if_neg (by rw [h]; simp)

/-- What holds of all pairs of heaps: by the way that melding goes. -/
theorem meld_ind {P : Lh → Lh → Prop} (h1 : ∀ o, P .nil o) (h2 : ∀ x l r, P (.node x l r) .nil)
    (h3 : ∀ x l r y l' r', ltE y x = true → P r' (.node x l r) → P (.node x l r) (.node y l' r'))
    (h4 : ∀ x l r y l' r', ltE y x = false → P r (.node y l' r') → P (.node x l r) (.node y l' r')) : ∀ a b, P a b := by
  have key : ∀ (n : Nat) (a b : Lh), a.size + b.size = n → P a b := by
    intro n
    induction n using Nat.strongRecOn with
    | ind n ih =>
      intro a b hn
      cases a with
      | nil => exact h1 b
      | node x l r =>
        cases b with
        | nil => exact h2 x l r
        | node y l' r' =>
          cases hv : ltE y x with
          | true => exact h3 x l r y l' r' hv (ih (r'.size + (Lh.node x l r).size) (by simp only [Lh.size] at hn ⊢; omega) _ _ rfl)
          | false => exact h4 x l r y l' r' hv (ih (r.size + (Lh.node y l' r').size) (by simp only [Lh.size] at hn ⊢; omega) _ _ rfl)
  exact fun a b => key _ a b rfl

theorem mkH_all (x : Int × Int) (l r : Lh) : (mkH x l r).all.Perm (x :: (l.all ++ r.all)) := by
  unfold mkH
  split
  · exact (List.perm_append_comm).cons x
  · exact List.Perm.refl _
theorem mkH_size (x : Int × Int) (l r : Lh) : (mkH x l r).size = l.size + 1 + r.size := by unfold mkH; split <;> simp only [Lh.size] <;> omega
theorem Lh.all_length : ∀ h : Lh, h.all.length = h.size
  | .nil => rfl
  | .node x l r => by simp only [Lh.all, Lh.size, List.length_cons, List.length_append, l.all_length, r.all_length]; omega
theorem Lh.rank_le : ∀ h : Lh, h.rank ≤ h.size
  | .nil => Nat.le_refl _
  | .node x l r => by have := r.rank_le; simp only [Lh.rank, Lh.size]; omega
theorem meld_all : ∀ a b : Lh, (meld a b).all.Perm (a.all ++ b.all) := by
  refine meld_ind ?_ ?_ ?_ ?_
  · intro o; rw [meld_nil]; simp [Lh.all]
  · intro x l r; rw [meld_right]; simp [Lh.all]
  · intro x l r y l' r' hv ih
    rw [meld_lt hv]
    refine (mkH_all _ _ _).trans ?_
    refine ((ih.append_left l'.all).cons y).trans ?_
    simp only [Lh.all]
    refine List.Perm.trans ?_ List.perm_append_comm
    simp
  · intro x l r y l' r' hv ih
    rw [meld_ge hv]
    refine (mkH_all _ _ _).trans ?_
    refine ((ih.append_left l.all).cons x).trans ?_
    simp [Lh.all]
theorem meld_size (a b : Lh) : (meld a b).size = a.size + b.size := by
  have h := (meld_all a b).length_eq
  rw [Lh.all_length, List.length_append, Lh.all_length, Lh.all_length] at h
  exact h
theorem one_all (x : Int × Int) : (Lh.one x).all = [x] := by simp [Lh.one, Lh.all]
theorem one_size (x : Int × Int) : (Lh.one x).size = 1 := rfl
theorem insert_all (h : Lh) (x : Int × Int) : (h.insert x).all.Perm (x :: h.all) := by
  refine (meld_all _ _).trans ?_
  rw [one_all]; rfl
theorem insert_size (h : Lh) (x : Int × Int) : (h.insert x).size = h.size + 1 := by
  unfold Lh.insert; rw [meld_size, one_size]; omega
theorem fold_all : ∀ (l : List (Int × Int)) (h : Lh), (l.foldl Lh.insert h).all.Perm (h.all ++ l)
  | [], h => by simp
  | x :: r, h => by
    refine (fold_all r (h.insert x)).trans ?_
    refine ((insert_all h x).append_right r).trans ?_
    simp only [List.cons_append]
    exact List.perm_middle.symm
theorem ofL_all (l : List (Int × Int)) : (ofL l).all.Perm l := by have := fold_all l .nil; simpa [Lh.all, ofL] using this
theorem ofL_size (l : List (Int × Int)) : (ofL l).size = l.length := by rw [← Lh.all_length]; exact (ofL_all l).length_eq
theorem ofL_snoc (l : List (Int × Int)) (x : Int × Int) : ofL (l ++ [x]) = (ofL l).insert x := by simp [ofL]
theorem putN_snoc : ∀ (l : List (Int × Int)) (h : Lh) (x : Int × Int), putN h (l ++ [x]) = putN h l + meldN (.one x) (l.foldl Lh.insert h)
  | [], h, x => by simp [putN]
  | y :: l, h, x => by simp only [List.cons_append, putN, List.foldl_cons]; rw [putN_snoc l (h.insert y) x]; omega
theorem pop_size (h : Lh) : h.pop.size = h.size - 1 := by cases h with
  | nil => rfl
  | node x l r => simp only [Lh.pop, Lh.size, meld_size]; omega

/-- Heap order. -/
def Lh.ok : Lh → Prop
  | .nil => True
  | .node x l r => (∀ e ∈ l.all ++ r.all, ltE e x = false) ∧ l.ok ∧ r.ok
theorem mkH_ok {x : Int × Int} {l r : Lh} (h : ∀ e ∈ l.all ++ r.all, ltE e x = false) (hl : l.ok) (hr : r.ok) : (mkH x l r).ok := by
  unfold mkH
  split
  · exact ⟨fun e he => h e (by simp only [List.mem_append] at he ⊢; exact he.symm), hr, hl⟩
  · exact ⟨h, hl, hr⟩
theorem meld_ok : ∀ a b : Lh, a.ok → b.ok → (meld a b).ok := by
  refine meld_ind (P := fun a b => a.ok → b.ok → (meld a b).ok) ?_ ?_ ?_ ?_
  · intro o _ h; rw [meld_nil]; exact h
  · intro x l r h _; rw [meld_right]; exact h
  · intro x l r y l' r' hv ih ha hb
    rw [meld_lt hv]
    refine mkH_ok (fun e he => ?_) hb.2.1 (ih hb.2.2 ha)
    rcases List.mem_append.1 he with he | he
    · exact hb.1 e (List.mem_append.2 (.inl he))
    · rcases List.mem_append.1 ((meld_all _ _).subset he) with he | he
      · exact hb.1 e (List.mem_append.2 (.inr he))
      · have hyx : ltE x y = false := by rw [ltE_not]; rw [ltE_iff] at hv; omega
        rcases List.mem_cons.1 he with rfl | he
        · exact hyx
        · have := ha.1 e he
          exact swoE.ntrans _ _ _ this hyx
  · intro x l r y l' r' hv ih ha hb
    rw [meld_ge hv]
    refine mkH_ok (fun e he => ?_) ha.2.1 (ih ha.2.2 hb)
    rcases List.mem_append.1 he with he | he
    · exact ha.1 e (List.mem_append.2 (.inl he))
    · rcases List.mem_append.1 ((meld_all _ _).subset he) with he | he
      · exact ha.1 e (List.mem_append.2 (.inr he))
      · rcases List.mem_cons.1 he with rfl | he
        · exact hv
        · exact swoE.ntrans _ _ _ (hb.1 e he) hv
theorem one_ok (x : Int × Int) : (Lh.one x).ok := ⟨fun e he => by simp [Lh.all] at he, trivial, trivial⟩
theorem insert_ok {h : Lh} (x : Int × Int) (hk : h.ok) : (h.insert x).ok := meld_ok _ _ (one_ok x) hk
theorem fold_ok : ∀ (l : List (Int × Int)) (h : Lh), h.ok → (l.foldl Lh.insert h).ok
  | [], _, hk => hk
  | x :: r, h, hk => fold_ok r (h.insert x) (insert_ok x hk)
theorem ofL_ok (l : List (Int × Int)) : (ofL l).ok := fold_ok l .nil trivial
theorem pop_ok {h : Lh} (hk : h.ok) : h.pop.ok := by cases h with
  | nil => trivial
  | node x l r => exact meld_ok _ _ hk.2.1 hk.2.2
/-- All elements in order: the root, then those of what is left. -/
theorem ok_srt {x : Int × Int} {l r : Lh} (h : (Lh.node x l r).ok) : srt (Lh.node x l r).all = x :: srt (meld l r).all := by
  rw [srt_perm (meld_all l r)]
  exact srt_cons h.1

/-- The left one's rank is nowhere less. -/
def Lh.lft : Lh → Prop
  | .nil => True
  | .node _ l r => r.rank ≤ l.rank ∧ l.lft ∧ r.lft
theorem mkH_lft {x : Int × Int} {l r : Lh} (hl : l.lft) (hr : r.lft) : (mkH x l r).lft := by
  unfold mkH
  split
  · exact ⟨by omega, hr, hl⟩
  · exact ⟨by omega, hl, hr⟩
theorem meld_lft : ∀ a b : Lh, a.lft → b.lft → (meld a b).lft := by
  refine meld_ind (P := fun a b => a.lft → b.lft → (meld a b).lft) ?_ ?_ ?_ ?_
  · intro o _ h; rw [meld_nil]; exact h
  · intro x l r h _; rw [meld_right]; exact h
  · intro x l r y l' r' hv ih ha hb
    rw [meld_lt hv]
    exact mkH_lft hb.2.1 (ih hb.2.2 ha)
  · intro x l r y l' r' hv ih ha hb
    rw [meld_ge hv]
    exact mkH_lft ha.2.1 (ih ha.2.2 hb)
theorem one_lft (x : Int × Int) : (Lh.one x).lft := ⟨Nat.le_refl _, trivial, trivial⟩
theorem fold_lft : ∀ (l : List (Int × Int)) (h : Lh), h.lft → (l.foldl Lh.insert h).lft
  | [], _, hk => hk
  | x :: r, h, hk => fold_lft r (h.insert x) (meld_lft _ _ (one_lft x) hk)
theorem ofL_lft (l : List (Int × Int)) : (ofL l).lft := fold_lft l .nil trivial
theorem rank_pow : ∀ h : Lh, h.lft → 2 ^ h.rank ≤ h.size + 1
  | .nil, _ => by simp [Lh.rank, Lh.size]
  | .node x l r, h => by
    have h1 := rank_pow l h.2.1
    have h2 := rank_pow r h.2.2
    have h3 : 2 ^ r.rank ≤ 2 ^ l.rank := Nat.pow_le_pow_right (by omega) h.1
    simp only [Lh.rank, Lh.size, Nat.pow_succ]
    omega
theorem meldN_le : ∀ a b : Lh, meldN a b ≤ a.rank + b.rank := by
  refine meld_ind ?_ ?_ ?_ ?_
  · intro o; rw [meldN_nil]; omega
  · intro x l r; rw [meldN_right]; omega
  · intro x l r y l' r' hv ih
    rw [meldN_lt hv]
    simp only [Lh.rank] at ih ⊢
    omega
  · intro x l r y l' r' hv ih
    rw [meldN_ge hv]
    simp only [Lh.rank] at ih ⊢
    omega
theorem meldN_size (a b : Lh) : meldN a b ≤ a.size + b.size := by have := meldN_le a b; have := a.rank_le; have := b.rank_le; omega
theorem popN_size (h : Lh) : h.popN ≤ h.size := by cases h with
  | nil => exact Nat.le_refl _
  | node x l r => have := meldN_size l r; simp only [Lh.popN, Lh.size]; omega
theorem putN_le : ∀ (l : List (Int × Int)) (h : Lh), putN h l ≤ l.length * (h.size + l.length + 1)
  | [], h => by simp [putN]
  | x :: r, h => by
    have h1 := meldN_size (.one x) h
    have h2 := putN_le r (h.insert x)
    rw [insert_size] at h2
    rw [one_size] at h1
    simp only [putN, List.length_cons, Nat.add_mul]
    have h3 : r.length * (h.size + 1 + r.length + 1) = r.length * (h.size + (r.length + 1) + 1) := by congr 1; omega
    omega

theorem Lh.show_length : ∀ h : Lh, fits h.all → h.show.length ≤ 48 * h.size + 1
  | .nil, _ => by simp [Lh.show, Lh.size]
  | .node x l r, h => by
    have h1 := textOf_length x.1 x.2 h.cons.1.1 h.cons.1.2
    have h2 := l.show_length h.cons.2.append.1
    have h3 := r.show_length h.cons.2.append.2
    simp only [Lh.show, Lh.size, List.length_cons, List.length_append, List.length_nil]
    omega

/-- What waits to be told: heaps, each with the number of nodes that end behind it. -/
def waitText : List (Lh × Nat) → List UInt8
  | [] => []
  | (t, e) :: ps => t.show ++ (List.replicate e 41 ++ (match ps with | [] => [] | p :: r => 32 :: waitText (p :: r)))
theorem wait_node (x : Int × Int) (l r : Lh) (e : Nat) (ps : List (Lh × Nat)) : waitText ((.node x l r, e) :: ps) = 40 :: (textOf x.1 x.2 ++ 32 :: waitText ((l, 0) :: (r, e + 1) :: ps)) := by
  cases ps <;> simp [waitText, Lh.show, List.replicate_succ]
theorem wait_nil_last (e : Nat) : waitText [(.nil, e)] = 46 :: List.replicate e 41 := by simp [waitText, Lh.show]
theorem wait_nil (e : Nat) (p : Lh × Nat) (ps : List (Lh × Nat)) : waitText ((.nil, e) :: p :: ps) = 46 :: (List.replicate e 41 ++ 32 :: waitText (p :: ps)) := by simp [waitText, Lh.show]
/-- How much there is to do. -/
def waitN : List (Lh × Nat) → Nat
  | [] => 0
  | (t, _) :: ps => 2 * t.size + 1 + waitN ps

/-- What a walk asks of a heap. -/
structure Lh.good (h : Lh) : Prop where
  ok : h.ok
  lft : h.lft
  fit : fits h.all
theorem good_nil : Lh.good .nil := ⟨trivial, trivial, fits.nil⟩
theorem good_meld {a b : Lh} (ha : a.good) (hb : b.good) : (meld a b).good := ⟨meld_ok _ _ ha.ok hb.ok, meld_lft _ _ ha.lft hb.lft, (ha.fit.join hb.fit).perm (meld_all a b).symm⟩
theorem good_one {x : Int × Int} (h : in64 x.1 ∧ in64 x.2) : (Lh.one x).good := ⟨one_ok x, one_lft x, by rw [one_all]; exact fits.more h fits.nil⟩
theorem good_insert {a : Lh} {x : Int × Int} (ha : a.good) (h : in64 x.1 ∧ in64 x.2) : (a.insert x).good := good_meld (good_one h) ha
theorem good_fold : ∀ (l : List (Int × Int)) (h : Lh), h.good → fits l → (l.foldl Lh.insert h).good
  | [], _, hk, _ => hk
  | x :: r, h, hk, hf => good_fold r (h.insert x) (good_insert hk hf.cons.1) hf.cons.2
theorem good_of {l : List (Int × Int)} (h : fits l) : (ofL l).good := good_fold l .nil good_nil h
theorem good_sub {x : Int × Int} {l r : Lh} (h : (Lh.node x l r).good) : l.good ∧ r.good := ⟨⟨h.ok.2.1, h.lft.2.1, h.fit.cons.2.append.1⟩, ⟨h.ok.2.2, h.lft.2.2, h.fit.cons.2.append.2⟩⟩
theorem good_pop {a : Lh} (ha : a.good) : a.pop.good := by cases a with
  | nil => exact good_nil
  | node x l r => exact good_meld (good_sub ha).1 (good_sub ha).2
theorem srt_meld (a b : Lh) : srt (meld a b).all = srt (a.all ++ b.all) := srt_perm (meld_all a b)
theorem srt_insert (a : Lh) (x : Int × Int) : srt (a.insert x).all = srt (x :: a.all) := srt_perm (insert_all a x)
theorem srt_of (l : List (Int × Int)) : srt (ofL l).all = srt l := srt_perm (ofL_all l)
theorem srt_pop {a : Lh} (h : a.ok) : srt a.pop.all = (srt a.all).tail := by cases a with
  | nil => simp [Lh.pop, Lh.all, srt_nil]
  | node x l r => rw [ok_srt h]; rfl

end Go.Proofs.YtliehednnhilkaaDoor
