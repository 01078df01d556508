/-
  Plain facts, of no program: skew binomial heaps with their least element apart (a root, and a heap of all others), under the names that the laws' walks use: put in, melded, of a row, the least one taken out: elements, order, sizes, counts (comparisons and what is made apart). No conditions.
  Plain facts, of no program: heaps with their least element apart: what is least with an element more, what is left without the least one; the document's example. No conditions beyond what each theorem says.
-/
import Derived.Test.YtaeainnkhjnlaaaGreatDoorBh
namespace Go.Proofs.YtaeainnkhjnlaaaGreatDoor.Ro
open Go.Sort Go.RowKit

/-- All others. -/
abbrev Sk := Go.Proofs.YtaeainnkhjnlaaaGreatDoor.Lh
/-- A heap: none, or a root and the others. -/
inductive Lh
  | nil
  | node (x : Int × Int) (o : Sk)
def Lh.size : Lh → Nat
  | .nil => 0
  | .node _ o => o.size + 1
def Lh.all : Lh → List (Int × Int)
  | .nil => []
  | .node x o => x :: o.all
def Lh.show : Lh → List UInt8
  | .nil => [46]
  | .node x o => textOf x.1 x.2 ++ 32 :: o.show
def Lh.min : Lh → (Int × Int) × Bool
  | .nil => ((0, 0), false)
  | .node x _ => (x, true)
def Lh.some (h : Lh) : Bool := h.min.2
def Lh.one (x : Int × Int) : Lh := .node x .nil
def Lh.insert : Lh → (Int × Int) → Lh
  | .nil, x => .one x
  | .node r o, x => if ltE x r = true then .node x (o.insert r) else .node r (o.insert x)
/-- How many comparisons putting one in takes. -/
def Lh.insC : Lh → Nat
  | .nil => 0
  | .node _ o => o.insC + 1
/-- How many things it makes. -/
def Lh.insM : Lh → Nat
  | .nil => 1
  | .node _ o => o.insM + 1
def meld : Lh → Lh → Lh
  | .nil, b => b
  | .node x o, .nil => .node x o
  | .node x o, .node y p => if ltE y x = true then .node y ((Go.Proofs.YtaeainnkhjnlaaaGreatDoor.meld o p).insert x) else .node x ((Go.Proofs.YtaeainnkhjnlaaaGreatDoor.meld o p).insert y)
/-- How many comparisons that takes. -/
def meldC : Lh → Lh → Nat
  | .nil, _ => 0
  | .node _ _, .nil => 0
  | .node _ o, .node _ p => meldN o p + (Go.Proofs.YtaeainnkhjnlaaaGreatDoor.meld o p).insC + 1
/-- How many things it makes. -/
def meldM : Lh → Lh → Nat
  | .nil, _ => 0
  | .node _ _, .nil => 0
  | .node _ o, .node _ p => meldN o p + (Go.Proofs.YtaeainnkhjnlaaaGreatDoor.meld o p).insM + 1
def Lh.pop : Lh → Lh
  | .nil => .nil
  | .node _ o => if o.some = true then .node o.min.1 o.pop else .nil
/-- How many comparisons taking the least one out takes (the new root is told, and taken out of the others). -/
def Lh.popC : Lh → Nat
  | .nil => 0
  | .node _ o => if o.some = true then o.tellN + (o.popC + o.tellN) else 0
/-- How many things it makes. -/
def Lh.popM : Lh → Nat
  | .nil => 0
  | .node _ o => if o.some = true then o.popM + 1 else 0
def ofL (l : List (Int × Int)) : Lh := l.foldl Lh.insert .nil
def putC : Lh → List (Int × Int) → Nat
  | _, [] => 0
  | h, x :: r => h.insC + putC (h.insert x) r
def putM : Lh → List (Int × Int) → Nat
  | _, [] => 0
  | h, x :: r => h.insM + putM (h.insert x) r

theorem ltE_asym {x y : Int × Int} (h : ltE x y = true) : ltE y x = false := by
  rw [ltE_iff] at h
  rw [ltE_not]
  omega
theorem insert_lt {x r : Int × Int} {o : Sk} (h : ltE x r = true) : (Lh.node r o).insert x = .node x (o.insert r) := by show (if ltE x r = true then _ else _) = _; rw [if_pos h]
theorem insert_ge {x r : Int × Int} {o : Sk} (h : ltE x r = false) : (Lh.node r o).insert x = .node r (o.insert x) := by show (if ltE x r = true then _ else _) = _; rw [if_neg (by rw [h]; simp)]
theorem meld_right (a : Lh) : meld a .nil = a := by cases a <;> rfl
theorem meld_lt {x y : Int × Int} {o p : Sk} (h : ltE y x = true) : meld (.node x o) (.node y p) = .node y ((Go.Proofs.YtaeainnkhjnlaaaGreatDoor.meld o p).insert x) := by show (if ltE y x = true then _ else _) = _; rw [if_pos h]
theorem meld_ge {x y : Int × Int} {o p : Sk} (h : ltE y x = false) : meld (.node x o) (.node y p) = .node x ((Go.Proofs.YtaeainnkhjnlaaaGreatDoor.meld o p).insert y) := by show (if ltE y x = true then _ else _) = _; rw [if_neg (by rw [h]; simp)]
theorem pop_some {x : Int × Int} {o : Sk} (h : o.some = true) : (Lh.node x o).pop = .node o.min.1 o.pop := by show (if o.some = true then _ else _) = _; rw [if_pos h]
theorem pop_none {x : Int × Int} {o : Sk} (h : o.some = false) : (Lh.node x o).pop = .nil := by show (if o.some = true then _ else _) = _; rw [if_neg (by rw [h]; simp)]
theorem Lh.all_length (h : Lh) : h.all.length = h.size := by
  cases h with
  | nil => rfl
  | node x o => show (x :: o.all).length = o.size + 1; rw [List.length_cons, o.all_length]
theorem insert_all (h : Lh) (x : Int × Int) : (h.insert x).all.Perm (x :: h.all) := by
  cases h with
  | nil =>
    show (x :: Go.Proofs.YtaeainnkhjnlaaaGreatDoor.Lh.nil.all).Perm [x]
    exact List.Perm.refl _
  | node r o =>
    by_cases hl : ltE x r = true
    · rw [insert_lt hl]
      exact List.Perm.cons x (Go.Proofs.YtaeainnkhjnlaaaGreatDoor.insert_all o r)
    · rw [insert_ge (by simpa using hl)]
      exact (List.Perm.cons r (Go.Proofs.YtaeainnkhjnlaaaGreatDoor.insert_all o x)).trans (List.Perm.swap x r _)
theorem meld_all (a b : Lh) : (meld a b).all.Perm (a.all ++ b.all) := by
  cases a with
  | nil => exact List.Perm.refl _
  | node x o =>
    cases b with
    | nil => rw [meld_right]; show (x :: o.all).Perm ((x :: o.all) ++ []); rw [List.append_nil]
    | node y p =>
      have hm := Go.Proofs.YtaeainnkhjnlaaaGreatDoor.meld_all o p
      by_cases hl : ltE y x = true
      · rw [meld_lt hl]
        exact (List.Perm.cons y ((Go.Proofs.YtaeainnkhjnlaaaGreatDoor.insert_all _ x).trans (List.Perm.cons x hm))).trans (List.perm_middle (a := y) (l₁ := x :: o.all) (l₂ := p.all)).symm
      · rw [meld_ge (by simpa using hl)]
        exact List.Perm.cons x ((Go.Proofs.YtaeainnkhjnlaaaGreatDoor.insert_all _ y).trans ((List.Perm.cons y hm).trans (List.perm_middle (a := y) (l₁ := o.all) (l₂ := p.all)).symm))
theorem insert_size (h : Lh) (x : Int × Int) : (h.insert x).size = h.size + 1 := by
  have := (insert_all h x).length_eq
  rwa [List.length_cons, Lh.all_length, Lh.all_length] at this
theorem meld_size (a b : Lh) : (meld a b).size = a.size + b.size := by
  have := (meld_all a b).length_eq
  rwa [List.length_append, Lh.all_length, Lh.all_length, Lh.all_length] at this
theorem insC_le (h : Lh) : h.insC ≤ 3 := by
  cases h with
  | nil => exact Nat.zero_le _
  | node x o => have := Go.Proofs.YtaeainnkhjnlaaaGreatDoor.insC_le o; show o.insC + 1 ≤ 3; omega
theorem insM_le (h : Lh) : h.insM ≤ 3 := by
  cases h with
  | nil => show 1 ≤ 3; omega
  | node x o => have := Go.Proofs.YtaeainnkhjnlaaaGreatDoor.insM_le o; show o.insM + 1 ≤ 3; omega
theorem fold_all : ∀ (l : List (Int × Int)) (h : Lh), (l.foldl Lh.insert h).all.Perm (h.all ++ l)
  | [], h => by simp
  | x :: r, h => by
    rw [List.foldl_cons]
    refine (fold_all r (h.insert x)).trans (((insert_all h x).append_right r).trans ?_)
    exact (List.perm_middle (a := x) (l₁ := h.all) (l₂ := r)).symm
theorem ofL_all (l : List (Int × Int)) : (ofL l).all.Perm l := fold_all l .nil
theorem ofL_size (l : List (Int × Int)) : (ofL l).size = l.length := by rw [← Lh.all_length]; exact (ofL_all l).length_eq
theorem ofL_snoc (l : List (Int × Int)) (x : Int × Int) : ofL (l ++ [x]) = (ofL l).insert x := by simp [ofL]
theorem putC_snoc : ∀ (l : List (Int × Int)) (h : Lh) (x : Int × Int), putC h (l ++ [x]) = putC h l + (l.foldl Lh.insert h).insC
  | [], h, x => by simp [putC]
  | y :: l, h, x => by simp only [List.cons_append, putC, List.foldl_cons]; rw [putC_snoc l (h.insert y) x]; omega
theorem putM_snoc : ∀ (l : List (Int × Int)) (h : Lh) (x : Int × Int), putM h (l ++ [x]) = putM h l + (l.foldl Lh.insert h).insM
  | [], h, x => by simp [putM]
  | y :: l, h, x => by simp only [List.cons_append, putM, List.foldl_cons]; rw [putM_snoc l (h.insert y) x]; omega
theorem put_le : ∀ (l : List (Int × Int)) (h : Lh), putC h l ≤ 3 * l.length ∧ putM h l ≤ 3 * l.length
  | [], _ => ⟨Nat.le_refl _, Nat.le_refl _⟩
  | x :: r, h => by
    have h1 := put_le r (h.insert x)
    have h2 := insC_le h
    have h3 := insM_le h
    simp only [putC, putM, List.length_cons]
    omega
/-- The others are a heap, and no one of them stands ahead of the root. -/
def Lh.ok : Lh → Prop
  | .nil => True
  | .node x o => o.ok ∧ ∀ e ∈ o.all, ltE e x = false
theorem ok_nil : Lh.ok .nil := trivial
theorem one_ok (x : Int × Int) : (Lh.one x).ok := ⟨sok_nil, by intro e he; exact absurd he (by simp [Go.Proofs.YtaeainnkhjnlaaaGreatDoor.Lh.all, Go.Proofs.YtaeainnkhjnlaaaGreatDoor.Lh.nil, bAll])⟩
theorem insert_ok {h : Lh} (x : Int × Int) (hk : h.ok) : (h.insert x).ok := by
  cases h with
  | nil => exact one_ok x
  | node r o =>
    by_cases hl : ltE x r = true
    · rw [insert_lt hl]
      refine ⟨Go.Proofs.YtaeainnkhjnlaaaGreatDoor.insert_ok r hk.1, fun e he => ?_⟩
      have he2 := (Go.Proofs.YtaeainnkhjnlaaaGreatDoor.insert_all o r).subset he
      rcases List.mem_cons.1 he2 with rfl | he3
      · exact ltE_asym hl
      · exact swoE.ntrans _ _ _ (hk.2 e he3) (ltE_asym hl)
    · have hl' : ltE x r = false := by simpa using hl
      rw [insert_ge hl']
      refine ⟨Go.Proofs.YtaeainnkhjnlaaaGreatDoor.insert_ok x hk.1, fun e he => ?_⟩
      have he2 := (Go.Proofs.YtaeainnkhjnlaaaGreatDoor.insert_all o x).subset he
      rcases List.mem_cons.1 he2 with rfl | he3
      · exact hl'
      · exact hk.2 e he3
theorem meld_ok (a b : Lh) (ha : a.ok) (hb : b.ok) : (meld a b).ok := by
  cases a with
  | nil => exact hb
  | node x o =>
    cases b with
    | nil => exact ha
    | node y p =>
      have hm := Go.Proofs.YtaeainnkhjnlaaaGreatDoor.meld_all o p
      by_cases hl : ltE y x = true
      · rw [meld_lt hl]
        refine ⟨Go.Proofs.YtaeainnkhjnlaaaGreatDoor.insert_ok x (Go.Proofs.YtaeainnkhjnlaaaGreatDoor.meld_ok _ _ ha.1 hb.1), fun e he => ?_⟩
        rcases List.mem_cons.1 ((Go.Proofs.YtaeainnkhjnlaaaGreatDoor.insert_all _ x).subset he) with rfl | he3
        · exact ltE_asym hl
        · rcases List.mem_append.1 (hm.subset he3) with h4 | h4
          · exact swoE.ntrans _ _ _ (ha.2 e h4) (ltE_asym hl)
          · exact hb.2 e h4
      · have hl' : ltE y x = false := by simpa using hl
        rw [meld_ge hl']
        refine ⟨Go.Proofs.YtaeainnkhjnlaaaGreatDoor.insert_ok y (Go.Proofs.YtaeainnkhjnlaaaGreatDoor.meld_ok _ _ ha.1 hb.1), fun e he => ?_⟩
        rcases List.mem_cons.1 ((Go.Proofs.YtaeainnkhjnlaaaGreatDoor.insert_all _ y).subset he) with rfl | he3
        · exact hl'
        · rcases List.mem_append.1 (hm.subset he3) with h4 | h4
          · exact ha.2 e h4
          · exact swoE.ntrans _ _ _ (hb.2 e h4) hl'
theorem fold_ok : ∀ (l : List (Int × Int)) (h : Lh), h.ok → (l.foldl Lh.insert h).ok
  | [], _, hk => hk
  | x :: r, h, hk => fold_ok r (h.insert x) (insert_ok x hk)
theorem ofL_ok (l : List (Int × Int)) : (ofL l).ok := fold_ok l .nil ok_nil
/-- The others' least one, and what is left of them. -/
theorem sk_pop {o : Sk} (hk : o.ok) (hs : o.some = true) : o.all.Perm (o.min.1 :: o.pop.all) ∧ (∀ e ∈ o.pop.all, ltE e o.min.1 = false) ∧ o.pop.ok := by
  have hne : o.ts ≠ [] := by intro e; unfold Go.Proofs.YtaeainnkhjnlaaaGreatDoor.Lh.some Go.Proofs.YtaeainnkhjnlaaaGreatDoor.Lh.min at hs; rw [e] at hs; cases hs
  have hp := spop_all hne
  exact ⟨hp, fun e he => bmin_least hk.hok hne e (hp.symm.subset (List.mem_cons_of_mem _ he)), Go.Proofs.YtaeainnkhjnlaaaGreatDoor.pop_ok hk⟩
theorem sk_none {o : Sk} (hs : o.some = false) : o = .nil := by
  refine Go.Proofs.YtaeainnkhjnlaaaGreatDoor.Lh.size_nil ?_
  rw [Go.Proofs.YtaeainnkhjnlaaaGreatDoor.some_pos] at hs
  simpa using hs
theorem pop_ok {h : Lh} (hk : h.ok) : h.pop.ok := by
  cases h with
  | nil => exact hk
  | node x o =>
    by_cases hs : o.some = true
    · rw [pop_some hs]
      have := sk_pop hk.1 hs
      exact ⟨this.2.2, this.2.1⟩
    · rw [pop_none (by simpa using hs)]
      exact ok_nil
theorem pop_all {x : Int × Int} {o : Sk} (hk : o.ok) : o.all.Perm (Lh.node x o).pop.all := by
  by_cases hs : o.some = true
  · rw [pop_some hs]
    exact (sk_pop hk hs).1
  · have hs' : o.some = false := by simpa using hs
    rw [pop_none hs', sk_none hs']
    exact List.Perm.refl _
theorem Lh.size_nil {h : Lh} (hz : h.size = 0) : h = .nil := by
  cases h with
  | nil => rfl
  | node x o => simp only [Lh.size] at hz; omega
theorem pop_size {h : Lh} (hk : h.ok) : h.pop.size = h.size - 1 := by
  cases h with
  | nil => rfl
  | node x o =>
    have := (pop_all (x := x) hk.1).length_eq
    rw [Lh.all_length, o.all_length] at this
    show _ = o.size + 1 - 1
    omega
theorem meld_counts (a b : Lh) : meldC a b ≤ a.size + b.size + 3 ∧ meldM a b ≤ a.size + b.size + 3 := by
  cases a with
  | nil => exact ⟨Nat.zero_le _, Nat.zero_le _⟩
  | node x o =>
    cases b with
    | nil => exact ⟨Nat.zero_le _, Nat.zero_le _⟩
    | node y p =>
      have h1 := meldN_size o p
      have h2 := Go.Proofs.YtaeainnkhjnlaaaGreatDoor.insC_le (Go.Proofs.YtaeainnkhjnlaaaGreatDoor.meld o p)
      have h3 := Go.Proofs.YtaeainnkhjnlaaaGreatDoor.insM_le (Go.Proofs.YtaeainnkhjnlaaaGreatDoor.meld o p)
      simp only [meldC, meldM, Lh.size]
      omega
theorem pop_counts (h : Lh) : h.popC ≤ 4 * h.size ∧ h.popM ≤ 2 * h.size := by
  cases h with
  | nil => exact ⟨Nat.zero_le _, Nat.zero_le _⟩
  | node x o =>
    have h1 := Go.Proofs.YtaeainnkhjnlaaaGreatDoor.pop_counts o
    have h2 := tellN_size o
    simp only [Lh.popC, Lh.popM, Lh.size]
    split <;> omega
/-- What a walk asks of a heap. -/
structure Lh.good (h : Lh) : Prop where
  ok : h.ok
  fit : fits h.all
theorem good_nil : Lh.good .nil := ⟨ok_nil, fits.nil⟩
theorem good_meld {a b : Lh} (ha : a.good) (hb : b.good) : (meld a b).good := ⟨meld_ok _ _ ha.ok hb.ok, (ha.fit.join hb.fit).perm (meld_all a b).symm⟩
theorem good_insert {a : Lh} {x : Int × Int} (ha : a.good) (h : in64 x.1 ∧ in64 x.2) : (a.insert x).good := ⟨insert_ok x ha.ok, (fits.more h ha.fit).perm (insert_all a x).symm⟩
theorem good_of {l : List (Int × Int)} (h : fits l) : (ofL l).good := ⟨ofL_ok l, h.perm (ofL_all l).symm⟩
theorem good_pop {a : Lh} (ha : a.good) : a.pop.good := ⟨pop_ok ha.ok, by
  cases a with
  | nil => exact fits.nil
  | node x o => exact (ha.fit.cons.2 : fits o.all).perm (pop_all ha.ok.1)⟩
theorem some_pos (t : Lh) : t.some = decide (0 < t.size) := by
  cases t with
  | nil => rfl
  | node x o => exact (decide_eq_true (Nat.succ_pos _)).symm
theorem min_some (t : Lh) : t.min.2 = t.some := rfl
end Go.Proofs.YtaeainnkhjnlaaaGreatDoor.Ro
namespace Go.Proofs.YtaeainnkhjnlaaaGreatDoor.Ro
open Go.Sort Go.RowKit

theorem text_d (d : Nat) (h : d < 10) : textOf (d : Int) 0 = [UInt8.ofNat (48 + d), 58, 48] := by
  unfold textOf Lib.itoa
  rw [if_neg (by omega), if_neg (by omega)]
  rw [show (d : Int).toNat = d from by omega, show (0 : Int).toNat = 0 from rfl, Lib.decDigits_one h, Lib.decDigits_one (by omega)]
  rfl
/-- The example's heap. -/
def exO : Sk := ⟨[leafT (3, 0), leafT (2, 0)]⟩
def exH : Lh := .node (1, 0) exO
theorem ex_of : ofL [(2, 0), (1, 0), (3, 0)] = exH := by
  show (((Lh.one (2, 0)).insert (1, 0)).insert (3, 0)) = exH
  have h1 : ltE (1, 0) (2, 0) = true := by rw [ltE_iff]; simp
  have h2 : ltE (3, 0) (1, 0) = false := by rw [ltE_not]; simp
  unfold Lh.one
  rw [insert_lt h1, insert_ge h2]
  rfl
theorem ex_put : putC .nil [(2, 0), (1, 0), (3, 0)] = 2 ∧ putM .nil [(2, 0), (1, 0), (3, 0)] = 5 := by
  have h1 : ltE (1, 0) (2, 0) = true := by rw [ltE_iff]; simp
  have h3 : (Lh.one (2, 0)).insert (1, 0) = .node (1, 0) ⟨[leafT (2, 0)]⟩ := by unfold Lh.one; rw [insert_lt h1]; rfl
  refine ⟨?_, ?_⟩
  · show 0 + ((Lh.one (2, 0)).insC + (((Lh.one (2, 0)).insert (1, 0)).insC + 0)) = 2
    rw [h3]; rfl
  · show 1 + ((Lh.one (2, 0)).insM + (((Lh.one (2, 0)).insert (1, 0)).insM + 0)) = 5
    rw [h3]; rfl
theorem ex_olt : ltE (rootAt [leafT (3, 0), leafT (2, 0)] 1) (rootAt [leafT (3, 0), leafT (2, 0)] 0) = true := by
  show ltE (2, 0) (3, 0) = true
  rw [ltE_iff]; simp
theorem ex_oat : leastI [leafT (3, 0), leafT (2, 0)] = 1 := by
  show leastK _ 1 = 1
  unfold leastK leastK
  rw [if_pos ex_olt]
theorem ex_omin : exO.min = ((2, 0), true) := by
  show (rootAt [leafT (3, 0), leafT (2, 0)] (leastI [leafT (3, 0), leafT (2, 0)]), true) = _
  rw [ex_oat]; rfl
/-- .. without its least element. -/
def exG : Lh := .node (2, 0) ⟨[leafT (3, 0)]⟩
theorem ex_opop : exO.pop = ⟨[leafT (3, 0)]⟩ := by
  have h : exO.pop.ts = [leafT (3, 0)] := by
    show ((besAt [leafT (3, 0), leafT (2, 0)] (leastI [leafT (3, 0), leafT (2, 0)])).foldl sIns (sBase [leafT (3, 0), leafT (2, 0)] (leastI [leafT (3, 0), leafT (2, 0)]))) = _
    rw [ex_oat]
    show bmeld [] (levT [leafT (3, 0)]) = _
    rw [bmeld_nil]; rfl
  exact congrArg Go.Proofs.YtaeainnkhjnlaaaGreatDoor.Lh.mk h
theorem ex_pop : exH.pop = exG := by
  show (Lh.node (1, 0) exO).pop = _
  rw [pop_some (by show exO.min.2 = true; rw [ex_omin]), ex_omin, ex_opop]
  rfl
theorem ex_popN : exH.popC = 2 ∧ exH.popM = 1 := by
  have hs : exO.some = true := by show exO.min.2 = true; rw [ex_omin]
  have h1 : exO.popC = 0 := by
    show sBaseN [leafT (3, 0), leafT (2, 0)] (leastI [leafT (3, 0), leafT (2, 0)]) + sPutN (sBase [leafT (3, 0), leafT (2, 0)] (leastI [leafT (3, 0), leafT (2, 0)])) (besAt [leafT (3, 0), leafT (2, 0)] (leastI [leafT (3, 0), leafT (2, 0)])) = 0
    rw [ex_oat]
    show levN [leafT (3, 0)] + bmeldN [] (levT [leafT (3, 0)]) + 0 = 0
    rw [bmeldN_nil]; rfl
  have h2 : exO.popM = 0 := by
    show sBaseN [leafT (3, 0), leafT (2, 0)] (leastI [leafT (3, 0), leafT (2, 0)]) + sPutM (sBase [leafT (3, 0), leafT (2, 0)] (leastI [leafT (3, 0), leafT (2, 0)])) (besAt [leafT (3, 0), leafT (2, 0)] (leastI [leafT (3, 0), leafT (2, 0)])) = 0
    rw [ex_oat]
    show levN [leafT (3, 0)] + bmeldN [] (levT [leafT (3, 0)]) + 0 = 0
    rw [bmeldN_nil]; rfl
  refine ⟨?_, ?_⟩
  · show (if exO.some = true then exO.tellN + (exO.popC + exO.tellN) else 0) = 2
    rw [if_pos hs, h1]; rfl
  · show (if exO.some = true then exO.popM + 1 else 0) = 1
    rw [if_pos hs, h2]
theorem ex_show : exH.show = [49, 58, 48, 32, 40, 51, 58, 48, 41, 32, 40, 50, 58, 48, 41] := by
  have h1 := text_d 1 (by omega)
  have h2 := text_d 2 (by omega)
  have h3 := text_d 3 (by omega)
  simp only [exH, exO, Lh.show, Go.Proofs.YtaeainnkhjnlaaaGreatDoor.Lh.show, bShow, bTail, leafT, Tre.show, Wood.show, besideText, List.flatMap_nil, List.nil_append, List.append_nil]
  rw [show ((1 : Nat) : Int) = 1 from rfl] at h1
  rw [show ((2 : Nat) : Int) = 2 from rfl] at h2
  rw [show ((3 : Nat) : Int) = 3 from rfl] at h3
  rw [h1, h2, h3]
  rfl
theorem ex_fits : fits exH.all := by
  intro e he
  simp [exH, exO, Lh.all, Go.Proofs.YtaeainnkhjnlaaaGreatDoor.Lh.all, bAll, leafT, Tre.all, Wood.all] at he
  rcases he with rfl | rfl | rfl <;> simp [in64]

end Go.Proofs.YtaeainnkhjnlaaaGreatDoor.Ro
