/-
  Plain facts, of no program: heaps whose others are heaps (a root, and a skew binomial heap of heaps that aren't empty, in order by their roots), under the names that the laws' walks use: put in, melded, of a row, the least one taken out: elements, order, sizes, counts (comparisons and what is made apart). No conditions.
  Plain facts, of no program: heaps whose others are heaps: what is least with an element more, what is left without the least one; the document's example. No conditions beyond what each theorem says.
-/
import Derived.Test.YtlmokendajgbdaaGreatDoorGn
namespace Go.Proofs.YtlmokendajgbdaaGreatDoor.Bo
open Go.Sort Go.RowKit Go.Proofs.YtlmokendajgbdaaGreatDoor.Gn

/-- A heap: none, or a root and the queue. -/
inductive Lh
  | nil
  | node (x : Int × Int) (q : List (Gn.Tre Lh))
def Lh.key : Lh → Int × Int
  | .nil => (0, 0)
  | .node x _ => x
instance : Gn.Key Lh := ⟨Lh.key⟩
instance : Inhabited Lh := ⟨.nil⟩
theorem ltK_key (a b : Lh) : Gn.ltK a b = ltE a.key b.key := rfl
/-- What stands in a queue is smaller than it. -/
theorem wood_small : ∀ (w : Gn.Wood Lh) (b : Lh), b ∈ w.all → SizeOf.sizeOf b < SizeOf.sizeOf w
  | .nil, b, h => by simp [Gn.Wood.all] at h
  | .cons x bs ks r, b, h => by
    simp only [Gn.Wood.all] at h
    simp only [Gn.Wood.cons.sizeOf_spec]
    rcases List.mem_append.1 h with h | h
    · rcases List.mem_cons.1 h with rfl | h
      · omega
      · rcases List.mem_append.1 h with h | h
        · have := List.sizeOf_lt_of_mem h; omega
        · have := wood_small ks b h; omega
    · have := wood_small r b h; omega
theorem queue_small : ∀ (q : List (Gn.Tre Lh)) (b : Lh), b ∈ Gn.bAll q → SizeOf.sizeOf b < SizeOf.sizeOf q
  | [], b, h => by simp [Gn.bAll] at h
  | t :: r, b, h => by
    simp only [Gn.bAll] at h
    rw [List.cons.sizeOf_spec]
    rcases List.mem_append.1 h with h | h
    · obtain ⟨x, bs, ks⟩ := t
      rw [Gn.Tre.mk.sizeOf_spec]
      simp only [Gn.Tre.all] at h
      rcases List.mem_cons.1 h with rfl | h
      · omega
      · rcases List.mem_append.1 h with h | h
        · have := List.sizeOf_lt_of_mem h; omega
        · have := wood_small ks b h; omega
    · have := queue_small r b h; omega
/-- All elements (a heap's own are told apart below, so that an empty heap's are none at once). -/
def Lh.els : Lh → List (Int × Int)
  | .nil => []
  | .node x q => x :: ((Gn.bAll q).attach.map fun b => b.1.els).flatten
termination_by h => SizeOf.sizeOf h
decreasing_by
  have := queue_small q b.1 b.2
  rw [Lh.node.sizeOf_spec]
  omega
def Lh.txt : Lh → List UInt8
  | .nil => [46]
  | .node x q => 91 :: (textOf x.1 x.2 ++ ((Gn.bAll q).attach.map fun b => 32 :: b.1.txt).flatten ++ [93])
termination_by h => SizeOf.sizeOf h
decreasing_by
  have := queue_small q b.1 b.2
  rw [Lh.node.sizeOf_spec]
  omega
def Lh.all : Lh → List (Int × Int)
  | .nil => []
  | .node x q => x :: (Gn.bAll q).flatMap Lh.els
def Lh.show : Lh → List UInt8
  | .nil => [46]
  | .node x q => 91 :: (textOf x.1 x.2 ++ ((Gn.bAll q).flatMap fun b => 32 :: b.txt) ++ [93])
def Lh.size : Lh → Nat
  | .nil => 0
  | .node _ q => ((Gn.bAll q).flatMap Lh.els).length + 1
theorem els_all (h : Lh) : h.els = h.all := by
  cases h with
  | nil => rw [Lh.els]; rfl
  | node x q => rw [Lh.els, List.attach_map_val, ← List.flatMap_def]; rfl
theorem txt_show (h : Lh) : h.txt = h.show := by
  cases h with
  | nil => rw [Lh.txt]; rfl
  | node x q => rw [Lh.txt, List.attach_map_val (l := Gn.bAll q) (f := fun b => 32 :: Lh.txt b), ← List.flatMap_def]; rfl
theorem els_eq : Lh.els = Lh.all := funext els_all
theorem all_nil : Lh.all .nil = [] := rfl
theorem all_node (x : Int × Int) (q : List (Gn.Tre Lh)) : (Lh.node x q).all = x :: (Gn.bAll q).flatMap Lh.all := by show x :: (Gn.bAll q).flatMap Lh.els = _; rw [els_eq]
theorem show_nil : Lh.show .nil = [46] := rfl
theorem show_node (x : Int × Int) (q : List (Gn.Tre Lh)) : (Lh.node x q).show = 91 :: (textOf x.1 x.2 ++ ((Gn.bAll q).flatMap fun b => 32 :: b.show) ++ [93]) := by
  show 91 :: (textOf x.1 x.2 ++ ((Gn.bAll q).flatMap fun b => 32 :: b.txt) ++ [93]) = _
  simp only [txt_show]
theorem size_all (h : Lh) : h.size = h.all.length := by cases h <;> rfl
def Lh.min : Lh → (Int × Int) × Bool
  | .nil => ((0, 0), false)
  | .node x _ => (x, true)
def Lh.some (h : Lh) : Bool := h.min.2
def Lh.one (x : Int × Int) : Lh := .node x []
def meld : Lh → Lh → Lh
  | .nil, b => b
  | .node x o, .nil => .node x o
  | .node x o, .node y p => if ltE y x = true then .node y (Gn.sIns p (.node x o)) else .node x (Gn.sIns o (.node y p))
/-- How many comparisons that takes. -/
def meldC : Lh → Lh → Nat
  | .nil, _ => 0
  | .node _ _, .nil => 0
  | .node x o, .node y p => if ltE y x = true then Gn.sInsN p + 1 else Gn.sInsN o + 1
/-- How many things it makes. -/
def meldM : Lh → Lh → Nat
  | .nil, _ => 0
  | .node _ _, .nil => 0
  | .node x o, .node y p => if ltE y x = true then Gn.sInsM p + 1 else Gn.sInsM o + 1
def Lh.insert (h : Lh) (x : Int × Int) : Lh := meld (.one x) h
def Lh.insC (h : Lh) (x : Int × Int) : Nat := meldC (.one x) h
def Lh.insM (h : Lh) (x : Int × Int) : Nat := meldM (.one x) h + 1
/-- The queue's least one. -/
def least (q : List (Gn.Tre Lh)) : Lh := (Gn.bMin q).1
def Lh.queue : Lh → List (Gn.Tre Lh)
  | .nil => []
  | .node _ q => q
def Lh.pop : Lh → Lh
  | .nil => .nil
  | .node _ [] => .nil
  | .node _ (t :: r) => .node (least (t :: r)).key (Gn.smeld (least (t :: r)).queue (Gn.sPop (t :: r)))
/-- How many comparisons taking the least one out takes (the queue's least one is told, and taken out, and its queue melded with what is left). -/
def Lh.popC : Lh → Nat
  | .nil => 0
  | .node _ [] => 0
  | .node _ (t :: r) => r.length + (Gn.sPopN (t :: r) + r.length) + Gn.smeldN (least (t :: r)).queue (Gn.sPop (t :: r))
/-- How many things it makes. -/
def Lh.popM : Lh → Nat
  | .nil => 0
  | .node _ [] => 0
  | .node _ (t :: r) => Gn.sPopM (t :: r) + Gn.smeldN (least (t :: r)).queue (Gn.sPop (t :: r)) + 1
def ofL (l : List (Int × Int)) : Lh := l.foldl Lh.insert .nil
def putC : Lh → List (Int × Int) → Nat
  | _, [] => 0
  | h, x :: r => h.insC x + putC (h.insert x) r
def putM : Lh → List (Int × Int) → Nat
  | _, [] => 0
  | h, x :: r => h.insM x + putM (h.insert x) r

theorem ltE_asym {x y : Int × Int} (h : ltE x y = true) : ltE y x = false := by
  rw [ltE_iff] at h
  rw [ltE_not]
  omega
theorem one_of (x : Int × Int) : ofL [x] = .one x := rfl
theorem insert_nil (x : Int × Int) : Lh.insert .nil x = .one x := rfl
theorem meld_nil (b : Lh) : meld .nil b = b := rfl
theorem meld_right (a : Lh) : meld a .nil = a := by cases a <;> rfl
theorem meld_lt {x y : Int × Int} {o p : List (Gn.Tre Lh)} (h : ltE y x = true) : meld (.node x o) (.node y p) = .node y (Gn.sIns p (.node x o)) := by show (if ltE y x = true then _ else _) = _; rw [if_pos h]
theorem meld_ge {x y : Int × Int} {o p : List (Gn.Tre Lh)} (h : ltE y x = false) : meld (.node x o) (.node y p) = .node x (Gn.sIns o (.node y p)) := by show (if ltE y x = true then _ else _) = _; rw [if_neg (by rw [h]; simp)]
theorem Lh.all_length (h : Lh) : h.all.length = h.size := (size_all h).symm
theorem one_all (x : Int × Int) : (Lh.one x).all = [x] := by rw [Lh.one, all_node]; rfl
theorem one_size (x : Int × Int) : (Lh.one x).size = 1 := by rw [size_all, one_all]; rfl
theorem meld_all (a b : Lh) : (meld a b).all.Perm (a.all ++ b.all) := by
  cases a with
  | nil => rw [meld_nil, all_nil]; exact List.Perm.refl _
  | node x o =>
    cases b with
    | nil => rw [meld_right, all_nil, List.append_nil]
    | node y p =>
      by_cases hl : ltE y x = true
      · rw [meld_lt hl, all_node y, all_node y]
        have h1 := (Gn.sIns_all p (.node x o)).flatMap_right Lh.all
        rw [List.flatMap_cons] at h1
        exact (List.Perm.cons y h1).trans List.perm_middle.symm
      · rw [meld_ge (by simpa using hl), all_node x, all_node x]
        have h1 := (Gn.sIns_all o (.node y p)).flatMap_right Lh.all
        rw [List.flatMap_cons] at h1
        rw [List.cons_append]
        exact List.Perm.cons x (h1.trans List.perm_append_comm)
theorem insert_all (h : Lh) (x : Int × Int) : (h.insert x).all.Perm (x :: h.all) := by
  have := meld_all (.one x) h
  rw [one_all] at this
  exact this
theorem insert_size (h : Lh) (x : Int × Int) : (h.insert x).size = h.size + 1 := by
  have := (insert_all h x).length_eq
  rwa [List.length_cons, Lh.all_length, Lh.all_length] at this
theorem meld_size (a b : Lh) : (meld a b).size = a.size + b.size := by
  have := (meld_all a b).length_eq
  rwa [List.length_append, Lh.all_length, Lh.all_length, Lh.all_length] at this
theorem meld_le (a b : Lh) : meldC a b ≤ 3 ∧ meldM a b ≤ 3 := by
  cases a with
  | nil => exact ⟨Nat.zero_le _, Nat.zero_le _⟩
  | node x o =>
    cases b with
    | nil => exact ⟨Nat.zero_le _, Nat.zero_le _⟩
    | node y p =>
      have h1 := Gn.sInsN_le o
      have h2 := Gn.sInsN_le p
      have h3 := (Gn.sInsM_le o).1
      have h4 := (Gn.sInsM_le p).1
      simp only [meldC, meldM]
      split <;> omega
theorem insC_le (h : Lh) (x : Int × Int) : h.insC x ≤ 3 := (meld_le _ _).1
theorem insM_le (h : Lh) (x : Int × Int) : h.insM x ≤ 4 := by have := (meld_le (.one x) h).2; unfold Lh.insM; omega
theorem fold_all : ∀ (l : List (Int × Int)) (h : Lh), (l.foldl Lh.insert h).all.Perm (h.all ++ l)
  | [], h => by simp
  | x :: r, h => by
    rw [List.foldl_cons]
    refine (fold_all r (h.insert x)).trans (((insert_all h x).append_right r).trans ?_)
    exact (List.perm_middle (a := x) (l₁ := h.all) (l₂ := r)).symm
theorem ofL_all (l : List (Int × Int)) : (ofL l).all.Perm l := by have := fold_all l .nil; rwa [all_nil] at this
theorem ofL_size (l : List (Int × Int)) : (ofL l).size = l.length := by rw [← Lh.all_length]; exact (ofL_all l).length_eq
theorem ofL_snoc (l : List (Int × Int)) (x : Int × Int) : ofL (l ++ [x]) = (ofL l).insert x := by simp [ofL]
theorem putC_snoc : ∀ (l : List (Int × Int)) (h : Lh) (x : Int × Int), putC h (l ++ [x]) = putC h l + (l.foldl Lh.insert h).insC x
  | [], h, x => by simp [putC]
  | y :: l, h, x => by simp only [List.cons_append, putC, List.foldl_cons]; rw [putC_snoc l (h.insert y) x]; omega
theorem putM_snoc : ∀ (l : List (Int × Int)) (h : Lh) (x : Int × Int), putM h (l ++ [x]) = putM h l + (l.foldl Lh.insert h).insM x
  | [], h, x => by simp [putM]
  | y :: l, h, x => by simp only [List.cons_append, putM, List.foldl_cons]; rw [putM_snoc l (h.insert y) x]; omega
theorem put_le : ∀ (l : List (Int × Int)) (h : Lh), putC h l ≤ 4 * l.length ∧ putM h l ≤ 4 * l.length
  | [], _ => ⟨Nat.le_refl _, Nat.le_refl _⟩
  | x :: r, h => by
    have h1 := put_le r (h.insert x)
    have h2 := insC_le h x
    have h3 := insM_le h x
    simp only [putC, putM, List.length_cons]
    omega
/-- The queue is one, of heaps that are none of them empty, no one's root stands ahead of the root, and they are such themselves. -/
inductive Lh.ok : Lh → Prop
  | nil : Lh.ok .nil
  | node {x : Int × Int} {q : List (Gn.Tre Lh)} (hq : Gn.sOk q) (hb : ∀ b ∈ Gn.bAll q, b.ok) (hn : ∀ b ∈ Gn.bAll q, b.some = true ∧ ltE b.key x = false) : Lh.ok (.node x q)
theorem ok_nil : Lh.ok .nil := .nil
theorem one_ok (x : Int × Int) : (Lh.one x).ok := .node Gn.sok_nil (by intro b hb; cases hb) (by intro b hb; cases hb)
theorem meld_ok (a b : Lh) (ha : a.ok) (hb : b.ok) : (meld a b).ok := by
  cases a with
  | nil => exact hb
  | node x o =>
    cases b with
    | nil => exact ha
    | node y p =>
      by_cases hl : ltE y x = true
      · rw [meld_lt hl]
        cases hb with | node p1 p2 p3 => ?_
        refine .node (Gn.sok_ins _ p1) (fun e he => ?_) fun e he => ?_
        · rcases List.mem_cons.1 ((Gn.sIns_all p _).subset he) with rfl | h
          · exact ha
          · exact p2 e h
        · rcases List.mem_cons.1 ((Gn.sIns_all p _).subset he) with rfl | h
          · exact ⟨rfl, ltE_asym hl⟩
          · exact p3 e h
      · have hl' : ltE y x = false := by simpa using hl
        rw [meld_ge hl']
        cases ha with | node p1 p2 p3 => ?_
        refine .node (Gn.sok_ins _ p1) (fun e he => ?_) fun e he => ?_
        · rcases List.mem_cons.1 ((Gn.sIns_all o _).subset he) with rfl | h
          · exact hb
          · exact p2 e h
        · rcases List.mem_cons.1 ((Gn.sIns_all o _).subset he) with rfl | h
          · exact ⟨rfl, hl'⟩
          · exact p3 e h
theorem insert_ok {h : Lh} (x : Int × Int) (hk : h.ok) : (h.insert x).ok := meld_ok _ _ (one_ok x) hk
theorem fold_ok : ∀ (l : List (Int × Int)) (h : Lh), h.ok → (l.foldl Lh.insert h).ok
  | [], _, hk => hk
  | x :: r, h, hk => fold_ok r (h.insert x) (insert_ok x hk)
theorem ofL_ok (l : List (Int × Int)) : (ofL l).ok := fold_ok l .nil ok_nil
/-- No element stands ahead of the root. -/
theorem ok_le {h : Lh} (hk : h.ok) : ∀ e ∈ h.all, ltE e h.key = false := by
  induction hk with
  | nil => intro e he; rw [all_nil] at he; cases he
  | node hq hb hn ih =>
    intro e he
    rw [all_node] at he
    rcases List.mem_cons.1 he with rfl | he
    · exact swoE.irrefl _
    · obtain ⟨b, h1, h2⟩ := List.mem_flatMap.1 he
      exact swoE.ntrans _ _ _ (ih b h1 e h2) (hn b h1).2
/-- A heap that isn't empty: its root, and the queue. -/
theorem some_node {h : Lh} (hs : h.some = true) : h = .node h.key h.queue := by
  cases h with
  | nil => cases hs
  | node x q => rfl
theorem least_mem {t : Gn.Tre Lh} {r : List (Gn.Tre Lh)} : least (t :: r) ∈ Gn.bAll (t :: r) := (Gn.spop_all (h := t :: r) (by simp)).symm.subset (List.mem_cons_self ..)
/-- What is left of the queue. -/
theorem left_mem {t : Gn.Tre Lh} {r : List (Gn.Tre Lh)} {b : Lh} (h : b ∈ Gn.bAll (Gn.sPop (t :: r))) : b ∈ Gn.bAll (t :: r) := (Gn.spop_all (h := t :: r) (by simp)).symm.subset (List.mem_cons_of_mem _ h)
theorem pop_ok {h : Lh} (hk : h.ok) : h.pop.ok := by
  cases h with
  | nil => exact hk
  | node x q =>
    cases q with
    | nil => exact ok_nil
    | cons t r =>
      cases hk with | node hq hb hn => ?_
      have hf := hb _ (least_mem (t := t) (r := r))
      have hs := some_node (hn _ (least_mem (t := t) (r := r))).1
      have hf2 := hf
      rw [hs] at hf2
      cases hf2 with | node f1 f2 f3 => ?_
      refine .node (Gn.sok_meld f1 (Gn.sok_pop hq)) (fun e he => ?_) fun e he => ?_
      · rcases List.mem_append.1 ((Gn.smeld_all _ _).subset he) with h | h
        · exact f2 e h
        · exact hb e (left_mem h)
      · rcases List.mem_append.1 ((Gn.smeld_all _ _).subset he) with h | h
        · exact f3 e h
        · exact ⟨(hn e (left_mem h)).1, Gn.bmin_least hq.hok (by simp) e (left_mem h)⟩
theorem pop_all {x : Int × Int} {q : List (Gn.Tre Lh)} (hk : (Lh.node x q).ok) : ((Gn.bAll q).flatMap Lh.all).Perm (Lh.node x q).pop.all := by
  cases q with
  | nil => show List.Perm [] (Lh.all .nil); rw [all_nil]
  | cons t r =>
    cases hk with | node hq hb hn => ?_
    have hs := some_node (hn _ (least_mem (t := t) (r := r))).1
    have h1 := (Gn.spop_all (h := t :: r) (by simp)).flatMap_right Lh.all
    have h2 := (Gn.smeld_all (least (t :: r)).queue (Gn.sPop (t :: r))).flatMap_right Lh.all
    rw [List.flatMap_append] at h2
    rw [List.flatMap_cons, show (Gn.bMin (t :: r)).1 = least (t :: r) from rfl] at h1
    refine h1.trans ?_
    show List.Perm _ (Lh.node _ _).all
    rw [all_node]
    refine List.Perm.trans ?_ (List.Perm.cons _ h2.symm)
    conv => lhs; rw [hs, all_node]
    exact List.Perm.refl _
theorem Lh.size_nil {h : Lh} (hz : h.size = 0) : h = .nil := by
  cases h with
  | nil => rfl
  | node x o => rw [size_all, all_node, List.length_cons] at hz; omega
theorem pop_size {h : Lh} (hk : h.ok) : h.pop.size = h.size - 1 := by
  cases h with
  | nil => rfl
  | node x o =>
    have := (pop_all hk).length_eq
    rw [Lh.all_length] at this
    rw [← this, size_all, all_node, List.length_cons]
    omega
/-- What a walk asks of a heap. -/
structure Lh.good (h : Lh) : Prop where
  ok : h.ok
  fit : fits h.all
theorem good_nil : Lh.good .nil := ⟨ok_nil, by rw [all_nil]; exact fits.nil⟩
theorem good_meld {a b : Lh} (ha : a.good) (hb : b.good) : (meld a b).good := ⟨meld_ok _ _ ha.ok hb.ok, (ha.fit.join hb.fit).perm (meld_all a b).symm⟩
theorem good_one {x : Int × Int} (h : in64 x.1 ∧ in64 x.2) : (Lh.one x).good := ⟨one_ok x, by rw [one_all]; exact fits.more h fits.nil⟩
theorem good_insert {a : Lh} {x : Int × Int} (ha : a.good) (h : in64 x.1 ∧ in64 x.2) : (a.insert x).good := ⟨insert_ok x ha.ok, (fits.more h ha.fit).perm (insert_all a x).symm⟩
theorem good_of {l : List (Int × Int)} (h : fits l) : (ofL l).good := ⟨ofL_ok l, h.perm (ofL_all l).symm⟩
theorem good_pop {a : Lh} (ha : a.good) : a.pop.good := ⟨pop_ok ha.ok, by
  cases a with
  | nil => show fits (Lh.all .nil); rw [all_nil]; exact fits.nil
  | node x o =>
    have h := ha.fit
    rw [all_node] at h
    exact h.cons.2.perm (pop_all ha.ok)⟩
theorem srt_meld (a b : Lh) : srt (meld a b).all = srt (a.all ++ b.all) := srt_perm (meld_all a b)
theorem srt_insert (a : Lh) (x : Int × Int) : srt (a.insert x).all = srt (x :: a.all) := srt_perm (insert_all a x)
theorem srt_of (l : List (Int × Int)) : srt (ofL l).all = srt l := srt_perm (ofL_all l)
/-- All elements in order: the root, then those of what is left. -/
theorem ok_srt {h : Lh} (hk : h.ok) (hne : h.min.2 = true) : srt h.all = h.min.1 :: srt h.pop.all := by
  cases h with
  | nil => cases hne
  | node x o =>
    rw [all_node]
    have h1 : ∀ e ∈ (Gn.bAll o).flatMap Lh.all, ltE e x = false := fun e he => ok_le hk e (by rw [all_node]; exact List.mem_cons_of_mem _ he)
    rw [srt_cons h1, srt_perm (pop_all hk)]
    rfl
theorem srt_pop {a : Lh} (h : a.ok) : srt a.pop.all = (srt a.all).tail := by
  cases a with
  | nil => show srt (Lh.all .nil) = (srt (Lh.all .nil)).tail; rw [all_nil]; simp [srt_nil]
  | node x o => rw [ok_srt h rfl]; rfl
theorem some_pos (t : Lh) : t.some = decide (0 < t.size) := by
  cases t with
  | nil => rw [size_all, all_nil]; rfl
  | node x o => rw [size_all, all_node]; exact (decide_eq_true (Nat.succ_pos _)).symm
theorem min_some (t : Lh) : t.min.2 = t.some := rfl
theorem min_two (t : Lh) : t.min.2 = decide (0 < t.size) := by rw [min_some, some_pos]
/-- How many elements a queue's heaps have: one each at least. -/
theorem queue_le : ∀ (l : List Lh), (∀ b ∈ l, b.some = true) → l.length ≤ (l.flatMap Lh.all).length
  | [], _ => Nat.le_refl _
  | b :: r, h => by
    have h1 := queue_le r fun e he => h e (List.mem_cons_of_mem _ he)
    have h2 := h b (List.mem_cons_self ..)
    rw [some_pos, size_all] at h2
    have h3 : 0 < b.all.length := of_decide_eq_true h2
    rw [List.flatMap_cons, List.length_append, List.length_cons]
    omega
/-- The trees of rising ranks, from k on, hold so many things. -/
theorem rise_size : ∀ (l : List (Gn.Tre Lh)) (k : Nat), (∀ t ∈ l, t.sk) → (∀ t ∈ l, k ≤ t.rank) → l.Pairwise (fun a b => a.rank < b.rank) → 2 ^ (k + l.length) ≤ 2 ^ k + Gn.bSize l
  | [], k, _, _, _ => by simp
  | t :: r, k, h1, h2, h3 => by
    obtain ⟨p1, p2⟩ := List.pairwise_cons.1 h3
    have h4 := rise_size r (k + 1) (fun u hu => h1 u (List.mem_cons_of_mem _ hu)) (fun u hu => by have := p1 u hu; have := h2 t (List.mem_cons_self ..); omega) p2
    have h5 := (h1 t (List.mem_cons_self ..)).sizes.1
    have h6 : 2 ^ k ≤ 2 ^ t.rank := Nat.pow_le_pow_right (by omega) (h2 t (List.mem_cons_self ..))
    rw [show k + 1 + r.length = k + (r.length + 1) from by omega, show 2 ^ (k + 1) = 2 ^ k + 2 ^ k from by rw [Nat.pow_succ]; omega] at h4
    simp only [List.length_cons, Gn.bSize]
    omega
/-- How many trees a queue has: no more than its size has bits. -/
theorem trees_le {q : List (Gn.Tre Lh)} (hq : Gn.sOk q) {n : Nat} (hn : Gn.bSize q < 2 ^ n) : q.length ≤ n := by
  cases q with
  | nil => exact Nat.zero_le _
  | cons t r =>
    have h1 := rise_size r t.rank (fun u hu => hq.sk u (List.mem_cons_of_mem _ hu)) hq.up.1 hq.up.2
    have h2 := (hq.sk t (List.mem_cons_self ..)).sizes.1
    simp only [Gn.bSize] at hn
    have h3 : 2 ^ r.length ≤ 2 ^ (t.rank + r.length) := Nat.pow_le_pow_right (by omega) (by omega)
    have h4 : 2 ^ r.length < 2 ^ n := by omega
    have := (Nat.pow_lt_pow_iff_right (by omega)).1 h4
    simp only [List.length_cons]
    omega
/-- How many steps taking one out makes, in bits. -/
theorem ok_popN {t : Lh} (hk : t.ok) {q : Nat} (hq : t.size < 2 ^ q) : t.popC + t.popM ≤ 14 * q := by
  cases t with
  | nil => exact Nat.zero_le _
  | node x o =>
    cases o with
    | nil => exact Nat.zero_le _
    | cons t r =>
      cases hk with | node h1 h2 h3 => ?_
      have hm := least_mem (t := t) (r := r)
      have hs := some_node (h3 _ hm).1
      have hf := h2 _ hm
      rw [hs] at hf
      cases hf with | node f1 f2 f3 => ?_
      have l1 := queue_le _ fun b hb => (h3 b hb).1
      have l2 := queue_le _ fun b hb => (f3 b hb).1
      have l3 : ((Gn.bAll (least (t :: r)).queue).flatMap Lh.all).length + 1 ≤ ((Gn.bAll (t :: r)).flatMap Lh.all).length := by
        have e := ((Gn.spop_all (h := t :: r) (by simp)).flatMap_right Lh.all).length_eq
        rw [List.flatMap_cons, List.length_append, show (Gn.bMin (t :: r)).1 = least (t :: r) from rfl] at e
        have e2 : (least (t :: r)).all.length = ((Gn.bAll (least (t :: r)).queue).flatMap Lh.all).length + 1 := by conv => lhs; rw [hs, all_node, List.length_cons]
        omega
      rw [size_all, all_node, List.length_cons] at hq
      rw [Gn.bAll_length] at l1 l2
      have hsz : Gn.bSize (t :: r) < 2 ^ q := by omega
      have hpz : Gn.bSize (least (t :: r)).queue < 2 ^ q := by omega
      have hlz : Gn.bSize (Gn.sPop (t :: r)) < 2 ^ q := by have := Gn.spop_size (h := t :: r) (by simp); omega
      have b1 := trees_le h1 hsz
      have b2 := trees_le f1 hpz
      have b3 := trees_le (Gn.sok_pop h1) hlz
      have b4 := Gn.spop_le h1 hsz
      have b5 := Gn.smeldN_le (least (t :: r)).queue (Gn.sPop (t :: r))
      simp only [List.length_cons] at b1
      simp only [Lh.popC, Lh.popM]
      omega
theorem good_popN {t : Lh} (h : t.good) {q : Nat} (hq : t.size < 2 ^ q) : t.popC + t.popM ≤ 14 * q := ok_popN h.ok hq
theorem pop_counts {t : Lh} (hk : t.ok) (hs : t.size < 128) : t.popC + t.popM ≤ 98 := ok_popN hk (q := 7) hs

end Go.Proofs.YtlmokendajgbdaaGreatDoor.Bo
namespace Go.Proofs.YtlmokendajgbdaaGreatDoor.Bo
open Go.Sort Go.RowKit Go.Proofs.YtlmokendajgbdaaGreatDoor.Gn

theorem size_0 {t : Lh} (h : t.min.2 = false) : t.all = [] := by
  have h1 := min_two t
  rw [h] at h1
  have h2 : t.size = 0 := by simpa using h1.symm
  exact List.eq_nil_of_length_eq_zero (by rw [Lh.all_length]; exact h2)
theorem one_pop (x : Int × Int) : Lh.pop (.one x) = .nil := rfl
theorem min_le {t : Lh} (h : t.ok) : ∀ e ∈ t.all, ltE e t.min.1 = false := by
  intro e he
  cases hm : t.min.2 with
  | false => rw [size_0 hm] at he; cases he
  | true =>
    have h1 := ok_srt h hm
    have h2 := (srt_spec t.all).1
    have h3 := srt_mem.2 he
    rw [h1] at h2 h3
    rcases List.mem_cons.1 h3 with rfl | h4
    · exact swoE.irrefl _
    · have := (List.pairwise_cons.1 h2).1 e h4
      simpa using this
theorem below_all {t : Lh} (h : t.ok) {x : Int × Int} (hx : t.min.2 = false ∨ ltE x t.min.1 = true) : ∀ e ∈ t.all, ltE e x = false := by
  intro e he
  rcases hx with hx | hx
  · rw [size_0 hx] at he; cases he
  · have h1 := min_le h e he
    rw [ltE_not] at h1 ⊢
    rw [ltE_iff] at hx
    omega
theorem ins_some (t : Lh) (x : Int × Int) : (t.insert x).min.2 = true := by rw [min_two, insert_size]; simp
/-- With an element more the least one is that, if it stands ahead of the least one or there is none. -/
theorem min_first {t : Lh} (h : t.ok) {x : Int × Int} (hx : t.min.2 = false ∨ ltE x t.min.1 = true) : (t.insert x).min = (x, true) := by
  have h1 := ok_srt (insert_ok x h) (ins_some t x)
  rw [srt_insert, srt_cons (below_all h hx)] at h1
  have h2 : x = (t.insert x).min.1 := (List.cons.inj h1).1
  exact Prod.ext h2.symm (ins_some t x)
/-- A heap's elements: the least one, and the others. -/
theorem srt_more {t : Lh} (h : t.ok) {x : Int × Int} (h1 : t.min.2 = true) (h2 : ltE x t.min.1 = false) : srt (x :: t.all) = t.min.1 :: srt (x :: t.pop.all) := by
  have e1 : (x :: t.all).Perm (t.min.1 :: x :: t.pop.all) := by
    have e2 : t.all.Perm (t.min.1 :: t.pop.all) := by
      have h3 := ok_srt h h1
      exact ((srt_spec t.all).2.symm.trans (h3 ▸ List.Perm.refl _)).trans ((srt_spec t.pop.all).2.cons _)
    exact (e2.cons x).trans (List.Perm.swap _ _ _)
  rw [srt_perm e1]
  refine srt_cons (fun e he => ?_)
  rcases List.mem_cons.1 he with rfl | he
  · exact h2
  · refine min_le h e ?_
    have h3 := ok_srt h h1
    exact srt_mem.1 (h3 ▸ List.mem_cons_of_mem _ (srt_mem.2 he))
/-- .. else the least one. -/
theorem min_other {t : Lh} (h : t.ok) {x : Int × Int} (h1 : t.min.2 = true) (h2 : ltE x t.min.1 = false) : (t.insert x).min = (t.min.1, true) := by
  have h3 := ok_srt (insert_ok x h) (ins_some t x)
  rw [srt_insert, srt_more h h1 h2] at h3
  exact Prod.ext (List.cons.inj h3).1.symm (ins_some t x)
/-- What is left without the least one. -/
theorem left_first {t : Lh} (h : t.ok) {x : Int × Int} (hx : t.min.2 = false ∨ ltE x t.min.1 = true) : srt (t.insert x).pop.all = srt t.all := by
  rw [srt_pop (insert_ok x h), srt_insert, srt_cons (below_all h hx)]
  rfl
theorem left_other {t : Lh} (h : t.ok) {x : Int × Int} (h1 : t.min.2 = true) (h2 : ltE x t.min.1 = false) : srt (t.insert x).pop.all = putL (srt t.all).tail x := by
  rw [srt_pop (insert_ok x h), srt_insert, srt_more h h1 h2, ok_srt h h1, List.tail_cons, List.tail_cons, putL_srt]


theorem text_d (d : Nat) (h : d < 10) : textOf (d : Int) 0 = [UInt8.ofNat (48 + d), 58, 48] := by
  unfold textOf Lib.itoa
  rw [if_neg (by omega), if_neg (by omega)]
  rw [show (d : Int).toNat = d from by omega, show (0 : Int).toNat = 0 from rfl, Lib.decDigits_one h, Lib.decDigits_one (by omega)]
  rfl
/-- The example's heap. -/
def exQ : List (Gn.Tre Lh) := [Gn.leafT (Lh.one (3, 0)), Gn.leafT (Lh.one (2, 0))]
def exH : Lh := .node (1, 0) exQ
theorem ex_two : (Lh.one (2, 0)).insert (1, 0) = .node (1, 0) [Gn.leafT (Lh.one (2, 0))] := by
  have h : ltE (2, 0) (1, 0) = false := by rw [ltE_not]; simp
  show meld (.node (1, 0) []) (.node (2, 0) []) = _
  rw [meld_ge h]
  rfl
theorem ex_of : ofL [(2, 0), (1, 0), (3, 0)] = exH := by
  show (((Lh.one (2, 0)).insert (1, 0)).insert (3, 0)) = exH
  have h : ltE (1, 0) (3, 0) = true := by rw [ltE_iff]; simp
  rw [ex_two]
  show meld (.node (3, 0) []) (.node (1, 0) [Gn.leafT (Lh.one (2, 0))]) = _
  rw [meld_lt h]
  rfl
theorem ex_put : putC .nil [(2, 0), (1, 0), (3, 0)] = 2 ∧ putM .nil [(2, 0), (1, 0), (3, 0)] = 7 := by
  have h1 : ¬ ltE (2, 0) (1, 0) = true := by rw [show ltE (2, 0) (1, 0) = false from by rw [ltE_not]; simp]; simp
  have h2 : ltE (1, 0) (3, 0) = true := by rw [ltE_iff]; simp
  refine ⟨?_, ?_⟩
  · show 0 + ((Lh.one (2, 0)).insC (1, 0) + (((Lh.one (2, 0)).insert (1, 0)).insC (3, 0) + 0)) = 2
    rw [ex_two]
    show 0 + ((if ltE (2, 0) (1, 0) = true then Gn.sInsN ([] : List (Gn.Tre Lh)) + 1 else Gn.sInsN ([] : List (Gn.Tre Lh)) + 1) + ((if ltE (1, 0) (3, 0) = true then Gn.sInsN [Gn.leafT (Lh.one (2, 0))] + 1 else Gn.sInsN ([] : List (Gn.Tre Lh)) + 1) + 0)) = 2
    rw [if_neg h1, if_pos h2]; rfl
  · show 1 + ((Lh.one (2, 0)).insM (1, 0) + (((Lh.one (2, 0)).insert (1, 0)).insM (3, 0) + 0)) = 7
    rw [ex_two]
    show 1 + (((if ltE (2, 0) (1, 0) = true then Gn.sInsM ([] : List (Gn.Tre Lh)) + 1 else Gn.sInsM ([] : List (Gn.Tre Lh)) + 1) + 1) + (((if ltE (1, 0) (3, 0) = true then Gn.sInsM [Gn.leafT (Lh.one (2, 0))] + 1 else Gn.sInsM ([] : List (Gn.Tre Lh)) + 1) + 1) + 0)) = 7
    rw [if_neg h1, if_pos h2]; rfl
theorem ex_min : exH.min = ((1, 0), true) := rfl
theorem ex_olt : Gn.ltK (Gn.rootAt exQ 1) (Gn.rootAt exQ 0) = true := by
  show ltE (2, 0) (3, 0) = true
  rw [ltE_iff]; simp
theorem ex_oat : Gn.leastI exQ = 1 := by
  show Gn.leastK _ 1 = 1
  unfold Gn.leastK Gn.leastK
  rw [if_pos ex_olt]
theorem ex_omin : least exQ = .one (2, 0) := by
  show Gn.rootAt exQ (Gn.leastI exQ) = _
  rw [ex_oat]; rfl
/-- .. without its least element. -/
def exG : Lh := .node (2, 0) [Gn.leafT (Lh.one (3, 0))]
theorem ex_opop : Gn.sPop exQ = [Gn.leafT (Lh.one (3, 0))] := by
  show ((Gn.besAt exQ (Gn.leastI exQ)).foldl Gn.sIns (Gn.sBase exQ (Gn.leastI exQ))) = _
  rw [ex_oat]
  show Gn.bmeld [] (Gn.levT [Gn.leafT (Lh.one (3, 0))]) = _
  rw [Gn.bmeld_nil]; rfl
theorem ex_opopN : Gn.sPopN exQ = 0 ∧ Gn.sPopM exQ = 0 := by
  refine ⟨?_, ?_⟩
  · show Gn.sBaseN exQ (Gn.leastI exQ) + Gn.sPutN (Gn.sBase exQ (Gn.leastI exQ)) (Gn.besAt exQ (Gn.leastI exQ)) = 0
    rw [ex_oat]
    show Gn.levN [Gn.leafT (Lh.one (3, 0))] + Gn.bmeldN [] (Gn.levT [Gn.leafT (Lh.one (3, 0))]) + 0 = 0
    rw [Gn.bmeldN_nil]; rfl
  · show Gn.sBaseN exQ (Gn.leastI exQ) + Gn.sPutM (Gn.sBase exQ (Gn.leastI exQ)) (Gn.besAt exQ (Gn.leastI exQ)) = 0
    rw [ex_oat]
    show Gn.levN [Gn.leafT (Lh.one (3, 0))] + Gn.bmeldN [] (Gn.levT [Gn.leafT (Lh.one (3, 0))]) + 0 = 0
    rw [Gn.bmeldN_nil]; rfl
theorem ex_meld : Gn.smeld (Lh.one (2, 0)).queue [Gn.leafT (Lh.one (3, 0))] = [Gn.leafT (Lh.one (3, 0))] ∧ Gn.smeldN (Lh.one (2, 0)).queue [Gn.leafT (Lh.one (3, 0))] = 0 := by
  refine ⟨?_, ?_⟩
  · show Gn.bmeld [] (Gn.levT [Gn.leafT (Lh.one (3, 0))]) = _
    rw [Gn.bmeld_nil]; rfl
  · show 0 + Gn.levN [Gn.leafT (Lh.one (3, 0))] + Gn.bmeldN [] (Gn.levT [Gn.leafT (Lh.one (3, 0))]) = 0
    rw [Gn.bmeldN_nil]; rfl
theorem ex_pop : exH.pop = exG := by
  show Lh.node (least exQ).key (Gn.smeld (least exQ).queue (Gn.sPop exQ)) = _
  rw [ex_omin, ex_opop, ex_meld.1]
  rfl
theorem ex_gmin : exG.min = ((2, 0), true) := rfl
theorem ex_popN : exH.popC = 2 ∧ exH.popM = 1 := by
  refine ⟨?_, ?_⟩
  · show 1 + (Gn.sPopN exQ + 1) + Gn.smeldN (least exQ).queue (Gn.sPop exQ) = 2
    rw [ex_omin, ex_opop, ex_meld.2, ex_opopN.1]
  · show Gn.sPopM exQ + Gn.smeldN (least exQ).queue (Gn.sPop exQ) + 1 = 1
    rw [ex_omin, ex_opop, ex_meld.2, ex_opopN.2]
theorem ex_all : Gn.bAll exQ = [.one (3, 0), .one (2, 0)] := rfl
theorem ex_show : exH.show = [91, 49, 58, 48, 32, 91, 51, 58, 48, 93, 32, 91, 50, 58, 48, 93, 93] := by
  have h1 := text_d 1 (by omega)
  have h2 := text_d 2 (by omega)
  have h3 := text_d 3 (by omega)
  rw [show ((1 : Nat) : Int) = 1 from rfl] at h1
  rw [show ((2 : Nat) : Int) = 2 from rfl] at h2
  rw [show ((3 : Nat) : Int) = 3 from rfl] at h3
  unfold exH
  rw [show_node, ex_all]
  simp only [List.flatMap_cons, List.flatMap_nil]
  unfold Lh.one
  rw [show_node, show_node]
  simp only [Gn.bAll, List.flatMap_nil, List.append_nil]
  rw [h1, h2, h3]
  rfl
theorem ex_elems : exH.all = [(1, 0), (3, 0), (2, 0)] := by
  unfold exH
  rw [all_node, ex_all]
  simp only [List.flatMap_cons, List.flatMap_nil, one_all]
  rfl
theorem ex_size : exH.size = 3 := by rw [size_all, ex_elems]; rfl
theorem exG_size : exG.size = 2 := by
  unfold exG
  rw [size_all, all_node]
  simp only [Gn.bAll, List.flatMap_cons, List.flatMap_nil, Gn.leafT, Gn.Tre.all, Gn.Wood.all, List.append_nil, one_all]
  rfl
theorem nil_size : Lh.size .nil = 0 := by rw [size_all, all_nil]; rfl
theorem ex_fits : fits exH.all := by
  intro e he
  rw [ex_elems] at he
  simp at he
  rcases he with rfl | rfl | rfl <;> simp [in64]

end Go.Proofs.YtlmokendajgbdaaGreatDoor.Bo
