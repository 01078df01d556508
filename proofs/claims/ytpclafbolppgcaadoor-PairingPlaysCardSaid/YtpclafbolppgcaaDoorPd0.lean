/-
  Plain facts, of no program: pairing heaps as data under the names that the laws' walks use (those of layer 6's): melded, put in, of a row, paired, the least one taken out: elements, order, sizes, counts, texts. No conditions.
-/
import Derived.Test.YtpclafbolppgcaaDoorMc
namespace Go.Proofs.YtpclafbolppgcaaDoor
open Go.Sort Go.RowKit

/-- A row of nodes: the first one's root, its kids, the nodes behind it. -/
inductive Kd
  | nil
  | cons (x : Int × Int) (ks rest : Kd)
/-- A heap: none, or a root and kids. -/
inductive Lh
  | nil
  | node (x : Int × Int) (ks : Kd)
def Kd.len : Kd → Nat
  | .nil => 0
  | .cons _ _ r => r.len + 1
def Kd.size : Kd → Nat
  | .nil => 0
  | .cons _ ks r => 1 + ks.size + r.size
def Kd.all : Kd → List (Int × Int)
  | .nil => []
  | .cons x ks r => (x :: ks.all) ++ r.all
/-- A row's text: a blank ahead of each. -/
def Kd.show : Kd → List UInt8
  | .nil => []
  | .cons x ks r => (32 :: 40 :: (textOf x.1 x.2 ++ (ks.show ++ [41]))) ++ r.show
/-- Does no kid stand ahead of its root? -/
def Kd.ok : Kd → Prop
  | .nil => True
  | .cons x ks r => (∀ e ∈ ks.all, ltE e x = false) ∧ ks.ok ∧ r.ok
def Lh.size : Lh → Nat
  | .nil => 0
  | .node _ ks => 1 + ks.size
def Lh.all : Lh → List (Int × Int)
  | .nil => []
  | .node x ks => x :: ks.all
def Lh.show : Lh → List UInt8
  | .nil => [46]
  | .node x ks => 40 :: (textOf x.1 x.2 ++ (ks.show ++ [41]))
def Lh.min : Lh → (Int × Int) × Bool
  | .nil => ((0, 0), false)
  | .node x _ => (x, true)
def Lh.some (h : Lh) : Bool := h.min.2
def Lh.ok : Lh → Prop
  | .nil => True
  | .node x ks => (∀ e ∈ ks.all, ltE e x = false) ∧ ks.ok
def Lh.one (x : Int × Int) : Lh := .node x .nil
def meld : Lh → Lh → Lh
  | .nil, o => o
  | .node x ks, .nil => .node x ks
  | .node x ks, .node y ls => if ltE y x = true then .node y (.cons x ks ls) else .node x (.cons y ls ks)
/-- How many comparisons, and as many nodes. -/
def meldN : Lh → Lh → Nat
  | .node _ _, .node _ _ => 1
  | _, _ => 0
def Lh.insert (h : Lh) (x : Int × Int) : Lh := meld (.one x) h
/-- Kids paired. -/
def Kd.pair : Kd → Lh
  | .nil => .nil
  | .cons x ks .nil => .node x ks
  | .cons x ks (.cons y ls r) => meld (meld (.node x ks) (.node y ls)) r.pair
def Kd.pairN : Kd → Nat
  | .nil => 0
  | .cons _ _ .nil => 0
  | .cons x ks (.cons y ls r) => meldN (.node x ks) (.node y ls) + r.pairN + meldN (meld (.node x ks) (.node y ls)) r.pair
def Lh.pop : Lh → Lh
  | .nil => .nil
  | .node _ ks => ks.pair
def Lh.popN : Lh → Nat
  | .nil => 0
  | .node _ ks => ks.pairN
def ofL (l : List (Int × Int)) : Lh := l.foldl Lh.insert .nil
def putN : Lh → List (Int × Int) → Nat
  | _, [] => 0
  | h, x :: r => meldN (.one x) h + putN (h.insert x) r

theorem Kd.len_le : ∀ w : Kd, w.len ≤ w.size
  | .nil => Nat.le_refl _
  | .cons _ _ r => by have := r.len_le; simp only [Kd.len, Kd.size]; omega
theorem Kd.all_length : ∀ w : Kd, w.all.length = w.size
  | .nil => rfl
  | .cons x ks r => by simp only [Kd.all, Kd.size, List.length_append, List.length_cons, ks.all_length, r.all_length]; omega
theorem Lh.all_length : ∀ h : Lh, h.all.length = h.size
  | .nil => rfl
  | .node x ks => by simp only [Lh.all, Lh.size, List.length_cons, ks.all_length]; omega
theorem Kd.show_length : ∀ w : Kd, fits w.all → w.show.length ≤ 46 * w.size
  | .nil, _ => by simp [Kd.show]
  | .cons x ks r, h => by
    have h0 := (h.append).1.cons
    have h1 := textOf_length x.1 x.2 h0.1.1 h0.1.2
    have h3 := ks.show_length h0.2
    have h4 := r.show_length h.append.2
    simp only [Kd.show, Kd.size, List.length_append, List.length_cons, List.length_nil] at *
    omega
theorem Lh.show_length : ∀ h : Lh, fits h.all → h.show.length ≤ 46 * h.size + 1
  | .nil, _ => by simp [Lh.show]
  | .node x ks, h => by
    have h0 := h.cons
    have h1 := textOf_length x.1 x.2 h0.1.1 h0.1.2
    have h3 := ks.show_length h0.2
    simp only [Lh.show, Lh.size, List.length_append, List.length_cons, List.length_nil] at *
    omega
theorem meld_nil (o : Lh) : meld .nil o = o := by cases o <;> rfl
theorem meld_right (h : Lh) : meld h .nil = h := by cases h <;> rfl
theorem meldN_nil (o : Lh) : meldN .nil o = 0 := by cases o <;> rfl
theorem meldN_right (h : Lh) : meldN h .nil = 0 := by cases h <;> rfl
theorem meld_lt {x y : Int × Int} {ks ls : Kd} (h : ltE y x = true) : meld (.node x ks) (.node y ls) = .node y (.cons x ks ls) := by simp only [meld]; rw [if_pos h]
theorem meld_ge {x y : Int × Int} {ks ls : Kd} (h : ltE y x = false) : meld (.node x ks) (.node y ls) = .node x (.cons y ls ks) := by simp only [meld]; rw [if_neg (by rw [h]; simp)]
theorem meldN_two (x y : Int × Int) (ks ls : Kd) : meldN (.node x ks) (.node y ls) = 1 := rfl
theorem meldN_le (a b : Lh) : meldN a b ≤ 1 := by cases a <;> cases b <;> simp [meldN]
theorem meld_all : ∀ a b : Lh, (meld a b).all.Perm (a.all ++ b.all)
  | .nil, b => by rw [meld_nil]; exact List.Perm.refl _
  | .node x ks, .nil => by rw [meld_right]; simp [Lh.all]
  | .node x ks, .node y ls => by
    cases h : ltE y x with
    | true =>
      rw [meld_lt h]
      simp only [Lh.all, Kd.all]
      exact (List.perm_middle (a := y) (l₁ := x :: ks.all) (l₂ := ls.all)).symm
    | false =>
      rw [meld_ge h]
      simp only [Lh.all, Kd.all, List.cons_append]
      refine List.Perm.cons x ?_
      exact (List.perm_append_comm (l₁ := y :: ls.all) (l₂ := ks.all)).trans (List.Perm.refl _)
theorem meld_size (a b : Lh) : (meld a b).size = a.size + b.size := by
  have h := (meld_all a b).length_eq
  rw [Lh.all_length, List.length_append, Lh.all_length, Lh.all_length] at h
  exact h
theorem one_all (x : Int × Int) : (Lh.one x).all = [x] := rfl
theorem one_size (x : Int × Int) : (Lh.one x).size = 1 := rfl
theorem insert_all (h : Lh) (x : Int × Int) : (h.insert x).all.Perm (x :: h.all) := meld_all _ _
theorem insert_size (h : Lh) (x : Int × Int) : (h.insert x).size = h.size + 1 := by unfold Lh.insert; rw [meld_size, one_size]; omega
theorem fold_all : ∀ (l : List (Int × Int)) (h : Lh), (l.foldl Lh.insert h).all.Perm (h.all ++ l)
  | [], h => by simp
  | x :: r, h => by
    refine (fold_all r (h.insert x)).trans ?_
    refine ((insert_all h x).append_right r).trans ?_
    simp only [List.cons_append]
    exact List.perm_middle.symm
theorem ofL_all (l : List (Int × Int)) : (ofL l).all.Perm l := by have := fold_all l .nil; simpa [Lh.all, ofL] using this
theorem ofL_size (l : List (Int × Int)) : (ofL l).size = l.length := by have := (ofL_all l).length_eq; rwa [Lh.all_length] at this
theorem ofL_snoc (l : List (Int × Int)) (x : Int × Int) : ofL (l ++ [x]) = (ofL l).insert x := by simp [ofL]
theorem putN_snoc : ∀ (l : List (Int × Int)) (h : Lh) (x : Int × Int), putN h (l ++ [x]) = putN h l + meldN (.one x) (l.foldl Lh.insert h)
  | [], h, x => by simp [putN]
  | y :: l, h, x => by simp only [List.cons_append, putN, List.foldl_cons]; rw [putN_snoc l (h.insert y) x]; omega
theorem one_ok (x : Int × Int) : (Lh.one x).ok := ⟨(by intro e he; cases he), trivial⟩
theorem meld_ok : ∀ a b : Lh, a.ok → b.ok → (meld a b).ok
  | .nil, b, _, h => by rw [meld_nil]; exact h
  | .node x ks, .nil, h, _ => by rw [meld_right]; exact h
  | .node x ks, .node y ls, ha, hb => by
    cases h : ltE y x with
    | true =>
      rw [meld_lt h]
      have hyx := h
      rw [ltE_iff] at hyx
      refine ⟨fun e he => ?_, ha.1, ha.2, hb.2⟩
      simp only [Kd.all, List.cons_append, List.mem_cons, List.mem_append] at he
      rcases he with rfl | he | he
      · rw [ltE_not]; omega
      · have := ha.1 e he
        rw [ltE_not] at this ⊢
        omega
      · exact hb.1 e he
    | false =>
      rw [meld_ge h]
      have hyx := h
      rw [ltE_not] at hyx
      refine ⟨fun e he => ?_, hb.1, hb.2, ha.2⟩
      simp only [Kd.all, List.cons_append, List.mem_cons, List.mem_append] at he
      rcases he with rfl | he | he
      · exact h
      · have := hb.1 e he
        rw [ltE_not] at this ⊢
        omega
      · exact ha.1 e he
theorem insert_ok {h : Lh} (x : Int × Int) (hk : h.ok) : (h.insert x).ok := meld_ok _ _ (one_ok x) hk
theorem fold_ok : ∀ (l : List (Int × Int)) {h : Lh}, h.ok → (l.foldl Lh.insert h).ok
  | [], _, h => h
  | x :: r, _, h => fold_ok r (insert_ok x h)
theorem ofL_ok (l : List (Int × Int)) : (ofL l).ok := fold_ok l trivial
theorem pair_two (x y : Int × Int) (ks ls r : Kd) : (Kd.cons x ks (.cons y ls r)).pair = meld (meld (.node x ks) (.node y ls)) r.pair := rfl
theorem pair_all : ∀ ks : Kd, ks.pair.all.Perm ks.all
  | .nil => List.Perm.refl _
  | .cons x ks .nil => by show (x :: ks.all).Perm ((x :: ks.all) ++ []); simp
  | .cons x ks (.cons y ls r) => by
    rw [pair_two]
    refine (meld_all _ _).trans ?_
    refine ((meld_all _ _).append (pair_all r)).trans ?_
    simp only [Lh.all, Kd.all, List.append_assoc]
    exact List.Perm.refl _
theorem pair_size (ks : Kd) : ks.pair.size = ks.size := by
  have h := (pair_all ks).length_eq
  rw [Lh.all_length, Kd.all_length] at h
  exact h
theorem pair_ok : ∀ {ks : Kd}, ks.ok → ks.pair.ok
  | .nil, _ => trivial
  | .cons _ _ .nil, h => ⟨h.1, h.2.1⟩
  | .cons x ks (.cons y ls r), h => by
    rw [pair_two]
    exact meld_ok _ _ (meld_ok _ _ ⟨h.1, h.2.1⟩ ⟨h.2.2.1, h.2.2.2.1⟩) (pair_ok h.2.2.2.2)
theorem pop_ok {h : Lh} (hk : h.ok) : h.pop.ok := by
  cases h with
  | nil => trivial
  | node x ks => exact pair_ok hk.2
theorem Lh.size_nil {h : Lh} (hz : h.size = 0) : h = .nil := by
  cases h with
  | nil => rfl
  | node x ks => simp only [Lh.size] at hz; omega
theorem pop_size (h : Lh) : h.pop.size = h.size - 1 := by
  cases h with
  | nil => rfl
  | node x ks => show ks.pair.size = 1 + ks.size - 1; rw [pair_size]; omega
theorem meldN_size (a b : Lh) : meldN a b ≤ a.size + b.size := by
  cases a with
  | nil => rw [meldN_nil]; exact Nat.zero_le _
  | node x ks => have := meldN_le (.node x ks) b; simp only [Lh.size]; omega
/-- Fewer melds than kids. -/
theorem pairN_le : ∀ ks : Kd, ks.pairN ≤ ks.len - 1
  | .nil => Nat.zero_le _
  | .cons _ _ .nil => Nat.zero_le _
  | .cons x ks (.cons y ls .nil) => by
    show meldN (.node x ks) (.node y ls) + 0 + meldN (meld (.node x ks) (.node y ls)) .nil ≤ _
    rw [meldN_right, meldN_two]
    simp [Kd.len]
  | .cons x ks (.cons y ls (.cons z ms r)) => by
    have h := pairN_le (.cons z ms r)
    show meldN (.node x ks) (.node y ls) + (Kd.cons z ms r).pairN + meldN (meld (.node x ks) (.node y ls)) (Kd.cons z ms r).pair ≤ _
    have h2 := meldN_le (meld (.node x ks) (.node y ls)) (Kd.cons z ms r).pair
    rw [meldN_two]
    simp only [Kd.len] at h ⊢
    omega
theorem popN_le (h : Lh) : h.popN ≤ h.pop.size := by
  cases h with
  | nil => exact Nat.le_refl _
  | node x ks =>
    have h1 := pairN_le ks
    have h2 := ks.len_le
    show ks.pairN ≤ ks.pair.size
    rw [pair_size]
    omega
theorem popN_size (h : Lh) : h.popN ≤ h.size := by have h1 := popN_le h; rw [pop_size] at h1; omega
theorem putN_le : ∀ (l : List (Int × Int)) (h : Lh), putN h l ≤ l.length * (h.size + l.length + 1)
  | [], h => by simp [putN]
  | x :: r, h => by
    have h1 := meldN_le (.one x) h
    have h2 := putN_le r (h.insert x)
    rw [insert_size] at h2
    simp only [putN, List.length_cons, Nat.add_mul]
    have h3 : r.length * (h.size + 1 + r.length + 1) = r.length * (h.size + (r.length + 1) + 1) := by congr 1; omega
    omega
/-- What a walk asks of a heap. -/
structure Lh.good (h : Lh) : Prop where
  ok : h.ok
  fit : fits h.all
theorem good_nil : Lh.good .nil := ⟨trivial, fits.nil⟩
theorem good_meld {a b : Lh} (ha : a.good) (hb : b.good) : (meld a b).good := ⟨meld_ok _ _ ha.ok hb.ok, (ha.fit.join hb.fit).perm (meld_all a b).symm⟩
theorem good_one {x : Int × Int} (h : in64 x.1 ∧ in64 x.2) : (Lh.one x).good := ⟨one_ok x, by rw [one_all]; exact fits.more h fits.nil⟩
theorem good_insert {a : Lh} {x : Int × Int} (ha : a.good) (h : in64 x.1 ∧ in64 x.2) : (a.insert x).good := good_meld (good_one h) ha
theorem good_of {l : List (Int × Int)} (h : fits l) : (ofL l).good := ⟨ofL_ok l, h.perm (ofL_all l).symm⟩
theorem good_pop {a : Lh} (ha : a.good) : a.pop.good := by
  refine ⟨pop_ok ha.ok, ?_⟩
  cases a with
  | nil => exact fits.nil
  | node x ks => exact (show fits (x :: ks.all) from ha.fit).cons.2.perm (pair_all ks).symm
theorem srt_meld (a b : Lh) : srt (meld a b).all = srt (a.all ++ b.all) := srt_perm (meld_all a b)
theorem srt_insert (a : Lh) (x : Int × Int) : srt (a.insert x).all = srt (x :: a.all) := srt_perm (insert_all a x)
theorem srt_of (l : List (Int × Int)) : srt (ofL l).all = srt l := srt_perm (ofL_all l)
/-- All elements in order: the root, then those of what is left. -/
theorem ok_srt {h : Lh} (hk : h.ok) (hne : h.min.2 = true) : srt h.all = h.min.1 :: srt h.pop.all := by
  cases h with
  | nil => cases hne
  | node x ks =>
    show srt (x :: ks.all) = x :: srt ks.pair.all
    rw [srt_cons hk.1, srt_perm (pair_all ks)]
theorem srt_pop {a : Lh} (h : a.ok) : srt a.pop.all = (srt a.all).tail := by
  cases a with
  | nil => show srt [] = (srt []).tail; simp [srt_nil]
  | node x ks => rw [ok_srt h rfl]; rfl
theorem some_pos (t : Lh) : t.some = decide (0 < t.size) := by
  cases t with
  | nil => rfl
  | node x ks => exact (decide_eq_true (by simp only [Lh.size]; omega)).symm
theorem min_some (t : Lh) : t.min.2 = t.some := rfl
theorem min_two (t : Lh) : t.min.2 = decide (0 < t.size) := by rw [min_some, some_pos]
theorem one_pop (x : Int × Int) : Lh.pop (.one x) = .nil := rfl

end Go.Proofs.YtpclafbolppgcaaDoor
