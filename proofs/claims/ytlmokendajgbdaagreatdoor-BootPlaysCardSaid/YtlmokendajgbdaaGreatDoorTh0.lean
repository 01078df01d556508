/-
  Plain facts, of no program: things that stand for heaps (a heap's data, and the number of the block where it lies), in order by their heaps' roots; trees of things; skew binomial heaps of things under the names that the contracts of package skew use. No conditions.
-/
import Derived.Test.YtlmokendajgbdaaGreatDoorGn
import Derived.Test.YtlmokendajgbdaaGreatDoorBo
namespace Go.Proofs.YtlmokendajgbdaaGreatDoor
open Go.Sort Go.RowKit Go.Proofs.YtlmokendajgbdaaGreatDoor.Gn

/-- A thing: a heap, and the number of its block. -/
structure Thing where
  h : Bo.Lh
  a : Nat
def Thing.key (x : Thing) : Int × Int := x.h.key
instance : Gn.Key Thing := ⟨Thing.key⟩
instance : Inhabited Thing := ⟨⟨.nil, 0⟩⟩
theorem ltK_thing (a b : Thing) : Gn.ltK a b = ltE a.key b.key := rfl
abbrev Tre := Gn.Tre Thing
abbrev Wood := Gn.Wood Thing
/-- .. where one may be none. -/
def olnk : Option Tre → Option Tre → Option Tre
  | none, b => b
  | some a, none => some a
  | some a, some b => some (lnk a b)
def oskw (y : Thing) (a b : Option Tre) : Option Tre := match olnk a b with
  | none => some (leafT y)
  | some t => some (skw y t)
/-- How many comparisons, and as many trees, Link makes. -/
def lnkN : Option Tre → Option Tre → Nat
  | some _, some _ => 1
  | _, _ => 0
def osize : Option Tre → Nat
  | none => 0
  | some t => t.size
def oall : Option Tre → List Thing
  | none => []
  | some t => t.all

theorem olnk_size (a b : Option Tre) : osize (olnk a b) = osize a + osize b := by
  cases a <;> cases b <;> simp [olnk, osize, lnk_size]
theorem oskw_size (y : Thing) (a b : Option Tre) : osize (oskw y a b) = osize a + osize b + 1 := by
  have h := olnk_size a b
  unfold oskw
  cases hl : olnk a b with
  | none => rw [hl] at h; simp [osize, leafT_size] at h ⊢; omega
  | some t => rw [hl] at h; simp [osize, skw_size] at h ⊢; omega


/-- A heap: its trees. -/
structure Lh where
  ts : List Tre
def Lh.nil : Lh := ⟨[]⟩
def Lh.size (h : Lh) : Nat := bSize h.ts
def Lh.all (h : Lh) : List Thing := bAll h.ts
def Lh.min (h : Lh) : Thing × Bool := bMin h.ts
def Lh.some (h : Lh) : Bool := h.min.2
def Lh.one (x : Thing) : Lh := ⟨[leafT x]⟩
def meld (a b : Lh) : Lh := ⟨smeld a.ts b.ts⟩
/-- How many links, and as many comparisons. -/
def meldN (a b : Lh) : Nat := smeldN a.ts b.ts
def Lh.insert (h : Lh) (x : Thing) : Lh := ⟨sIns h.ts x⟩
/-- How many comparisons putting one in takes. -/
def Lh.insC (h : Lh) : Nat := sInsN h.ts
/-- How many trees it makes. -/
def Lh.insM (h : Lh) : Nat := sInsM h.ts
def Lh.pop (h : Lh) : Lh := ⟨sPop h.ts⟩
/-- How many comparisons taking the least one out takes, beyond telling it. -/
def Lh.popC (h : Lh) : Nat := sPopN h.ts
/-- How many trees it makes. -/
def Lh.popM (h : Lh) : Nat := sPopM h.ts
/-- How many comparisons telling the least root takes. -/
def Lh.tellN (h : Lh) : Nat := h.ts.length - 1
def ofL (l : List Thing) : Lh := l.foldl Lh.insert .nil
def putC : Lh → List Thing → Nat
  | _, [] => 0
  | h, x :: r => h.insC + putC (h.insert x) r
def putM : Lh → List Thing → Nat
  | _, [] => 0
  | h, x :: r => h.insM + putM (h.insert x) r

theorem fold_ts : ∀ (l : List Thing) (h : Lh), (l.foldl Lh.insert h).ts = l.foldl sIns h.ts
  | [], _ => rfl
  | x :: r, h => by rw [List.foldl_cons, List.foldl_cons, fold_ts r (h.insert x)]; rfl
theorem ofL_ts (l : List Thing) : (ofL l).ts = sOf l := fold_ts l .nil
theorem one_of (x : Thing) : ofL [x] = .one x := rfl
theorem insert_nil (x : Thing) : Lh.insert .nil x = .one x := rfl
theorem Lh.all_length (h : Lh) : h.all.length = h.size := bAll_length _
theorem meld_all (a b : Lh) : (meld a b).all.Perm (a.all ++ b.all) := smeld_all _ _
theorem meld_size (a b : Lh) : (meld a b).size = a.size + b.size := smeld_size _ _
theorem one_all (x : Thing) : (Lh.one x).all = [x] := by simp [Lh.one, Lh.all, bAll, leafT, Gn.Tre.all, Gn.Wood.all]
theorem one_size (x : Thing) : (Lh.one x).size = 1 := rfl
theorem insert_all (h : Lh) (x : Thing) : (h.insert x).all.Perm (x :: h.all) := sIns_all _ _
theorem insert_size (h : Lh) (x : Thing) : (h.insert x).size = h.size + 1 := sIns_size _ _
theorem insC_le (h : Lh) : h.insC ≤ 2 := sInsN_le _
theorem insM_le (h : Lh) : h.insM ≤ 2 := (sInsM_le h.ts).1
theorem ofL_all (l : List Thing) : (ofL l).all.Perm l := by unfold Lh.all; rw [ofL_ts]; exact sOf_all l
theorem ofL_size (l : List Thing) : (ofL l).size = l.length := by unfold Lh.size; rw [ofL_ts]; exact sOf_size l
theorem ofL_snoc (l : List Thing) (x : Thing) : ofL (l ++ [x]) = (ofL l).insert x := by simp [ofL]
theorem putC_snoc : ∀ (l : List Thing) (h : Lh) (x : Thing), putC h (l ++ [x]) = putC h l + (l.foldl Lh.insert h).insC
  | [], h, x => by simp [putC]
  | y :: l, h, x => by simp only [List.cons_append, putC, List.foldl_cons]; rw [putC_snoc l (h.insert y) x]; omega
theorem putM_snoc : ∀ (l : List Thing) (h : Lh) (x : Thing), putM h (l ++ [x]) = putM h l + (l.foldl Lh.insert h).insM
  | [], h, x => by simp [putM]
  | y :: l, h, x => by simp only [List.cons_append, putM, List.foldl_cons]; rw [putM_snoc l (h.insert y) x]; omega
theorem put_le : ∀ (l : List Thing) (h : Lh), putC h l ≤ 2 * l.length ∧ putM h l ≤ 2 * l.length
  | [], _ => ⟨Nat.le_refl _, Nat.le_refl _⟩
  | x :: r, h => by
    have h1 := put_le r (h.insert x)
    have h2 := insC_le h
    have h3 := insM_le h
    simp only [putC, putM, List.length_cons]
    omega
def Lh.ok (h : Lh) : Prop := sOk h.ts
theorem meld_ok (a b : Lh) (ha : a.ok) (hb : b.ok) : (meld a b).ok := sok_meld ha hb
theorem insert_ok {h : Lh} (x : Thing) (hk : h.ok) : (h.insert x).ok := sok_ins x hk
theorem one_ok (x : Thing) : (Lh.one x).ok := sok_ins x sok_nil
theorem ofL_ok (l : List Thing) : (ofL l).ok := by unfold Lh.ok; rw [ofL_ts]; exact sok_of l
theorem pop_ok {h : Lh} (hk : h.ok) : h.pop.ok := sok_pop hk
theorem Lh.size_nil {h : Lh} (hz : h.size = 0) : h = .nil := by
  obtain ⟨l⟩ := h
  have : l = [] := bSize_nil hz
  subst this; rfl
theorem pop_size (h : Lh) : h.pop.size = h.size - 1 := by
  by_cases hne : h.ts = []
  · unfold Lh.pop Lh.size; rw [hne]; rfl
  · have := spop_size hne
    unfold Lh.pop Lh.size
    show bSize (sPop h.ts) = bSize h.ts - 1
    omega
theorem trees_size (h : Lh) : h.ts.length ≤ h.size := by
  obtain ⟨l⟩ := h
  show l.length ≤ bSize l
  induction l with
  | nil => exact Nat.le_refl _
  | cons t r ih => simp only [List.length_cons, bSize, Gn.Tre.size]; omega
theorem meldN_size (a b : Lh) : meldN a b ≤ a.size + b.size := by
  have h1 := smeldN_le a.ts b.ts
  have h2 := trees_size a
  have h3 := trees_size b
  unfold meldN
  omega
theorem tellN_size (h : Lh) : h.tellN ≤ h.size := by have := trees_size h; unfold Lh.tellN; omega
theorem pop_counts (h : Lh) : h.popC ≤ 2 * h.size ∧ h.popM ≤ 2 * h.size := by
  obtain ⟨l⟩ := h
  match l with
  | [] => exact ⟨Nat.zero_le _, Nat.zero_le _⟩
  | t :: r =>
    have hl := leastI_lt (l := t :: r) (by simp)
    have hk : kidsAt (t :: r) (leastI (t :: r)) = ((t :: r)[leastI (t :: r)]).ks.list.reverse := by unfold kidsAt; rw [List.getElem?_eq_getElem hl]
    have hb : besAt (t :: r) (leastI (t :: r)) = ((t :: r)[leastI (t :: r)]).bs := by unfold besAt; rw [List.getElem?_eq_getElem hl]
    have h1 := levT_len (restAt (t :: r) (leastI (t :: r)))
    have h2 := bmeld_len (kidsAt (t :: r) (leastI (t :: r))) (levT (restAt (t :: r) (leastI (t :: r))))
    have h3 := trees_size ⟨restAt (t :: r) (leastI (t :: r))⟩
    have h4 := (restAt_all hl).length_eq
    rw [bAll_length, List.length_append, bAll_length, Gn.Tre.all_length] at h4
    have h5 := ((t :: r)[leastI (t :: r)]).ks.len_le
    have h6 : (kidsAt (t :: r) (leastI (t :: r))).length = ((t :: r)[leastI (t :: r)]).ks.len := by rw [hk, List.length_reverse, Gn.Wood.list_len]
    have h7 := sPutN_le (besAt (t :: r) (leastI (t :: r))) (sBase (t :: r) (leastI (t :: r)))
    have h8 : ((t :: r)[leastI (t :: r)]).size = 1 + ((t :: r)[leastI (t :: r)]).bs.length + ((t :: r)[leastI (t :: r)]).ks.size := rfl
    rw [hb] at h7
    simp only [Lh.size] at h3
    show sPopN (t :: r) ≤ 2 * bSize (t :: r) ∧ sPopM (t :: r) ≤ 2 * bSize (t :: r)
    simp only [sPopN, sPopM, sBaseN]
    rw [hb]
    omega
theorem some_pos (t : Lh) : t.some = decide (0 < t.size) := by
  obtain ⟨l⟩ := t
  cases l with
  | nil => rfl
  | cons t r =>
    show true = decide (0 < bSize (t :: r))
    exact (decide_eq_true (by simp only [bSize, Gn.Tre.size]; omega)).symm
theorem min_some (t : Lh) : t.min.2 = t.some := rfl
theorem min_two (t : Lh) : t.min.2 = decide (0 < t.size) := by rw [min_some, some_pos]

end Go.Proofs.YtlmokendajgbdaaGreatDoor
