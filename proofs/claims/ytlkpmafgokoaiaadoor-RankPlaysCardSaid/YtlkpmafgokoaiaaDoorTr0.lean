/-
  Plain facts, of no program: trees with ranks: a root, what stands beside it, its kids; two linked, a thing put in skew; all things, the text, whether a tree is well formed. No conditions.
-/
import Derived.Test.YtlkpmafgokoaiaaDoorOrd
import Derived.Test.YtlkpmafgokoaiaaDoorText0
namespace Go.Proofs.YtlkpmafgokoaiaaDoor
open Go.Sort Go.RowKit

/-- A row of trees: the first one's root, what stands beside it, its kids; the trees behind it. -/
inductive Wood
  | nil
  | cons (x : Int × Int) (bs : List (Int × Int)) (ks rest : Wood)
/-- A tree. -/
structure Tre where
  x : Int × Int
  bs : List (Int × Int)
  ks : Wood

/-- How many trees stand in a row. -/
def Wood.len : Wood → Nat
  | .nil => 0
  | .cons _ _ _ r => r.len + 1
/-- How many things they have. -/
def Wood.size : Wood → Nat
  | .nil => 0
  | .cons _ bs ks r => 1 + bs.length + ks.size + r.size
def Wood.all : Wood → List (Int × Int)
  | .nil => []
  | .cons x bs ks r => (x :: (bs ++ ks.all)) ++ r.all
def Tre.rank (t : Tre) : Nat := t.ks.len
def Tre.size (t : Tre) : Nat := 1 + t.bs.length + t.ks.size
def Tre.all (t : Tre) : List (Int × Int) := t.x :: (t.bs ++ t.ks.all)

theorem Wood.len_le : ∀ w : Wood, w.len ≤ w.size
  | .nil => Nat.le_refl _
  | .cons _ _ _ r => by have := r.len_le; simp only [Wood.len, Wood.size]; omega
theorem Wood.all_length : ∀ w : Wood, w.all.length = w.size
  | .nil => rfl
  | .cons x bs ks r => by simp only [Wood.all, Wood.size, List.length_append, List.length_cons, ks.all_length, r.all_length]; omega
theorem Tre.all_length (t : Tre) : t.all.length = t.size := by simp only [Tre.all, Tre.size, List.length_append, List.length_cons, t.ks.all_length]; omega
theorem Tre.rank_lt (t : Tre) : t.rank < t.size := by have := t.ks.len_le; simp only [Tre.rank, Tre.size]; omega

/-- What stands beside a root, as a text. -/
def besideText (bs : List (Int × Int)) : List UInt8 := bs.flatMap fun b => 32 :: 43 :: textOf b.1 b.2
def Wood.show : Wood → List UInt8
  | .nil => []
  | .cons x bs ks r => (32 :: 40 :: (textOf x.1 x.2 ++ (besideText bs ++ (ks.show ++ [41])))) ++ r.show
def Tre.show (t : Tre) : List UInt8 := 40 :: (textOf t.x.1 t.x.2 ++ (besideText t.bs ++ (t.ks.show ++ [41])))

/-- All things are pairs of 64-bit numbers. -/
def fits (l : List (Int × Int)) : Prop := ∀ e ∈ l, in64 e.1 ∧ in64 e.2
theorem fits.append {a b : List (Int × Int)} (h : fits (a ++ b)) : fits a ∧ fits b := ⟨fun e he => h e (by simp [he]), fun e he => h e (by simp [he])⟩
theorem fits.cons {x : Int × Int} {b : List (Int × Int)} (h : fits (x :: b)) : (in64 x.1 ∧ in64 x.2) ∧ fits b := ⟨h x (by simp), fun e he => h e (by simp [he])⟩

theorem textOf_length (p q : Int) (hp : in64 p) (hq : in64 q) : (textOf p q).length ≤ 43 := by
  have h1 := Lib.itoa_length_le p hp.1 hp.2
  have h2 := Lib.itoa_length_le q hq.1 hq.2
  simp only [textOf, List.length_append, List.length_cons]
  omega
theorem besideText_length : ∀ (bs : List (Int × Int)), fits bs → (besideText bs).length ≤ 46 * bs.length
  | [], _ => by simp [besideText]
  | b :: bs, h => by
    have h1 := textOf_length b.1 b.2 h.cons.1.1 h.cons.1.2
    have ih := besideText_length bs h.cons.2
    simp only [besideText, List.flatMap_cons, List.length_append, List.length_cons] at *
    omega
theorem Wood.show_length : ∀ w : Wood, fits w.all → w.show.length ≤ 46 * w.size
  | .nil, _ => by simp [Wood.show]
  | .cons x bs ks r, h => by
    have h0 := (h.append).1.cons
    have h1 := textOf_length x.1 x.2 h0.1.1 h0.1.2
    have h2 := besideText_length bs h0.2.append.1
    have h3 := ks.show_length h0.2.append.2
    have h4 := r.show_length h.append.2
    simp only [Wood.show, Wood.size, List.length_append, List.length_cons, List.length_nil] at *
    omega

/-- Two trees linked. -/
def lnk (a b : Tre) : Tre := if ltE b.x a.x then ⟨b.x, b.bs, .cons a.x a.bs a.ks b.ks⟩ else ⟨a.x, a.bs, .cons b.x b.bs b.ks a.ks⟩
/-- A thing put in skew. -/
def skw (y : Int × Int) (t : Tre) : Tre := if ltE t.x y then ⟨t.x, y :: t.bs, t.ks⟩ else ⟨y, t.x :: t.bs, t.ks⟩
def leafT (x : Int × Int) : Tre := ⟨x, [], .nil⟩
theorem lnk_lt {a b : Tre} (h : ltE b.x a.x = true) : lnk a b = ⟨b.x, b.bs, .cons a.x a.bs a.ks b.ks⟩ := by unfold lnk; rw [if_pos h]
theorem lnk_ge {a b : Tre} (h : ltE b.x a.x = false) : lnk a b = ⟨a.x, a.bs, .cons b.x b.bs b.ks a.ks⟩ := by unfold lnk; rw [if_neg (by rw [h]; simp)]
theorem skw_lt {y : Int × Int} {t : Tre} (h : ltE t.x y = true) : skw y t = ⟨t.x, y :: t.bs, t.ks⟩ := by unfold skw; rw [if_pos h]
theorem skw_ge {y : Int × Int} {t : Tre} (h : ltE t.x y = false) : skw y t = ⟨y, t.x :: t.bs, t.ks⟩ := by unfold skw; rw [if_neg (by rw [h]; simp)]
/-- .. where one may be none. -/
def olnk : Option Tre → Option Tre → Option Tre
  | none, b => b
  | some a, none => some a
  | some a, some b => some (lnk a b)
def oskw (y : Int × Int) (a b : Option Tre) : Option Tre := match olnk a b with
  | none => some (leafT y)
  | some t => some (skw y t)
/-- How many comparisons, and as many trees, Link makes. -/
def lnkN : Option Tre → Option Tre → Nat
  | some _, some _ => 1
  | _, _ => 0
def osize : Option Tre → Nat
  | none => 0
  | some t => t.size
def oall : Option Tre → List (Int × Int)
  | none => []
  | some t => t.all

theorem lnk_size (a b : Tre) : (lnk a b).size = a.size + b.size := by unfold lnk; split <;> simp [Tre.size, Wood.size] <;> omega
theorem skw_size (y : Int × Int) (t : Tre) : (skw y t).size = t.size + 1 := by unfold skw; split <;> simp [Tre.size] <;> omega
theorem leafT_size (x : Int × Int) : (leafT x).size = 1 := rfl
theorem olnk_size (a b : Option Tre) : osize (olnk a b) = osize a + osize b := by
  cases a <;> cases b <;> simp [olnk, osize, lnk_size]
theorem oskw_size (y : Int × Int) (a b : Option Tre) : osize (oskw y a b) = osize a + osize b + 1 := by
  have h := olnk_size a b
  unfold oskw
  cases hl : olnk a b with
  | none => rw [hl] at h; simp [osize, leafT_size] at h ⊢; omega
  | some t => rw [hl] at h; simp [osize, skw_size] at h ⊢; omega

/-- Is a row of kids well formed below a root x, the first one's rank being one less than r? -/
def Wood.right (x : Int × Int) : Wood → Int → Bool
  | .nil, r => r == 0
  | .cons y bs ks rest, r => (((ks.len : Int) == r - 1 && !ltE y x) && (decide (bs.length ≤ ks.len) && bs.all (fun b => !ltE b y) && ks.right y ks.len)) && rest.right x (r - 1)
def besideOk (y : Int × Int) (bs : List (Int × Int)) (r : Nat) : Bool := decide (bs.length ≤ r) && bs.all (fun b => !ltE b y)
def Tre.right (t : Tre) : Bool := besideOk t.x t.bs t.ks.len && t.ks.right t.x t.ks.len

end Go.Proofs.YtlkpmafgokoaiaaDoor
