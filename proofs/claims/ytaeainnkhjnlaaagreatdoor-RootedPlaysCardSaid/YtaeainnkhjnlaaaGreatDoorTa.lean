/-
  Plain facts, of no program: trees with ranks: a root, what stands beside it, its kids; two linked, a thing put in skew; all things, the text, whether a tree is well formed. No conditions.
  Trees with ranks in memory: a tree's block of six cells, rows of things (three cells each) and of trees (two cells each); what keeps them: whatever turns no block of these three types. No conditions beyond what each theorem says.
  Contracts of (api.Elem).Key and of rank.key at elements: the element itself, whatever it is; nothing that was there has changed. No conditions.
  Contracts of rank.push, rank.Leaf: what each hands back, what the counts are, and that only the meter's block has turned. Conditions: counts below 2 to the 62nd.
  Contracts of rank.Size, Rank, Root: what each tells of a tree, or of none; nothing that was there has changed. Condition: fewer than 2 to the 30th things.
-/
import Derived.Test.YtaeainnkhjnlaaaGreatDoorMc
import Derived.Test.YtaeainnkhjnlaaaGreatDoorMb
import Derived.Defers
import Derived.Recover
import Derived.Deep.RegionHeld3
import Derived.Deep.DrawnRows
namespace Go.Proofs.YtaeainnkhjnlaaaGreatDoor
open Go.Sort Go.RowKit

/-- A row of trees: the first one's root, what stands beside it, its kids; the trees behind it. -/
inductive Wood
  | nil
  | cons (x : Int × Int) (bs : List (Int × Int)) (ks rest : Wood)
/-- A tree. -/
structure Tre where
  x : Int × Int
  bs : List (Int × Int)
  ks : Wood

/-- How many trees stand in a row. -/
def Wood.len : Wood → Nat
  | .nil => 0
  | .cons _ _ _ r => r.len + 1
/-- How many things they have. -/
def Wood.size : Wood → Nat
  | .nil => 0
  | .cons _ bs ks r => 1 + bs.length + ks.size + r.size
def Wood.all : Wood → List (Int × Int)
  | .nil => []
  | .cons x bs ks r => (x :: (bs ++ ks.all)) ++ r.all
def Tre.rank (t : Tre) : Nat := t.ks.len
def Tre.size (t : Tre) : Nat := 1 + t.bs.length + t.ks.size
def Tre.all (t : Tre) : List (Int × Int) := t.x :: (t.bs ++ t.ks.all)

theorem Wood.len_le : ∀ w : Wood, w.len ≤ w.size
  | .nil => Nat.le_refl _
  | .cons _ _ _ r => by have := r.len_le; simp only [Wood.len, Wood.size]; omega
theorem Wood.all_length : ∀ w : Wood, w.all.length = w.size
  | .nil => rfl
  | .cons x bs ks r => by simp only [Wood.all, Wood.size, List.length_append, List.length_cons, ks.all_length, r.all_length]; omega
theorem Tre.all_length (t : Tre) : t.all.length = t.size := by simp only [Tre.all, Tre.size, List.length_append, List.length_cons, t.ks.all_length]; omega
theorem Tre.rank_lt (t : Tre) : t.rank < t.size := by have := t.ks.len_le; simp only [Tre.rank, Tre.size]; omega

/-- What stands beside a root, as a text. -/
def besideText (bs : List (Int × Int)) : List UInt8 := bs.flatMap fun b => 32 :: 43 :: textOf b.1 b.2
def Wood.show : Wood → List UInt8
  | .nil => []
  | .cons x bs ks r => (32 :: 40 :: (textOf x.1 x.2 ++ (besideText bs ++ (ks.show ++ [41])))) ++ r.show
def Tre.show (t : Tre) : List UInt8 := 40 :: (textOf t.x.1 t.x.2 ++ (besideText t.bs ++ (t.ks.show ++ [41])))

theorem besideText_length : ∀ (bs : List (Int × Int)), fits bs → (besideText bs).length ≤ 46 * bs.length
  | [], _ => by simp [besideText]
  | b :: bs, h => by
    have h1 := textOf_length b.1 b.2 h.cons.1.1 h.cons.1.2
    have ih := besideText_length bs h.cons.2
    simp only [besideText, List.flatMap_cons, List.length_append, List.length_cons] at *
    omega
theorem Wood.show_length : ∀ w : Wood, fits w.all → w.show.length ≤ 46 * w.size
  | .nil, _ => by simp [Wood.show]
  | .cons x bs ks r, h => by
    have h0 := (h.append).1.cons
    have h1 := textOf_length x.1 x.2 h0.1.1 h0.1.2
    have h2 := besideText_length bs h0.2.append.1
    have h3 := ks.show_length h0.2.append.2
    have h4 := r.show_length h.append.2
    simp only [Wood.show, Wood.size, List.length_append, List.length_cons, List.length_nil] at *
    omega

/-- Two trees linked. -/
def lnk (a b : Tre) : Tre := if ltE b.x a.x then ⟨b.x, b.bs, .cons a.x a.bs a.ks b.ks⟩ else ⟨a.x, a.bs, .cons b.x b.bs b.ks a.ks⟩
/-- A thing put in skew. -/
def skw (y : Int × Int) (t : Tre) : Tre := if ltE t.x y then ⟨t.x, y :: t.bs, t.ks⟩ else ⟨y, t.x :: t.bs, t.ks⟩
def leafT (x : Int × Int) : Tre := ⟨x, [], .nil⟩
theorem lnk_lt {a b : Tre} (h : ltE b.x a.x = true) : lnk a b = ⟨b.x, b.bs, .cons a.x a.bs a.ks b.ks⟩ := by unfold lnk; rw [if_pos h]
theorem lnk_ge {a b : Tre} (h : ltE b.x a.x = false) : lnk a b = ⟨a.x, a.bs, .cons b.x b.bs b.ks a.ks⟩ := by unfold lnk; rw [if_neg (by rw [h]; simp)]
theorem skw_lt {y : Int × Int} {t : Tre} (h : ltE t.x y = true) : skw y t = ⟨t.x, y :: t.bs, t.ks⟩ := by unfold skw; rw [if_pos h]
theorem skw_ge {y : Int × Int} {t : Tre} (h : ltE t.x y = false) : skw y t = ⟨y, t.x :: t.bs, t.ks⟩ := by unfold skw; rw [if_neg (by rw [h]; simp)]
/-- .. where one may be none. -/
def olnk : Option Tre → Option Tre → Option Tre
  | none, b => b
  | some a, none => some a
  | some a, some b => some (lnk a b)
def oskw (y : Int × Int) (a b : Option Tre) : Option Tre := match olnk a b with
  | none => some (leafT y)
  | some t => some (skw y t)
/-- How many comparisons, and as many trees, Link makes. -/
def lnkN : Option Tre → Option Tre → Nat
  | some _, some _ => 1
  | _, _ => 0
def osize : Option Tre → Nat
  | none => 0
  | some t => t.size
def oall : Option Tre → List (Int × Int)
  | none => []
  | some t => t.all

theorem lnk_size (a b : Tre) : (lnk a b).size = a.size + b.size := by unfold lnk; split <;> simp [Tre.size, Wood.size] <;> omega
theorem skw_size (y : Int × Int) (t : Tre) : (skw y t).size = t.size + 1 := by unfold skw; split <;> simp [Tre.size] <;> omega
theorem leafT_size (x : Int × Int) : (leafT x).size = 1 := rfl
theorem olnk_size (a b : Option Tre) : osize (olnk a b) = osize a + osize b := by
  cases a <;> cases b <;> simp [olnk, osize, lnk_size]
/-- Is a row of kids well formed below a root x, the first one's rank being one less than r? -/
def Wood.right (x : Int × Int) : Wood → Int → Bool
  | .nil, r => r == 0
  | .cons y bs ks rest, r => (((ks.len : Int) == r - 1 && !ltE y x) && (decide (bs.length ≤ ks.len) && bs.all (fun b => !ltE b y) && ks.right y ks.len)) && rest.right x (r - 1)
def besideOk (y : Int × Int) (bs : List (Int × Int)) (r : Nat) : Bool := decide (bs.length ≤ r) && bs.all (fun b => !ltE b y)
def Tre.right (t : Tre) : Bool := besideOk t.x t.bs t.ks.len && t.ks.right t.x t.ks.len

end Go.Proofs.YtaeainnkhjnlaaaGreatDoor
namespace Go.Proofs.YtaeainnkhjnlaaaGreatDoor
open Go.Sort Go.RowKit

/-- The three types of trees' blocks. -/
def TreeT (t : TypeId) : Prop := t = 134 ∨ t = 165 ∨ t = 167
theorem tree_ne : ¬ TreeT 66 := by unfold TreeT; decide
/-- Blocks of the three types of trees stay. -/
abbrev Kp (W W' : World) : Prop := Kpt TreeT W W'
theorem Kp.below {W W' : World} (h : Below W.heap.size W W') : Kp W W' := Kpt.below h

/-- A row of things. -/
def BAt (W : World) : List (Int × Int) → Option Addr → Prop
  | [], p => p = none
  | x :: xs, p => ∃ (b : Nat) (q : Option Addr), p = some ⟨b, 0, none⟩ ∧ W.heap[b]? = some (.cells #[.int .i64 x.1, .int .i64 x.2, .pointer q] 165 (0, 0)) ∧ BAt W xs q

/-- A tree's block. -/
def treeObj (x : Int × Int) (bp : Option Addr) (r : Int) (kp : Option Addr) (o : Int) : Obj :=
  .cells #[.int .i64 x.1, .int .i64 x.2, .pointer bp, .int .i64 r, .pointer kp, .int .i64 o] 134 (0, 0)

/-- A row of trees. -/
def WAt (W : World) : Wood → Option Addr → Prop
  | .nil, p => p = none
  | .cons x bs ks rest, p => ∃ (c b : Nat) (q bp kp : Option Addr), p = some ⟨c, 0, none⟩ ∧ W.heap[c]? = some (.cells #[.pointer (some ⟨b, 0, none⟩), .pointer q] 167 (0, 0)) ∧
      W.heap[b]? = some (treeObj x bp ks.len kp (bs.length + ks.size : Nat)) ∧ BAt W bs bp ∧ WAt W ks kp ∧ WAt W rest q

/-- A tree at a block. -/
def NAt (W : World) (b : Nat) (t : Tre) : Prop := ∃ (bp kp : Option Addr), W.heap[b]? = some (treeObj t.x bp t.ks.len kp (t.bs.length + t.ks.size : Nat)) ∧ BAt W t.bs bp ∧ WAt W t.ks kp
/-- A tree, or none. -/
def TAt (W : World) (p : Option Addr) : Option Tre → Prop
  | none => p = none
  | some t => ∃ b, p = some ⟨b, 0, none⟩ ∧ NAt W b t

section
variable {W W' : World}
theorem BAt.kp (h : Kp W W') : ∀ {xs : List (Int × Int)} {p : Option Addr}, BAt W xs p → BAt W' xs p
  | [], _, hp => hp
  | _ :: _, _, ⟨b, q, e, hb, hr⟩ => ⟨b, q, e, h _ _ _ (.inr (.inl rfl)) hb, BAt.kp h hr⟩
theorem WAt.kp (h : Kp W W') : ∀ {ks : Wood} {p : Option Addr}, WAt W ks p → WAt W' ks p
  | .nil, _, hp => hp
  | .cons _ _ _ _, _, ⟨c, b, q, bp, kp, e, hc, hb, h1, h2, h3⟩ => ⟨c, b, q, bp, kp, e, h _ _ _ (.inr (.inr rfl)) hc, h _ _ _ (.inl rfl) hb, h1.kp h, WAt.kp h h2, WAt.kp h h3⟩
theorem NAt.kp (h : Kp W W') {b : Nat} {t : Tre} (hn : NAt W b t) : NAt W' b t := by
  obtain ⟨bp, kp, hb, h1, h2⟩ := hn
  exact ⟨bp, kp, h _ _ _ (.inl rfl) hb, h1.kp h, h2.kp h⟩
theorem TAt.kp (h : Kp W W') {p : Option Addr} {t : Option Tre} (ht : TAt W p t) : TAt W' p t := by
  cases t with
  | none => exact ht
  | some t => obtain ⟨b, e, hn⟩ := ht; exact ⟨b, e, hn.kp h⟩
theorem NAt.stay {b : Nat} {t : Tre} (hn : NAt W b t) (h : Below W.heap.size W W') : NAt W' b t := hn.kp (Kp.below h)
theorem TAt.stay {p : Option Addr} {t : Option Tre} (hn : TAt W p t) (h : Below W.heap.size W W') : TAt W' p t := hn.kp (Kp.below h)
theorem BAt.stay {p : Option Addr} {t : List (Int × Int)} (hn : BAt W t p) (h : Below W.heap.size W W') : BAt W' t p := hn.kp (Kp.below h)
theorem WAt.stay {p : Option Addr} {t : Wood} (hn : WAt W t p) (h : Below W.heap.size W W') : WAt W' t p := hn.kp (Kp.below h)
theorem NAt.lt {b : Nat} {t : Tre} (hn : NAt W b t) : b < W.heap.size := by obtain ⟨bp, kp, hb, -⟩ := hn; exact lt_of_heap hb

/-- The six cells of a tree's block. -/
structure Six (W : World) (b : Nat) (x : Int × Int) (bp : Option Addr) (r : Int) (kp : Option Addr) (o : Int) : Prop where
  c0 : W.cell? ⟨b, 0, none⟩ = some (.int .i64 x.1)
  c1 : W.cell? ⟨b, 1, none⟩ = some (.int .i64 x.2)
  c2 : W.cell? ⟨b, 2, none⟩ = some (.pointer bp)
  c3 : W.cell? ⟨b, 3, none⟩ = some (.int .i64 r)
  c4 : W.cell? ⟨b, 4, none⟩ = some (.pointer kp)
  c5 : W.cell? ⟨b, 5, none⟩ = some (.int .i64 o)
theorem six {b : Nat} {x : Int × Int} {bp kp : Option Addr} {r o : Int} (h : W.heap[b]? = some (treeObj x bp r kp o)) : Six W b x bp r kp o := by
  constructor <;> simp [World.cell?, h, treeObj]
theorem Six.below {B : Nat} {b : Nat} {x : Int × Int} {bp kp : Option Addr} {r o : Int} (h : Six W b x bp r kp o) (hb : Below B W W') (hB : b < B) : Six W' b x bp r kp o :=
  ⟨(hb.cell (p := ⟨b, 0, none⟩) hB).trans h.c0, (hb.cell (p := ⟨b, 1, none⟩) hB).trans h.c1, (hb.cell (p := ⟨b, 2, none⟩) hB).trans h.c2, (hb.cell (p := ⟨b, 3, none⟩) hB).trans h.c3, (hb.cell (p := ⟨b, 4, none⟩) hB).trans h.c4, (hb.cell (p := ⟨b, 5, none⟩) hB).trans h.c5⟩
end

end Go.Proofs.YtaeainnkhjnlaaaGreatDoor
namespace Go.Proofs.YtaeainnkhjnlaaaGreatDoor
open Go.Sort Go.RowKit


set_option maxHeartbeats 400000 in
theorem elemKey_any (x : Int × Int) (w : World) : Calls Tryz.prog 135 #[el x] w fun e w' => e = .returned (el x) ∧ Below w.heap.size w w' := by
  obtain ⟨p, q⟩ := x
  go_enter Tryz.func135, Tryz.ntmps135
  go_wp2
  refine bodyPost_ret (v := .agg #[.int .i64 p, .int .i64 q]) (by simp [results, Tryz.results135, go_sem]) rfl ⟨rfl, ((Below.refl w.heap.size w).alloc (Nat.le_refl _) _).alloc (by simp) _⟩

theorem idle (w : World) : CallsD Tryz.prog 100 #[] .returning w fun e u' w' => e = .returned (.tuple #[]) ∧ u' = .returning ∧ w' = w := by
  refine callsD_of_wpS Tryz.func100 rfl fun c₀ cs hu => ?_
  apply wpS_region
  cases c₀
  simp_all [wpOpsS, go_sem, recoverD, bodyPostS, results, Tryz.ntmps100, Tryz.results100]

set_option maxRecDepth 100000 in
set_option maxHeartbeats 400000 in
theorem key_any (x : Int × Int) (w : World) : Calls Tryz.prog 78 #[el x] w fun e w' => e = .returned (el x) ∧ Below w.heap.size w w' := by
  obtain ⟨p, q⟩ := x
  have hm : ∀ (n : Nat) (w : World), (method (n + 1) 32 (.agg #[.int .i64 p, .int .i64 q]) "Key").run Tryz.prog w = .ok (135, .agg #[.int .i64 p, .int .i64 q]) w := fun _ _ => by kernel_rfl
  go_enter_defers Tryz.func78, Tryz.ntmps78
  go_wp2_with fail
  ((with_reducible refine (elemKey_any (p, q) _).mono ?_); rintro e w1 ⟨rfl, hb1⟩)
  obtain ⟨-, hp, hb⟩ := duo hb1
  have hs := hp.set p q
  obtain ⟨e0, e1, f0, f1, -⟩ := hp
  clear hb1
  go_wp2_with fail
  refine leaves_cons (f := 100) (args := #[]) (by simp) (by simp [go_sem]) ?_
  refine (idle _).mono ?_
  rintro e u' w'' ⟨rfl, rfl, rfl⟩
  obtain ⟨k0, k1, -⟩ := hs
  have hv : Below w.heap.size w ((w1.setCell ⟨w.heap.size + 1, 0, none⟩ (.int .i64 p)).setCell ⟨w.heap.size + 1, 1, none⟩ (.int .i64 q)) := (hb.setCell (by simp) _).setCell (by simp) _
  simp [Leaves, settle, results, Tryz.results78, go_sem, k0, k1, hv]

end Go.Proofs.YtaeainnkhjnlaaaGreatDoor
namespace Go.Proofs.YtaeainnkhjnlaaaGreatDoor
open Go.Sort Go.RowKit

/-- What a call hands back that makes a tree: c comparisons, m things made so far. -/
def Gave (mo : Option Nat) (c m : Int) (t : Option Tre) (w : World) (e : Ending) (w' : World) : Prop := ∃ p, e = .returned (.pointer p) ∧ TAt w' p t ∧ MAt w' mo c m ∧ Bt mo w w'

set_option maxHeartbeats 1000000 in
theorem pushT_any (p q : Option Addr) (w : World) : Calls Tryz.prog 99 #[.pointer p, .pointer q] w fun e w' =>
    e = .returned (.pointer (some ⟨w.heap.size, 0, none⟩)) ∧ w' = w.alloc (.cells #[.pointer p, .pointer q] 167) := by
  go_enter Tryz.func99, Tryz.ntmps99
  go_wp2
  go_ret
  exact ⟨rfl, rfl⟩

set_option maxHeartbeats 1000000 in
theorem pushE_any (x : Int × Int) (q : Option Addr) (w : World) : Calls Tryz.prog 79 #[el x, .pointer q] w fun e w' =>
    ∃ b, e = .returned (.pointer (some ⟨b, 0, none⟩)) ∧ w'.heap[b]? = some (.cells #[.int .i64 x.1, .int .i64 x.2, .pointer q] 165 (0, 0)) ∧ Below w.heap.size w w' := by
  obtain ⟨x1, x2⟩ := x
  go_enter Tryz.func79, Tryz.ntmps79
  go_wp2
  go_ret
  exact ⟨_, rfl, new_at (by simp), ((Below.refl _ _).alloc (Nat.le_refl _) _).alloc (by simp) _⟩

set_option maxHeartbeats 1000000 in
theorem leaf_any (mo : Option Nat) (c m : Int) (x : Int × Int) (w : World) (h : MAt w mo c m) (h0 : 0 ≤ m) (h1 : m < 4611686018427387904) : Calls Tryz.prog 49 #[mAddr mo, el x] w
    (Gave mo c (m + 1) (some (leafT x)) w) := by
  obtain ⟨x1, x2⟩ := x
  have H := Lib.hid h
  clear h
  go_enter Tryz.func49, Tryz.ntmps49
  go_wp2_with fail
  ((with_reducible refine (mMade mo c m _ (H.out.alloc _) h0 h1).mono ?_); rintro e w1 ⟨rfl, hm, hb⟩)
  obtain ⟨e0, e1, -⟩ := PairAt.new w x1 x2 32
  have hne : ∀ b, mo = some b → w.heap.size ≠ b := fun b eb => by subst eb; have := H.out.lt; omega
  have k0 := hb.cell (a := ⟨w.heap.size, 0, none⟩) e0 hne
  have k1 := hb.cell (a := ⟨w.heap.size, 1, none⟩) e1 hne
  have HM := Lib.hid hm
  have HB := Lib.hid (((Bt.refl mo w).alloc _).trans hb)
  clear e0 e1 hne hm hb H
  go_wp2
  go_ret
  exact ⟨_, rfl, ⟨w1.heap.size, rfl, none, none, heap_alloc_new w1 _, rfl, rfl⟩, HM.out.alloc _, HB.out.alloc _⟩

end Go.Proofs.YtaeainnkhjnlaaaGreatDoor
namespace Go.Proofs.YtaeainnkhjnlaaaGreatDoor
open Go.Sort Go.RowKit

set_option maxHeartbeats 1000000 in
theorem size_none (w : World) : Calls Tryz.prog 74 #[.pointer none] w fun e w' => e = .returned (.int .i64 0) ∧ w' = w := by
  go_enter Tryz.func74, Tryz.ntmps74
  go_wp2
  go_ret
  exact ⟨rfl, rfl⟩

set_option maxHeartbeats 1000000 in
theorem size_at {b : Nat} {x : Int × Int} {bp kp : Option Addr} {r o : Int} (w : World) (h : Six w b x bp r kp o) (h0 : 0 ≤ o) (h1 : o < 1073741824) :
    Calls Tryz.prog 74 #[.pointer (some ⟨b, 0, none⟩)] w fun e w' => e = .returned (.int .i64 (o + 1)) ∧ w' = w := by
  have c5 := h.c5
  clear h
  go_enter Tryz.func74, Tryz.ntmps74
  go_wp2
  go_ret
  exact ⟨rfl, rfl⟩

theorem size_any (p : Option Addr) (t : Option Tre) (w : World) (h : TAt w p t) (h1 : osize t < 1073741824) : Calls Tryz.prog 74 #[.pointer p] w fun e w' => e = .returned (.int .i64 (osize t : Nat)) ∧ w' = w := by
  cases t with
  | none => obtain rfl := h; exact size_none w
  | some t =>
    obtain ⟨b, rfl, bp, kp, hb, -⟩ := h
    simp only [osize, Tre.size] at h1 ⊢
    refine (size_at w (six hb) (by omega) (by omega)).mono fun e w' ⟨he, hw⟩ => ⟨by rw [he]; congr 2; omega, hw⟩

/-- What Rank tells. -/
def orank : Option Tre → Int
  | none => -1
  | some t => t.ks.len

set_option maxHeartbeats 1000000 in
theorem rank_any (p : Option Addr) (t : Option Tre) (w : World) (h : TAt w p t) : Calls Tryz.prog 45 #[.pointer p] w fun e w' => e = .returned (.int .i64 (orank t)) ∧ w' = w := by
  cases t with
  | none =>
    obtain rfl := h
    go_enter Tryz.func45, Tryz.ntmps45
    go_wp2
    go_ret
    exact ⟨rfl, rfl⟩
  | some t =>
    obtain ⟨b, rfl, bp, kp, hb, -⟩ := h
    have c3 := (six hb).c3
    clear hb
    go_enter Tryz.func45, Tryz.ntmps45
    go_wp2
    go_ret
    exact ⟨rfl, rfl⟩

/-- What Root tells. -/
def rootV : Option Tre → Value
  | none => .tuple #[el (0, 0), .bool false]
  | some t => .tuple #[el t.x, .bool true]

set_option maxHeartbeats 1000000 in
theorem root_any (p : Option Addr) (t : Option Tre) (w : World) (h : TAt w p t) : Calls Tryz.prog 57 #[.pointer p] w fun e w' => e = .returned (rootV t) ∧ Below w.heap.size w w' := by
  cases t with
  | none =>
    obtain rfl := h
    go_enter Tryz.func57, Tryz.ntmps57
    go_wp2
    refine bodyPost_ret (v := rootV none) (by simp [results, Tryz.results57, go_sem, rootV]) rfl ⟨rfl, ?_⟩
    exact ((Below.refl w.heap.size w).alloc (Nat.le_refl _) _).alloc (by simp) _
  | some t =>
    obtain ⟨b, rfl, bp, kp, hb, -⟩ := h
    obtain ⟨⟨x1, x2⟩, bs, ks⟩ := t
    have h6 := (six hb).below ((Below.refl w.heap.size w).alloc (Nat.le_refl _) (.cells #[.int .i64 0, .int .i64 0] 32)) (lt_of_heap hb)
    have c0 := h6.c0
    have c1 := h6.c1
    clear hb h6
    go_enter Tryz.func57, Tryz.ntmps57
    go_wp2
    refine bodyPost_ret (v := rootV (some ⟨(x1, x2), bs, ks⟩)) (by simp [results, Tryz.results57, go_sem, rootV]) rfl ⟨rfl, ?_⟩
    exact (Below.refl w.heap.size w).alloc (Nat.le_refl _) _

end Go.Proofs.YtaeainnkhjnlaaaGreatDoor
