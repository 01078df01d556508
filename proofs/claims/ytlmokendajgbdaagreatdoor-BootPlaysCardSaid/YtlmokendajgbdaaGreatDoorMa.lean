/-
  Plain facts, of no program: the order of pairs of numbers (by the first, of one first by the second): that it is total and handed on. No conditions.
  Memory that a call may have added to, of no program: what was there stays; a block of two numbers, just laid or behind further calls. No conditions beyond what each theorem says.
  Steps that every law's proof takes: a world and what may have been added to it; a region whose order is open, walked once in such worlds; and the row's last step for a law that returns true and leaves what was there as it was. No conditions beyond what each theorem says.
  Plain facts, of no program: pairs of numbers in order: the order as a strict weak order; all of a row in order, and that a row in order with the same elements is that. No conditions.
  Plain facts, of no program: elements put one by one where they belong are all of them in order. No conditions.
  Rows of elements in memory: a slice that reads as a list of pairs of numbers; that it stays where nothing below has changed; the built-in copy over such a row. No conditions beyond what each theorem says.
  What lies below the first new block stays where one row of the call's own has grown: of no program, no conditions beyond what it says.
  Lists in memory, of no program: from an address on lie blocks of two cells, a thing and the next one's address. What keeps such a list, and how long it still is. No conditions beyond what each theorem says.
  A slice of things of one cell each that reads as a list, of no program: what keeps it, a part of it, and that it is the row of a slice that a call made. No conditions beyond what each theorem says.
  Memory that a call may have added to, and where one block (a meter's) may have turned: all else that was there stays. Of no program; no conditions beyond what each theorem says.
  A range over a method value (a function with its receiver bound ahead): a loop whose body goes on at every thing. The library's laws are of functions that have nothing bound; this is the one that the program's lists want. Of no program; no conditions beyond what the theorem says.
  A block of two cells that a call made, of no program: what keeps it, and what is there once both are written. No conditions beyond what each theorem says.
-/
import Derived.Sort.Grow
import Derived.Below
import Derived.WalkKit
import Derived.Lib.QuietBelow
import Derived.WideKeyArgs
import Derived.ChangeSame
import Derived.ChangeCalls
import Derived.OpenShut
import Derived.ProofKit
import Derived.Sort.Statements
import Derived.Laws.CopyRow
import Derived.Laws.Rows
import Derived.Laws.MakeOwn
import Derived.Laws.OwnMore
import Derived.RangeFuncOwn
import Derived.Maps.AppendAt
import Derived.Laws.AppendOwnNone
import Derived.RangeFuncNested
import Derived.RangeFuncBound
import Derived.RangeFuncCalls
import Derived.RangeFuncLeaves
import Derived.RangeFuncBox
namespace Go.Proofs.YtlmokendajgbdaaGreatDoor
open Go.Sort Go.RowKit

/-- Does the pair (p, q) stand ahead of (r, s)? -/
def ltI (p q r s : Int) : Bool := if p = r then decide (q < s) else decide (p < r)
/-- How two pairs stand: -1, 0, 1. -/
def cmpI (p q r s : Int) : Int := if p = r ∧ q = s then 0 else if ltI p q r s then -1 else 1

theorem ltI_iff (p q r s : Int) : ltI p q r s = true ↔ (p < r ∨ (p = r ∧ q < s)) := by
  unfold ltI; split <;> simp <;> omega
theorem ltI_not (p q r s : Int) : ltI p q r s = false ↔ (r < p ∨ (p = r ∧ s ≤ q)) := by
  unfold ltI; split <;> simp <;> omega

end Go.Proofs.YtlmokendajgbdaaGreatDoor
namespace Go.Proofs.YtlmokendajgbdaaGreatDoor
open Go.Sort Go.RowKit

theorem below_grow (w : World) (k : Nat) (os : Array Obj) : Below w.heap.size w (grow (w.drewN k) os) :=
  ⟨rfl, rfl, rfl, by simp [grow, World.drewN], fun i hi => by simp [grow, World.drewN, Array.getElem?_append, hi]⟩

theorem below_drewN (w : World) (k : Nat) : Below w.heap.size w (w.drewN k) := ⟨rfl, rfl, rfl, Nat.le_refl _, fun _ _ => rfl⟩

theorem var_stays {P : Program} {w w' : World} {n : String} {cs : Array Value} (hb : Below w.heap.size w w') (hv : w.var? P n = some cs) : w'.var? P n = some cs := by
  unfold World.var? at hv ⊢
  cases hg : P.globalNamed n with
  | none => rw [hg] at hv; cases hv
  | some g =>
    rw [hg] at hv
    simp only [Option.bind_some] at hv ⊢
    have hlt : g < w.heap.size := by
      cases hh : w.heap[g]? with
      | none => rw [hh] at hv; cases hv
      | some o => exact (Array.getElem?_eq_some_iff.1 hh).1
    rw [hb.block g hlt]; exact hv

/-- A block of two cells that was just laid, behind a call that left it alone: what the walk wants of it. -/
theorem pair_after {w w1 : World} {x y : Value} {t : TypeId} (hb : Below (w.alloc (.cells #[x, y] t)).heap.size (w.alloc (.cells #[x, y] t)) w1) :
    w1.cell? ⟨w.heap.size, 0, none⟩ = some x ∧ w1.cell? ⟨w.heap.size, 1, none⟩ = some y ∧ w1.frozen? ⟨w.heap.size, 0, none⟩ = false ∧ w1.frozen? ⟨w.heap.size, 1, none⟩ = false ∧ w.heap.size < w1.heap.size ∧ Below w.heap.size w w1 := by
  have hs := hb.size
  have e : (w.alloc (.cells #[x, y] t)).heap[w.heap.size]? = some (.cells #[x, y] t (0, 0)) := heap_alloc_new w _
  have e1 : w1.heap[w.heap.size]? = some (.cells #[x, y] t (0, 0)) := (hb.block w.heap.size (by simp)).trans e
  refine ⟨?_, ?_, ?_, ?_, by simp at hs; omega, ((Below.refl w.heap.size w).alloc (Nat.le_refl _) _).trans (hb.mono (by simp))⟩
  · simp [World.cell?, e1]
  · simp [World.cell?, e1]
  · simp [World.frozen?, e1]
  · simp [World.frozen?, e1]

/-- .. and behind a further call. -/
theorem pair_on {w w1 w2 : World} {b : Nat} {x y : Value} (h : w1.cell? ⟨b, 0, none⟩ = some x ∧ w1.cell? ⟨b, 1, none⟩ = some y ∧ w1.frozen? ⟨b, 0, none⟩ = false ∧ w1.frozen? ⟨b, 1, none⟩ = false ∧ b < w1.heap.size ∧ Below w.heap.size w w1) (hb : Below w1.heap.size w1 w2) :
    w2.cell? ⟨b, 0, none⟩ = some x ∧ w2.cell? ⟨b, 1, none⟩ = some y ∧ w2.frozen? ⟨b, 0, none⟩ = false ∧ w2.frozen? ⟨b, 1, none⟩ = false ∧ b < w2.heap.size ∧ Below w.heap.size w w2 := by
  obtain ⟨a, c, d, e, f, g⟩ := h
  exact ⟨(hb.cell (p := ⟨b, 0, none⟩) f).trans a, (hb.cell (p := ⟨b, 1, none⟩) f).trans c, (hb.frozen (p := ⟨b, 0, none⟩) f).trans d, (hb.frozen (p := ⟨b, 1, none⟩) f).trans e, Nat.lt_of_lt_of_le f hb.size, g.trans (hb.mono g.size)⟩

/-- Block b holds two numbers, and may be written. -/
def PairAt (w : World) (b : Nat) (x y : Int) : Prop :=
  w.cell? ⟨b, 0, none⟩ = some (.int .i64 x) ∧ w.cell? ⟨b, 1, none⟩ = some (.int .i64 y) ∧ w.frozen? ⟨b, 0, none⟩ = false ∧ w.frozen? ⟨b, 1, none⟩ = false ∧ b < w.heap.size
theorem PairAt.below {w w' : World} {B b : Nat} {x y : Int} (h : PairAt w b x y) (hb : Below B w w') (hB : b < B) : PairAt w' b x y := by
  obtain ⟨a, c, d, e, f⟩ := h
  exact ⟨(hb.cell (p := ⟨b, 0, none⟩) hB).trans a, (hb.cell (p := ⟨b, 1, none⟩) hB).trans c, (hb.frozen (p := ⟨b, 0, none⟩) hB).trans d, (hb.frozen (p := ⟨b, 1, none⟩) hB).trans e, Nat.lt_of_lt_of_le f hb.size⟩
theorem PairAt.new (w : World) (x y : Int) (t : TypeId) : PairAt (w.alloc (.cells #[.int .i64 x, .int .i64 y] t)) w.heap.size x y := by
  have h := pair_after (w := w) (x := .int .i64 x) (y := .int .i64 y) (t := t) (Below.refl _ _)
  exact ⟨h.1, h.2.1, h.2.2.1, h.2.2.2.1, h.2.2.2.2.1⟩
theorem PairAt.alloc {w : World} {b : Nat} {x y : Int} (h : PairAt w b x y) (o : Obj) : PairAt (w.alloc o) b x y :=
  h.below (B := w.heap.size) ((Below.refl _ _).alloc (Nat.le_refl _) o) h.2.2.2.2
theorem PairAt.set {w : World} {b : Nat} {x y : Int} (h : PairAt w b x y) (x' y' : Int) : PairAt ((w.setCell ⟨b, 0, none⟩ (.int .i64 x')).setCell ⟨b, 1, none⟩ (.int .i64 y')) b x' y' := by
  obtain ⟨a, c, d, e, f⟩ := h
  refine ⟨?_, ?_, ?_, ?_, by simpa [World.setCell] using f⟩
  · rw [World.cell?_setCell_other _ _ _ _ (by simp)]; exact World.cell?_setCell_same _ _ _ a
  · exact World.cell?_setCell_same _ _ _ ((World.cell?_setCell_other _ _ _ _ (by simp)).trans c)
  · rw [World.frozen?_setCell, World.frozen?_setCell]; exact d
  · rw [World.frozen?_setCell, World.frozen?_setCell]; exact e
theorem PairAt.other {w : World} {b : Nat} {x y : Int} (h : PairAt w b x y) {p : Addr} (hp : p.block ≠ b) (u : Value) : PairAt (w.setCell p u) b x y := by
  obtain ⟨a, c, d, e, f⟩ := h
  refine ⟨?_, ?_, ?_, ?_, by simpa [World.setCell] using f⟩
  · rw [World.cell?_setCell_other _ _ _ _ (fun e => hp (by rw [e]))]; exact a
  · rw [World.cell?_setCell_other _ _ _ _ (fun e => hp (by rw [e]))]; exact c
  · rw [World.frozen?_setCell]; exact d
  · rw [World.frozen?_setCell]; exact e

/-- Two, and three, elements that were boxed, behind a call that left them alone. -/
theorem duo {w w1 : World} {p q r s : Int} {t : TypeId} (hb : Below ((w.alloc (.cells #[.int .i64 p, .int .i64 q] t)).alloc (.cells #[.int .i64 r, .int .i64 s] t)).heap.size ((w.alloc (.cells #[.int .i64 p, .int .i64 q] t)).alloc (.cells #[.int .i64 r, .int .i64 s] t)) w1) :
    PairAt w1 w.heap.size p q ∧ PairAt w1 (w.heap.size + 1) r s ∧ Below w.heap.size w w1 := by
  have e : (w.alloc (.cells #[.int .i64 p, .int .i64 q] t)).heap.size = w.heap.size + 1 := by simp
  have pb := (PairAt.new (w.alloc (.cells #[.int .i64 p, .int .i64 q] t)) r s t).below hb (by simp)
  rw [e] at pb
  exact ⟨((PairAt.new w p q t).alloc _).below hb (by simp; omega), pb, (((Below.refl w.heap.size w).alloc (Nat.le_refl _) _).alloc (by simp) _).trans (hb.mono (by simp; omega))⟩
theorem trio {w w1 : World} {p q r s x y : Int} {t : TypeId} (hb : Below (((w.alloc (.cells #[.int .i64 p, .int .i64 q] t)).alloc (.cells #[.int .i64 r, .int .i64 s] t)).alloc (.cells #[.int .i64 x, .int .i64 y] t)).heap.size (((w.alloc (.cells #[.int .i64 p, .int .i64 q] t)).alloc (.cells #[.int .i64 r, .int .i64 s] t)).alloc (.cells #[.int .i64 x, .int .i64 y] t)) w1) :
    PairAt w1 w.heap.size p q ∧ PairAt w1 (w.heap.size + 1) r s ∧ PairAt w1 (w.heap.size + 1 + 1) x y ∧ Below w.heap.size w w1 := by
  have e : ((w.alloc (.cells #[.int .i64 p, .int .i64 q] t)).alloc (.cells #[.int .i64 r, .int .i64 s] t)).heap.size = w.heap.size + 1 + 1 := by simp
  have pc := (PairAt.new ((w.alloc (.cells #[.int .i64 p, .int .i64 q] t)).alloc (.cells #[.int .i64 r, .int .i64 s] t)) x y t).below hb (by simp)
  rw [e] at pc
  obtain ⟨pa, pb, hw⟩ := duo (w := w) (p := p) (q := q) (r := r) (s := s) (t := t) (Below.refl _ _)
  exact ⟨(pa.alloc _).below hb (by simp; omega), (pb.alloc _).below hb (by simp), pc, (hw.alloc hw.size _).trans (hb.mono (by simp; omega))⟩

end Go.Proofs.YtlmokendajgbdaaGreatDoor
namespace Go.Proofs.YtlmokendajgbdaaGreatDoor
open Go.Sort Go.RowKit Go.ChangeShapes Go.WideShapes

theorem world_self (w : World) : w = grow (redrawn w w.drawn) #[] := by rw [grow_empty]; rfl

theorem wp_region_class {P : Program} {id d : Nat} {os : Array Obj} {Q : Exit → Act → World → Prop} {a : Act} {w : World} {l : List Oper} (hm : P.follows .mixedOrders = true) (hB : Region.lexB .any l.toArray = true)
    (h : wpQuiet P l.toArray (fun w' => ∃ p : Regrown, w' = grow (redrawn w p.d) p.os) (fun a' => ∀ w', (∃ p : Regrown, w' = grow (redrawn w p.d) p.os) → Q .normal a' w') l a) : (Code.region id l.toArray true).wp P Q a (grow (redrawn w d) os) :=
  wp_region_quiet (C := fun w' => ∃ p : Regrown, w' = grow (redrawn w p.d) p.os) hm hB ⟨⟨d + 1, os⟩, rfl⟩ (by simpa using h)

/-- A contract in worlds to which something was added. -/
theorem in_class {P : Program} {f : FuncId} {args : Array Value} {w : World} {v : Value}
    (h : ∀ W, Below w.heap.size w W → Calls P f args W fun e w' => e = .returned v ∧ Below W.heap.size W w') (d : Nat) (os : Array Obj) :
    Calls P f args (grow (redrawn w d) os) fun e w'' => e = .returned v ∧ ∃ p : Regrown, w'' = grow (redrawn w p.d) p.os := Calls.regrown_of (h _ (below_regrown w d os))

section
variable {H : Type} {enc : TypeId × Value → H} {P : Program}

theorem trodAll_stays (hl : laidOutB P = true) {W W' : World} {sp : Nat → Bool} (hb : Below W.heap.size W W') :
    ∀ {ts : List TypeId} {vs : List Value} {ds : List (DataW H)} {ps : List MemPlace}, (ts.all fun t => P.readableRec t && decide (t < P.types.size)) = true →
      DataW.TrodAll enc P W 0 (fun _ => true) true ts vs ds ps → (∀ x ∈ ps, x.block < W.heap.size) → (∀ x ∈ ps, sp x.block = true) → DataW.TrodAll enc P W' 0 sp true ts vs ds ps
  | [], vs, ds, ps, _, h, _, _ => by
    obtain ⟨rfl, rfl, rfl⟩ := trodAll_nil h
    exact trodAll_mk0
  | t :: ts, vs, ds, ps, ht, h, hlt, hsp => by
    obtain ⟨v0, vs0, d0, ds0, p0, q0, rfl, rfl, rfl, h0, r0⟩ := trodAll_cons h
    simp only [List.all_cons, Bool.and_eq_true, decide_eq_true_eq] at ht
    refine trodAll_cons_mk (WideElems.Trod_stays hl ht.1.1 ht.1.2 h0 (fun x hx => hb.same (hlt x (by simp [hx]))) (fun x hx => hsp x (by simp [hx]))) ?_
    exact trodAll_stays hl hb (by simpa using ht.2) r0 (fun x hx => hlt x (by simp [hx])) (fun x hx => hsp x (by simp [hx]))

/-- The row's last step: true is returned, and what was there is as it was. -/
theorem law_done {f : Func} {s : ChangeSpec} {W W' : World} {args : Array Value} {ds gs : List (DataW H)} {before : List MemPlace} {tb : TypeId}
    (hl : laidOutB P = true) (hpar : (f.params.toList.all fun t => P.readableRec t && decide (t < P.types.size)) = true) (hres : f.resultTypes = #[tb]) (ub : P.underlying tb = some .bool) (hv : s.vars = [])
    (hfn : ds.length = f.params.size → s.fn H ds = { results := [.lit (.bool true)], args := ds })
    (hW : DataW.Whole enc P f.params.toList s.vars false W args.toList ds gs before) (hb : Below W.heap.size W W') :
    s.post enc P f false true false false W args (.bool true) W' := by
  have hW0 := hW
  have hlt : ∀ p ∈ before, p.block < W.heap.size := fun p hp => hW.lt p hp
  obtain ⟨p, q, hA, hV, rfl, hz, hn⟩ := hW
  rw [hv] at hV
  obtain ⟨rfl, rfl⟩ := trodVars_none hV
  rw [List.append_nil] at *
  have hlen : ds.length = f.params.size := by
    have := (trodAll_length hA).2
    simpa using this
  have hfn' := hfn hlen
  have hold : ∀ x ∈ p, (fun b => decide (b < W.heap.size)) x.block = true := fun x hx => by simpa using hlt x hx
  refine ⟨ds, [], p, [], p, [], by simpa using hW0, ?_, ?_, ?_, ?_, fun h => by cases h⟩
  · rw [List.append_nil, hfn', hres]
    exact trodAll_cons_mk (shut_bool ub _) trodAll_mk0
  · rw [List.append_nil, hfn']
    exact trodAll_stays hl hb hpar hA hlt hold
  · rw [hv, List.append_nil, hfn']
    exact rfl
  · exact World.keptBut_mono (fun x hx => ⟨hx, by simp [hx]⟩) (hb.frame (· ∈ p))
end

end Go.Proofs.YtlmokendajgbdaaGreatDoor
namespace Go.Proofs.YtlmokendajgbdaaGreatDoor
open Go.Sort Go.RowKit

/-- Ahead, of pairs. -/
def ltE (x y : Int × Int) : Bool := ltI x.1 x.2 y.1 y.2
def cmpE (x y : Int × Int) : Int := cmpI x.1 x.2 y.1 y.2
theorem ltE_iff (x y : Int × Int) : ltE x y = true ↔ (x.1 < y.1 ∨ (x.1 = y.1 ∧ x.2 < y.2)) := ltI_iff _ _ _ _
theorem ltE_not (x y : Int × Int) : ltE x y = false ↔ (y.1 < x.1 ∨ (x.1 = y.1 ∧ y.2 ≤ x.2)) := ltI_not _ _ _ _
theorem swoE : SWO ltE where
  irrefl x := by rw [ltE_not]; omega
  trans x y z h1 h2 := by rw [ltE_iff] at *; omega
  ntrans x y z h1 h2 := by rw [ltE_not] at *; omega
theorem ltE_total (x y : Int × Int) (h1 : ltE x y = false) (h2 : ltE y x = false) : x = y := by
  rw [ltE_not] at h1 h2
  apply Prod.ext <;> omega

/-- All of a row in order. -/
def srt (xs : List (Int × Int)) : List (Int × Int) := xs.mergeSort fun x y => !ltE y x

/-- A row in order that has the same elements is the sorted one. -/
theorem srt_eq (xs ys : List (Int × Int)) (hp : ys.Perm xs) (hs : ys.Pairwise fun x y => (!ltE y x) = true) : srt xs = ys := by
  unfold srt
  have ht : ∀ a b c : Int × Int, (!ltE b a) = true → (!ltE c b) = true → (!ltE c a) = true := by
    intro a b c h1 h2
    simp only [Bool.not_eq_true'] at *
    exact swoE.ntrans c b a h2 h1
  have hT : ∀ a b : Int × Int, ((!ltE b a) || (!ltE a b)) = true := by
    intro a b
    cases h : ltE b a with
    | false => simp
    | true =>
      have : ltE a b = false := by rw [ltE_not]; rw [ltE_iff] at h; omega
      simp [this]
  refine List.Perm.eq_of_pairwise (le := fun x y => (!ltE y x) = true) ?_ (List.pairwise_mergeSort ht hT xs) hs ((List.mergeSort_perm _ _).trans hp.symm)
  intro a b _ _ h1 h2
  simp only [Bool.not_eq_true'] at h1 h2
  exact ltE_total a b h2 h1

end Go.Proofs.YtlmokendajgbdaaGreatDoor
namespace Go.Proofs.YtlmokendajgbdaaGreatDoor
open Go.Sort Go.RowKit

/-- How many elements at a row's front stand ahead of x. -/
def aheadOf (l : List (Int × Int)) (x : Int × Int) : Nat := (l.takeWhile fun e => ltE e x).length
/-- A row with x where it belongs. -/
def putL (l : List (Int × Int)) (x : Int × Int) : List (Int × Int) := l.take (aheadOf l x) ++ x :: l.drop (aheadOf l x)

theorem aheadOf_le (l : List (Int × Int)) (x : Int × Int) : aheadOf l x ≤ l.length := by
  unfold aheadOf
  induction l with
  | nil => simp
  | cons y r ih =>
    rw [List.takeWhile_cons]
    split
    · simp only [List.length_cons]; omega
    · simp
/-- Where the search stops. -/
theorem aheadOf_eq (l : List (Int × Int)) (x : Int × Int) (k : Nat) (h1 : ∀ j (h : j < l.length), j < k → ltE l[j] x = true) (hk : k ≤ l.length) (h2 : ∀ h : k < l.length, ltE l[k] x = false) : aheadOf l x = k := by
  unfold aheadOf
  induction l generalizing k with
  | nil => simp at hk; simp [hk]
  | cons y r ih =>
    cases k with
    | zero =>
      have := h2 (by simp)
      rw [List.takeWhile_cons]
      simp at this
      simp [this]
    | succ k =>
      have h0 := h1 0 (by simp) (by omega)
      simp at h0
      rw [List.takeWhile_cons, h0]
      simp only [if_true, List.length_cons]
      rw [ih k (fun j h hj => by have := h1 (j + 1) (by simpa using h) (by omega); simpa using this) (by simpa using hk) (fun h => by have := h2 (by simpa using h); simpa using this)]

theorem putL_perm (l : List (Int × Int)) (x : Int × Int) : (putL l x).Perm (x :: l) := by
  unfold putL
  refine List.perm_middle.trans ?_
  rw [List.take_append_drop]

/-- In order: none stands ahead of one before it. -/
def ordered (l : List (Int × Int)) : Prop := l.Pairwise fun x y => (!ltE y x) = true

theorem putL_ordered (l : List (Int × Int)) (x : Int × Int) (h : ordered l) : ordered (putL l x) := by
  unfold ordered putL aheadOf at *
  induction l with
  | nil => simp
  | cons y r ih =>
    rw [List.pairwise_cons] at h
    rw [List.takeWhile_cons]
    cases hy : ltE y x with
    | true =>
      simp only [if_true, List.length_cons, List.take_succ_cons, List.drop_succ_cons, List.cons_append]
      rw [List.pairwise_cons]
      refine ⟨fun e he => ?_, ih h.2⟩
      have hm : e ∈ x :: r := (putL_perm r x).subset he
      rcases List.mem_cons.1 hm with rfl | hm
      · have : ltE e y = false := by rw [ltE_not]; rw [ltE_iff] at hy; omega
        simp [this]
      · exact h.1 e hm
    | false =>
      simp only [Bool.false_eq_true, if_false, List.length_nil, List.take_zero, List.drop_zero, List.nil_append]
      rw [List.pairwise_cons]
      refine ⟨fun e he => ?_, List.pairwise_cons.2 h⟩
      rcases List.mem_cons.1 he with rfl | he
      · simp [hy]
      · have h1 := h.1 e he
        simp only [Bool.not_eq_true'] at h1 ⊢
        rw [ltE_not] at *; omega

/-- All of the first k, put one by one. -/
def sortTo (l : List (Int × Int)) (k : Nat) : List (Int × Int) := (l.take k).foldl putL []
theorem sortTo_succ (l : List (Int × Int)) (k : Nat) (h : k < l.length) : sortTo l (k + 1) = putL (sortTo l k) l[k] := by
  unfold sortTo
  rw [List.take_succ_eq_append_getElem h, List.foldl_append]
  rfl
theorem fold_spec (l acc : List (Int × Int)) (h : ordered acc) : ordered (l.foldl putL acc) ∧ (l.foldl putL acc).Perm (l ++ acc) := by
  induction l generalizing acc with
  | nil => exact ⟨h, List.Perm.refl _⟩
  | cons x r ih =>
    obtain ⟨h1, h2⟩ := ih (putL acc x) (putL_ordered acc x h)
    refine ⟨h1, h2.trans ?_⟩
    refine ((putL_perm acc x).append_left r).trans ?_
    simp
theorem sortTo_end (l : List (Int × Int)) : sortTo l l.length = srt l := by
  unfold sortTo
  rw [List.take_length]
  obtain ⟨h1, h2⟩ := fold_spec l [] (by unfold ordered; simp)
  exact (srt_eq l _ (by simpa using h2) h1).symm
theorem sortTo_length (l : List (Int × Int)) (k : Nat) (h : k ≤ l.length) : (sortTo l k).length = k := by
  have := (fold_spec (l.take k) [] (by unfold ordered; simp)).2.length_eq
  unfold sortTo
  rw [this]
  simp [h]
theorem putL_length (l : List (Int × Int)) (x : Int × Int) : (putL l x).length = l.length + 1 := by
  have := (putL_perm l x).length_eq
  simpa using this

end Go.Proofs.YtlmokendajgbdaaGreatDoor
namespace Go.Proofs.YtlmokendajgbdaaGreatDoor
open Go.Sort Go.RowKit

/-- An element's two cells. -/
def encE (x : Int × Int) : List Value := [.int .i64 x.1, .int .i64 x.2]
/-- A row's cells. -/
def cellsE (xs : List (Int × Int)) : List Value := xs.flatMap encE

theorem cellsE_length (xs : List (Int × Int)) : (cellsE xs).length = xs.length * 2 := by
  induction xs with
  | nil => rfl
  | cons x r ih => simp only [cellsE, List.flatMap_cons, List.length_append, List.length_cons] at *; rw [ih]; simp [encE]; omega
theorem cellsE_append (xs ys : List (Int × Int)) : cellsE (xs ++ ys) = cellsE xs ++ cellsE ys := by simp [cellsE]
theorem cellsE_at : ∀ (xs : List (Int × Int)) (i : Nat) (h : i < xs.length), (cellsE xs)[i * 2]? = some (.int .i64 xs[i].1) ∧ (cellsE xs)[i * 2 + 1]? = some (.int .i64 xs[i].2)
  | [], i, h => by simp at h
  | x :: r, 0, _ => by simp [cellsE, encE]
  | x :: r, i + 1, h => by
    have ih := cellsE_at r i (by simpa using h)
    have e : cellsE (x :: r) = .int .i64 x.1 :: .int .i64 x.2 :: cellsE r := rfl
    rw [e, show (i + 1) * 2 = i * 2 + 1 + 1 by omega, show i * 2 + 1 + 1 + 1 = (i * 2 + 1) + 1 + 1 by omega]
    simpa using ih
theorem cellsE_one (xs : List (Int × Int)) : ∀ v ∈ cellsE xs, v.oneCell' = true := by
  intro v hv
  simp only [cellsE, List.mem_flatMap, encE] at hv
  obtain ⟨x, _, hx⟩ := hv
  simp at hx
  rcases hx with rfl | rfl <;> rfl

/-- The slice at A reads as xs. -/
def Row (w : World) (A : Option Addr) (xs : List (Int × Int)) : Prop :=
  0 < xs.length → ∃ b o, A = some ⟨b, o, none⟩ ∧ ∀ j v, (cellsE xs)[j]? = some v → w.cell? ⟨b, o + j, none⟩ = some v

theorem Row.below {w w' : World} {A : Option Addr} {xs : List (Int × Int)} (h : Row w A xs) (hb : Below w.heap.size w w') : Row w' A xs := fun hn => by
  obtain ⟨b, o, e, hc⟩ := h hn
  exact ⟨b, o, e, fun j v hv => by have := hc j v hv; rw [hb.cell (block_lt_of_cell this)]; exact this⟩
theorem Row.nil (w : World) (A : Option Addr) : Row w A [] := fun h => by simp at h
/-- One element's two cells. -/
theorem row_at {w : World} {b o : Nat} {xs : List (Int × Int)} (hc : ∀ j v, (cellsE xs)[j]? = some v → w.cell? ⟨b, o + j, none⟩ = some v) (i : Nat) (h : i < xs.length) :
    w.cell? ⟨b, o + i * 2, none⟩ = some (.int .i64 xs[i].1) ∧ w.cell? ⟨b, o + i * 2 + 1, none⟩ = some (.int .i64 xs[i].2) := by
  have e := cellsE_at xs i h
  exact ⟨hc _ _ e.1, hc _ _ e.2⟩

theorem add_plain (b o j : Nat) : (⟨b, o, none⟩ : Addr).add j = ⟨b, o + j, none⟩ := by
  unfold Addr.add; split <;> simp_all

/-- copy over a row of the same length, elements of k cells. -/
theorem run_copy_all {P : Program} (w : World) (dT sT ty elem : TypeId) (g n k c1 c2 : Nat) (A : Option Addr) (cur : Array Value) (t : TypeId) (cs : List Value)
    (hu : P.underlying dT = some (.slice elem)) (hs : (P.info? elem).map (·.size) = some k) (hg : w.heap[g]? = some (.cells cur t (0, 0))) (hl : cs.length = n * k) (hcur : cur.size = n * k)
    (hsrc : 0 < n → ∃ b o, A = some ⟨b, o, none⟩ ∧ ∀ j v, cs[j]? = some v → w.cell? ⟨b, o + j, none⟩ = some v) (h1 : ∀ v ∈ cs, v.oneCell' = true) :
    (Builtin.copy_ #[dT, sT] ty #[.slice (some ⟨g, 0, none⟩) n c1, .slice A n c2]).run P w = .ok (goInt n) (w.setRow g cs.toArray) := by
  cases hq : P.info? elem with
  | none => simp [hq] at hs
  | some i =>
    have hi : i.size = k := by simpa [hq] using hs
    have hst := run_storeCells_at P g 0 t cs 0 cur w hg (by omega) h1
    have e1 : (cur.toList.take (0 + 0) ++ cs ++ cur.toList.drop (0 + 0 + cs.length)).toArray = cs.toArray := by
      rw [List.drop_of_length_le (by rw [Array.length_toList]; omega)]; simp
    rw [e1] at hst
    by_cases h0 : n = 0
    · subst h0
      obtain rfl : cs = [] := List.eq_nil_of_length_eq_zero (by omega)
      have hcur0 : cur = #[] := Array.eq_empty_of_size_eq_zero (by omega)
      subst hcur0
      have hself := setRow_self w g #[] t (0, 0) hg
      cases A with
      | none => simp [Builtin.copy_, run_underlying hu, Builtin.lenOf, Builtin.firstCells, sizeOf, typeInfo, hq, storeCells]; exact hself.symm
      | some a => simp [Builtin.copy_, run_underlying hu, Builtin.lenOf, Builtin.firstCells, sizeOf, typeInfo, hq, loadCells, loadCellsFrom, storeCells]; exact hself.symm
    · obtain ⟨b, o, rfl, hc⟩ := hsrc (by omega)
      have hld := run_loadCells_list (P := P) w ⟨b, o, none⟩ cs (fun j v hv => by rw [add_plain]; exact hc j v hv)
      rw [hl] at hld
      simp [Builtin.copy_, run_underlying hu, Builtin.lenOf, Builtin.firstCells, sizeOf, typeInfo, hq, hi, hld, hst]

/-- A row that was just laid. -/
theorem row_new (w : World) (xs : List (Int × Int)) (t : TypeId) : Row (w.alloc (.cells (cellsE xs).toArray t)) (some ⟨w.heap.size, 0, none⟩) xs := fun _ =>
  ⟨w.heap.size, 0, rfl, fun j v hv => by
    have e : (w.alloc (.cells (cellsE xs).toArray t)).heap[w.heap.size]? = some (.cells (cellsE xs).toArray t (0, 0)) := heap_alloc_new w _
    rw [Nat.zero_add, cell_of_row _ _ j _ _ _ e]
    simpa using hv⟩

end Go.Proofs.YtlmokendajgbdaaGreatDoor
namespace Go.Proofs.YtlmokendajgbdaaGreatDoor
open Go.RowKit

/-- What lies below the first new block stays. -/
theorem below_grown {B : Nat} {w0 w w' : World} {row : Option Nat} (hb : Below B w0 w) (hg : w.grownBy w' row) (hB : B ≤ w.heap.size) (hr : ∀ g, row = some g → B ≤ g) : Below B w0 w' :=
  hb.trans ⟨hg.os, hg.tape, hg.output, hg.size, fun k hk => hg.block k (by omega) (fun e => by have := hr k e.symm; omega)⟩

end Go.Proofs.YtlmokendajgbdaaGreatDoor
namespace Go.Proofs.YtlmokendajgbdaaGreatDoor
open Go.Sort Go.RowKit

/-- From p on lie these things, each in a block of type tc below m. -/
def Chain {α : Type} (one : α → Value) (tc : TypeId) (m : Nat) (W : World) : Option Addr → List α → Prop
  | p, [] => p = none
  | p, x :: xs => ∃ (b : Nat) (q : Option Addr), p = some ⟨b, 0, none⟩ ∧ b < m ∧ W.heap[b]? = some (.cells #[one x, .pointer q] tc (0, 0)) ∧ Chain one tc m W q xs

section
variable {α : Type} {one : α → Value} {tc : TypeId}

theorem Chain.below {m : Nat} {A B : World} (h : Below m A B) : ∀ {p : Option Addr} {xs : List α}, Chain one tc m A p xs → Chain one tc m B p xs
  | _, [], hl => hl
  | _, _ :: _, ⟨b, q, hp, hb, hv, hr⟩ => ⟨b, q, hp, hb, (h.block b hb).trans hv, Chain.below h hr⟩

theorem Chain.mono {m k : Nat} (h : m ≤ k) {A : World} : ∀ {p : Option Addr} {xs : List α}, Chain one tc m A p xs → Chain one tc k A p xs
  | _, [], hl => hl
  | _, _ :: _, ⟨b, q, hp, hb, hv, hr⟩ => ⟨b, q, hp, Nat.lt_of_lt_of_le hb h, hv, Chain.mono h hr⟩

/-- One address, one length. -/
theorem Chain.same {m k : Nat} {W : World} : ∀ {p : Option Addr} {xs ys : List α}, Chain one tc m W p xs → Chain one tc k W p ys → xs.length = ys.length
  | _, [], [], _, _ => rfl
  | _, [], _ :: _, h, ⟨_, _, hp, _⟩ => by rw [h] at hp; cases hp
  | _, _ :: _, [], ⟨_, _, hp, _⟩, h => by rw [h] at hp; cases hp
  | _, x :: xs, y :: ys, ⟨b, q, hp, _, hq, hr⟩, ⟨b', q', hp', _, hq', hr'⟩ => by
    rw [hp] at hp'; cases hp'
    rw [hq] at hq'
    have e : q = q' := by simp at hq'; exact hq'.2
    subst e
    simp only [List.length_cons, Chain.same hr hr']

/-- Whatever turns a block that is none of the list's, or adds one, keeps a list. -/
theorem Chain.kept {m : Nat} {A B : World} {row : Option Nat} (hg : A.grownBy B row) (hr : ∀ r, row = some r → ∀ cs, A.heap[r]? ≠ some (.cells cs tc (0, 0))) : ∀ {p : Option Addr} {xs : List α}, Chain one tc m A p xs → Chain one tc m B p xs
  | _, [], hl => hl
  | _, _ :: _, ⟨b, q, hp, hb, hv, hr'⟩ => ⟨b, q, hp, hb, (hg.block b (Array.getElem?_eq_some_iff.1 hv).1 (fun e => hr b e.symm _ hv)).trans hv, Chain.kept hg hr hr'⟩

open Classical in
/-- How many things are still to come. -/
noncomputable def left (one : α → Value) (tc : TypeId) (m : Nat) (W : World) (v : Value) : Nat :=
  if h : ∃ r : Option Addr × List α, v = .pointer r.1 ∧ Chain one tc m W r.1 r.2 then (Classical.choose h).2.length else 0

theorem left_eq {m : Nat} {W : World} {q : Option Addr} {xs : List α} (h : Chain one tc m W q xs) : left one tc m W (.pointer q) = xs.length := by
  have hex : ∃ r : Option Addr × List α, Value.pointer q = .pointer r.1 ∧ Chain one tc m W r.1 r.2 := ⟨(q, xs), rfl, h⟩
  unfold left
  rw [dif_pos hex]
  obtain ⟨e, hl⟩ := Classical.choose_spec hex
  injection e with e
  rw [← e] at hl
  exact Chain.same hl h

/-- A list that lies in the world as it is. -/
def Ch (one : α → Value) (tc : TypeId) (W : World) (p : Option Addr) (xs : List α) : Prop := Chain one tc W.heap.size W p xs

theorem Ch.none (W : World) : Ch one tc W Option.none ([] : List α) := rfl
theorem Ch.stay {A B : World} {p : Option Addr} {xs : List α} (h : Ch one tc A p xs) (hb : Below A.heap.size A B) : Ch one tc B p xs := (Chain.below hb h).mono hb.size
theorem Ch.alloc {A : World} {p : Option Addr} {xs : List α} (h : Ch one tc A p xs) (o : Obj) : Ch one tc (A.alloc o) p xs := h.stay ((Below.refl _ _).alloc (Nat.le_refl _) o)
theorem Ch.drew {A : World} {p : Option Addr} {xs : List α} (h : Ch one tc A p xs) : Ch one tc A.drew p xs := h.stay (Below.refl _ _).drew
theorem Ch.nil {A : World} {p : Option Addr} (h : Ch one tc A p ([] : List α)) : p = Option.none := h
theorem Ch.kept {A B : World} {row : Option Nat} (hg : A.grownBy B row) (hr : ∀ r, row = some r → ∀ cs, A.heap[r]? ≠ some (.cells cs tc (0, 0))) {p : Option Addr} {xs : List α} (h : Ch one tc A p xs) : Ch one tc B p xs := (Chain.kept hg hr h).mono hg.size
theorem Ch.own {A B : World} {row : Option Nat} (hg : A.grownBy B row) (hr : ∀ r, row = some r → ∃ o : Obj, A.heap[r]? = some o ∧ o.isCells = false) {p : Option Addr} {xs : List α} (h : Ch one tc A p xs) : Ch one tc B p xs :=
  h.kept hg (fun r e cs hc => by obtain ⟨o, ho, hn⟩ := hr r e; rw [hc] at ho; cases ho; cases hn)
theorem grown_set (W : World) (g off : Nat) (v : Value) : W.grownBy (W.setCell ⟨g, off, Option.none⟩ v) (some g) :=
  ⟨rfl, rfl, rfl, by simp [World.setCell], fun k _ hk => Below.heap_setCell _ _ _ k (fun e => hk (by rw [e]))⟩
/-- A write to a block of another type keeps a list. -/
theorem Ch.set {A : World} {p : Option Addr} {xs : List α} (h : Ch one tc A p xs) {g : Nat} {cs : Array Value} {t : TypeId} {fr : Nat × Nat} (hg : A.heap[g]? = some (.cells cs t fr)) (ht : t ≠ tc) (off : Nat) (v : Value) : Ch one tc (A.setCell ⟨g, off, Option.none⟩ v) p xs :=
  h.kept (grown_set A g off v) (fun r e cs' hc => by cases e; rw [hg] at hc; cases hc; exact ht rfl)

end

end Go.Proofs.YtlmokendajgbdaaGreatDoor
namespace Go.Proofs.YtlmokendajgbdaaGreatDoor
open Go.Sort Go.RowKit

theorem add_flat (b o j : Nat) : (⟨b, o, none⟩ : Addr).add j = ⟨b, o + j, none⟩ := by
  unfold Addr.add; split <;> simp_all
theorem lt_of_cell {w : World} {a : Addr} {v : Value} (h : w.cell? a = some v) : a.block < w.heap.size := by
  unfold World.cell? at h
  cases hh : w.heap[a.block]? with
  | none => rw [hh] at h; cases h
  | some o => exact (Array.getElem?_eq_some_iff.1 hh).1

/-- At A lie these things, one cell each. -/
def Row1 {α : Type} (one : α → Value) (w : World) (A : Option Addr) (xs : List α) : Prop :=
  0 < xs.length → ∃ b o, A = some ⟨b, o, none⟩ ∧ ∀ (j : Nat) (hj : j < xs.length), w.cell? ⟨b, o + j, none⟩ = some (one xs[j])

section
variable {α : Type} {one : α → Value}

theorem Row1.nil (w : World) (A : Option Addr) : Row1 one w A ([] : List α) := fun h => by simp at h
theorem Row1.stay {w w' : World} {A : Option Addr} {xs : List α} (h : Row1 one w A xs) (hb : Below w.heap.size w w') : Row1 one w' A xs := fun h0 => by
  obtain ⟨b, o, e, hc⟩ := h h0
  have hlt := lt_of_cell (hc 0 h0)
  exact ⟨b, o, e, fun j hj => (hb.cell (p := ⟨b, o + j, none⟩) hlt).trans (hc j hj)⟩
/-- In a world where blocks below B are as they were, a row below B. -/
theorem Row1.below {w w' : World} {B : Nat} {b o : Nat} {xs : List α} (h : Row1 one w (some ⟨b, o, none⟩) xs) (hb : Below B w w') (hB : b < B) : Row1 one w' (some ⟨b, o, none⟩) xs := fun h0 => by
  obtain ⟨b', o', e, hc⟩ := h h0
  injection e with e
  injection e with e1 e2
  subst e1; subst e2
  exact ⟨b, o, rfl, fun j hj => (hb.cell (p := ⟨b, o + j, none⟩) hB).trans (hc j hj)⟩

/-- The slice v reads as xs. -/
def Reads (one : α → Value) (w : World) (v : Value) (xs : List α) : Prop :=
  ∃ A c, v = .slice A xs.length c ∧ Row1 one w A xs ∧ xs.length ≤ c ∧ c ≤ 9223372036854775807 ∧ (A = none → c = 0)

theorem Reads.stay {w w' : World} {v : Value} {xs : List α} (h : Reads one w v xs) (hb : Below w.heap.size w w') : Reads one w' v xs := by
  obtain ⟨A, c, e, hr, h1, h2, h3⟩ := h
  exact ⟨A, c, e, hr.stay hb, h1, h2, h3⟩

/-- A slice of the call's own. -/
def Mine (one : α → Value) (e : TypeId) (w : World) (base : Nat) (v : Value) (xs : List α) : Prop := w.ownsRow base e 1 v xs.length (xs.map one)

theorem Mine.none (e : TypeId) (w : World) (base : Nat) : Mine one e w base (.slice Option.none 0 0) ([] : List α) := World.ownsRow_nil w base _ _

theorem Mine.form {e : TypeId} {w : World} {base : Nat} {v : Value} {xs : List α} (h : Mine one e w base v xs) : Reads one w v xs := by
  have h0 := h
  rcases h.2 with ⟨rfl, hn⟩ | ⟨g, cap, cur, rfl, hb, hg, hc, hm, _⟩
  · obtain rfl : xs = [] := List.eq_nil_of_length_eq_zero hn
    exact ⟨Option.none, 0, rfl, Row1.nil _ _, Nat.le_refl _, by omega, fun _ => rfl⟩
  · refine ⟨_, cap, rfl, fun _ => ⟨g, 0, rfl, fun j hj => ?_⟩, hc, by unfold maxLen at hm; omega, fun e => by cases e⟩
    have := h0.cells (g := g) rfl j (one xs[j]) (by simp [hj])
    rwa [add_flat] at this
theorem Mine.block {e : TypeId} {w : World} {base : Nat} {v : Value} {xs : List α} (h : Mine one e w base v xs) : ∀ g, v.ownBlock = some g → base ≤ g := fun g hg => (World.ownsRow.lt h g hg).1
theorem Mine.stay {e : TypeId} {w w' : World} {base : Nat} {v : Value} {xs : List α} (h : Mine one e w base v xs) (hb : Below w.heap.size w w') : Mine one e w' base v xs := by
  refine World.ownsRow.kept h (row := Option.none) ⟨hb.os, hb.tape, hb.output, hb.size, fun k hk _ => hb.block k hk⟩ ?_
  cases v.ownBlock <;> simp
end

end Go.Proofs.YtlmokendajgbdaaGreatDoor
namespace Go.Proofs.YtlmokendajgbdaaGreatDoor
open Go.Sort Go.RowKit

/-- Of all blocks that were there, only block b may have turned. -/
structure But (b : Nat) (w w' : World) : Prop where
  os : w'.os = w.os
  tape : w'.tape = w.tape
  output : w'.output = w.output
  size : w.heap.size ≤ w'.heap.size
  block : ∀ k, k < w.heap.size → k ≠ b → w'.heap[k]? = w.heap[k]?

theorem But.refl (b : Nat) (w : World) : But b w w := ⟨rfl, rfl, rfl, Nat.le_refl _, fun _ _ _ => rfl⟩
theorem But.trans {b : Nat} {u v w : World} (h : But b u v) (k : But b v w) : But b u w :=
  ⟨k.os.trans h.os, k.tape.trans h.tape, k.output.trans h.output, Nat.le_trans h.size k.size, fun i hi hb => (k.block i (Nat.lt_of_lt_of_le hi h.size) hb).trans (h.block i hi hb)⟩
theorem But.ofBelow {b : Nat} {w w' : World} (h : Below w.heap.size w w') : But b w w' := ⟨h.os, h.tape, h.output, h.size, fun k hk _ => h.block k hk⟩
theorem But.set (b off : Nat) (w : World) (v : Value) : But b w (w.setCell ⟨b, off, none⟩ v) :=
  ⟨rfl, rfl, rfl, by simp [World.setCell], fun k _ hb => Below.heap_setCell w ⟨b, off, none⟩ v k hb⟩
theorem But.alloc {b : Nat} {u w : World} (h : But b u w) (o : Obj) : But b u (w.alloc o) :=
  h.trans (But.ofBelow ((Below.refl _ _).alloc (Nat.le_refl _) o))
theorem But.cell {b : Nat} {w w' : World} (h : But b w w') {p : Addr} (hp : p.block < w.heap.size) (hb : p.block ≠ b) : w'.cell? p = w.cell? p := World.cell?_of_block (w := w) (h.block p.block hp hb)
theorem But.frozen {b : Nat} {w w' : World} (h : But b w w') {p : Addr} (hp : p.block < w.heap.size) (hb : p.block ≠ b) : w'.frozen? p = w.frozen? p := World.frozen?_of_block (w := w) (h.block p.block hp hb)
theorem But.pair {b c : Nat} {w w' : World} {x y : Int} (h : But b w w') (hp : PairAt w c x y) (hb : c ≠ b) : PairAt w' c x y := by
  obtain ⟨k, l, m, n, o⟩ := hp
  exact ⟨(h.cell (p := ⟨c, 0, none⟩) o hb).trans k, (h.cell (p := ⟨c, 1, none⟩) o hb).trans l, (h.frozen (p := ⟨c, 0, none⟩) o hb).trans m, (h.frozen (p := ⟨c, 1, none⟩) o hb).trans n, Nat.lt_of_lt_of_le o h.size⟩
/-- What lies below the block that may turn stays. -/
theorem But.below {b B : Nat} {u w w' : World} (h : But b w w') (hu : Below B u w) (hB : B ≤ b) (hw : B ≤ w.heap.size) : Below B u w' :=
  hu.trans ⟨h.os, h.tape, h.output, h.size, fun k hk => h.block k (Nat.lt_of_lt_of_le hk hw) (by omega)⟩

theorem PairAt.set0 {w : World} {b : Nat} {x y : Int} (h : PairAt w b x y) (x' : Int) : PairAt (w.setCell ⟨b, 0, none⟩ (.int .i64 x')) b x' y := by
  obtain ⟨a, c, d, e, f⟩ := h
  refine ⟨World.cell?_setCell_same _ _ _ a, (World.cell?_setCell_other _ _ _ _ (by simp)).trans c, ?_, ?_, by simpa [World.setCell] using f⟩
  · rw [World.frozen?_setCell]; exact d
  · rw [World.frozen?_setCell]; exact e
theorem PairAt.set1 {w : World} {b : Nat} {x y : Int} (h : PairAt w b x y) (y' : Int) : PairAt (w.setCell ⟨b, 1, none⟩ (.int .i64 y')) b x y' := by
  obtain ⟨a, c, d, e, f⟩ := h
  refine ⟨(World.cell?_setCell_other _ _ _ _ (by simp)).trans a, World.cell?_setCell_same _ _ _ c, ?_, ?_, by simpa [World.setCell] using f⟩
  · rw [World.frozen?_setCell]; exact d
  · rw [World.frozen?_setCell]; exact e
/-- A pair in a world that grew, and behind one that was drawn. -/
theorem PairAt.regrown {w : World} {b : Nat} {x y : Int} (h : PairAt w b x y) (d : Nat) (os : Array Obj) : PairAt (grow (redrawn w d) os) b x y :=
  h.below (below_regrown w d os) h.2.2.2.2

theorem PairAt.c0 {w : World} {b : Nat} {x y : Int} (h : PairAt w b x y) : w.cell? ⟨b, 0, none⟩ = some (.int .i64 x) := h.1
theorem PairAt.c1 {w : World} {b : Nat} {x y : Int} (h : PairAt w b x y) : w.cell? ⟨b, 1, none⟩ = some (.int .i64 y) := h.2.1
theorem PairAt.z0 {w : World} {b : Nat} {x y : Int} (h : PairAt w b x y) : w.frozen? ⟨b, 0, none⟩ = false := h.2.2.1
theorem PairAt.z1 {w : World} {b : Nat} {x y : Int} (h : PairAt w b x y) : w.frozen? ⟨b, 1, none⟩ = false := h.2.2.2.1
theorem PairAt.lt {w : World} {b : Nat} {x y : Int} (h : PairAt w b x y) : b < w.heap.size := h.2.2.2.2

/-- A meter that the call itself made, with its counts; what was there ahead of the call stays. -/
structure Meted (W w : World) (b : Nat) (c m : Int) : Prop where
  pair : PairAt w b c m
  below : Below W.heap.size W w
  own : W.heap.size ≤ b
theorem Meted.fresh {W w w1 : World} {t : TypeId} (hb : Below W.heap.size W w) (h : w1 = w.alloc (.cells #[.int .i64 0, .int .i64 0] t)) : Meted W w1 w.heap.size 0 0 := by
  subst h; exact ⟨PairAt.new w 0 0 t, hb.alloc hb.size _, hb.size⟩
theorem Meted.turn {W w w' : World} {b : Nat} {c m c' m' : Int} (h : Meted W w b c m) (hp : PairAt w' b c' m') (hb : But b w w') : Meted W w' b c' m' :=
  ⟨hp, hb.below h.below h.own h.below.size, h.own⟩
theorem Meted.stay {W w w' : World} {b : Nat} {c m : Int} (h : Meted W w b c m) (hb : Below w.heap.size w w') : Meted W w' b c m :=
  ⟨h.pair.below hb h.pair.lt, h.below.trans (hb.mono h.below.size), h.own⟩

end Go.Proofs.YtlmokendajgbdaaGreatDoor
namespace Go.Proofs.YtlmokendajgbdaaGreatDoor
open Go.RowKit

/-- What a method value does that tells xs, one by one, to a yield that always goes on: it keeps whatever the yield keeps, and returns when all of xs were told. Its rounds keep what lies below m. -/
def Tells {α : Type} (F : Fence) (n : Nat) (P : Program) (gf : Nat) (fs : Array Value) (one : α → Value) (m : Nat) (xs : List α) (w : World) : Prop :=
  ∀ (l : Nat) (J : List α → World → Prop) (W : World), Below w.heap.size w W → (∀ s A o, J s A → J s (A.alloc o)) →
    (∀ pre x W1, J pre W1 → pre.length < xs.length → YieldAt F (n - 1) P l #[one x] W1 fun e W' => e = .returned (.bool true) ∧ J (pre ++ [x]) W' ∧ Below m W1 W') → J [] W →
    CallsIn F n P gf (fs ++ #[.func (.yield l) #[] #[]]) W fun e W' => (∃ v, e = .returned v) ∧ J xs W'

/-- How the body ends: it goes on, never leaves, and keeps its word. -/
def goesOn {α : Type} (B m : Nat) (I : List α → World → Prop) (xs : List α) (W : World) : Exit → Act → World → Prop
  | .normal, _, W' => KeepsFrom B W W' ∧ Below m W W' ∧ I xs W'
  | _, _, _ => False

/-- A loop's record, by its state. -/
def recAt (fn : FuncId) (tmps : Array Value) (ps : Array Tmp) (assign body : Code) (b : Nat) (st : LoopState) : Loop :=
  { state := st, pending := none, fn, tmps, params := ps, assign, body, defers := b }

theorem range_bound {F : Fence} {n : Nat} {P : Program} {α : Type} {g : Operand} {p : Tmp} {assign body : Code} {Q : Exit → Act → World → Prop} {a : Act} {w : World}
    (hro : F.round = none) (h1 : 1 ≤ n) {gf : Nat} {fs : Array Value} (hg : a.eval g = .func (.func gf) fs #[]) (hF : F.fn gf) (eg : ∀ args w, (callFunc gf args).run P w = .ok (.enter gf args) w)
    {one : α → Value} {m : Nat} {xs : List α} (hseq : Tells F (n - 1) P gf fs one m xs w) (hm : m ≤ w.heap.size)
    (I : List α → World → Prop) (hI : OwnFrom w.heap.size I) (h0 : I [] w) (a₁ : α → Act)
    (hassign : ∀ (l : Nat) (x : α) (W : World) (K : Act → World → Prop), K (a₁ x) W → assign.wpIn (F.inRound l) (n - 1 - 1) P (Exit.then K (fun _ _ _ => False)) { tmps := a.tmps.setIfInBounds p (one x), defers := [] } W)
    (hbody : ∀ (l : Nat) (pre : List α) (x : α) (W : World), I pre W → pre.length < xs.length → body.wpIn (F.inRound l) (n - 1 - 1) P (goesOn w.heap.size m I (pre ++ [x]) W) (a₁ x) W)
    (hdone : ∀ (D : Nat) (W : World), w.heap.size ≤ D → I xs W → W.heap[D]? = some (.deferred (some [])) → Q .normal { a with defers := { target := .collected D, args := #[] } :: a.defers } W) :
    (Code.rangeFunc g #[p] assign body).wpIn F n P Q a w := by
  refine wpIn_rangeFunc ?_
  intro fn hfn
  rw [hro]
  let R : LoopState → Obj := fun st => .loop (recAt fn a.tmps #[p] assign body w.heap.size st)
  let W1 : World := (w.alloc (.deferred (some []))).alloc (R .ready)
  have hs1 : W1.heap.size = w.heap.size + 1 + 1 := by simp [W1]
  have hL1 : W1.heap[w.heap.size + 1]? = some (R .ready) := by
    have := World.alloc_heap_new (w.alloc (.deferred (some []))) (R .ready)
    rwa [World.size_alloc] at this
  have hK1 : W1.heap[w.heap.size]? = some (.deferred (some [])) := (Below.heap_alloc _ _ _ (by simp)).trans (World.alloc_heap_new w _)
  have hb1 : Below w.heap.size w W1 := ((Below.refl _ w).alloc (Nat.le_refl _) _).alloc (by simp) _
  refine ⟨w.heap.size + 1, [{ target := .collected w.heap.size, args := #[] }], W1, { target := .fn (.func gf) #[], args := fs ++ #[.func (.yield (w.heap.size + 1)) #[] #[]] }, W1, gf, fs ++ #[.func (.yield (w.heap.size + 1)) #[] #[]], W1, ?_, ?_, ?_, ?_, fun _ => h1, ?_⟩
  · exact run_enterLoop_outer _ _ _ _ _
  · simp only [resolve, hg]
    simp [go_sem]
  · intro f' hf'
    simp [Target.leads] at hf'
    subst hf'
    exact hF
  · simp [invoke, go_sem, eg]
  · refine (hseq (w.heap.size + 1) (fun pre W => I pre W ∧ W.heap[w.heap.size + 1]? = some (R .ready) ∧ W.heap[w.heap.size]? = some (.deferred (some []))) W1 hb1 ?_ ?_ ⟨hI.alloc _ (hI.alloc _ h0), hL1, hK1⟩).mono ?_
    · rintro s A o ⟨hi, hl, hk⟩
      exact ⟨hI.alloc _ hi, (Below.heap_alloc _ _ _ (Array.getElem?_eq_some_iff.1 hl).1).trans hl, (Below.heap_alloc _ _ _ (Array.getElem?_eq_some_iff.1 hk).1).trans hk⟩
    · rintro pre x W ⟨hi, hl, hk⟩ hlen
      have hlt : w.heap.size + 1 < W.heap.size := (Array.getElem?_eq_some_iff.1 hl).1
      have hy := run_yield (P := P) (args := #[one x]) hl (by rfl)
      have et : ((recAt fn a.tmps #[p] assign body w.heap.size .ready).params.zip #[one x]).foldl (fun t (q, v) => t.setIfInBounds q v) (recAt fn a.tmps #[p] assign body w.heap.size .ready).tmps = a.tmps.setIfInBounds p (one x) := by simp [recAt]
      rw [et] at hy
      refine ⟨fn, _, assign, body, hy, roundIn_of_wpIn hfn ?_⟩
      refine hassign _ x W _ ⟨_, run_beginRound hl rfl, ?_⟩
      have hl2 : (W.putObj (w.heap.size + 1) (R .busy)).heap[w.heap.size + 1]? = some (R .busy) := World.putObj_heap_same hlt
      have hk2 : (W.putObj (w.heap.size + 1) (R .busy)).heap[w.heap.size]? = some (.deferred (some [])) := (World.putObj_heap_other (by omega)).trans hk
      have hw2 : Below m W (W.putObj (w.heap.size + 1) (R .busy)) := belowK_b hm _ _ _ _ (by omega) hl rfl rfl
      refine wpIn_mono (hbody _ pre x (W.putObj (w.heap.size + 1) (R .busy)) (hI.putObj _ hi (by omega) hl rfl) hlen) ?_
      rintro e a3 W3 hp
      cases e with
      | normal =>
        obtain ⟨hk3, hb3, hi3⟩ := hp
        have hl3 := hk3.same _ _ (by omega) hl2 rfl
        refine ⟨_, _, run_endRound none hl3, rfl, ⟨hI.putObj _ hi3 (by omega) hl3 rfl, ?_, ?_⟩, (hw2.trans hb3).trans (belowK_b hm _ _ _ _ (by omega) hl3 rfl rfl)⟩
        · exact World.putObj_heap_same (Array.getElem?_eq_some_iff.1 hl3).1
        · exact (World.putObj_heap_other (by omega)).trans (hk3.same _ _ (Nat.le_refl _) hk2 rfl)
      | ret => exact hp.elim
      | exit id => exact hp.elim
      | goto t => exact hp.elim
      | panic ch => exact hp.elim
      | outgrown => exact hp.elim
    · rintro e W2 ⟨⟨v, rfl⟩, hi, hl, hk⟩
      exact ⟨none, _, run_endLoop hl (by simp [recAt]), hdone _ _ (Nat.le_refl _) (hI.putObj _ hi (by omega) hl rfl) ((World.putObj_heap_other (by omega)).trans hk)⟩

end Go.Proofs.YtlmokendajgbdaaGreatDoor
namespace Go.Proofs.YtlmokendajgbdaaGreatDoor
open Go.Sort Go.RowKit

/-- Block b is two cells. -/
def Box2 (W : World) (b : Nat) (t : TypeId) (x y : Value) : Prop := W.heap[b]? = some (.cells #[x, y] t (0, 0))

section
variable {W W' : World} {b : Nat} {t : TypeId} {x y : Value}
theorem Box2.lt (h : Box2 W b t x y) : b < W.heap.size := (Array.getElem?_eq_some_iff.1 h).1
theorem Box2.c0 (h : Box2 W b t x y) : W.cell? ⟨b, 0, none⟩ = some x := by simp [World.cell?, show W.heap[b]? = _ from h]
theorem Box2.c1 (h : Box2 W b t x y) : W.cell? ⟨b, 1, none⟩ = some y := by simp [World.cell?, show W.heap[b]? = _ from h]
theorem Box2.z0 (h : Box2 W b t x y) : W.frozen? ⟨b, 0, none⟩ = false := by simp [World.frozen?, show W.heap[b]? = _ from h]
theorem Box2.z1 (h : Box2 W b t x y) : W.frozen? ⟨b, 1, none⟩ = false := by simp [World.frozen?, show W.heap[b]? = _ from h]
theorem Box2.new (W : World) (t : TypeId) (x y : Value) : Box2 (W.alloc (.cells #[x, y] t)) W.heap.size t x y := World.alloc_heap_new W _
theorem Box2.stay (h : Box2 W b t x y) (hb : Below W.heap.size W W') : Box2 W' b t x y := (hb.block b h.lt).trans h
theorem Box2.below {B : Nat} (h : Box2 W b t x y) (hb : Below B W W') (hB : b < B) : Box2 W' b t x y := (hb.block b hB).trans h
theorem Box2.alloc (h : Box2 W b t x y) (o : Obj) : Box2 (W.alloc o) b t x y := h.stay ((Below.refl _ _).alloc (Nat.le_refl _) o)
theorem Box2.kept {row : Option Nat} (h : Box2 W b t x y) (hg : W.grownBy W' row) (hr : ∀ r, row = some r → ∃ o : Obj, W.heap[r]? = some o ∧ o.isCells = false) : Box2 W' b t x y :=
  (hg.block b h.lt (fun e => by obtain ⟨o, ho, hc⟩ := hr b e.symm; rw [show W.heap[b]? = _ from h] at ho; cases ho; cases hc)).trans h
theorem Box2.set0 (h : Box2 W b t x y) (x' : Value) : Box2 (W.setCell ⟨b, 0, none⟩ x') b t x' y := by
  obtain ⟨hlt, hk⟩ := Array.getElem?_eq_some_iff.1 h
  show (W.heap.modify b _)[b]? = _
  rw [Array.getElem?_eq_getElem (by rw [Array.size_modify]; exact hlt), Array.getElem_modify_self, hk]
  rfl
theorem Box2.set1 (h : Box2 W b t x y) (y' : Value) : Box2 (W.setCell ⟨b, 1, none⟩ y') b t x y' := by
  obtain ⟨hlt, hk⟩ := Array.getElem?_eq_some_iff.1 h
  show (W.heap.modify b _)[b]? = _
  rw [Array.getElem?_eq_getElem (by rw [Array.size_modify]; exact hlt), Array.getElem_modify_self, hk]
  rfl
theorem Box2.set (h : Box2 W b t x y) (x' y' : Value) : Box2 ((W.setCell ⟨b, 0, none⟩ x').setCell ⟨b, 1, none⟩ y') b t x' y' := (h.set0 x').set1 y'
theorem Box2.other (h : Box2 W b t x y) {p : Addr} (hp : p.block ≠ b) (u : Value) : Box2 (W.setCell p u) b t x y := (Below.heap_setCell W p u b (fun e => hp e.symm)).trans h
theorem Box2.aside (h : Box2 W b t x y) {g : Nat} (hg : g ≠ b) (u v : Value) : Box2 ((W.setCell ⟨g, 0, none⟩ u).setCell ⟨g, 1, none⟩ v) b t x y := (h.other (p := ⟨g, 0, none⟩) hg u).other (p := ⟨g, 1, none⟩) hg v
theorem Box2.put {l : Nat} {o : Obj} (h : Box2 W b t x y) (o' : Obj) (hl : W.heap[l]? = some o) (ho : o.isCells = false) : Box2 (W.putObj l o') b t x y :=
  h.kept (grownBy_putObj' W l o') (fun r e => by cases e; exact ⟨o, hl, ho⟩)
end

theorem below_set2 {B g : Nat} {u w : World} (h : Below B u w) (hB : B ≤ g) (x y : Value) : Below B u ((w.setCell ⟨g, 0, none⟩ x).setCell ⟨g, 1, none⟩ y) := (h.setCell (p := ⟨g, 0, none⟩) hB x).setCell (p := ⟨g, 1, none⟩) hB y

/-- A list lies on when both cells of a block of another type are written. -/
theorem Ch.set2 {α : Type} {one : α → Value} {tc : TypeId} {W : World} {p : Option Addr} {xs : List α} (h : Ch one tc W p xs) {b : Nat} {t : TypeId} {x y : Value} (hb : Box2 W b t x y) (ht : t ≠ tc) (u v : Value) : Ch one tc ((W.setCell ⟨b, 0, Option.none⟩ u).setCell ⟨b, 1, Option.none⟩ v) p xs :=
  (h.set hb ht 0 u).set (hb.set0 u) ht 1 v

theorem cell_aside {W : World} {b g off : Nat} {v : Value} (hg : b ≠ g) (h : W.cell? ⟨b, off, none⟩ = some v) (x y : Value) : ((W.setCell ⟨g, 0, none⟩ x).setCell ⟨g, 1, none⟩ y).cell? ⟨b, off, none⟩ = some v := by
  rw [World.cell?_setCell_other _ _ _ _ (fun e => hg (by injection e with e; exact e.symm)), World.cell?_setCell_other _ _ _ _ (fun e => hg (by injection e with e; exact e.symm))]
  exact h

theorem keeps_stay {B : Nat} {W W' : World} (h : Below W.heap.size W W') : KeepsFrom B W W' := ⟨h.size, fun k _ _ hk _ => (h.block k (Array.getElem?_eq_some_iff.1 hk).1).trans hk⟩
theorem keeps_set2 (B g : Nat) (W : World) (u v : Value) : KeepsFrom B W ((W.setCell ⟨g, 0, none⟩ u).setCell ⟨g, 1, none⟩ v) := ((KeepsOthers.setCell W ⟨g, 0, none⟩ u).trans (KeepsOthers.setCell _ ⟨g, 1, none⟩ v)).from B

end Go.Proofs.YtlmokendajgbdaaGreatDoor
