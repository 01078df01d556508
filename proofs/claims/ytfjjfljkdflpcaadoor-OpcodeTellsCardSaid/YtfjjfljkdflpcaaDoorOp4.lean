/-
  Contracts of slices.Clone over numbers and of the program's own reading of one operation (first): for any numbers, fewer than 2 to the 30th.
-/
import Derived.Test.YtfjjfljkdflpcaaDoorOp1
import Derived.Lib.SliceRun
import Derived.Lib.Hide
import Derived.Deep.RegionHeld3
namespace Go.Proofs.YtfjjfljkdflpcaaDoor
open Go.Sort Go.RowKit

/-- The slice is a row of these numbers. -/
def RdN (w : World) (A : Option Addr) (n c : Nat) (xs : List Int) : Prop := n = xs.length ∧ Row1 nm w A xs ∧ n ≤ c ∧ c ≤ 9223372036854775807 ∧ (A = none → c = 0)
theorem RdN.stay {w w' : World} {A : Option Addr} {n c : Nat} {xs : List Int} (h : RdN w A n c xs) (hb : Below w.heap.size w w') : RdN w' A n c xs := ⟨h.1, h.2.1.stay hb, h.2.2⟩
theorem RdN.set {w : World} {A : Option Addr} {n c : Nat} {xs : List Int} (h : RdN w A n c xs) {p : Addr} (hp : ∀ a, A = some a → a.block ≠ p.block) (u : Value) : RdN (w.setCell p u) A n c xs := by
  refine ⟨h.1, fun h0 => ?_, h.2.2⟩
  obtain ⟨b, o, e, hc⟩ := h.2.1 h0
  exact ⟨b, o, e, fun j hj => (World.cell?_setCell_other _ _ _ _ (fun e2 => hp _ e (by rw [e2]))).trans (hc j hj)⟩
theorem MineN.rd {w : World} {base : Nat} {v : Value} {xs : List Int} (h : MineN w base v xs) : ∃ A n c, v = .slice A n c ∧ RdN w A n c xs ∧ ∀ a, A = some a → base ≤ a.block ∧ a.block < w.heap.size := by
  have h0 := h
  rcases h.2 with ⟨rfl, hn⟩ | ⟨g, cap, cur, rfl, hb, hg, hc, hm, _⟩
  · obtain rfl : xs = [] := List.eq_nil_of_length_eq_zero hn
    exact ⟨Option.none, 0, 0, rfl, ⟨rfl, Row1.nil _ _, Nat.le_refl _, by omega, fun _ => rfl⟩, fun a e => by cases e⟩
  · obtain ⟨A, c, e, h1, h2, h3, h4⟩ := Mine.form h
    refine ⟨A, xs.length, c, e, ⟨rfl, h1, h2, h3, h4⟩, fun a ea => ?_⟩
    injection e with e1
    rw [ea] at e1
    injection e1 with e1
    rw [← e1]
    exact ⟨hb, (Array.getElem?_eq_some_iff.1 hg).1⟩

/-- A block of two cells that may be written: a variable of two parts. -/
def Two (t : TypeId) (w : World) (b : Nat) (x v : Value) : Prop := w.heap[b]? = some (.cells #[x, v] t (0, 0))
section
variable {t : TypeId} {w w' : World} {b : Nat} {x v : Value}
theorem Two.lt (h : Two t w b x v) : b < w.heap.size := (Array.getElem?_eq_some_iff.1 h).1
theorem Two.c0 (h : Two t w b x v) : w.cell? ⟨b, 0, none⟩ = some x := by simp [World.cell?, show w.heap[b]? = _ from h]
theorem Two.c1 (h : Two t w b x v) : w.cell? ⟨b, 1, none⟩ = some v := by simp [World.cell?, show w.heap[b]? = _ from h]
theorem Two.z0 (h : Two t w b x v) : w.frozen? ⟨b, 0, none⟩ = false := by simp [World.frozen?, show w.heap[b]? = _ from h]
theorem Two.z1 (h : Two t w b x v) : w.frozen? ⟨b, 1, none⟩ = false := by simp [World.frozen?, show w.heap[b]? = _ from h]
theorem Two.stay (h : Two t w b x v) (hb : Below w.heap.size w w') : Two t w' b x v := (hb.block b h.lt).trans h
theorem Two.drew (h : Two t w b x v) : Two t w.drew b x v := h
theorem Two.new (t : TypeId) (w : World) (x v : Value) : Two t (w.alloc (.cells #[x, v] t)) w.heap.size x v := heap_alloc_new w _
theorem Two.alloc (h : Two t w b x v) (o : Obj) : Two t (w.alloc o) b x v := h.stay ((Below.refl _ _).alloc (Nat.le_refl _) o)
theorem two_set {w : World} {b j : Nat} {cs : Array Value} {t : TypeId} {z : Nat × Nat} (h : w.heap[b]? = some (.cells cs t z)) (u : Value) : (w.setCell ⟨b, j, none⟩ u).heap[b]? = some (.cells (cs.setIfInBounds j u) t z) := by
  obtain ⟨hlt, hk⟩ := Array.getElem?_eq_some_iff.1 h
  show (w.heap.modify b _)[b]? = _
  rw [Array.getElem?_eq_getElem (by rw [Array.size_modify]; exact hlt), Array.getElem_modify_self, hk]
  rfl
theorem Two.set (h : Two t w b x v) (y u : Value) : Two t ((w.setCell ⟨b, 0, none⟩ y).setCell ⟨b, 1, none⟩ u) b y u := two_set (two_set h y) u
theorem Two.set0 (h : Two t w b x v) (y : Value) : Two t (w.setCell ⟨b, 0, none⟩ y) b y v := two_set h y
theorem Two.set1 (h : Two t w b x v) (u : Value) : Two t (w.setCell ⟨b, 1, none⟩ u) b x u := two_set h u
theorem Two.other (h : Two t w b x v) {a : Addr} (ha : a.block ≠ b) (u : Value) : Two t (w.setCell a u) b x v := (Below.heap_setCell w a u b (fun e => ha e.symm)).trans h
theorem Two.far (h : Two t w b x v) (hb : ∀ k, k = b → w'.heap[k]? = w.heap[k]?) : Two t w' b x v := (hb b rfl).trans h
end

/-- What Clone hands back. -/
def ClonedN (xs : List Int) (w : World) (e : Ending) (w' : World) : Prop := ∃ A n c, e = .returned (.slice A n c) ∧ RdN w' A n c xs ∧ Below w.heap.size w w' ∧ ∀ a, A = some a → w.heap.size ≤ a.block ∧ a.block < w'.heap.size

/-- A new row of none. -/
theorem MineN.empty (w : World) (base : Nat) (h : base ≤ w.heap.size) : MineN (w.alloc (.cells #[] 2)) base (.slice (some ⟨w.heap.size, 0, Option.none⟩) 0 0) [] :=
  ⟨rfl, .inr ⟨w.heap.size, 0, #[], rfl, h, heap_alloc_new w _, Nat.le_refl _, by unfold maxLen; omega, rfl, rfl⟩⟩

set_option maxRecDepth 100000 in
set_option maxHeartbeats 1000000 in
theorem clone_any {A : Option Addr} {n c : Nat} {xs : List Int} {w : World} (hr : RdN w A n c xs) (hl : n < 1073741823) : Calls Tryd.prog 18 #[.slice A n c] w (ClonedN xs w) := by
  obtain ⟨hn, hrow, hc, hm, hA⟩ := hr
  have q22 : ∀ (w : World) (a : Option Addr) (n c n' c' : Nat), (binOp .eql 22 (.slice a n c) (.slice none n' c')).run Tryd.prog w = .ok (.bool a.isNone) w := fun w a n c n' c' => Lib.run_eql_slice_nil w _ _ a n c n' c' Tryd.underlying22
  cases A with
  | none =>
    obtain rfl := hA rfl
    obtain rfl : n = 0 := by omega
    obtain rfl : xs = [] := List.eq_nil_of_length_eq_zero hn.symm
    clear hn hrow hc hm hA hl
    go_enter Tryd.func18, Tryd.ntmps18
    go_wp2_with fail
    go_ret
    exact ⟨none, 0, 0, rfl, ⟨rfl, Row1.nil _ _, Nat.le_refl _, by omega, fun _ => rfl⟩, Below.refl _ _, fun a e => by cases e⟩
  | some a =>
    have hb0 := (Below.refl w.heap.size w).alloc (Nat.le_refl _) (.cells #[] 2)
    have hrun := append_num _ w.heap.size _ [] xs (some a) n c hn (MineN.empty w w.heap.size (Nat.le_refl _)) (hrow.stay hb0) hA (by simp; omega) hb0.size
    obtain ⟨v', w', hrun, hown, hgb, -⟩ := hrun
    have hb : Below w.heap.size w w' := below_grown hb0 hgb hb0.size (fun g hg => by simp [Value.ownBlock] at hg; omega)
    have H := Lib.hid (And.intro (MineN.rd hown) hb)
    clear hown hgb hb hb0 hrow hn
    go_enter Tryd.func18, Tryd.ntmps18
    go_wp2_with (at_builtin; refine wpList_append_ex rfl _ _ _ rfl _ _ rfl rfl (R := fun v u => v = v' ∧ u = w') ⟨v', w', hrun, rfl, rfl⟩ ?_; rintro v u ⟨rfl, rfl⟩)
    go_ret
    obtain ⟨⟨A, n, c, e, h, hg⟩, hb⟩ := H.out
    exact ⟨A, n, c, by rw [← e]; rfl, h, hb, hg⟩

end Go.Proofs.YtfjjfljkdflpcaaDoor
