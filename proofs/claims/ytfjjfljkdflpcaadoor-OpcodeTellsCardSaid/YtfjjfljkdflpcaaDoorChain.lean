/-
  Lists in memory, of no program: from an address on lie blocks of two cells, a thing and the next one's address. What keeps such a list, and how long it still is. No conditions beyond what each theorem says.
-/
import Derived.Test.YtfjjfljkdflpcaaDoorMem
import Derived.Test.YtfjjfljkdflpcaaDoorKit
import Derived.RangeFuncOwn
namespace Go.Proofs.YtfjjfljkdflpcaaDoor
open Go.Sort Go.RowKit

/-- From p on lie these things, each in a block of type tc below m. -/
def Chain {α : Type} (one : α → Value) (tc : TypeId) (m : Nat) (W : World) : Option Addr → List α → Prop
  | p, [] => p = none
  | p, x :: xs => ∃ (b : Nat) (q : Option Addr), p = some ⟨b, 0, none⟩ ∧ b < m ∧ W.heap[b]? = some (.cells #[one x, .pointer q] tc (0, 0)) ∧ Chain one tc m W q xs

section
variable {α : Type} {one : α → Value} {tc : TypeId}

theorem Chain.below {m : Nat} {A B : World} (h : Below m A B) : ∀ {p : Option Addr} {xs : List α}, Chain one tc m A p xs → Chain one tc m B p xs
  | _, [], hl => hl
  | _, _ :: _, ⟨b, q, hp, hb, hv, hr⟩ => ⟨b, q, hp, hb, (h.block b hb).trans hv, Chain.below h hr⟩

theorem Chain.mono {m k : Nat} (h : m ≤ k) {A : World} : ∀ {p : Option Addr} {xs : List α}, Chain one tc m A p xs → Chain one tc k A p xs
  | _, [], hl => hl
  | _, _ :: _, ⟨b, q, hp, hb, hv, hr⟩ => ⟨b, q, hp, Nat.lt_of_lt_of_le hb h, hv, Chain.mono h hr⟩

/-- One address, one length. -/
theorem Chain.same {m k : Nat} {W : World} : ∀ {p : Option Addr} {xs ys : List α}, Chain one tc m W p xs → Chain one tc k W p ys → xs.length = ys.length
  | _, [], [], _, _ => rfl
  | _, [], _ :: _, h, ⟨_, _, hp, _⟩ => by rw [h] at hp; cases hp
  | _, _ :: _, [], ⟨_, _, hp, _⟩, h => by rw [h] at hp; cases hp
  | _, x :: xs, y :: ys, ⟨b, q, hp, _, hq, hr⟩, ⟨b', q', hp', _, hq', hr'⟩ => by
    rw [hp] at hp'; cases hp'
    rw [hq] at hq'
    have e : q = q' := by simp at hq'; exact hq'.2
    subst e
    simp only [List.length_cons, Chain.same hr hr']

/-- Whatever turns a block that is none of the list's, or adds one, keeps a list. -/
theorem Chain.kept {m : Nat} {A B : World} {row : Option Nat} (hg : A.grownBy B row) (hr : ∀ r, row = some r → ∀ cs, A.heap[r]? ≠ some (.cells cs tc (0, 0))) : ∀ {p : Option Addr} {xs : List α}, Chain one tc m A p xs → Chain one tc m B p xs
  | _, [], hl => hl
  | _, _ :: _, ⟨b, q, hp, hb, hv, hr'⟩ => ⟨b, q, hp, hb, (hg.block b (Array.getElem?_eq_some_iff.1 hv).1 (fun e => hr b e.symm _ hv)).trans hv, Chain.kept hg hr hr'⟩

open Classical in
/-- How many things are still to come. -/
noncomputable def left (one : α → Value) (tc : TypeId) (m : Nat) (W : World) (v : Value) : Nat :=
  if h : ∃ r : Option Addr × List α, v = .pointer r.1 ∧ Chain one tc m W r.1 r.2 then (Classical.choose h).2.length else 0

theorem left_eq {m : Nat} {W : World} {q : Option Addr} {xs : List α} (h : Chain one tc m W q xs) : left one tc m W (.pointer q) = xs.length := by
  have hex : ∃ r : Option Addr × List α, Value.pointer q = .pointer r.1 ∧ Chain one tc m W r.1 r.2 := ⟨(q, xs), rfl, h⟩
  unfold left
  rw [dif_pos hex]
  obtain ⟨e, hl⟩ := Classical.choose_spec hex
  injection e with e
  rw [← e] at hl
  exact Chain.same hl h

/-- A list that lies in the world as it is. -/
def Ch (one : α → Value) (tc : TypeId) (W : World) (p : Option Addr) (xs : List α) : Prop := Chain one tc W.heap.size W p xs

theorem Ch.none (W : World) : Ch one tc W Option.none ([] : List α) := rfl
theorem Ch.stay {A B : World} {p : Option Addr} {xs : List α} (h : Ch one tc A p xs) (hb : Below A.heap.size A B) : Ch one tc B p xs := (Chain.below hb h).mono hb.size
theorem Ch.alloc {A : World} {p : Option Addr} {xs : List α} (h : Ch one tc A p xs) (o : Obj) : Ch one tc (A.alloc o) p xs := h.stay ((Below.refl _ _).alloc (Nat.le_refl _) o)
theorem Ch.drew {A : World} {p : Option Addr} {xs : List α} (h : Ch one tc A p xs) : Ch one tc A.drew p xs := h.stay (Below.refl _ _).drew
theorem Ch.nil {A : World} {p : Option Addr} (h : Ch one tc A p ([] : List α)) : p = Option.none := h
theorem Ch.kept {A B : World} {row : Option Nat} (hg : A.grownBy B row) (hr : ∀ r, row = some r → ∀ cs, A.heap[r]? ≠ some (.cells cs tc (0, 0))) {p : Option Addr} {xs : List α} (h : Ch one tc A p xs) : Ch one tc B p xs := (Chain.kept hg hr h).mono hg.size
theorem Ch.own {A B : World} {row : Option Nat} (hg : A.grownBy B row) (hr : ∀ r, row = some r → ∃ o : Obj, A.heap[r]? = some o ∧ o.isCells = false) {p : Option Addr} {xs : List α} (h : Ch one tc A p xs) : Ch one tc B p xs :=
  h.kept hg (fun r e cs hc => by obtain ⟨o, ho, hn⟩ := hr r e; rw [hc] at ho; cases ho; cases hn)
theorem grown_set (W : World) (g off : Nat) (v : Value) : W.grownBy (W.setCell ⟨g, off, Option.none⟩ v) (some g) :=
  ⟨rfl, rfl, rfl, by simp [World.setCell], fun k _ hk => Below.heap_setCell _ _ _ k (fun e => hk (by rw [e]))⟩
/-- A write to a block of another type keeps a list. -/
theorem Ch.set {A : World} {p : Option Addr} {xs : List α} (h : Ch one tc A p xs) {g : Nat} {cs : Array Value} {t : TypeId} {fr : Nat × Nat} (hg : A.heap[g]? = some (.cells cs t fr)) (ht : t ≠ tc) (off : Nat) (v : Value) : Ch one tc (A.setCell ⟨g, off, Option.none⟩ v) p xs :=
  h.kept (grown_set A g off v) (fun r e cs' hc => by cases e; rw [hg] at hc; cases hc; exact ht rfl)

end

end Go.Proofs.YtfjjfljkdflpcaaDoor
