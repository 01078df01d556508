/-
  What the walks of layer 11's statements carry on: heaps, elements, rows and variables, wherever only a meter's block turns; contracts in the one form that they use. No conditions beyond what each theorem says.
-/
import Derived.Test.YtlmokendajgbdaaGreatDoorWb5
import Derived.Test.YtlmokendajgbdaaGreatDoorMc
namespace Go.Proofs.YtlmokendajgbdaaGreatDoor.Bo
open Go.Sort Go.RowKit

section
variable {W W' : World} {mo : Option Nat} {c m : Int}
theorem HVar.new (W : World) (p : Option Addr) {n : Nat} (h : n = W.heap.size) : HVar (W.alloc (.cells #[.pointer p] 29)) n p := new_at h
theorem HVar.lt {b : Nat} {p : Option Addr} (h : HVar W b p) : b < W.heap.size := lt_of_heap h

/-- What stays where a heap's variable is written. -/
theorem LAt.set {t : Lh} {p : Option Addr} (h : LAt W t p) {b : Nat} {q : Option Addr} (hv : HVar W b q) (u : Value) : LAt (W.setCell ⟨b, 0, Option.none⟩ u) t p := h.wrote hv heapT_ne 0 u
theorem _root_.Go.Proofs.YtlmokendajgbdaaGreatDoor.Rw.set {v : Value} {xs : List (Int × Int)} (h : Rw W v xs) {b : Nat} {q : Option Addr} (hv : HVar W b q) (u : Value) : Rw (W.setCell ⟨b, 0, Option.none⟩ u) v xs := by
  rcases h with h | ⟨g, o, k, cs, hv', h1, h2, h3, h4⟩
  · exact .inl h
  · exact .inr ⟨g, o, k, cs, hv', h1, h2, (heap_other _ _ (fun e => by subst e; have hz := h3.symm.trans hv; injection hz with hz; injection hz with _ hz; exact absurd hz (by decide))).trans h3, h4⟩
theorem EVar.set {b' : Nat} {x : Int × Int} (h : EVar W b' x) {b : Nat} (hne : b' ≠ b) (off : Nat) (u : Value) : EVar (W.setCell ⟨b, off, none⟩ u) b' x := (heap_other _ _ hne).trans h
theorem _root_.Go.Proofs.YtlmokendajgbdaaGreatDoor.MAt.set (h : MAt W mo c m) {b : Nat} {q : Option Addr} (hv : HVar W b q) (u : Value) : MAt (W.setCell ⟨b, 0, none⟩ u) mo c m := h.other hv (by decide) 0 u
/-- .. an element's variable. -/
theorem LAt.setE {t : Lh} {p : Option Addr} (h : LAt W t p) {b : Nat} {x : Int × Int} (hv : EVar W b x) (u u' : Value) : LAt ((W.setCell ⟨b, 0, Option.none⟩ u).setCell ⟨b, 1, Option.none⟩ u') t p :=
  (h.wrote hv elemT_ne 0 u).wrote (heap_put (j := 0) hv u) elemT_ne 1 u'
/-- What holds from here on, and what is new. -/
theorem on_inv {P Q : World → Prop} {w1 w2 : World} (h : ∀ W, Bt mo w1 W → P W) (hb : Bt mo w1 w2) (new : ∀ W, Bt mo w2 W → Q W) : ∀ W, Bt mo w2 W → Q W ∧ P W := fun W k => ⟨new W k, h W (hb.trans k)⟩

/-- What was there ahead of the call, and the library's table. -/
structure Bas (w W : World) : Prop where
  below : Below w.heap.size w W
  env : Env W
theorem Bas.bt {w : World} (h : Bas w W) (he : Env w) (hb : Bt mo W W') (hB : ∀ b, mo = some b → w.heap.size ≤ b) : Bas w W' :=
  ⟨hb.below h.below hB h.below.size, he.below (hb.below h.below hB h.below.size)⟩
theorem Bas.set {w : World} (h : Bas w W) (he : Env w) {b : Nat} (hb : w.heap.size ≤ b) (off : Nat) (u : Value) : Bas w (W.setCell ⟨b, off, none⟩ u) :=
  ⟨h.below.setCell (p := ⟨b, off, none⟩) hb u, he.below (h.below.setCell (p := ⟨b, off, none⟩) hb u)⟩
theorem Bas.first {w : World} (he : Env w) : Bas w w := ⟨Below.refl _ _, he⟩
end

theorem drainRw (t : Lh) (p : Option Addr) (N : Int) (w : World) (h : LAt w t p) (hok : t.ok) (hn : (t.size : Int) ≤ N) (hN : N < 1073741824) (hs : t.size < 16777216) :
    Calls Tryz.prog 32 #[hp p, .int .i64 N] w fun e w' => ∃ v, e = .returned v ∧ Rw w' v (srt t.all) ∧ Below w.heap.size w w' :=
  (drain_any t p N w h hok hn hN hs).mono fun _ _ ⟨v, he, ho, hb⟩ => ⟨v, he, ho.rw, hb⟩

theorem ofRow (A : Option Addr) (xs : List (Int × Int)) (n cap : Nat) (w W : World) (hr : Row w A xs) (hn : n = xs.length) (hs : n < 16777216) (hb : Below w.heap.size w W) : Calls Tryz.prog 23 #[.pointer none, .slice A n cap] W (GaveN (ofL xs) W) := by
  subst hn; exact ofN A xs cap W (hr.below hb) hs
theorem sortRow (A : Option Addr) (xs : List (Int × Int)) (n cap : Nat) (w W : World) (hr : Row w A xs) (hn : n = xs.length) (hs : n < 16777216) (hb : Below w.heap.size w W) : Calls Tryz.prog 31 #[.slice A n cap] W fun e w' => ∃ v', e = .returned v' ∧ Rw w' v' (srt xs) ∧ Below W.heap.size W w' := by
  subst hn; exact sortRw A xs cap W (hr.below hb) hs
/-- Same, of rows that are the same. -/
theorem sameIs (u v : Value) (xs ys : List (Int × Int)) (w : World) (hx : Rw w u xs) (hy : Rw w v ys) (hs : xs.length < 16777216) (h : xs = ys) : Calls Tryz.prog 33 #[u, v] w fun e w' => e = .returned (.bool true) ∧ Below w.heap.size w w' :=
  (sameRw u v xs ys w hx hy hs).mono fun _ _ ⟨he, hb⟩ => ⟨by rw [he]; simp [h], hb⟩

/-- A row that is not empty, and what is behind its first one. -/
theorem _root_.Go.Proofs.YtlmokendajgbdaaGreatDoor.Rw.rest {W : World} {v : Value} {xs : List (Int × Int)} (h : Rw W v xs) (hx : xs ≠ []) : ∃ (b o c : Nat), v = .slice (some ⟨b, o, Option.none⟩) xs.length c ∧ xs.length ≤ c ∧ c ≤ 9223372036854775807 ∧
    ∀ W', Below W.heap.size W W' → Rw W' (.slice (some ⟨b, o, Option.none⟩) 0 0) [] ∧ Rw W' (.slice (some ⟨b, o + 1 * 2, Option.none⟩) (xs.length - 1) (c - 1)) xs.tail := by
  rcases h with ⟨-, rfl⟩ | ⟨b, o, c, cs, rfl, h1, h2, h3, h4⟩
  · exact absurd rfl hx
  · refine ⟨b, o, c, rfl, h1, h2, fun W' hb => ⟨.inr ⟨b, o, 0, cs, rfl, Nat.le_refl _, by omega, (hb.block b (lt_of_heap h3)).trans h3, fun j u hu => by simp [cellsE] at hu⟩, .inr ⟨b, o + 1 * 2, c - 1, cs, by rw [List.length_tail], by rw [List.length_tail]; omega, by omega, (hb.block b (lt_of_heap h3)).trans h3, fun j u hu => ?_⟩⟩⟩
    have e1 : xs.tail = xs.drop 1 := by cases xs <;> rfl
    rw [e1, cellsE_drop, List.getElem?_drop] at hu
    rw [Nat.add_assoc]
    exact h4 _ u hu
theorem half_step {N v q : Nat} (h : N < (v + 1) * 2 ^ q) : N < (v / 2 + 1) * 2 ^ (q + 1) := by
  have h1 : (v / 2 + 1) * 2 ^ (q + 1) = (2 * (v / 2) + 2) * 2 ^ q := by rw [Nat.pow_succ, Nat.mul_comm (2 ^ q) 2, ← Nat.mul_assoc]; congr 1; omega
  rw [h1]
  exact Nat.lt_of_lt_of_le h (Nat.mul_le_mul_right _ (by omega))

end Go.Proofs.YtlmokendajgbdaaGreatDoor.Bo
