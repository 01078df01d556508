/-
  Contract of boot.Of by a meter, for a row that was there ahead of the meter; of one element; variables beside each other; two meters. Conditions: fewer than 2 to the 24th elements, counts below 2 to the 56th.
-/
import Derived.Test.YtlmokendajgbdaaGreatDoorWw
namespace Go.Proofs.YtlmokendajgbdaaGreatDoor.Bo
open Go.Sort Go.RowKit

/-- A meter, where another one turns. -/
theorem _root_.Go.Proofs.YtlmokendajgbdaaGreatDoor.MAt.bt2 {W W' : World} {a b : Nat} {c m : Int} (h : MAt W (some a) c m) (hb : Bt (some b) W W') (hne : a ≠ b) : MAt W' (some a) c m :=
  (hb.block a h.lt (fun e => hne (by injection e with e; exact e.symm))).trans h

theorem three_vars (W : World) (p q r : Option Addr) : HVar (((W.alloc (.cells #[.pointer p] 29)).alloc (.cells #[.pointer q] 29)).alloc (.cells #[.pointer r] 29)) W.heap.size p ∧
    HVar (((W.alloc (.cells #[.pointer p] 29)).alloc (.cells #[.pointer q] 29)).alloc (.cells #[.pointer r] 29)) (W.heap.size + 1) q ∧
    HVar (((W.alloc (.cells #[.pointer p] 29)).alloc (.cells #[.pointer q] 29)).alloc (.cells #[.pointer r] 29)) (W.heap.size + 1 + 1) r := by
  unfold HVar
  refine ⟨?_, ?_, ?_⟩
  · rw [alloc_old _ (by simp only [World.size_alloc]; omega), alloc_old _ (by simp only [World.size_alloc]; omega)]; exact new_at rfl
  · rw [alloc_old _ (by simp only [World.size_alloc]; omega)]; exact new_at (by simp)
  · exact new_at (by simp)
theorem two_vars (W : World) (p q : Option Addr) : HVar ((W.alloc (.cells #[.pointer p] 29)).alloc (.cells #[.pointer q] 29)) W.heap.size p ∧
    HVar ((W.alloc (.cells #[.pointer p] 29)).alloc (.cells #[.pointer q] 29)) (W.heap.size + 1) q := by
  unfold HVar
  refine ⟨?_, ?_⟩
  · rw [alloc_old _ (by simp only [World.size_alloc]; omega)]; exact new_at rfl
  · exact new_at (by simp)
/-- Of one element, that was laid for the call. -/
theorem ofOne (x1 x2 : Int) (w : World) : Calls Tryz.prog 23 #[.pointer none, .slice (some ⟨w.heap.size, 0, none⟩) 1 1] (w.alloc (.cells #[.int .i64 x1, .int .i64 x2] 32)) fun e w' => ∃ p, e = .returned (hp p) ∧ LAt w' (.one (x1, x2)) p ∧ Below w.heap.size w w' :=
  (ofN (some ⟨w.heap.size, 0, none⟩) [(x1, x2)] 1 _ (row_new w [(x1, x2)] 32) (by simp)).mono fun _ _ ⟨p, he, ht, hb⟩ => ⟨p, he, one_of (x1, x2) ▸ ht, ((Below.refl _ _).alloc (Nat.le_refl _) _).trans (hb.mono (by simp))⟩

/-- .. behind the draw of a region's order. -/
theorem ofOneD (x1 x2 : Int) (w : World) : Calls Tryz.prog 23 #[.pointer none, .slice (some ⟨w.heap.size, 0, none⟩) 1 1] (w.alloc (.cells #[.int .i64 x1, .int .i64 x2] 32)).drew fun e w' => ∃ p, e = .returned (hp p) ∧ LAt w' (.one (x1, x2)) p ∧ Below w.heap.size w w' :=
  (ofN (some ⟨w.heap.size, 0, none⟩) [(x1, x2)] 1 _ ((row_new w [(x1, x2)] 32).below ((Below.refl _ _).drew)) (by simp)).mono fun _ _ ⟨p, he, ht, hb⟩ => ⟨p, he, one_of (x1, x2) ▸ ht, (((Below.refl _ _).alloc (Nat.le_refl _) _).drew).trans (hb.mono (show w.heap.size ≤ (w.alloc _).heap.size by simp))⟩

theorem ofMeter (mb : Nat) (c m : Int) (A : Option Addr) (xs : List (Int × Int)) (n cap : Nat) (w W : World) (hr : Row w A xs) (hn : n = xs.length) (hs : n < 16777216) (hb : Below w.heap.size w W) (hB : w.heap.size ≤ mb) (hm : MAt W (some mb) c m)
    (h0 : 0 ≤ c) (h1 : c < 72057594037927936) (h2 : 0 ≤ m) (h3 : m < 72057594037927936) :
    Calls Tryz.prog 23 #[mAddr (some mb), .slice A n cap] W (Gave (some mb) (c + putC .nil xs) (m + putM .nil xs) (ofL xs) W) := by
  subst hn
  refine of_any (some mb) c m A xs cap W hm h0 h1 h2 h3 (hr.below hb) hs (fun hpos b e q eq => ?_)
  cases e
  obtain ⟨bb, o, rfl, hc⟩ := hr hpos
  cases eq
  have h5 := block_lt_of_cell (row_at hc 0 hpos).1
  show bb ≠ mb
  have h6 : bb < w.heap.size := h5
  omega

end Go.Proofs.YtlmokendajgbdaaGreatDoor.Bo
