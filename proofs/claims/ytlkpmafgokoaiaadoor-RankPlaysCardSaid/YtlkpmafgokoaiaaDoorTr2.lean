/-
  Contracts of the meter's Less, Made, Steps for a meter at a block or none, and of rank.push, rank.Leaf: what each hands back, what the counts are, and that only the meter's block has turned. Conditions: counts below 2 to the 62nd.
-/
import Derived.Test.YtlkpmafgokoaiaaDoorTr1
import Derived.Test.YtlkpmafgokoaiaaDoorKey
import Derived.Test.YtlkpmafgokoaiaaDoorMeter
namespace Go.Proofs.YtlkpmafgokoaiaaDoor
open Go.Sort Go.RowKit

theorem heap_put {w : World} {b j : Nat} {cs : Array Value} {t : TypeId} {z : Nat × Nat} (h : w.heap[b]? = some (.cells cs t z)) (u : Value) : (w.setCell ⟨b, j, none⟩ u).heap[b]? = some (.cells (cs.setIfInBounds j u) t z) := by
  obtain ⟨hlt, hk⟩ := Array.getElem?_eq_some_iff.1 h
  show (w.heap.modify b _)[b]? = _
  rw [Array.getElem?_eq_getElem (by rw [Array.size_modify]; exact hlt), Array.getElem_modify_self, hk]
  rfl
theorem new_at {W : World} {o : Obj} {n : Nat} (h : n = W.heap.size) : (W.alloc o).heap[n]? = some o := by rw [h]; exact heap_alloc_new W o
section
variable {w : World} {b : Nat} {c m : Int}
theorem MAt.pair (h : MAt w (some b) c m) : PairAt w b c m := by
  have h' : w.heap[b]? = _ := h
  exact ⟨by simp [World.cell?, h'], by simp [World.cell?, h'], by simp [World.frozen?, h'], by simp [World.frozen?, h'], lt_of_heap h'⟩
theorem MAt.set0 (h : MAt w (some b) c m) (c' : Int) : MAt (w.setCell ⟨b, 0, none⟩ (.int .i64 c')) (some b) c' m := heap_put (show w.heap[b]? = _ from h) _
theorem MAt.set1 (h : MAt w (some b) c m) (m' : Int) : MAt (w.setCell ⟨b, 1, none⟩ (.int .i64 m')) (some b) c m' := heap_put (show w.heap[b]? = _ from h) _
end

set_option maxHeartbeats 1000000 in
/-- Less, by a meter: it counts one comparison more. -/
theorem mLess_some (b : Nat) (c m p q r s : Int) (w : World) (h : MAt w (some b) c m) (h0 : 0 ≤ c) (h1 : c < 4611686018427387904) : Calls Tryd.prog 34 #[at0 b, .agg #[.int .i64 p, .int .i64 q], .agg #[.int .i64 r, .int .i64 s]] w fun e w' =>
    e = .returned (.bool (ltI p q r s)) ∧ MAt w' (some b) (c + 1) m ∧ But b w w' := by
  have H := Lib.hid h
  have H0 := Lib.hid h0
  have H1 := Lib.hid h1
  clear h h0 h1
  go_enter Tryd.func34, Tryd.ntmps34
  go_wp2_with fail
  ((with_reducible refine (add_any b 0 c 1 _ (PairAt.c0 (((H.out).alloc _).alloc _).pair) (PairAt.z0 (((H.out).alloc _).alloc _).pair) (by have := H0.out; omega) (by have := H1.out; omega)).mono ?_); rintro e w1 ⟨rfl, hw1⟩)
  have hm1 : MAt w1 (some b) (c + 1) m := by rw [hw1]; exact (((H.out).alloc _).alloc _).set0 _
  have hb1 : But b ((w.alloc (.cells #[.int .i64 p, .int .i64 q] 28)).alloc (.cells #[.int .i64 r, .int .i64 s] 28)) w1 := by rw [hw1]; exact But.set _ _ _ _
  obtain ⟨⟨a0, a1, -, -, -⟩, ⟨c0, c1, -, -, -⟩, hw⟩ := duo_but H.out.pair hb1 hm1.pair
  have HM := Lib.hid hm1
  have HW := Lib.hid hw
  clear hw1 hm1 hb1 hw H H0 H1
  go_wp2_with fail
  ((with_reducible refine (less_below _ _ _ _ _).mono ?_); rintro e w2 ⟨rfl, hb2⟩)
  clear a0 a1 c0 c1
  go_wp2
  go_ret
  exact ⟨rfl, HM.out.stay hb2, HW.out.trans (But.ofBelow hb2)⟩

theorem mLess (mo : Option Nat) (c m : Int) (x y : Int × Int) (w : World) (h : MAt w mo c m) (h0 : 0 ≤ c) (h1 : c < 4611686018427387904) : Calls Tryd.prog 34 #[mAddr mo, el x, el y] w fun e w' =>
    e = .returned (.bool (ltE x y)) ∧ MAt w' mo (c + 1) m ∧ Bt mo w w' := by
  cases mo with
  | none => exact (mless_none x.1 x.2 y.1 y.2 w).mono fun e w' ⟨he, hb⟩ => ⟨he, trivial, Bt.ofBelow hb⟩
  | some b => exact (mLess_some b c m x.1 x.2 y.1 y.2 w h h0 h1).mono fun e w' ⟨he, hm, hb⟩ => ⟨he, hm, Bt.ofBut hb⟩

set_option maxHeartbeats 1000000 in
/-- Made(1), by a meter: it counts one thing more. -/
theorem mMade_some (b : Nat) (c m : Int) (w : World) (h : MAt w (some b) c m) (h0 : 0 ≤ m) (h1 : m < 4611686018427387904) : Calls Tryd.prog 33 #[at0 b, .int .i64 1] w fun e w' =>
    e = .returned (.tuple #[]) ∧ MAt w' (some b) c (m + 1) ∧ But b w w' := by
  have H := Lib.hid h
  have H0 := Lib.hid h0
  have H1 := Lib.hid h1
  clear h h0 h1
  go_enter Tryd.func33, Tryd.ntmps33
  go_wp2_with fail
  ((with_reducible refine (add_any b 1 m 1 _ H.out.pair.c1 H.out.pair.z1 (by have := H0.out; omega) (by have := H1.out; omega)).mono ?_); rintro e w1 ⟨rfl, hw1⟩)
  have hm1 : MAt w1 (some b) c (m + 1) := by rw [hw1]; exact H.out.set1 _
  have hb1 : But b w w1 := by rw [hw1]; exact But.set _ _ _ _
  have HM := Lib.hid hm1
  have HW := Lib.hid hb1
  clear hw1 hm1 hb1 H H0 H1
  go_wp2
  first | go_end0 | refine bodyPost_ret (results_none rfl _ _ _) rfl ?_
  exact ⟨rfl, HM.out, HW.out⟩

theorem mMade (mo : Option Nat) (c m : Int) (w : World) (h : MAt w mo c m) (h0 : 0 ≤ m) (h1 : m < 4611686018427387904) : Calls Tryd.prog 33 #[mAddr mo, .int .i64 1] w fun e w' =>
    e = .returned (.tuple #[]) ∧ MAt w' mo c (m + 1) ∧ Bt mo w w' := by
  cases mo with
  | none => exact (made_none 1 w).mono fun e w' ⟨he, hb⟩ => ⟨he, trivial, by rw [hb]; exact Bt.refl _ _⟩
  | some b => exact (mMade_some b c m w h h0 h1).mono fun e w' ⟨he, hm, hb⟩ => ⟨he, hm, Bt.ofBut hb⟩

theorem mNew (w : World) : Calls Tryd.prog 9 #[] w fun e w' => e = .returned (mAddr (some w.heap.size)) ∧ MAt w' (some w.heap.size) 0 0 ∧ Below w.heap.size w w' :=
  (new_any w).mono fun e w' ⟨he, hw⟩ => ⟨he, by rw [hw]; exact heap_alloc_new w _, by rw [hw]; exact (Below.refl _ _).alloc (Nat.le_refl _) _⟩
theorem mSteps (b : Nat) (c m : Int) (w : World) (h : MAt w (some b) c m) (h0 : 0 ≤ c) (h1 : c < 4611686018427387904) (h2 : 0 ≤ m) (h3 : m < 4611686018427387904) : Calls Tryd.prog 16 #[mAddr (some b)] w fun e w' =>
    e = .returned (.int .i64 (c + m)) ∧ Below w.heap.size w w' := steps_any b c m w h.pair (by omega) (by omega)

/-- What a call hands back that makes a tree: c comparisons, m things made so far. -/
def Gave (mo : Option Nat) (c m : Int) (t : Option Tre) (w : World) (e : Ending) (w' : World) : Prop := ∃ p, e = .returned (.pointer p) ∧ TAt w' p t ∧ MAt w' mo c m ∧ Bt mo w w'

set_option maxHeartbeats 1000000 in
theorem pushT_any (p q : Option Addr) (w : World) : Calls Tryd.prog 36 #[.pointer p, .pointer q] w fun e w' =>
    e = .returned (.pointer (some ⟨w.heap.size, 0, none⟩)) ∧ w' = w.alloc (.cells #[.pointer p, .pointer q] 90) := by
  go_enter Tryd.func36, Tryd.ntmps36
  go_wp2
  go_ret
  exact ⟨rfl, rfl⟩

set_option maxHeartbeats 1000000 in
theorem pushE_any (x : Int × Int) (q : Option Addr) (w : World) : Calls Tryd.prog 37 #[el x, .pointer q] w fun e w' =>
    ∃ b, e = .returned (.pointer (some ⟨b, 0, none⟩)) ∧ w'.heap[b]? = some (.cells #[.int .i64 x.1, .int .i64 x.2, .pointer q] 92 (0, 0)) ∧ Below w.heap.size w w' := by
  obtain ⟨x1, x2⟩ := x
  go_enter Tryd.func37, Tryd.ntmps37
  go_wp2
  go_ret
  exact ⟨_, rfl, new_at (by simp), ((Below.refl _ _).alloc (Nat.le_refl _) _).alloc (by simp) _⟩

set_option maxHeartbeats 1000000 in
theorem leaf_any (mo : Option Nat) (c m : Int) (x : Int × Int) (w : World) (h : MAt w mo c m) (h0 : 0 ≤ m) (h1 : m < 4611686018427387904) : Calls Tryd.prog 11 #[mAddr mo, el x] w
    (Gave mo c (m + 1) (some (leafT x)) w) := by
  obtain ⟨x1, x2⟩ := x
  have H := Lib.hid h
  clear h
  go_enter Tryd.func11, Tryd.ntmps11
  go_wp2_with fail
  ((with_reducible refine (mMade mo c m _ (H.out.alloc _) h0 h1).mono ?_); rintro e w1 ⟨rfl, hm, hb⟩)
  obtain ⟨e0, e1, -⟩ := PairAt.new w x1 x2 28
  have hne : ∀ b, mo = some b → w.heap.size ≠ b := fun b eb => by subst eb; have := H.out.lt; omega
  have k0 := hb.cell (a := ⟨w.heap.size, 0, none⟩) e0 hne
  have k1 := hb.cell (a := ⟨w.heap.size, 1, none⟩) e1 hne
  have HM := Lib.hid hm
  have HB := Lib.hid (((Bt.refl mo w).alloc _).trans hb)
  clear e0 e1 hne hm hb H
  go_wp2
  go_ret
  exact ⟨_, rfl, ⟨w1.heap.size, rfl, none, none, heap_alloc_new w1 _, rfl, rfl⟩, HM.out.alloc _, HB.out.alloc _⟩

end Go.Proofs.YtlkpmafgokoaiaaDoor
