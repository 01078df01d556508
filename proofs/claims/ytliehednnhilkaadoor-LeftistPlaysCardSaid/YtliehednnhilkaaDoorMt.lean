/-
  A meter at a block, or none, in one form: its counts; what has stayed where only the meter's block has turned; blocks kept by their types; contracts of the meter's Less, Made, Steps, New, Since. Conditions: counts below 2 to the 62nd.
-/
import Derived.Test.YtliehednnhilkaaDoorBut
import Derived.Test.YtliehednnhilkaaDoorOrd
import Derived.Test.YtliehednnhilkaaDoorSince
import Derived.Test.YtliehednnhilkaaDoorProg
namespace Go.Proofs.YtliehednnhilkaaDoor
open Go.Sort Go.RowKit

theorem lt_of_heap {W : World} {k : Nat} {o : Obj} (h : W.heap[k]? = some o) : k < W.heap.size := (Array.getElem?_eq_some_iff.1 h).1
/-- An element's value. -/
abbrev el (x : Int × Int) : Value := .agg #[.int .i64 x.1, .int .i64 x.2]
/-- Blocks of the types N stay. -/
def Kpt (N : TypeId → Prop) (W W' : World) : Prop := ∀ (k : Nat) (cs : Array Value) (t : TypeId), N t → W.heap[k]? = some (.cells cs t (0, 0)) → W'.heap[k]? = some (.cells cs t (0, 0))
section
variable {N : TypeId → Prop}
theorem Kpt.refl (W : World) : Kpt N W W := fun _ _ _ _ h => h
theorem Kpt.trans {U V W : World} (h : Kpt N U V) (h' : Kpt N V W) : Kpt N U W := fun k cs t ht e => h' k cs t ht (h k cs t ht e)
theorem Kpt.below {W W' : World} (h : Below W.heap.size W W') : Kpt N W W' := fun k _ _ _ e => (h.block k (lt_of_heap e)).trans e
theorem Kpt.grown {W W' : World} {row : Option Nat} (hg : W.grownBy W' row) (hr : ∀ g, row = some g → ∀ cs t, W.heap[g]? = some (.cells cs t (0, 0)) → ¬ N t) : Kpt N W W' :=
  fun k cs t ht e => (hg.block k (lt_of_heap e) (fun ek => hr k ek.symm cs t e ht)).trans e
theorem Kpt.set {W : World} {g : Nat} {cs : Array Value} {t : TypeId} {z : Nat × Nat} (hg : W.heap[g]? = some (.cells cs t z)) (ht : ¬ N t) (off : Nat) (v : Value) : Kpt N W (W.setCell ⟨g, off, none⟩ v) :=
  fun k cs' t' ht' e => (Below.heap_setCell W ⟨g, off, none⟩ v k (fun ek => by subst ek; rw [hg] at e; cases e; exact ht ht')).trans e
end

/-- A meter's address, or none's. -/
abbrev mAddr (mo : Option Nat) : Value := .pointer (mo.map fun b => ⟨b, 0, none⟩)
/-- A meter's two counts; of none nothing is said. -/
def MAt (W : World) : Option Nat → Int → Int → Prop
  | none, _, _ => True
  | some b, c, m => W.heap[b]? = some (.cells #[.int .i64 c, .int .i64 m] 77 (0, 0))
/-- Of all blocks that were there only the meter's may have turned. -/
structure Bt (mo : Option Nat) (w w' : World) : Prop where
  os : w'.os = w.os
  tape : w'.tape = w.tape
  output : w'.output = w.output
  size : w.heap.size ≤ w'.heap.size
  block : ∀ k, k < w.heap.size → mo ≠ some k → w'.heap[k]? = w.heap[k]?

section
variable {mo : Option Nat} {u v w w' : World}
theorem Bt.refl (mo : Option Nat) (w : World) : Bt mo w w := ⟨rfl, rfl, rfl, Nat.le_refl _, fun _ _ _ => rfl⟩
theorem Bt.trans (h : Bt mo u v) (k : Bt mo v w) : Bt mo u w :=
  ⟨k.os.trans h.os, k.tape.trans h.tape, k.output.trans h.output, Nat.le_trans h.size k.size, fun i hi hb => (k.block i (Nat.lt_of_lt_of_le hi h.size) hb).trans (h.block i hi hb)⟩
theorem Bt.ofBelow (h : Below w.heap.size w w') : Bt mo w w' := ⟨h.os, h.tape, h.output, h.size, fun k hk _ => h.block k hk⟩
theorem Bt.toBelow (h : Bt none w w') : Below w.heap.size w w' := ⟨h.os, h.tape, h.output, h.size, fun k hk => h.block k hk (by simp)⟩
theorem Bt.ofBut {b : Nat} (h : But b w w') : Bt (some b) w w' := ⟨h.os, h.tape, h.output, h.size, fun k hk hb => h.block k hk (fun e => hb (by rw [e]))⟩
theorem Bt.toBut {b : Nat} (h : Bt (some b) w w') : But b w w' := ⟨h.os, h.tape, h.output, h.size, fun k hk hb => h.block k hk (fun e => hb (by injection e with e; exact e.symm))⟩
theorem Bt.alloc (h : Bt mo u w) (o : Obj) : Bt mo u (w.alloc o) := h.trans (Bt.ofBelow ((Below.refl _ _).alloc (Nat.le_refl _) o))
theorem Bt.drew (h : Bt mo u w) : Bt mo u w.drew := h.trans (Bt.ofBelow ((Below.refl _ _).drew))
/-- What lies below the meter stays. -/
theorem Bt.below {B : Nat} (h : Bt mo w w') (hu : Below B u w) (hB : ∀ b, mo = some b → B ≤ b) (hw : B ≤ w.heap.size) : Below B u w' :=
  hu.trans ⟨h.os, h.tape, h.output, h.size, fun k hk => h.block k (Nat.lt_of_lt_of_le hk hw) (fun e => by have := hB k e; omega)⟩
theorem Bt.kpt {N : TypeId → Prop} {c m : Int} (h : Bt mo w w') (hm : MAt w mo c m) (hN : ¬ N 77) : Kpt N w w' := fun k cs t ht e => (h.block k (lt_of_heap e) (fun em => by
  subst em
  rw [show w.heap[k]? = _ from hm] at e
  cases e
  exact hN ht)).trans e
theorem Bt.cell (h : Bt mo w w') {a : Addr} {x : Value} (hc : w.cell? a = some x) (hm : ∀ b, mo = some b → a.block ≠ b) : w'.cell? a = some x := by
  have hl : a.block < w.heap.size := by
    unfold World.cell? at hc
    cases hh : w.heap[a.block]? with
    | none => rw [hh] at hc; cases hc
    | some o => exact lt_of_heap hh
  rw [World.cell?_of_block (w := w) (h.block a.block hl (fun e => hm _ e rfl))]
  exact hc
theorem MAt.stay {c m : Int} (h : MAt w mo c m) (hb : Below w.heap.size w w') : MAt w' mo c m := by
  cases mo with
  | none => trivial
  | some b => exact (hb.block b (lt_of_heap h)).trans h
theorem MAt.alloc {c m : Int} (h : MAt w mo c m) (o : Obj) : MAt (w.alloc o) mo c m := h.stay ((Below.refl _ _).alloc (Nat.le_refl _) o)
theorem MAt.drew {c m : Int} (h : MAt w mo c m) : MAt w.drew mo c m := h.stay ((Below.refl _ _).drew)
theorem MAt.lt {c m : Int} {b : Nat} (h : MAt w (some b) c m) : b < w.heap.size := lt_of_heap h
/-- A block of another type is not the meter's. -/
theorem MAt.ne {c m : Int} {b k : Nat} {cs : Array Value} {t : TypeId} {z : Nat × Nat} (h : MAt w mo c m) (hk : w.heap[k]? = some (.cells cs t z)) (ht : t ≠ 77) (e : mo = some b) : k ≠ b := fun ek => by
  subst e; subst ek
  rw [show w.heap[k]? = _ from h] at hk
  cases hk
  exact ht rfl
theorem Bt.own (h : Bt mo u w) {b : Nat} (hb : u.heap.size ≤ b) (j : Nat) (v : Value) : Bt mo u (w.setCell ⟨b, j, none⟩ v) :=
  ⟨h.os, h.tape, h.output, by simpa [World.setCell] using h.size, fun k hk hm => (Below.heap_setCell w ⟨b, j, none⟩ v k (by show k ≠ b; omega)).trans (h.block k hk hm)⟩
theorem MAt.other {c m : Int} {b : Nat} {cs : Array Value} {t : TypeId} {z : Nat × Nat} (h : MAt w mo c m) (hb : w.heap[b]? = some (.cells cs t z)) (ht : t ≠ 77) (j : Nat) (v : Value) : MAt (w.setCell ⟨b, j, none⟩ v) mo c m := by
  cases mo with
  | none => trivial
  | some k =>
    have hne := h.ne hb ht rfl
    exact (Below.heap_setCell w ⟨b, j, none⟩ v k (fun e => hne e.symm)).trans h
end

theorem heap_put {w : World} {b j : Nat} {cs : Array Value} {t : TypeId} {z : Nat × Nat} (h : w.heap[b]? = some (.cells cs t z)) (u : Value) : (w.setCell ⟨b, j, none⟩ u).heap[b]? = some (.cells (cs.setIfInBounds j u) t z) := by
  obtain ⟨hlt, hk⟩ := Array.getElem?_eq_some_iff.1 h
  show (w.heap.modify b _)[b]? = _
  rw [Array.getElem?_eq_getElem (by rw [Array.size_modify]; exact hlt), Array.getElem_modify_self, hk]
  rfl
theorem new_at {W : World} {o : Obj} {n : Nat} (h : n = W.heap.size) : (W.alloc o).heap[n]? = some o := by rw [h]; exact heap_alloc_new W o
section
variable {w : World} {b : Nat} {c m : Int}
theorem MAt.pair (h : MAt w (some b) c m) : PairAt w b c m := by
  have h' : w.heap[b]? = _ := h
  exact ⟨by simp [World.cell?, h'], by simp [World.cell?, h'], by simp [World.frozen?, h'], by simp [World.frozen?, h'], lt_of_heap h'⟩
theorem MAt.set0 (h : MAt w (some b) c m) (c' : Int) : MAt (w.setCell ⟨b, 0, none⟩ (.int .i64 c')) (some b) c' m := heap_put (show w.heap[b]? = _ from h) _
theorem MAt.set1 (h : MAt w (some b) c m) (m' : Int) : MAt (w.setCell ⟨b, 1, none⟩ (.int .i64 m')) (some b) c m' := heap_put (show w.heap[b]? = _ from h) _
end

set_option maxHeartbeats 1000000 in
/-- Less, by a meter: it counts one comparison more. -/
theorem mLess_some (b : Nat) (c m p q r s : Int) (w : World) (h : MAt w (some b) c m) (h0 : 0 ≤ c) (h1 : c < 4611686018427387904) : Calls Tryd.prog 39 #[at0 b, .agg #[.int .i64 p, .int .i64 q], .agg #[.int .i64 r, .int .i64 s]] w fun e w' =>
    e = .returned (.bool (ltI p q r s)) ∧ MAt w' (some b) (c + 1) m ∧ But b w w' := by
  have H := Lib.hid h
  have H0 := Lib.hid h0
  have H1 := Lib.hid h1
  clear h h0 h1
  go_enter Tryd.func39, Tryd.ntmps39
  go_wp2_with fail
  ((with_reducible refine (add_any b 0 c 1 _ (PairAt.c0 (((H.out).alloc _).alloc _).pair) (PairAt.z0 (((H.out).alloc _).alloc _).pair) (by have := H0.out; omega) (by have := H1.out; omega)).mono ?_); rintro e w1 ⟨rfl, hw1⟩)
  have hm1 : MAt w1 (some b) (c + 1) m := by rw [hw1]; exact (((H.out).alloc _).alloc _).set0 _
  have hb1 : But b ((w.alloc (.cells #[.int .i64 p, .int .i64 q] 32)).alloc (.cells #[.int .i64 r, .int .i64 s] 32)) w1 := by rw [hw1]; exact But.set _ _ _ _
  obtain ⟨⟨a0, a1, -, -, -⟩, ⟨c0, c1, -, -, -⟩, hw⟩ := duo_but H.out.pair hb1 hm1.pair
  have HM := Lib.hid hm1
  have HW := Lib.hid hw
  clear hw1 hm1 hb1 hw H H0 H1
  go_wp2_with fail
  ((with_reducible refine (less_below _ _ _ _ _).mono ?_); rintro e w2 ⟨rfl, hb2⟩)
  clear a0 a1 c0 c1
  go_wp2
  go_ret
  exact ⟨rfl, HM.out.stay hb2, HW.out.trans (But.ofBelow hb2)⟩

theorem mLess (mo : Option Nat) (c m : Int) (x y : Int × Int) (w : World) (h : MAt w mo c m) (h0 : 0 ≤ c) (h1 : c < 4611686018427387904) : Calls Tryd.prog 39 #[mAddr mo, el x, el y] w fun e w' =>
    e = .returned (.bool (ltE x y)) ∧ MAt w' mo (c + 1) m ∧ Bt mo w w' := by
  cases mo with
  | none => exact (mless_none x.1 x.2 y.1 y.2 w).mono fun e w' ⟨he, hb⟩ => ⟨he, trivial, Bt.ofBelow hb⟩
  | some b => exact (mLess_some b c m x.1 x.2 y.1 y.2 w h h0 h1).mono fun e w' ⟨he, hm, hb⟩ => ⟨he, hm, Bt.ofBut hb⟩

set_option maxHeartbeats 1000000 in
/-- Made(1), by a meter: it counts one thing more. -/
theorem mMade_some (b : Nat) (c m : Int) (w : World) (h : MAt w (some b) c m) (h0 : 0 ≤ m) (h1 : m < 4611686018427387904) : Calls Tryd.prog 47 #[at0 b, .int .i64 1] w fun e w' =>
    e = .returned (.tuple #[]) ∧ MAt w' (some b) c (m + 1) ∧ But b w w' := by
  have H := Lib.hid h
  have H0 := Lib.hid h0
  have H1 := Lib.hid h1
  clear h h0 h1
  go_enter Tryd.func47, Tryd.ntmps47
  go_wp2_with fail
  ((with_reducible refine (add_any b 1 m 1 _ H.out.pair.c1 H.out.pair.z1 (by have := H0.out; omega) (by have := H1.out; omega)).mono ?_); rintro e w1 ⟨rfl, hw1⟩)
  have hm1 : MAt w1 (some b) c (m + 1) := by rw [hw1]; exact H.out.set1 _
  have hb1 : But b w w1 := by rw [hw1]; exact But.set _ _ _ _
  have HM := Lib.hid hm1
  have HW := Lib.hid hb1
  clear hw1 hm1 hb1 H H0 H1
  go_wp2
  first | go_end0 | refine bodyPost_ret (results_none rfl _ _ _) rfl ?_
  exact ⟨rfl, HM.out, HW.out⟩

theorem mMade (mo : Option Nat) (c m : Int) (w : World) (h : MAt w mo c m) (h0 : 0 ≤ m) (h1 : m < 4611686018427387904) : Calls Tryd.prog 47 #[mAddr mo, .int .i64 1] w fun e w' =>
    e = .returned (.tuple #[]) ∧ MAt w' mo c (m + 1) ∧ Bt mo w w' := by
  cases mo with
  | none => exact (made_none 1 w).mono fun e w' ⟨he, hb⟩ => ⟨he, trivial, by rw [hb]; exact Bt.refl _ _⟩
  | some b => exact (mMade_some b c m w h h0 h1).mono fun e w' ⟨he, hm, hb⟩ => ⟨he, hm, Bt.ofBut hb⟩

theorem mNew (w : World) : Calls Tryd.prog 16 #[] w fun e w' => e = .returned (mAddr (some w.heap.size)) ∧ MAt w' (some w.heap.size) 0 0 ∧ Below w.heap.size w w' :=
  (new_any w).mono fun e w' ⟨he, hw⟩ => ⟨he, by rw [hw]; exact heap_alloc_new w _, by rw [hw]; exact (Below.refl _ _).alloc (Nat.le_refl _) _⟩
theorem mSteps (b : Nat) (c m : Int) (w : World) (h : MAt w (some b) c m) (h0 : 0 ≤ c) (h1 : c < 4611686018427387904) (h2 : 0 ≤ m) (h3 : m < 4611686018427387904) : Calls Tryd.prog 25 #[mAddr (some b)] w fun e w' =>
    e = .returned (.int .i64 (c + m)) ∧ Below w.heap.size w w' := steps_any b c m w h.pair (by omega) (by omega)
theorem mSince (b : Nat) (c m n : Int) (w : World) (h : MAt w (some b) c m) (h0 : 0 ≤ c) (h1 : c < 2305843009213693952) (h2 : 0 ≤ m) (h3 : m < 2305843009213693952) (h4 : 0 ≤ n) (h5 : n < 4611686018427387904) : Calls Tryd.prog 31 #[mAddr (some b), .int .i64 n] w fun e w' =>
    e = .returned (.int .i64 (c + m - n)) ∧ Below w.heap.size w w' := since_any b c m n w h.pair (by omega) (by omega) (by omega) (by omega)

/-- How far a call has come: the meter's counts, what has stayed of blocks of the types N. -/
structure Trk (N : TypeId → Prop) (mo : Option Nat) (w : World) (c m : Int) (w' : World) : Prop where
  bt : Bt mo w w'
  mt : MAt w' mo c m
  kp : Kpt N w w'
section
variable {N : TypeId → Prop} {mo : Option Nat} {w w' w'' : World} {c m c' m' : Int}
theorem Trk.refl (h : MAt w mo c m) : Trk N mo w c m w := ⟨Bt.refl _ _, h, Kpt.refl _⟩
theorem Trk.stay (h : Trk N mo w c m w') (hb : Below w'.heap.size w' w'') : Trk N mo w c m w'' := ⟨h.bt.trans (Bt.ofBelow hb), h.mt.stay hb, h.kp.trans (Kpt.below hb)⟩
theorem Trk.alloc (h : Trk N mo w c m w') (o : Obj) : Trk N mo w c m (w'.alloc o) := h.stay ((Below.refl _ _).alloc (Nat.le_refl _) o)
theorem Trk.drew (h : Trk N mo w c m w') : Trk N mo w c m w'.drew := h.stay ((Below.refl _ _).drew)
theorem Trk.turn (h : Trk N mo w c m w') (hm : MAt w'' mo c' m') (hb : Bt mo w' w'') (hN : ¬ N 77) : Trk N mo w c' m' w'' := ⟨h.bt.trans hb, hm, h.kp.trans (hb.kpt h.mt hN)⟩
theorem Trk.put (h : Trk N mo w c m w') {b : Nat} {cs : Array Value} {t : TypeId} {z : Nat × Nat} (hb : w'.heap[b]? = some (.cells cs t z)) (hN : ¬ N t) (ht : t ≠ 77) (hw : w.heap.size ≤ b) (j : Nat) (v : Value) : Trk N mo w c m (w'.setCell ⟨b, j, none⟩ v) :=
  ⟨h.bt.own hw j v, h.mt.other hb ht j v, h.kp.trans (Kpt.set hb hN j v)⟩
/-- A block of a type that is neither the meter's nor one of those that are kept, behind a call. -/
theorem Bt.row {b : Nat} {cs : Array Value} {t : TypeId} {z : Nat × Nat} (h : Bt mo w w') (hm : MAt w mo c m) (hb : w.heap[b]? = some (.cells cs t z)) (ht : t ≠ 77) : w'.heap[b]? = some (.cells cs t z) :=
  (h.block b (lt_of_heap hb) (fun e => hm.ne hb ht e rfl)).trans hb
end

/-- A meter that the call itself made, with its counts; what was there ahead of the call stays. -/
structure Own1 (w : World) (mb : Nat) (c m : Int) (w' : World) : Prop where
  below : Below w.heap.size w w'
  own : w.heap.size ≤ mb
  mt : MAt w' (some mb) c m
section
variable {w w' w'' : World} {mb : Nat} {c m c' m' : Int}
theorem Own1.turn (h : Own1 w mb c m w') (hm : MAt w'' (some mb) c' m') (hb : Bt (some mb) w' w'') : Own1 w mb c' m' w'' :=
  ⟨hb.below h.below (fun b e => by cases e; exact h.own) h.below.size, h.own, hm⟩
theorem Own1.stay (h : Own1 w mb c m w') (hb : Below w'.heap.size w' w'') : Own1 w mb c m w'' := ⟨h.below.trans (hb.mono h.below.size), h.own, h.mt.stay hb⟩
end

end Go.Proofs.YtliehednnhilkaaDoor
