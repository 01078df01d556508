/-
  Contracts of elem.Less and of the reference's Less: for any numbers, in any world: what they return; nothing that was there has changed. No conditions.
  Contracts of package meter, for a meter at a block (its two counts) and for none (nil): what each method returns, what the counts are behind it, and that nothing else that was there has changed. Conditions: a count that is added to stays below 2 to the 62nd.
  Contract of meter.Since, for a meter at a block and for none (nil). Conditions: the counts stay in 64 bits.
  A meter at a block, or none, in one form: its counts; what has stayed where only the meter's block has turned; blocks kept by their types; contracts of the meter's Less, Made, Steps, New, Since. Conditions: counts below 2 to the 62nd.
  The built-in append of a row of elements (nil, empty or not) to a row that the call itself made (or to none): what it hands back, and what it leaves alone. For rows of fewer than 2^31 elements together.
-/
import Derived.Test.YtlmokendajgbdaaGreatDoorProg
import Derived.Test.YtlmokendajgbdaaGreatDoorMa
import Derived.WalkKit
import Derived.WalkLawsBesides
import Derived.Outline
import Derived.Deep.QuietTactic
import Derived.BigQuiet
import Derived.Lib.Hide
import Derived.Laws.LoneSync
import Derived.Maps.AppendAt
import Derived.Laws.AppendOwnNone
import Derived.Laws.OwnMore
namespace Go.Proofs.YtlmokendajgbdaaGreatDoor
open Go.Sort Go.RowKit

set_option maxHeartbeats 400000 in
theorem less_any (p q r s : Int) (w : World) : Calls Tryz.prog 60 #[.agg #[.int .i64 p, .int .i64 q], .agg #[.int .i64 r, .int .i64 s]] w fun e w' =>
    e = .returned (.bool (ltI p q r s)) ∧ ∃ k os, w' = grow (w.drewN k) os := by
  by_cases h : p = r
  · subst h
    have hv : ltI p q p s = decide (q < s) := by simp [ltI]
    rw [hv]; clear hv
    go_enter Tryz.func60, Tryz.ntmps60
    go_wp2
    go_ret
    exact ⟨rfl, 0, _, by rw [alloc_eq_grow, alloc_eq_grow, grow_grow]; rfl⟩
  · have hv : ltI p q r s = decide (p < r) := by simp [ltI, h]
    rw [hv]; clear hv
    have h1 : (p != r) = true := by simpa using h
    clear h
    go_enter Tryz.func60, Tryz.ntmps60
    go_wp2
    go_ret
    exact ⟨rfl, 0, _, by rw [alloc_eq_grow, alloc_eq_grow, grow_grow]; rfl⟩

set_option maxHeartbeats 400000 in
theorem refLess_any (p q r s : Int) (w : World) : Calls Tryz.prog 36 #[.agg #[.int .i64 p, .int .i64 q], .agg #[.int .i64 r, .int .i64 s]] w fun e w' =>
    e = .returned (.bool (ltI p q r s)) ∧ ∃ k os, w' = grow (w.drewN k) os := by
  by_cases h : p = r
  · subst h
    have hv : ltI p q p s = decide (q < s) := by simp [ltI]
    rw [hv]; clear hv
    have h1 : decide (p < p) = false := by simp
    go_enter Tryz.func36, Tryz.ntmps36
    go_wp2
    go_ret
    exact ⟨rfl, 0, _, by rw [alloc_eq_grow, alloc_eq_grow, grow_grow]; rfl⟩
  · have hv : ltI p q r s = decide (p < r) := by simp [ltI, h]
    rw [hv]; clear hv
    have h1 : (p == r) = false := by simpa using h
    clear h
    by_cases h2 : p < r
    · have h3 : decide (p < r) = true := by simpa using h2
      rw [h3]
      go_enter Tryz.func36, Tryz.ntmps36
      go_wp2
      go_ret
      exact ⟨rfl, 0, _, by rw [alloc_eq_grow, alloc_eq_grow, grow_grow]; rfl⟩
    · have h3 : decide (p < r) = false := by simpa using h2
      rw [h3]
      go_enter Tryz.func36, Tryz.ntmps36
      go_wp2
      go_ret
      exact ⟨rfl, 0, _, by rw [alloc_eq_grow, alloc_eq_grow, grow_grow]; rfl⟩

/-- The same with what was there unchanged. -/
theorem less_below (p q r s : Int) (w : World) : Calls Tryz.prog 60 #[.agg #[.int .i64 p, .int .i64 q], .agg #[.int .i64 r, .int .i64 s]] w fun e w' =>
    e = .returned (.bool (ltI p q r s)) ∧ Below w.heap.size w w' := (less_any p q r s w).mono fun _ _ ⟨a, k, os, b⟩ => ⟨a, by rw [b]; exact below_grow w k os⟩
theorem refLess_below (p q r s : Int) (w : World) : Calls Tryz.prog 36 #[.agg #[.int .i64 p, .int .i64 q], .agg #[.int .i64 r, .int .i64 s]] w fun e w' =>
    e = .returned (.bool (ltI p q r s)) ∧ Below w.heap.size w w' := (refLess_any p q r s w).mono fun _ _ ⟨a, k, os, b⟩ => ⟨a, by rw [b]; exact below_grow w k os⟩

end Go.Proofs.YtlmokendajgbdaaGreatDoor
namespace Go.Proofs.YtlmokendajgbdaaGreatDoor
open Go.Sort Go.RowKit

/-- A meter's address. -/
abbrev at0 (b : Nat) : Value := .pointer (some ⟨b, 0, none⟩)

theorem new_any (w : World) : Calls Tryz.prog 15 #[] w fun e w' =>
    e = .returned (at0 w.heap.size) ∧ w' = w.alloc (.cells #[.int .i64 0, .int .i64 0] 78) := by
  go_enter Tryz.func15, Tryz.ntmps15
  go_wp2
  go_ret
  exact ⟨rfl, rfl⟩

theorem load_any (b off : Nat) (v : Int) (w : World) (h : w.cell? ⟨b, off, none⟩ = some (.int .i64 v)) : Calls Tryz.prog 82 #[.pointer (some ⟨b, off, none⟩)] w fun e w' =>
    e = .returned (.int .i64 v) ∧ w' = w := by
  have hl := run_call_load (P := Tryz.prog) Tryz.func104 (by kernel_rfl) (by kernel_rfl) (by kernel_rfl) .i64 (by kernel_rfl) h
  go_enter Tryz.func82, Tryz.ntmps82
  go_wp2
  go_ret
  exact ⟨rfl, rfl⟩

theorem add_any (b off : Nat) (v d : Int) (w : World) (h : w.cell? ⟨b, off, none⟩ = some (.int .i64 v)) (hz : w.frozen? ⟨b, off, none⟩ = false) (h0 : 0 ≤ v + d) (h1 : v + d < 9223372036854775808) : Calls Tryz.prog 59 #[.pointer (some ⟨b, off, none⟩), .int .i64 d] w fun e w' =>
    e = .returned (.int .i64 (v + d)) ∧ w' = w.setCell ⟨b, off, none⟩ (.int .i64 (v + d)) := by
  have hs : (Op.intArith .add .i64 v d).run Tryz.prog w = .ok (.int .i64 (v + d)) w := by
    simp [go_sem, IntKind.wrap_i64]; omega
  have hl := run_call_add (P := Tryz.prog) Tryz.func92 (by kernel_rfl) (by kernel_rfl) (by kernel_rfl) .i64 (by kernel_rfl) h hz hs
  clear hs h0 h1
  go_enter Tryz.func59, Tryz.ntmps59
  go_wp2
  go_ret
  exact ⟨rfl, rfl⟩

/-- Two elements that were boxed, and a meter that was there, behind a call that turned the meter's block alone. -/
theorem duo_but {w w1 : World} {b : Nat} {c m c' m' p q r s : Int} {t : TypeId} (hm : PairAt w b c m) (hb : But b ((w.alloc (.cells #[.int .i64 p, .int .i64 q] t)).alloc (.cells #[.int .i64 r, .int .i64 s] t)) w1) (_ : PairAt w1 b c' m') :
    PairAt w1 w.heap.size p q ∧ PairAt w1 (w.heap.size + 1) r s ∧ But b w w1 := by
  have hlt := hm.2.2.2.2
  obtain ⟨pa, pb, _⟩ := duo (w := w) (p := p) (q := q) (r := r) (s := s) (t := t) (Below.refl _ _)
  exact ⟨hb.pair pa (by omega), hb.pair pb (by omega), (((But.refl b w).alloc _).alloc _).trans hb⟩

set_option maxHeartbeats 1000000 in
/-- Less, by a meter: it counts one comparison more. -/
theorem mless_any (b : Nat) (c m p q r s : Int) (w : World) (h : PairAt w b c m) (h0 : 0 ≤ c) (h1 : c < 4611686018427387904) : Calls Tryz.prog 39 #[at0 b, .agg #[.int .i64 p, .int .i64 q], .agg #[.int .i64 r, .int .i64 s]] w fun e w' =>
    e = .returned (.bool (ltI p q r s)) ∧ PairAt w' b (c + 1) m ∧ But b w w' := by
  have H := Lib.hid h
  have H0 := Lib.hid h0
  have H1 := Lib.hid h1
  clear h h0 h1
  go_enter Tryz.func39, Tryz.ntmps39
  go_wp2_with fail
  ((with_reducible refine (add_any b 0 c 1 _ (PairAt.c0 (((H.out).alloc _).alloc _)) (PairAt.z0 (((H.out).alloc _).alloc _)) (by have := H0.out; omega) (by have := H1.out; omega)).mono ?_); rintro e w1 ⟨rfl, hw1⟩)
  have hm1 : PairAt w1 b (c + 1) m := by rw [hw1]; exact (((H.out).alloc _).alloc _).set0 _
  have hb1 : But b ((w.alloc (.cells #[.int .i64 p, .int .i64 q] 32)).alloc (.cells #[.int .i64 r, .int .i64 s] 32)) w1 := by rw [hw1]; exact But.set _ _ _ _
  obtain ⟨⟨a0, a1, -, -, -⟩, ⟨c0, c1, -, -, -⟩, hw⟩ := duo_but H.out hb1 hm1
  have HM := Lib.hid hm1
  have HW := Lib.hid hw
  clear hw1 hm1 hb1 hw H H0 H1
  go_wp2_with fail
  ((with_reducible refine (less_below _ _ _ _ _).mono ?_); rintro e w2 ⟨rfl, hb2⟩)
  clear a0 a1 c0 c1
  go_wp2
  go_ret
  exact ⟨rfl, HM.out.below hb2 HM.out.2.2.2.2, HW.out.trans (But.ofBelow hb2)⟩

set_option maxHeartbeats 1000000 in
/-- Less, by no meter: it counts nothing. -/
theorem mless_none (p q r s : Int) (w : World) : Calls Tryz.prog 39 #[.pointer none, .agg #[.int .i64 p, .int .i64 q], .agg #[.int .i64 r, .int .i64 s]] w fun e w' =>
    e = .returned (.bool (ltI p q r s)) ∧ Below w.heap.size w w' := by
  go_enter Tryz.func39, Tryz.ntmps39
  go_wp2_with fail
  ((with_reducible refine (less_below _ _ _ _ _).mono ?_); rintro e w2 ⟨rfl, hb2⟩)
  obtain ⟨-, -, hw⟩ := duo hb2
  have HW := Lib.hid hw
  clear hb2 hw
  go_wp2
  go_ret
  exact ⟨rfl, HW.out⟩

set_option maxHeartbeats 1000000 in
/-- Made, by a meter: it counts so many things more, none if n is below 1. -/
theorem made_any (b : Nat) (c m n : Int) (w : World) (h : PairAt w b c m) (h0 : 0 ≤ m) (h1 : m + n < 9223372036854775808) : Calls Tryz.prog 58 #[at0 b, .int .i64 n] w fun e w' =>
    e = .returned (.tuple #[]) ∧ PairAt w' b c (m + max n 0) ∧ But b w w' := by
  by_cases hn : n < 1
  · rw [show m + max n 0 = m by omega]
    have hd : decide (n < 1) = true := by simpa using hn
    have H := Lib.hid h
    clear h h0 h1 hn
    go_enter Tryz.func58, Tryz.ntmps58
    go_wp2_with fail
    first | go_end0 | refine bodyPost_ret (results_none rfl _ _ _) rfl ?_
    exact ⟨rfl, H.out, But.refl _ _⟩
  · rw [show m + max n 0 = m + n by omega]
    have hd : decide (n < 1) = false := by simpa using hn
    have H := Lib.hid h
    have H0 := Lib.hid (show 0 ≤ m + n by omega)
    have H1 := Lib.hid h1
    clear h h0 h1 hn
    go_enter Tryz.func58, Tryz.ntmps58
    go_wp2_with fail
    ((with_reducible refine (add_any b 1 m n _ H.out.c1 H.out.z1 H0.out H1.out).mono ?_); rintro e w1 ⟨rfl, hw1⟩)
    have hm1 : PairAt w1 b c (m + n) := by rw [hw1]; exact H.out.set1 _
    have hb1 : But b w w1 := by rw [hw1]; exact But.set _ _ _ _
    have HM := Lib.hid hm1
    have HW := Lib.hid hb1
    clear hw1 hm1 hb1 H H0 H1
    go_wp2
    first | go_end0 | refine bodyPost_ret (results_none rfl _ _ _) rfl ?_
    exact ⟨rfl, HM.out, HW.out⟩

/-- Made, by no meter. -/
theorem made_none (n : Int) (w : World) : Calls Tryz.prog 58 #[.pointer none, .int .i64 n] w fun e w' => e = .returned (.tuple #[]) ∧ w' = w := by
  go_enter Tryz.func58, Tryz.ntmps58
  go_wp2_with fail
  first | go_end0 | refine bodyPost_ret (results_none rfl _ _ _) rfl ?_
  exact ⟨rfl, rfl⟩

set_option maxHeartbeats 1000000 in
/-- Split: both counts. -/
theorem split_any (b : Nat) (c m : Int) (w : World) (h : PairAt w b c m) : Calls Tryz.prog 48 #[at0 b] w fun e w' =>
    e = .returned (.tuple #[.int .i64 c, .int .i64 m]) ∧ Below w.heap.size w w' := by
  have H1 := Lib.hid (fun d os => Calls.regrown_of ((load_any b 0 c (grow (redrawn w d) os) (h.regrown d os).1).mono fun _ _ ⟨a, e⟩ => ⟨a, by rw [e]; exact Below.refl _ _⟩))
  have H2 := Lib.hid (fun d os => Calls.regrown_of ((load_any b 1 m (grow (redrawn w d) os) (h.regrown d os).2.1).mono fun _ _ ⟨a, e⟩ => ⟨a, by rw [e]; exact Below.refl _ _⟩))
  clear h
  go_enter Tryz.func48, Tryz.ntmps48
  go_wp2_with fail
  rw [world_self w]
  generalize hd0 : w.drawn = d0
  generalize ho0 : (#[] : Array Obj) = os0
  refine wp_region_class (by kernel_rfl) (by kernel_rfl) ?_
  repeat (go_big_quiet_step (first | (with_reducible exact H1.out _ _) | (with_reducible exact H2.out _ _)))
  refine wpQuiet_nil ?_
  intro _ hw'
  obtain ⟨⟨dq, osq⟩, hw''⟩ := hw'
  subst hw''
  go_wp2
  go_ret2
  exact ⟨rfl, below_regrown w _ _⟩

/-- Split, of no meter. -/
theorem split_none (w : World) : Calls Tryz.prog 48 #[.pointer none] w fun e w' =>
    e = .returned (.tuple #[.int .i64 0, .int .i64 0]) ∧ w' = w := by
  go_enter Tryz.func48, Tryz.ntmps48
  go_wp2_with fail
  go_ret2
  exact ⟨rfl, rfl⟩

set_option maxHeartbeats 1000000 in
/-- Steps: both counts together. -/
theorem steps_any (b : Nat) (c m : Int) (w : World) (h : PairAt w b c m) (h0 : -9223372036854775808 ≤ c + m) (h1 : c + m < 9223372036854775808) : Calls Tryz.prog 24 #[at0 b] w fun e w' =>
    e = .returned (.int .i64 (c + m)) ∧ Below w.heap.size w w' := by
  have H := Lib.hid h
  clear h
  go_enter Tryz.func24, Tryz.ntmps24
  go_wp2_with fail
  ((with_reducible refine (split_any b c m _ H.out).mono ?_); rintro e w1 ⟨rfl, hb1⟩)
  have HB := Lib.hid hb1
  clear hb1
  go_wp2
  go_ret
  exact ⟨rfl, HB.out⟩

theorem steps_none (w : World) : Calls Tryz.prog 24 #[.pointer none] w fun e w' => e = .returned (.int .i64 0) ∧ w' = w := by
  go_enter Tryz.func24, Tryz.ntmps24
  go_wp2_with fail
  ((with_reducible refine (split_none _).mono ?_); rintro e w1 ⟨rfl, rfl⟩)
  go_wp2
  go_ret
  exact ⟨rfl, rfl⟩

end Go.Proofs.YtlmokendajgbdaaGreatDoor
namespace Go.Proofs.YtlmokendajgbdaaGreatDoor
open Go.Sort Go.RowKit

set_option maxHeartbeats 1000000 in
/-- Since: Steps, less so many. -/
theorem since_any (b : Nat) (c m n : Int) (w : World) (h : PairAt w b c m) (h0 : -9223372036854775808 ≤ c + m) (h1 : c + m < 9223372036854775808) (h2 : -9223372036854775808 ≤ c + m - n) (h3 : c + m - n < 9223372036854775808) : Calls Tryz.prog 30 #[at0 b, .int .i64 n] w fun e w' =>
    e = .returned (.int .i64 (c + m - n)) ∧ Below w.heap.size w w' := by
  have H := Lib.hid (steps_any b c m w h h0 h1)
  clear h h0 h1
  go_enter Tryz.func30, Tryz.ntmps30
  go_wp2_with fail
  ((with_reducible refine H.out.mono ?_); rintro e w1 ⟨rfl, hb1⟩)
  have HB := Lib.hid hb1
  clear hb1
  go_wp2
  go_ret
  exact ⟨rfl, HB.out⟩

theorem since_none (n : Int) (w : World) : Calls Tryz.prog 30 #[.pointer none, .int .i64 n] w fun e w' => e = .returned (.int .i64 0) ∧ w' = w := by
  go_enter Tryz.func30, Tryz.ntmps30
  go_wp2_with fail
  go_ret
  exact ⟨rfl, rfl⟩

end Go.Proofs.YtlmokendajgbdaaGreatDoor
namespace Go.Proofs.YtlmokendajgbdaaGreatDoor
open Go.Sort Go.RowKit

theorem lt_of_heap {W : World} {k : Nat} {o : Obj} (h : W.heap[k]? = some o) : k < W.heap.size := (Array.getElem?_eq_some_iff.1 h).1
/-- An element's value. -/
abbrev el (x : Int × Int) : Value := .agg #[.int .i64 x.1, .int .i64 x.2]
/-- Blocks of the types N stay. -/
def Kpt (N : TypeId → Prop) (W W' : World) : Prop := ∀ (k : Nat) (cs : Array Value) (t : TypeId), N t → W.heap[k]? = some (.cells cs t (0, 0)) → W'.heap[k]? = some (.cells cs t (0, 0))
section
variable {N : TypeId → Prop}
theorem Kpt.refl (W : World) : Kpt N W W := fun _ _ _ _ h => h
theorem Kpt.trans {U V W : World} (h : Kpt N U V) (h' : Kpt N V W) : Kpt N U W := fun k cs t ht e => h' k cs t ht (h k cs t ht e)
theorem Kpt.below {W W' : World} (h : Below W.heap.size W W') : Kpt N W W' := fun k _ _ _ e => (h.block k (lt_of_heap e)).trans e
theorem Kpt.grown {W W' : World} {row : Option Nat} (hg : W.grownBy W' row) (hr : ∀ g, row = some g → ∀ cs t, W.heap[g]? = some (.cells cs t (0, 0)) → ¬ N t) : Kpt N W W' :=
  fun k cs t ht e => (hg.block k (lt_of_heap e) (fun ek => hr k ek.symm cs t e ht)).trans e
theorem Kpt.set {W : World} {g : Nat} {cs : Array Value} {t : TypeId} {z : Nat × Nat} (hg : W.heap[g]? = some (.cells cs t z)) (ht : ¬ N t) (off : Nat) (v : Value) : Kpt N W (W.setCell ⟨g, off, none⟩ v) :=
  fun k cs' t' ht' e => (Below.heap_setCell W ⟨g, off, none⟩ v k (fun ek => by subst ek; rw [hg] at e; cases e; exact ht ht')).trans e
end

/-- A meter's address, or none's. -/
abbrev mAddr (mo : Option Nat) : Value := .pointer (mo.map fun b => ⟨b, 0, none⟩)
/-- A meter's two counts; of none nothing is said. -/
def MAt (W : World) : Option Nat → Int → Int → Prop
  | none, _, _ => True
  | some b, c, m => W.heap[b]? = some (.cells #[.int .i64 c, .int .i64 m] 78 (0, 0))
/-- Of all blocks that were there only the meter's may have turned. -/
structure Bt (mo : Option Nat) (w w' : World) : Prop where
  os : w'.os = w.os
  tape : w'.tape = w.tape
  output : w'.output = w.output
  size : w.heap.size ≤ w'.heap.size
  block : ∀ k, k < w.heap.size → mo ≠ some k → w'.heap[k]? = w.heap[k]?

section
variable {mo : Option Nat} {u v w w' : World}
theorem Bt.refl (mo : Option Nat) (w : World) : Bt mo w w := ⟨rfl, rfl, rfl, Nat.le_refl _, fun _ _ _ => rfl⟩
theorem Bt.trans (h : Bt mo u v) (k : Bt mo v w) : Bt mo u w :=
  ⟨k.os.trans h.os, k.tape.trans h.tape, k.output.trans h.output, Nat.le_trans h.size k.size, fun i hi hb => (k.block i (Nat.lt_of_lt_of_le hi h.size) hb).trans (h.block i hi hb)⟩
theorem Bt.ofBelow (h : Below w.heap.size w w') : Bt mo w w' := ⟨h.os, h.tape, h.output, h.size, fun k hk _ => h.block k hk⟩
theorem Bt.toBelow (h : Bt none w w') : Below w.heap.size w w' := ⟨h.os, h.tape, h.output, h.size, fun k hk => h.block k hk (by simp)⟩
theorem Bt.ofBut {b : Nat} (h : But b w w') : Bt (some b) w w' := ⟨h.os, h.tape, h.output, h.size, fun k hk hb => h.block k hk (fun e => hb (by rw [e]))⟩
theorem Bt.toBut {b : Nat} (h : Bt (some b) w w') : But b w w' := ⟨h.os, h.tape, h.output, h.size, fun k hk hb => h.block k hk (fun e => hb (by injection e with e; exact e.symm))⟩
theorem Bt.alloc (h : Bt mo u w) (o : Obj) : Bt mo u (w.alloc o) := h.trans (Bt.ofBelow ((Below.refl _ _).alloc (Nat.le_refl _) o))
theorem Bt.drew (h : Bt mo u w) : Bt mo u w.drew := h.trans (Bt.ofBelow ((Below.refl _ _).drew))
/-- What lies below the meter stays. -/
theorem Bt.below {B : Nat} (h : Bt mo w w') (hu : Below B u w) (hB : ∀ b, mo = some b → B ≤ b) (hw : B ≤ w.heap.size) : Below B u w' :=
  hu.trans ⟨h.os, h.tape, h.output, h.size, fun k hk => h.block k (Nat.lt_of_lt_of_le hk hw) (fun e => by have := hB k e; omega)⟩
theorem Bt.kpt {N : TypeId → Prop} {c m : Int} (h : Bt mo w w') (hm : MAt w mo c m) (hN : ¬ N 78) : Kpt N w w' := fun k cs t ht e => (h.block k (lt_of_heap e) (fun em => by
  subst em
  rw [show w.heap[k]? = _ from hm] at e
  cases e
  exact hN ht)).trans e
theorem Bt.cell (h : Bt mo w w') {a : Addr} {x : Value} (hc : w.cell? a = some x) (hm : ∀ b, mo = some b → a.block ≠ b) : w'.cell? a = some x := by
  have hl : a.block < w.heap.size := by
    unfold World.cell? at hc
    cases hh : w.heap[a.block]? with
    | none => rw [hh] at hc; cases hc
    | some o => exact lt_of_heap hh
  rw [World.cell?_of_block (w := w) (h.block a.block hl (fun e => hm _ e rfl))]
  exact hc
theorem MAt.stay {c m : Int} (h : MAt w mo c m) (hb : Below w.heap.size w w') : MAt w' mo c m := by
  cases mo with
  | none => trivial
  | some b => exact (hb.block b (lt_of_heap h)).trans h
theorem MAt.alloc {c m : Int} (h : MAt w mo c m) (o : Obj) : MAt (w.alloc o) mo c m := h.stay ((Below.refl _ _).alloc (Nat.le_refl _) o)
theorem MAt.drew {c m : Int} (h : MAt w mo c m) : MAt w.drew mo c m := h.stay ((Below.refl _ _).drew)
theorem MAt.lt {c m : Int} {b : Nat} (h : MAt w (some b) c m) : b < w.heap.size := lt_of_heap h
/-- A block of another type is not the meter's. -/
theorem MAt.ne {c m : Int} {b k : Nat} {cs : Array Value} {t : TypeId} {z : Nat × Nat} (h : MAt w mo c m) (hk : w.heap[k]? = some (.cells cs t z)) (ht : t ≠ 78) (e : mo = some b) : k ≠ b := fun ek => by
  subst e; subst ek
  rw [show w.heap[k]? = _ from h] at hk
  cases hk
  exact ht rfl
theorem Bt.own (h : Bt mo u w) {b : Nat} (hb : u.heap.size ≤ b) (j : Nat) (v : Value) : Bt mo u (w.setCell ⟨b, j, none⟩ v) :=
  ⟨h.os, h.tape, h.output, by simpa [World.setCell] using h.size, fun k hk hm => (Below.heap_setCell w ⟨b, j, none⟩ v k (by show k ≠ b; omega)).trans (h.block k hk hm)⟩
theorem MAt.other {c m : Int} {b : Nat} {cs : Array Value} {t : TypeId} {z : Nat × Nat} (h : MAt w mo c m) (hb : w.heap[b]? = some (.cells cs t z)) (ht : t ≠ 78) (j : Nat) (v : Value) : MAt (w.setCell ⟨b, j, none⟩ v) mo c m := by
  cases mo with
  | none => trivial
  | some k =>
    have hne := h.ne hb ht rfl
    exact (Below.heap_setCell w ⟨b, j, none⟩ v k (fun e => hne e.symm)).trans h
end

theorem heap_put {w : World} {b j : Nat} {cs : Array Value} {t : TypeId} {z : Nat × Nat} (h : w.heap[b]? = some (.cells cs t z)) (u : Value) : (w.setCell ⟨b, j, none⟩ u).heap[b]? = some (.cells (cs.setIfInBounds j u) t z) := by
  obtain ⟨hlt, hk⟩ := Array.getElem?_eq_some_iff.1 h
  show (w.heap.modify b _)[b]? = _
  rw [Array.getElem?_eq_getElem (by rw [Array.size_modify]; exact hlt), Array.getElem_modify_self, hk]
  rfl
theorem new_at {W : World} {o : Obj} {n : Nat} (h : n = W.heap.size) : (W.alloc o).heap[n]? = some o := by rw [h]; exact heap_alloc_new W o
section
variable {w : World} {b : Nat} {c m : Int}
theorem MAt.pair (h : MAt w (some b) c m) : PairAt w b c m := by
  have h' : w.heap[b]? = _ := h
  exact ⟨by simp [World.cell?, h'], by simp [World.cell?, h'], by simp [World.frozen?, h'], by simp [World.frozen?, h'], lt_of_heap h'⟩
theorem MAt.set0 (h : MAt w (some b) c m) (c' : Int) : MAt (w.setCell ⟨b, 0, none⟩ (.int .i64 c')) (some b) c' m := heap_put (show w.heap[b]? = _ from h) _
theorem MAt.set1 (h : MAt w (some b) c m) (m' : Int) : MAt (w.setCell ⟨b, 1, none⟩ (.int .i64 m')) (some b) c m' := heap_put (show w.heap[b]? = _ from h) _
end

set_option maxHeartbeats 1000000 in
/-- Less, by a meter: it counts one comparison more. -/
theorem mLess_some (b : Nat) (c m p q r s : Int) (w : World) (h : MAt w (some b) c m) (h0 : 0 ≤ c) (h1 : c < 4611686018427387904) : Calls Tryz.prog 39 #[at0 b, .agg #[.int .i64 p, .int .i64 q], .agg #[.int .i64 r, .int .i64 s]] w fun e w' =>
    e = .returned (.bool (ltI p q r s)) ∧ MAt w' (some b) (c + 1) m ∧ But b w w' := by
  have H := Lib.hid h
  have H0 := Lib.hid h0
  have H1 := Lib.hid h1
  clear h h0 h1
  go_enter Tryz.func39, Tryz.ntmps39
  go_wp2_with fail
  ((with_reducible refine (add_any b 0 c 1 _ (PairAt.c0 (((H.out).alloc _).alloc _).pair) (PairAt.z0 (((H.out).alloc _).alloc _).pair) (by have := H0.out; omega) (by have := H1.out; omega)).mono ?_); rintro e w1 ⟨rfl, hw1⟩)
  have hm1 : MAt w1 (some b) (c + 1) m := by rw [hw1]; exact (((H.out).alloc _).alloc _).set0 _
  have hb1 : But b ((w.alloc (.cells #[.int .i64 p, .int .i64 q] 32)).alloc (.cells #[.int .i64 r, .int .i64 s] 32)) w1 := by rw [hw1]; exact But.set _ _ _ _
  obtain ⟨⟨a0, a1, -, -, -⟩, ⟨c0, c1, -, -, -⟩, hw⟩ := duo_but H.out.pair hb1 hm1.pair
  have HM := Lib.hid hm1
  have HW := Lib.hid hw
  clear hw1 hm1 hb1 hw H H0 H1
  go_wp2_with fail
  ((with_reducible refine (less_below _ _ _ _ _).mono ?_); rintro e w2 ⟨rfl, hb2⟩)
  clear a0 a1 c0 c1
  go_wp2
  go_ret
  exact ⟨rfl, HM.out.stay hb2, HW.out.trans (But.ofBelow hb2)⟩

theorem mLess (mo : Option Nat) (c m : Int) (x y : Int × Int) (w : World) (h : MAt w mo c m) (h0 : 0 ≤ c) (h1 : c < 4611686018427387904) : Calls Tryz.prog 39 #[mAddr mo, el x, el y] w fun e w' =>
    e = .returned (.bool (ltE x y)) ∧ MAt w' mo (c + 1) m ∧ Bt mo w w' := by
  cases mo with
  | none => exact (mless_none x.1 x.2 y.1 y.2 w).mono fun e w' ⟨he, hb⟩ => ⟨he, trivial, Bt.ofBelow hb⟩
  | some b => exact (mLess_some b c m x.1 x.2 y.1 y.2 w h h0 h1).mono fun e w' ⟨he, hm, hb⟩ => ⟨he, hm, Bt.ofBut hb⟩

set_option maxHeartbeats 1000000 in
/-- Made(1), by a meter: it counts one thing more. -/
theorem mMade_some (b : Nat) (c m : Int) (w : World) (h : MAt w (some b) c m) (h0 : 0 ≤ m) (h1 : m < 4611686018427387904) : Calls Tryz.prog 58 #[at0 b, .int .i64 1] w fun e w' =>
    e = .returned (.tuple #[]) ∧ MAt w' (some b) c (m + 1) ∧ But b w w' := by
  have H := Lib.hid h
  have H0 := Lib.hid h0
  have H1 := Lib.hid h1
  clear h h0 h1
  go_enter Tryz.func58, Tryz.ntmps58
  go_wp2_with fail
  ((with_reducible refine (add_any b 1 m 1 _ H.out.pair.c1 H.out.pair.z1 (by have := H0.out; omega) (by have := H1.out; omega)).mono ?_); rintro e w1 ⟨rfl, hw1⟩)
  have hm1 : MAt w1 (some b) c (m + 1) := by rw [hw1]; exact H.out.set1 _
  have hb1 : But b w w1 := by rw [hw1]; exact But.set _ _ _ _
  have HM := Lib.hid hm1
  have HW := Lib.hid hb1
  clear hw1 hm1 hb1 H H0 H1
  go_wp2
  first | go_end0 | refine bodyPost_ret (results_none rfl _ _ _) rfl ?_
  exact ⟨rfl, HM.out, HW.out⟩

theorem mMade (mo : Option Nat) (c m : Int) (w : World) (h : MAt w mo c m) (h0 : 0 ≤ m) (h1 : m < 4611686018427387904) : Calls Tryz.prog 58 #[mAddr mo, .int .i64 1] w fun e w' =>
    e = .returned (.tuple #[]) ∧ MAt w' mo c (m + 1) ∧ Bt mo w w' := by
  cases mo with
  | none => exact (made_none 1 w).mono fun e w' ⟨he, hb⟩ => ⟨he, trivial, by rw [hb]; exact Bt.refl _ _⟩
  | some b => exact (mMade_some b c m w h h0 h1).mono fun e w' ⟨he, hm, hb⟩ => ⟨he, hm, Bt.ofBut hb⟩

theorem mNew (w : World) : Calls Tryz.prog 15 #[] w fun e w' => e = .returned (mAddr (some w.heap.size)) ∧ MAt w' (some w.heap.size) 0 0 ∧ Below w.heap.size w w' :=
  (new_any w).mono fun e w' ⟨he, hw⟩ => ⟨he, by rw [hw]; exact heap_alloc_new w _, by rw [hw]; exact (Below.refl _ _).alloc (Nat.le_refl _) _⟩
theorem mSteps (b : Nat) (c m : Int) (w : World) (h : MAt w (some b) c m) (h0 : 0 ≤ c) (h1 : c < 4611686018427387904) (h2 : 0 ≤ m) (h3 : m < 4611686018427387904) : Calls Tryz.prog 24 #[mAddr (some b)] w fun e w' =>
    e = .returned (.int .i64 (c + m)) ∧ Below w.heap.size w w' := steps_any b c m w h.pair (by omega) (by omega)
theorem mSince (b : Nat) (c m n : Int) (w : World) (h : MAt w (some b) c m) (h0 : 0 ≤ c) (h1 : c < 2305843009213693952) (h2 : 0 ≤ m) (h3 : m < 2305843009213693952) (h4 : 0 ≤ n) (h5 : n < 4611686018427387904) : Calls Tryz.prog 30 #[mAddr (some b), .int .i64 n] w fun e w' =>
    e = .returned (.int .i64 (c + m - n)) ∧ Below w.heap.size w w' := since_any b c m n w h.pair (by omega) (by omega) (by omega) (by omega)

/-- How far a call has come: the meter's counts, what has stayed of blocks of the types N. -/
structure Trk (N : TypeId → Prop) (mo : Option Nat) (w : World) (c m : Int) (w' : World) : Prop where
  bt : Bt mo w w'
  mt : MAt w' mo c m
  kp : Kpt N w w'
section
variable {N : TypeId → Prop} {mo : Option Nat} {w w' w'' : World} {c m c' m' : Int}
theorem Trk.refl (h : MAt w mo c m) : Trk N mo w c m w := ⟨Bt.refl _ _, h, Kpt.refl _⟩
theorem Trk.stay (h : Trk N mo w c m w') (hb : Below w'.heap.size w' w'') : Trk N mo w c m w'' := ⟨h.bt.trans (Bt.ofBelow hb), h.mt.stay hb, h.kp.trans (Kpt.below hb)⟩
theorem Trk.alloc (h : Trk N mo w c m w') (o : Obj) : Trk N mo w c m (w'.alloc o) := h.stay ((Below.refl _ _).alloc (Nat.le_refl _) o)
theorem Trk.drew (h : Trk N mo w c m w') : Trk N mo w c m w'.drew := h.stay ((Below.refl _ _).drew)
theorem Trk.turn (h : Trk N mo w c m w') (hm : MAt w'' mo c' m') (hb : Bt mo w' w'') (hN : ¬ N 78) : Trk N mo w c' m' w'' := ⟨h.bt.trans hb, hm, h.kp.trans (hb.kpt h.mt hN)⟩
theorem Trk.put (h : Trk N mo w c m w') {b : Nat} {cs : Array Value} {t : TypeId} {z : Nat × Nat} (hb : w'.heap[b]? = some (.cells cs t z)) (hN : ¬ N t) (ht : t ≠ 78) (hw : w.heap.size ≤ b) (j : Nat) (v : Value) : Trk N mo w c m (w'.setCell ⟨b, j, none⟩ v) :=
  ⟨h.bt.own hw j v, h.mt.other hb ht j v, h.kp.trans (Kpt.set hb hN j v)⟩
/-- A block of a type that is neither the meter's nor one of those that are kept, behind a call. -/
theorem Bt.row {b : Nat} {cs : Array Value} {t : TypeId} {z : Nat × Nat} (h : Bt mo w w') (hm : MAt w mo c m) (hb : w.heap[b]? = some (.cells cs t z)) (ht : t ≠ 78) : w'.heap[b]? = some (.cells cs t z) :=
  (h.block b (lt_of_heap hb) (fun e => hm.ne hb ht e rfl)).trans hb
end

/-- A meter that the call itself made, with its counts; what was there ahead of the call stays. -/
structure Own1 (w : World) (mb : Nat) (c m : Int) (w' : World) : Prop where
  below : Below w.heap.size w w'
  own : w.heap.size ≤ mb
  mt : MAt w' (some mb) c m
section
variable {w w' w'' : World} {mb : Nat} {c m c' m' : Int}
theorem Own1.turn (h : Own1 w mb c m w') (hm : MAt w'' (some mb) c' m') (hb : Bt (some mb) w' w'') : Own1 w mb c' m' w'' :=
  ⟨hb.below h.below (fun b e => by cases e; exact h.own) h.below.size, h.own, hm⟩
theorem Own1.stay (h : Own1 w mb c m w') (hb : Below w'.heap.size w' w'') : Own1 w mb c m w'' := ⟨h.below.trans (hb.mono h.below.size), h.own, h.mt.stay hb⟩
end

end Go.Proofs.YtlmokendajgbdaaGreatDoor
namespace Go.Proofs.YtlmokendajgbdaaGreatDoor
open Go.Sort Go.RowKit

theorem infoA : (Tryz.prog.info? 32).map (fun i => (i.zero, i.size, i.bytes)) = some (some (.agg #[.int .i64 0, .int .i64 0]), 2, 16) := by kernel_rfl

/-- A row of the call's own, as a slice. -/
def Own (w : World) (base : Nat) (v : Value) (xs : List (Int × Int)) : Prop := w.ownsRow base 32 2 v xs.length (cellsE xs)

theorem Own.none (w : World) (base : Nat) : Own w base (.slice Option.none 0 0) [] := World.ownsRow_nil w base _ _

theorem Own.form {w : World} {base : Nat} {v : Value} {xs : List (Int × Int)} (h : Own w base v xs) :
    ∃ A c, v = .slice A xs.length c ∧ Row w A xs ∧ xs.length ≤ c ∧ c ≤ 9223372036854775807 ∧ (A = Option.none → c = 0) := by
  have h0 := h
  rcases h.2 with ⟨rfl, hn⟩ | ⟨g, cap, cur, rfl, hb, hg, hc, hm, _⟩
  · obtain rfl : xs = [] := List.eq_nil_of_length_eq_zero hn
    exact ⟨Option.none, 0, rfl, Row.nil _ _, Nat.le_refl _, by omega, fun _ => rfl⟩
  · refine ⟨_, cap, rfl, fun _ => ⟨g, 0, rfl, fun j u hu => ?_⟩, hc, by unfold maxLen at hm; omega, fun e => by cases e⟩
    have := h0.cells (g := g) rfl j u hu
    rwa [add_plain] at this

theorem append_row (w : World) (base : Nat) (v : Value) (xs ys : List (Int × Int)) (A : Option Addr) (c : Nat) (hown : Own w base v xs) (hr : Row w A ys) (hA : A = Option.none → c = 0) (hlen : xs.length + ys.length < 2147483648) (hb : base ≤ w.heap.size) :
    ∃ v' w', (Builtin.append_ #[37, 37] 37 #[v, .slice A ys.length c]).run Tryz.prog w = .ok v' w' ∧ Own w' base v' (xs ++ ys) ∧ w.grownBy w' v.ownBlock := by
  obtain ⟨i0, hi, hz0, hz1, hz2⟩ := info_parts infoA
  have step : ∀ a : Addr, (∀ j u, (cellsE ys)[j]? = some u → w.cell? (a.add j) = some u) → ∃ v' w', (Builtin.append_ #[37, 37] 37 #[v, .slice (some a) ys.length c]).run Tryz.prog w = .ok v' w' ∧ Own w' base v' (xs ++ ys) ∧ w.grownBy w' v.ownBlock := by
    intro a hc
    obtain ⟨v', w', h1, h2, h3, _⟩ := run_append_own_at (P := Tryz.prog) w base 37 37 32 i0 _ 2 16 Tryz.underlying37 hi hz0 hz1 hz2 rfl (by omega) v xs.length (cellsE xs) hown a ys.length c (cellsE ys) (cellsE_length ys) hc (cellsE_one ys) (by unfold maxLen; omega) (by omega) hb
    refine ⟨v', w', h1, ?_, h3⟩
    unfold Own
    rw [cellsE_append, List.length_append]
    exact h2
  by_cases h0 : 0 < ys.length
  · obtain ⟨b, o, rfl, hc⟩ := hr h0
    exact step _ (fun j u hu => by rw [add_plain]; exact hc j u hu)
  · obtain rfl : ys = [] := List.eq_nil_of_length_eq_zero (by omega)
    cases A with
    | some a => exact step a (fun j u hu => by simp [cellsE] at hu)
    | none =>
      obtain rfl := hA rfl
      have hrun := run_append_owned_none (P := Tryz.prog) (w := w) base 37 37 32 i0 2 Tryz.underlying37 hi v xs.length (cellsE xs) hown
      exact ⟨v, w, hrun, by rw [List.append_nil]; exact hown, World.grownBy.refl w _⟩

/-- The built-in append at its operation, by what its run is known to be. -/
theorem wpList_append_run {P : Program} {w : World} {ops : Array Oper} {rest : List Oper} {o : Oper} {a : Act} {Q : Exit → Act → World → Prop} (hgd : o.guard = Option.none) (s x : Operand) (t : TypeId)
    (ho : o.op = .call { callee := .builtin .append, args := #[s, x], argTypes := #[t, t] }) (v xv v' : Value) (w' : World) (hs : a.eval s = v) (hx : a.eval x = xv)
    (hrun : (Builtin.append_ #[t, t] o.type #[v, xv]).run P w = .ok v' w') (h : wpList P ops Q rest (a.put o.dst v') w') : wpList P ops Q (o :: rest) a w := by
  refine wpList_plain hgd fun K hK => ?_
  unfold Oper.wp
  simp [execOp, ho, resolve, invoke, builtin, hs, hx, hrun, Result.andThen]
  exact hK _ _ h

theorem Own.block {w : World} {base : Nat} {v : Value} {xs : List (Int × Int)} (h : Own w base v xs) : ∀ g, v.ownBlock = some g → base ≤ g := fun g hg => (World.ownsRow.lt h g hg).1
theorem Own.below {w w' : World} {base : Nat} {v : Value} {xs : List (Int × Int)} (h : Own w base v xs) (hb : Below w.heap.size w w') : Own w' base v xs := by
  refine World.ownsRow.kept h (row := Option.none) ⟨hb.os, hb.tape, hb.output, hb.size, fun k hk _ => hb.block k hk⟩ ?_
  cases v.ownBlock <;> simp

end Go.Proofs.YtlmokendajgbdaaGreatDoor
