/-
  The contract of elem.Least: of any row of fewer than 2^31 elements: the least one and true; of none: the zero element and false; nothing that was there has changed.
-/
import Derived.Test.YtcbfnghkbopkfaaDoorElem1
import Derived.Test.YtcbfnghkbopkfaaDoorRow
namespace Go.Proofs.YtcbfnghkbopkfaaDoor
open Go.Sort Go.RowKit

/-- The least of x and xs, as they come. -/
def leastFrom (x : Int × Int) (xs : List (Int × Int)) : Int × Int := xs.foldl (fun m e => if ltE e m then e else m) x

set_option maxHeartbeats 400000 in
theorem least_none (A : Option Addr) (c : Nat) (w : World) :
    Calls Tryd.prog 12 #[.slice A 0 c] w fun e w' => e = .returned (.tuple #[.agg #[.int .i64 0, .int .i64 0], .bool false]) ∧ Below w.heap.size w w' := by
  obtain ⟨c0, c1, f0, f1, hlt, hb⟩ := pair_after (w := w) (x := .int .i64 0) (y := .int .i64 0) (t := 23) (Below.refl _ _)
  go_enter Tryd.func12, Tryd.ntmps12
  go_wp2_with fail
  refine bodyPost_ret (v := .tuple #[.agg #[.int .i64 0, .int .i64 0], .bool false]) (by simp [results, Tryd.results12, go_sem]) rfl ⟨rfl, ?_⟩
  first | exact hb | exact (hb.setCell (by simp) _).setCell (by simp) _

theorem leastFrom_take (x : Int × Int) (xs : List (Int × Int)) (k : Nat) (h : k < xs.length) : leastFrom x (xs.take (k + 1)) = if ltE xs[k] (leastFrom x (xs.take k)) then xs[k] else leastFrom x (xs.take k) := by
  unfold leastFrom
  rw [List.take_succ_eq_append_getElem h, List.foldl_append]
  rfl

/-- What holds at each round's head. -/
def LeastRel (x : Int × Int) (xs : List (Int × Int)) (w : World) (i : Value) (wr : World) : Prop :=
  ∃ k : Nat, k ≤ xs.length ∧ i = .int .i64 k ∧ PairAt wr w.heap.size 0 0 ∧ PairAt wr (w.heap.size + 1) (leastFrom x (xs.take k)).1 (leastFrom x (xs.take k)).2 ∧ Below w.heap.size w wr

set_option maxHeartbeats 400000 in
theorem least_some (b o : Nat) (x : Int × Int) (xs : List (Int × Int)) (c : Nat) (w : World) (hlen : xs.length < 2147483647) (hc : xs.length + 1 ≤ c) (hc1 : ¬ c = 1) (hcm : c ≤ 9223372036854775807)
    (hr : ∀ j v, (cellsE (x :: xs))[j]? = some v → w.cell? ⟨b, o + j, none⟩ = some v) :
    Calls Tryd.prog 12 #[.slice (some ⟨b, o, none⟩) (xs.length + 1) c] w fun e w' => e = .returned (.tuple #[.agg #[.int .i64 (leastFrom x xs).1, .int .i64 (leastFrom x xs).2], .bool true]) ∧ Below w.heap.size w w' := by
  have hx0 : w.cell? ⟨b, o, none⟩ = some (.int .i64 x.1) := hr 0 _ rfl
  have hx1 : w.cell? ⟨b, o + 1, none⟩ = some (.int .i64 x.2) := hr 1 _ rfl
  have hbl : b < w.heap.size := block_lt_of_cell hx0
  have HR := Lib.hid hr
  clear hr
  have h0 : ((xs.length : Int) + 1 == 0) = false := by rw [beq_eq_false_iff_ne]; omega
  go_enter Tryd.func12, Tryd.ntmps12
  go_wp2_with fail
  go_loopw [17] (fun i wr => LeastRel x xs w i wr) (fun i _ => xs.length - (intOf i).toNat)
  case atStart =>
    refine ⟨0, Nat.zero_le _, rfl, (PairAt.new w 0 0 _).alloc _, ?_, ((Below.refl _ _).alloc (Nat.le_refl _) _).alloc (by simp) _⟩
    rw [show w.heap.size + 1 = (w.alloc (.cells #[.int .i64 0, .int .i64 0] 23)).heap.size from by simp]
    exact PairAt.new (w.alloc _) x.1 x.2 _
  case round =>
    obtain ⟨k, hk, rfl, hp0, hp1, hb⟩ := hrel
    by_cases hlt : k < xs.length
    · have e := row_at (fun j v hv => (hb.cell (p := ⟨b, o + j, none⟩) hbl).trans (HR.out j v hv)) (k + 1) (by simpa using hlt)
      simp only [List.getElem_cons_succ] at e
      have e0 : wr.cell? ⟨b, o + 2 + k * 2, none⟩ = some (.int .i64 xs[k].1) := by rw [show o + 2 + k * 2 = o + (k + 1) * 2 by omega]; exact e.1
      have e1 : wr.cell? ⟨b, o + 2 + k * 2 + 1, none⟩ = some (.int .i64 xs[k].2) := by rw [show o + 2 + k * 2 + 1 = o + (k + 1) * 2 + 1 by omega]; exact e.2
      have hbw : b < wr.heap.size := Nat.lt_of_lt_of_le hbl hb.size
      clear e hx0 hx1
      have P0 := Lib.hid hp0
      have P1 := Lib.hid hp1
      obtain ⟨q0, q1, q2, q3, q4⟩ := hp1
      have HB := Lib.hid hb
      clear hp0 hb
      go_wp2_with fail
      ((with_reducible refine (less_below _ _ _ _ _).mono ?_); rintro e w2 ⟨rfl, hb2⟩)
      have pe := (PairAt.new wr xs[k].1 xs[k].2 23).below hb2 (by simp)
      have pl := (P1.out.alloc _).below hb2 (by have := P1.out.2.2.2.2; simp; omega)
      have p0 := (P0.out.alloc _).below hb2 (by have := P0.out.2.2.2.2; simp; omega)
      have hbn : Below w.heap.size w w2 := (HB.out.alloc HB.out.size _).trans (hb2.mono (by have := HB.out.size; simp; omega))
      have hne : wr.heap.size ≠ w.heap.size + 1 := by omega
      have hst := Lib.hid (leastFrom_take x xs k hlt)
      clear hb2 P0 P1 HB e0 e1 q0 q1 q2 q3
      generalize hm : leastFrom x (xs.take k) = m at *
      have PL := Lib.hid pl
      have PP0 := Lib.hid p0
      have HBN := Lib.hid hbn
      obtain ⟨l0, l1, l2, l3, l4⟩ := pl
      obtain ⟨d0, d1, d2, d3, d4⟩ := pe
      clear p0 hbn hm
      cases hb : ltI xs[k].1 xs[k].2 m.1 m.2
      · have hst2 := hst.out
        rw [show ltE xs[k] m = false from hb] at hst2
        have HST := Lib.hid hst2
        clear hst hst2 hb
        go_wp2_with fail
        go_roundw
        case rel => exact ⟨k + 1, by omega, by go_num, PP0.out, by rw [HST.out]; exact PL.out, HBN.out⟩
        case measure => simp [intOf]; omega
      · have hst2 := hst.out
        rw [show ltE xs[k] m = true from hb] at hst2
        have HST := Lib.hid hst2
        clear hst hst2 hb
        go_wp2_with fail
        go_roundw
        case rel => exact ⟨k + 1, by omega, by go_num, (PP0.out.other (by simp) _).other (by simp) _, by rw [HST.out]; exact PL.out.set _ _, (HBN.out.setCell (by simp) _).setCell (by simp) _⟩
        case measure => simp [intOf]; omega
    · obtain rfl : k = xs.length := by omega
      obtain ⟨q0, q1, q2, q3, q4⟩ := hp1
      have HP0 := Lib.hid hp0
      obtain ⟨r0, r1, r2, r3, r4⟩ := hp0
      rw [List.take_length] at q0 q1
      have HB := Lib.hid hb
      clear hb
      go_wp2_with fail
      refine bodyPost_ret (v := .tuple #[.agg #[.int .i64 (leastFrom x xs).1, .int .i64 (leastFrom x xs).2], .bool true]) (by simp [results, Tryd.results12, go_sem, r0, r1]) rfl ⟨rfl, ?_⟩
      exact (HB.out.setCell (by simp) _).setCell (by simp) _

set_option maxHeartbeats 400000 in
theorem least_one (b o : Nat) (x : Int × Int) (w : World) (hr : ∀ j v, (cellsE [x])[j]? = some v → w.cell? ⟨b, o + j, none⟩ = some v) :
    Calls Tryd.prog 12 #[.slice (some ⟨b, o, none⟩) 1 1] w fun e w' => e = .returned (.tuple #[.agg #[.int .i64 x.1, .int .i64 x.2], .bool true]) ∧ Below w.heap.size w w' := by
  have hx0 : w.cell? ⟨b, o, none⟩ = some (.int .i64 x.1) := hr 0 _ rfl
  have hx1 : w.cell? ⟨b, o + 1, none⟩ = some (.int .i64 x.2) := hr 1 _ rfl
  have hbl : b < w.heap.size := block_lt_of_cell hx0
  clear hr
  go_enter Tryd.func12, Tryd.ntmps12
  go_wp2_with fail
  refine wp_loop_rounds 1 ?_
  rw [rounds_succ]
  go_wp2_with fail
  refine bodyPost_ret (v := .tuple #[.agg #[.int .i64 x.1, .int .i64 x.2], .bool true]) (by simp [results, Tryd.results12, go_sem]) rfl ⟨rfl, ?_⟩
  exact (((Below.refl w.heap.size w).alloc (Nat.le_refl _) _).alloc (by simp) _)

/-- What Least hands back. -/
def leastV : List (Int × Int) → Value
  | [] => .tuple #[.agg #[.int .i64 0, .int .i64 0], .bool false]
  | x :: xs => .tuple #[.agg #[.int .i64 (leastFrom x xs).1, .int .i64 (leastFrom x xs).2], .bool true]

theorem least_any (A : Option Addr) (l : List (Int × Int)) (c : Nat) (w : World) (hlen : l.length < 2147483647) (hc : l.length ≤ c) (hcm : c ≤ 9223372036854775807) (hr : Row w A l) :
    Calls Tryd.prog 12 #[.slice A l.length c] w fun e w' => e = .returned (leastV l) ∧ Below w.heap.size w w' := by
  cases l with
  | nil => exact least_none A c w
  | cons x xs =>
    obtain ⟨b, o, rfl, hcell⟩ := hr (by simp)
    by_cases hc1 : c = 1
    · subst hc1
      obtain rfl : xs = [] := List.eq_nil_of_length_eq_zero (by simpa using hc)
      exact least_one b o x w hcell
    · exact least_some b o x xs c w (by simp at hlen; omega) hc hc1 hcm hcell

end Go.Proofs.YtcbfnghkbopkfaaDoor
