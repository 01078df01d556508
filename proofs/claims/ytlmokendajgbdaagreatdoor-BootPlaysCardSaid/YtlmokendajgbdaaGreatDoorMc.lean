/-
  What the library's FormatInt reads of memory (one table), as a property of a world that stays where nothing below has changed; its contract, and that of elem.Text, for every element of two 64-bit numbers. No other conditions.
  Plain facts, of no program: elements of two 64-bit numbers, how long their texts are; all of a row in order: of rows with the same elements, of a row with one more, of two rows' sum. No conditions.
  Contracts of the reference's Compare and Same: for any elements and any two rows (of fewer than 2^31 elements): what they return; nothing that was there has changed.
  Contracts of the reference's Put, Sort and Compare: for any row of fewer than 2^30 elements and any element: a new row with the element where it belongs; all of a row in order; nothing that was there has changed.
  Contract of the reference's Sort: for any row of fewer than 2^30 elements: a new row that holds all of them in order; nothing that was there has changed.
  Rows of elements that a call has made, as values: they stay where only a meter's block turns; contracts of the reference's Put, Sort, Sum and Same over them; nothing that was there has changed. Conditions: fewer than 2 to the 24th elements.
-/
import Derived.Test.YtlmokendajgbdaaGreatDoorShelf
import Derived.Test.YtlmokendajgbdaaGreatDoorMb
import Derived.Shelf.Strconv.Itoa4
import Derived.Lib.QuietBelow
import Derived.Lib.ItoaLen
import Derived.Lib.ItoaMem
import Derived.Test.YtlmokendajgbdaaGreatDoorMa
import Derived.Deep.LoopGhost
namespace Go.Proofs.YtlmokendajgbdaaGreatDoor
open Go.Sort Go.RowKit

/-- What the library's calls read of memory. -/
structure Env (w : World) : Prop where
  tab : Lib.TabIs Tryz.prog w "internal/strconv.uint64pow10" .u64 Lib.pow10Tab

theorem Env.below {w w' : World} (h : Env w) (hb : Below w.heap.size w w') : Env w' where
  tab := var_stays hb h.tab

theorem formatInt_any (n : Int) (h0 : -9223372036854775808 ≤ n) (h1 : n ≤ 9223372036854775807) (w : World) (he : Env w) :
    Calls Tryz.prog 87 #[.int .i64 n, .int .i64 10] w fun e w' => e = .returned (.string ⟨(Lib.itoa n).toArray⟩) ∧ Below w.heap.size w w' :=
  (Any.strconv_FormatInt_10 Tryz.laysM173 n h0 h1 w he.tab).mono fun _ _ ⟨a, k, os, b⟩ => ⟨a, by rw [b]; exact below_grow w k os⟩

theorem append_bytes (a b : List UInt8) : (⟨a.toArray⟩ : ByteArray) ++ ⟨b.toArray⟩ = ⟨(a ++ b).toArray⟩ := by
  apply ByteArray.ext
  simp

/-- An element as a text. -/
def textOf (p q : Int) : List UInt8 := Lib.itoa p ++ (58 :: Lib.itoa q)

set_option maxHeartbeats 400000 in
theorem text_any (p q : Int) (hp : -9223372036854775808 ≤ p ∧ p ≤ 9223372036854775807) (hq : -9223372036854775808 ≤ q ∧ q ≤ 9223372036854775807) (w : World) (he : Env w) :
    Calls Tryz.prog 53 #[.agg #[.int .i64 p, .int .i64 q]] w fun e w' => e = .returned (.string ⟨(textOf p q).toArray⟩) ∧ Below w.heap.size w w' := by
  have lp := Lib.itoa_length_le p hp.1 hp.2
  have lq := Lib.itoa_length_le q hq.1 hq.2
  have hF : ∀ (n : Int) (h0 : -9223372036854775808 ≤ n) (h1 : n ≤ 9223372036854775807) (o : Obj) d os, Calls Tryz.prog 87 #[.int .i64 n, .int .i64 10] (grow (redrawn (w.alloc o) d) os) fun e w'' => e = .returned (.string ⟨(Lib.itoa n).toArray⟩) ∧ ∃ r : Regrown, w'' = grow (redrawn (w.alloc o) r.d) r.os :=
    fun n h0 h1 o d os => Calls.regrown_of (formatInt_any n h0 h1 _ ((he.below ((Below.refl w.heap.size w).alloc (Nat.le_refl _) o)).below (below_regrown _ d os)))
  have HF := Lib.hid hF
  clear hF he
  obtain ⟨hp0, hp1⟩ := hp
  obtain ⟨hq0, hq1⟩ := hq
  obtain ⟨c0, c1, _, _, _, hb⟩ := pair_after (w := w) (x := .int .i64 p) (y := .int .i64 q) (t := 32) (Below.refl _ _)
  have k0 := fun d os => cell_regrown c0 d os
  have k1 := fun d os => cell_regrown c1 d os
  clear c0 c1
  have HB := Lib.hid hb
  clear hb
  have n1 : ¬ 9223372036854775807 < (Lib.itoa p).length + 1 := by omega
  have n2 : ¬ 9223372036854775807 < (Lib.itoa p).length + 1 + (Lib.itoa q).length := by omega
  go_enter Tryz.func53, Tryz.ntmps53
  go_wp2_with fail
  refine wp_region_quiet_below (by kernel_rfl) (by kernel_rfl) ?_
  repeat (go_big_quiet_step ((with_reducible exact HF.out _ (by assumption) (by assumption) _ _ _)))
  refine wpQuiet_nil ?_
  intro _ hw'
  obtain ⟨⟨dq, osq⟩, hw''⟩ := hw'
  subst hw''
  go_wp2
  go_ret
  refine ⟨?_, HB.out.trans ((below_regrown _ dq osq).mono HB.out.size)⟩
  rw [show (⟨#[58]⟩ : ByteArray) = ⟨[58].toArray⟩ from rfl, append_bytes, append_bytes]
  simp [textOf]


open Go.Lib in
theorem digit_toNat (d : Nat) (h : d < 10) : (UInt8.ofNat (48 + d)).toNat = 48 + d := by
  simp [UInt8.toNat_ofNat']; omega

def in64 (v : Int) : Prop := -9223372036854775808 ≤ v ∧ v ≤ 9223372036854775807


end Go.Proofs.YtlmokendajgbdaaGreatDoor
namespace Go.Proofs.YtlmokendajgbdaaGreatDoor
open Go.Sort Go.RowKit

/-- All things are pairs of 64-bit numbers. -/
def fits (l : List (Int × Int)) : Prop := ∀ e ∈ l, in64 e.1 ∧ in64 e.2
theorem fits.append {a b : List (Int × Int)} (h : fits (a ++ b)) : fits a ∧ fits b := ⟨fun e he => h e (by simp [he]), fun e he => h e (by simp [he])⟩
theorem fits.join {a b : List (Int × Int)} (h : fits a) (k : fits b) : fits (a ++ b) := fun e he => by rcases List.mem_append.1 he with he | he; exact h e he; exact k e he
theorem fits.cons {x : Int × Int} {b : List (Int × Int)} (h : fits (x :: b)) : (in64 x.1 ∧ in64 x.2) ∧ fits b := ⟨h x (by simp), fun e he => h e (by simp [he])⟩
theorem fits.more {x : Int × Int} {b : List (Int × Int)} (h : in64 x.1 ∧ in64 x.2) (k : fits b) : fits (x :: b) := fun e he => by rcases List.mem_cons.1 he with rfl | he; exact h; exact k e he
theorem fits.perm {a b : List (Int × Int)} (h : fits a) (p : a.Perm b) : fits b := fun e he => h e (p.symm.subset he)
theorem fits.nil : fits [] := fun _ h => by cases h
theorem textOf_length (p q : Int) (hp : in64 p) (hq : in64 q) : (textOf p q).length ≤ 43 := by
  have h1 := Lib.itoa_length_le p hp.1 hp.2
  have h2 := Lib.itoa_length_le q hq.1 hq.2
  simp only [textOf, List.length_append, List.length_cons]
  omega
theorem textE_any (x : Int × Int) (h : in64 x.1 ∧ in64 x.2) (w : World) (he : Env w) : Calls Tryz.prog 53 #[.agg #[.int .i64 x.1, .int .i64 x.2]] w fun e w' => e = .returned (.string ⟨(textOf x.1 x.2).toArray⟩) ∧ Below w.heap.size w w' := text_any x.1 x.2 h.1 h.2 w he

theorem srt_spec (xs : List (Int × Int)) : ordered (srt xs) ∧ (srt xs).Perm xs := by
  obtain ⟨h1, h2⟩ := fold_spec xs [] (by unfold ordered; simp)
  have h3 : (xs.foldl putL []).Perm xs := by simpa using h2
  rw [srt_eq xs _ h3 h1]
  exact ⟨h1, h3⟩
theorem srt_length (xs : List (Int × Int)) : (srt xs).length = xs.length := (srt_spec xs).2.length_eq
theorem srt_perm {xs ys : List (Int × Int)} (h : xs.Perm ys) : srt xs = srt ys := srt_eq xs _ ((srt_spec ys).2.trans h.symm) (srt_spec ys).1
theorem srt_srt (xs : List (Int × Int)) : srt (srt xs) = srt xs := srt_perm (srt_spec xs).2
theorem srt_ordered {xs : List (Int × Int)} (h : ordered xs) : srt xs = xs := srt_eq xs xs (List.Perm.refl _) h
theorem srt_nil : srt [] = [] := srt_ordered (by unfold ordered; simp)
theorem putL_srt (xs : List (Int × Int)) (x : Int × Int) : putL (srt xs) x = srt (x :: xs) :=
  (srt_eq _ _ ((putL_perm _ _).trans ((srt_spec xs).2.cons x)) (putL_ordered _ _ (srt_spec xs).1)).symm
/-- The least one, and the others. -/
theorem srt_cons {x : Int × Int} {xs : List (Int × Int)} (h : ∀ e ∈ xs, ltE e x = false) : srt (x :: xs) = x :: srt xs := by
  refine srt_eq _ _ ((srt_spec xs).2.cons x) ?_
  rw [List.pairwise_cons]
  exact ⟨fun e he => by rw [h e ((srt_spec xs).2.subset he)]; rfl, (srt_spec xs).1⟩
theorem srt_mem {e : Int × Int} {xs : List (Int × Int)} : e ∈ srt xs ↔ e ∈ xs := (srt_spec xs).2.mem_iff
/-- The sum of two rows in order. -/
theorem sum_srt (xs ys : List (Int × Int)) : (srt ys).foldl putL (srt xs) = srt (xs ++ ys) := by
  obtain ⟨h1, h2⟩ := fold_spec (srt ys) (srt xs) (srt_spec xs).1
  refine (srt_eq _ _ (h2.trans ?_) h1).symm
  exact ((srt_spec ys).2.append (srt_spec xs).2).trans List.perm_append_comm

end Go.Proofs.YtlmokendajgbdaaGreatDoor
namespace Go.Proofs.YtlmokendajgbdaaGreatDoor
open Go.Sort Go.RowKit

/-- What holds at each round's head. -/
def SameRel (xs ys : List (Int × Int)) (w : World) (i : Value) (wr : World) : Prop :=
  ∃ k : Nat, k ≤ xs.length ∧ i = .int .i64 k ∧ xs.take k = ys.take k ∧ ∃ p : Regrown, wr = grow (redrawn w p.d) p.os

set_option maxHeartbeats 1000000 in
theorem same_unlike (A B : Option Addr) (na nb ca cb : Nat) (w : World) (h : na ≠ nb) :
    Calls Tryz.prog 33 #[.slice A na ca, .slice B nb cb] w fun e w' => e = .returned (.bool false) ∧ Below w.heap.size w w' := by
  have h1 : ((na : Int) != (nb : Int)) = true := by rw [bne_iff_ne]; omega
  go_enter Tryz.func33, Tryz.ntmps33
  go_wp2_with fail
  go_ret
  exact ⟨rfl, Below.refl _ _⟩

set_option maxHeartbeats 1000000 in
theorem same_none (A B : Option Addr) (ca cb : Nat) (w : World) :
    Calls Tryz.prog 33 #[.slice A 0 ca, .slice B 0 cb] w fun e w' => e = .returned (.bool true) ∧ Below w.heap.size w w' := by
  go_enter Tryz.func33, Tryz.ntmps33
  go_wp2_with fail
  refine wp_loop_rounds 1 ?_
  rw [rounds_succ]
  go_wp2_with fail
  go_ret
  exact ⟨rfl, Below.refl _ _⟩

theorem take_more {xs ys : List (Int × Int)} {k : Nat} (h : xs.take k = ys.take k) (h1 : k < xs.length) (h2 : k < ys.length) (e : xs[k] = ys[k]) : xs.take (k + 1) = ys.take (k + 1) := by
  rw [List.take_succ_eq_append_getElem h1, List.take_succ_eq_append_getElem h2, h, e]

set_option maxHeartbeats 1000000 in
set_option maxRecDepth 100000 in
theorem same_some (b1 o1 b2 o2 : Nat) (xs ys : List (Int × Int)) (n ca cb : Nat) (w : World) (hx : n = xs.length) (hy : n = ys.length) (hn : n < 2147483648)
    (hA : ∀ j v, (cellsE xs)[j]? = some v → w.cell? ⟨b1, o1 + j, none⟩ = some v) (hB : ∀ j v, (cellsE ys)[j]? = some v → w.cell? ⟨b2, o2 + j, none⟩ = some v) :
    Calls Tryz.prog 33 #[.slice (some ⟨b1, o1, none⟩) n ca, .slice (some ⟨b2, o2, none⟩) n cb] w fun e w' => e = .returned (.bool (decide (xs = ys))) ∧ Below w.heap.size w w' := by
  have HA := Lib.hid hA
  have HB := Lib.hid hB
  have HX := Lib.hid hx
  have HY := Lib.hid hy
  clear hA hB hx hy
  go_enter Tryz.func33, Tryz.ntmps33
  go_wp2_with fail
  go_loopw [5] (fun i wr => SameRel xs ys w i wr) (fun i _ => n - (intOf i).toNat)
  case atStart => exact ⟨0, Nat.zero_le _, rfl, rfl, ⟨w.drawn, #[]⟩, world_self w⟩
  case round =>
    obtain ⟨k, hkk, rfl, ht, ⟨d, os⟩, rfl⟩ := hrel
    have hx := HX.out
    have hy := HY.out
    by_cases hlt : k < n
    · have hk1 : k < xs.length := by omega
      have hk2 : k < ys.length := by omega
      have e1 := row_at HA.out k hk1
      have e2 := row_at HB.out k hk2
      have hmore := fun (e : xs[k] = ys[k]) => take_more ht hk1 hk2 e
      have hstop : ¬ xs[k] = ys[k] → decide (xs = ys) = false := fun hne => by
        rw [decide_eq_false_iff_not]
        intro e
        subst e
        exact hne rfl
      generalize xs[k] = x at *
      generalize ys[k] = y at *
      have kx0 := fun d os => cell_regrown e1.1 d os
      have kx1 := fun d os => cell_regrown e1.2 d os
      have ky0 := fun d os => cell_regrown e2.1 d os
      have ky1 := fun d os => cell_regrown e2.2 d os
      have HM := Lib.hid hmore
      have HS := Lib.hid hstop
      have HK := Lib.hid (And.intro hkk hx)
      clear e1 e2 hmore hstop ht hx hy hkk hk1 hk2
      obtain ⟨x1, x2⟩ := x
      obtain ⟨y1, y2⟩ := y
      simp only at kx0 kx1 ky0 ky1
      by_cases ee : x1 = y1 ∧ x2 = y2
      · obtain ⟨rfl, rfl⟩ := ee
        have HT := Lib.hid (HM.out rfl)
        clear HM HS
        go_wp2_with fail
        refine wp_region_class (by kernel_rfl) (by kernel_rfl) ?_
        repeat (go_big_quiet_step (fail))
        refine wpQuiet_nil ?_
        intro _ hw'
        obtain ⟨⟨dq, osq⟩, hw''⟩ := hw'
        subst hw''
        go_wp2_with fail
        go_roundw
        case rel => exact ⟨k + 1, by have := HK.out; omega, by go_num, HT.out, ⟨dq, osq⟩, rfl⟩
        case measure => simp [intOf]; omega
      · have hf := HS.out (fun e => ee (by injection e with a b; exact ⟨a, b⟩))
        have HF := Lib.hid hf
        clear hf
        by_cases e1 : x1 = y1
        · have e2 : ¬ x2 = y2 := fun h => ee ⟨e1, h⟩
          subst e1
          clear ee HS HM
          go_wp2_with fail
          refine wp_region_class (by kernel_rfl) (by kernel_rfl) ?_
          repeat (go_big_quiet_step (fail))
          refine wpQuiet_nil ?_
          intro _ hw'
          obtain ⟨⟨dq, osq⟩, hw''⟩ := hw'
          subst hw''
          go_wp2_with fail
          go_ret
          exact ⟨(congrArg (fun b => Ending.returned (.bool b)) HF.out).symm, below_regrown w _ _⟩
        · clear ee HS HM
          go_wp2_with fail
          refine wp_region_class (by kernel_rfl) (by kernel_rfl) ?_
          repeat (go_big_quiet_step (fail))
          refine wpQuiet_nil ?_
          intro _ hw'
          obtain ⟨⟨dq, osq⟩, hw''⟩ := hw'
          subst hw''
          go_wp2_with fail
          go_ret
          exact ⟨(congrArg (fun b => Ending.returned (.bool b)) HF.out).symm, below_regrown w _ _⟩
    · have hk2 : k = xs.length := by omega
      have hxy : decide (xs = ys) = true := by
        rw [decide_eq_true_eq]
        rw [hk2, List.take_length, List.take_of_length_le (by omega)] at ht
        exact ht
      have HF := Lib.hid hxy
      clear ht hxy hx hy hkk hk2
      go_wp2_with fail
      go_ret
      exact ⟨(congrArg (fun b => Ending.returned (.bool b)) HF.out).symm, below_regrown w _ _⟩

theorem same_any (A B : Option Addr) (xs ys : List (Int × Int)) (ca cb : Nat) (w : World) (hx : xs.length < 2147483648) (hA : Row w A xs) (hB : Row w B ys) :
    Calls Tryz.prog 33 #[.slice A xs.length ca, .slice B ys.length cb] w fun e w' => e = .returned (.bool (decide (xs = ys))) ∧ Below w.heap.size w w' := by
  by_cases hl : xs.length = ys.length
  · by_cases h0 : xs.length = 0
    · have ex : xs = [] := List.eq_nil_of_length_eq_zero h0
      have ey : ys = [] := List.eq_nil_of_length_eq_zero (by omega)
      subst ex
      subst ey
      exact same_none A B ca cb w
    · obtain ⟨b1, o1, rfl, h1⟩ := hA (by omega)
      obtain ⟨b2, o2, rfl, h2⟩ := hB (by omega)
      have h := same_some b1 o1 b2 o2 xs ys xs.length ca cb w rfl hl hx h1 h2
      rw [← hl]
      exact h
  · have hf : decide (xs = ys) = false := by
      rw [decide_eq_false_iff_not]; intro e; exact hl (by rw [e])
    rw [hf]
    exact same_unlike A B _ _ ca cb w hl

end Go.Proofs.YtlmokendajgbdaaGreatDoor
namespace Go.Proofs.YtlmokendajgbdaaGreatDoor
open Go.Sort Go.RowKit

theorem refLess_class (w : World) (p q r s : Int) (b : Bool) (hb : ltI p q r s = b) (d : Nat) (os : Array Obj) :
    Calls Tryz.prog 36 #[.agg #[.int .i64 p, .int .i64 q], .agg #[.int .i64 r, .int .i64 s]] (grow (redrawn w d) os) fun e w'' => e = .returned (.bool b) ∧ ∃ x : Regrown, w'' = grow (redrawn w x.d) x.os :=
  in_class (fun W _ => by rw [← hb]; exact refLess_below p q r s W) d os

theorem cellsE_take (l : List (Int × Int)) (k : Nat) : cellsE (l.take k) = (cellsE l).take (k * 2) := by
  induction l generalizing k with
  | nil => simp [cellsE]
  | cons x r ih =>
    cases k with
    | zero => simp [cellsE]
    | succ k =>
      have e : cellsE (x :: r) = .int .i64 x.1 :: .int .i64 x.2 :: cellsE r := rfl
      rw [List.take_succ_cons, e, show (k + 1) * 2 = k * 2 + 1 + 1 by omega, List.take_succ_cons, List.take_succ_cons, ← ih k]
      rfl
theorem cellsE_drop (l : List (Int × Int)) (k : Nat) : cellsE (l.drop k) = (cellsE l).drop (k * 2) := by
  induction l generalizing k with
  | nil => simp [cellsE]
  | cons x r ih =>
    cases k with
    | zero => simp [cellsE]
    | succ k =>
      have e : cellsE (x :: r) = .int .i64 x.1 :: .int .i64 x.2 :: cellsE r := rfl
      rw [List.drop_succ_cons, e, show (k + 1) * 2 = k * 2 + 1 + 1 by omega, List.drop_succ_cons, List.drop_succ_cons, ← ih k]
theorem row_take {w : World} {b o : Nat} {l : List (Int × Int)} (h : ∀ j v, (cellsE l)[j]? = some v → w.cell? ⟨b, o + j, none⟩ = some v) (k : Nat) : Row w (some ⟨b, o, none⟩) (l.take k) := fun _ =>
  ⟨b, o, rfl, fun j v hv => by
    rw [cellsE_take, List.getElem?_take] at hv
    split at hv
    · exact h j v hv
    · cases hv⟩
theorem row_drop {w : World} {b o : Nat} {l : List (Int × Int)} (h : ∀ j v, (cellsE l)[j]? = some v → w.cell? ⟨b, o + j, none⟩ = some v) (k : Nat) : Row w (some ⟨b, o + k * 2, none⟩) (l.drop k) := fun _ =>
  ⟨b, o + k * 2, rfl, fun j v hv => by
    rw [cellsE_drop, List.getElem?_drop] at hv
    rw [Nat.add_assoc]
    exact h _ v hv⟩

/-- What Put hands back. -/
def PutPost (l : List (Int × Int)) (x : Int × Int) (w : World) (e : Ending) (w' : World) : Prop :=
  ∃ v, e = .returned v ∧ Own w' w.heap.size v (putL l x) ∧ Below w.heap.size w w'

/-- The three appends of Put, one behind the other. -/
theorem put_runs (W : World) (base : Nat) (hbase : base ≤ W.heap.size) (A1 A2 : Option Addr) (c1 c2 n1 n2 : Nat) (l1 l2 : List (Int × Int)) (x : Int × Int) (h1 : Row W A1 l1) (h2 : Row W A2 l2) (e1 : A1 = none → c1 = 0) (e2 : A2 = none → c2 = 0)
    (hn1 : n1 = l1.length) (hn2 : n2 = l2.length) (hlen : l1.length + l2.length < 1073741824) :
    ∃ v1 w2 v2 w3 v3 w4, (Builtin.append_ #[37, 37] 37 #[.slice none 0 0, .slice A1 n1 c1]).run Tryz.prog W = .ok v1 w2 ∧
      (Builtin.append_ #[37, 37] 37 #[v1, .slice (some ⟨w2.heap.size, 0, none⟩) 1 1]).run Tryz.prog (w2.alloc (.cells #[.int .i64 x.1, .int .i64 x.2] 32)) = .ok v2 w3 ∧
      (Builtin.append_ #[37, 37] 37 #[v2, .slice A2 n2 c2]).run Tryz.prog w3 = .ok v3 w4 ∧
      Own w4 base v3 (l1 ++ x :: l2) ∧ Below base W w4 ∧ Below W.heap.size W w2 := by
  subst hn1
  subst hn2
  obtain ⟨v1, w2, run1, own1, gr1⟩ := append_row W W.heap.size (.slice none 0 0) [] l1 A1 c1 (Own.none _ _) h1 e1 (by simp; omega) (Nat.le_refl _)
  rw [List.nil_append] at own1
  have hb2 := below_grown (Below.refl W.heap.size W) gr1 (Nat.le_refl _) (fun g hg => by simp [Value.ownBlock] at hg)
  have hb2' : Below W.heap.size W (w2.alloc (.cells #[.int .i64 x.1, .int .i64 x.2] 32)) := hb2.alloc hb2.size _
  have own1' : Own (w2.alloc (.cells #[.int .i64 x.1, .int .i64 x.2] 32)) W.heap.size v1 l1 := own1.below ((Below.refl w2.heap.size w2).alloc (Nat.le_refl _) _)
  obtain ⟨v2, w3, run2, own2, gr2⟩ := append_row (w2.alloc (.cells #[.int .i64 x.1, .int .i64 x.2] 32)) W.heap.size v1 l1 [x] (some ⟨w2.heap.size, 0, none⟩) 1 own1' (row_new w2 [x] 32) (fun e => by cases e) (by simp; omega) hb2'.size
  have hb3 := below_grown hb2' gr2 hb2'.size own1'.block
  obtain ⟨v3, w4, run3, own3, gr3⟩ := append_row w3 W.heap.size v2 (l1 ++ [x]) l2 A2 c2 own2 (h2.below hb3) e2 (by simp; omega) hb3.size
  have hb4 := below_grown hb3 gr3 hb3.size own2.block
  refine ⟨v1, w2, v2, w3, v3, w4, run1, run2, run3, ?_, hb4.mono hbase, hb2⟩
  rw [List.append_assoc] at own3
  obtain ⟨q1, q2⟩ := own3
  refine ⟨q1, ?_⟩
  rcases q2 with q2 | ⟨g, cap, cur, a, b, r⟩
  · exact Or.inl q2
  · exact Or.inr ⟨g, cap, cur, a, Nat.le_trans hbase b, r⟩

set_option maxHeartbeats 1000000 in
set_option maxRecDepth 100000 in
theorem put_nil (x : Int × Int) (w : World) :
    Calls Tryz.prog 35 #[.slice none 0 0, .agg #[.int .i64 x.1, .int .i64 x.2]] w (PutPost [] x w) := by
  have hb0 := (Below.refl w.heap.size w).alloc (Nat.le_refl _) (.cells #[.int .i64 x.1, .int .i64 x.2] 32)
  have px := PairAt.new w x.1 x.2 32
  obtain ⟨w1, hw1⟩ : ∃ w1, w1 = w.alloc (.cells #[.int .i64 x.1, .int .i64 x.2] 32) := ⟨_, rfl⟩
  have HW1 := Lib.hid hw1
  rw [← hw1] at hb0 px
  clear hw1
  go_enter Tryz.func35, Tryz.ntmps35
  go_wp2_with fail
  rw [← HW1.out]
  rw [world_self w1]
  generalize w1.drawn = d0
  generalize (#[] : Array Obj) = os0
  refine wp_loop_rounds 1 ?_
  rw [rounds_succ]
  go_wp2_with fail
  refine wp_region_class (by kernel_rfl) (by kernel_rfl) ?_
  repeat (go_big_quiet_step (fail))
  refine wpQuiet_nil ?_
  intro _ hw'
  obtain ⟨⟨dq, osq⟩, hw''⟩ := hw'
  subst hw''
  have hbW := hb0.trans ((below_regrown w1 dq osq).mono hb0.size)
  have pW := px.below (below_regrown w1 dq osq) px.2.2.2.2
  obtain ⟨W, hW⟩ : ∃ W, W = grow (redrawn w1 dq) osq := ⟨_, rfl⟩
  rw [← hW] at hbW pW ⊢
  obtain ⟨v1, w2, v2, w3, v3, w4, run1, run2, run3, own, hb4, hb2⟩ := put_runs W w.heap.size hbW.size none none 0 0 0 0 [] [] x (Row.nil _ _) (Row.nil _ _) (fun _ => rfl) (fun _ => rfl) rfl rfl (by simp)
  have p2 := pW.below hb2 pW.2.2.2.2
  obtain ⟨c0, c1, -, -, c4⟩ := p2
  have R1 := Lib.hid run1
  have R2 := Lib.hid run2
  have R3 := Lib.hid run3
  have OWN := Lib.hid own
  have HB4 := Lib.hid (hbW.trans hb4)
  clear run1 run2 run3 own hb4 hb2 hbW pW hW px hb0 HW1
  go_wp2_with (first | (at_builtin; refine wpList_append_run rfl _ _ _ rfl _ _ _ _ rfl rfl R1.out ?_) | (at_builtin; refine wpList_append_run rfl _ _ _ rfl _ _ _ _ rfl rfl R2.out ?_) | (at_builtin; refine wpList_append_run rfl _ _ _ rfl _ _ _ _ rfl rfl R3.out ?_))
  go_ret
  exact ⟨v3, rfl, OWN.out, HB4.out⟩

/-- What holds at each round's head. -/
def PutRel (l : List (Int × Int)) (x : Int × Int) (w1 : World) (i : Value) (wr : World) : Prop :=
  ∃ k : Nat, k ≤ l.length ∧ i = .int .i64 k ∧ (∀ j (h : j < l.length), j < k → ltE l[j] x = true) ∧ ∃ p : Regrown, wr = grow (redrawn w1 p.d) p.os

set_option maxHeartbeats 2000000 in
set_option maxRecDepth 100000 in
theorem put_some (b o n c : Nat) (l : List (Int × Int)) (x : Int × Int) (w : World) (hn : n = l.length) (hsz : n < 1073741824) (hc : n ≤ c) (hcm : c ≤ 9223372036854775807)
    (hr : ∀ j v, (cellsE l)[j]? = some v → w.cell? ⟨b, o + j, none⟩ = some v) :
    Calls Tryz.prog 35 #[.slice (some ⟨b, o, none⟩) n c, .agg #[.int .i64 x.1, .int .i64 x.2]] w (PutPost l x w) := by
  have hb0 := (Below.refl w.heap.size w).alloc (Nat.le_refl _) (.cells #[.int .i64 x.1, .int .i64 x.2] 32)
  have px := PairAt.new w x.1 x.2 32
  obtain ⟨w1, hw1⟩ : ∃ w1, w1 = w.alloc (.cells #[.int .i64 x.1, .int .i64 x.2] 32) := ⟨_, rfl⟩
  have HW1 := Lib.hid hw1
  rw [← hw1] at hb0 px
  have hr1 : ∀ j v, (cellsE l)[j]? = some v → w1.cell? ⟨b, o + j, none⟩ = some v := fun j v hv => by
    have := hr j v hv
    rw [hb0.cell (block_lt_of_cell this)]; exact this
  have HR1 := Lib.hid hr1
  have HN := Lib.hid hn
  clear hw1 hr hr1 hn
  go_enter Tryz.func35, Tryz.ntmps35
  go_wp2_with fail
  go_loopw [5] (fun i wr => PutRel l x w1 i wr) (fun i _ => n - (intOf i).toNat)
  case atStart => exact ⟨0, Nat.zero_le _, rfl, fun j _ h => by omega, ⟨w1.drawn, #[]⟩, by rw [← HW1.out]; exact world_self w1⟩
  case round =>
    obtain ⟨k, hkk, rfl, hahead, ⟨d, os⟩, rfl⟩ := hrel
    have hn := HN.out
    by_cases hlt : k < n
    · have hkl : k < l.length := by omega
      have e1 := row_at HR1.out k hkl
      have ke0 := fun d os => cell_regrown e1.1 d os
      have ke1 := fun d os => cell_regrown e1.2 d os
      have kx0 := fun d os => cell_regrown px.1 d os
      have kx1 := fun d os => cell_regrown px.2.1 d os
      cases hb : ltE l[k] x with
      | true =>
        have hnext : ∀ j (h : j < l.length), j < k + 1 → ltE l[j] x = true := fun j h hj => by
          by_cases e : j = k
          · subst e; exact hb
          · exact hahead j h (by omega)
        have HNEXT := Lib.hid hnext
        have HL1 := Lib.hid (fun d os => refLess_class w1 l[k].1 l[k].2 x.1 x.2 true hb d os)
        generalize l[k] = e at *
        clear hnext hahead hb hn e1
        go_wp2_with fail
        refine wp_region_class (by kernel_rfl) (by kernel_rfl) ?_
        repeat (go_big_quiet_step ((with_reducible exact HL1.out _ _)))
        refine wpQuiet_nil ?_
        intro _ hw'
        obtain ⟨⟨dq, osq⟩, hw''⟩ := hw'
        subst hw''
        go_wp2_with fail
        go_roundw
        case rel => exact ⟨k + 1, by omega, by go_num, HNEXT.out, ⟨dq, osq⟩, rfl⟩
        case measure => simp [intOf]; omega
      | false =>
        have hat := aheadOf_eq l x k hahead (by omega) (fun _ => hb)
        have HL1 := Lib.hid (fun d os => refLess_class w1 l[k].1 l[k].2 x.1 x.2 false hb d os)
        generalize l[k] = e at *
        clear hahead hb e1
        have HAT := Lib.hid hat
        have HNN := Lib.hid hn
        clear hat hn
        go_wp2_with fail
        refine wp_region_class (by kernel_rfl) (by kernel_rfl) ?_
        repeat (go_big_quiet_step ((with_reducible exact HL1.out _ _)))
        refine wpQuiet_nil ?_
        intro _ hw'
        obtain ⟨⟨dq, osq⟩, hw''⟩ := hw'
        subst hw''
        have hat := HAT.out
        have hn := HNN.out
        clear ke0 ke1 kx0 kx1 HL1 HAT
        have hbW := hb0.trans ((below_regrown w1 dq osq).mono hb0.size)
        have pW := px.below (below_regrown w1 dq osq) px.2.2.2.2
        have rW : ∀ j v, (cellsE l)[j]? = some v → (grow (redrawn w1 dq) osq).cell? ⟨b, o + j, none⟩ = some v := fun j v hv => cell_regrown (HR1.out j v hv) dq osq
        obtain ⟨W, hW⟩ : ∃ W, W = grow (redrawn w1 dq) osq := ⟨_, rfl⟩
        rw [← hW] at hbW pW rW ⊢
        have hput : putL l x = l.take k ++ x :: l.drop k := by unfold putL; rw [hat]
        have hkn : k ≤ n := by omega
        by_cases hck : c = k
        · exfalso; omega
        · obtain ⟨v1, w2, v2, w3, v3, w4, run1, run2, run3, own, hb4, hb2⟩ := put_runs W w.heap.size hbW.size (some ⟨b, o, none⟩) (some ⟨b, o + k * 2, none⟩) c (c - k) k (n - k) (l.take k) (l.drop k) x (row_take rW k) (row_drop rW k) (fun e => by cases e) (fun e => by cases e) (by rw [List.length_take]; omega) (by rw [List.length_drop]; omega) (by rw [List.length_take, List.length_drop]; omega)
          rw [← hput] at own
          have p2 := pW.below hb2 pW.2.2.2.2
          obtain ⟨c0, c1, -, -, c4⟩ := p2
          have R1 := Lib.hid run1
          have R2 := Lib.hid run2
          have R3 := Lib.hid run3
          have OWN := Lib.hid own
          have HB4 := Lib.hid (hbW.trans hb4)
          clear run1 run2 run3 own hb4 hb2 hbW pW hW px hb0 rW hput hat hn hkk
          go_wp2_with (first | (at_builtin; refine wpList_append_run rfl _ _ _ rfl _ _ _ _ rfl rfl R1.out ?_) | (at_builtin; refine wpList_append_run rfl _ _ _ rfl _ _ _ _ rfl rfl R2.out ?_) | (at_builtin; refine wpList_append_run rfl _ _ _ rfl _ _ _ _ rfl rfl R3.out ?_))
          go_ret
          exact ⟨v3, rfl, OWN.out, HB4.out⟩
    · have hat := aheadOf_eq l x k hahead (by omega) (fun h => by omega)
      have HAT := Lib.hid hat
      have HNN := Lib.hid hn
      clear hat hn hahead
      go_wp2_with fail
      refine wp_region_class (by kernel_rfl) (by kernel_rfl) ?_
      repeat (go_big_quiet_step (fail))
      refine wpQuiet_nil ?_
      intro _ hw'
      obtain ⟨⟨dq, osq⟩, hw''⟩ := hw'
      subst hw''
      have hat := HAT.out
      have hn := HNN.out
      clear HAT
      have hbW := hb0.trans ((below_regrown w1 dq osq).mono hb0.size)
      have pW := px.below (below_regrown w1 dq osq) px.2.2.2.2
      have rW : ∀ j v, (cellsE l)[j]? = some v → (grow (redrawn w1 dq) osq).cell? ⟨b, o + j, none⟩ = some v := fun j v hv => cell_regrown (HR1.out j v hv) dq osq
      obtain ⟨W, hW⟩ : ∃ W, W = grow (redrawn w1 dq) osq := ⟨_, rfl⟩
      rw [← hW] at hbW pW rW ⊢
      have hput : putL l x = l.take k ++ x :: l.drop k := by unfold putL; rw [hat]
      have hkn : k ≤ n := by omega
      by_cases hck : c = k
      · obtain ⟨v1, w2, v2, w3, v3, w4, run1, run2, run3, own, hb4, hb2⟩ := put_runs W w.heap.size hbW.size (some ⟨b, o, none⟩) (some ⟨b, o, none⟩) c 0 k 0 (l.take k) (l.drop k) x (row_take rW k) (by rw [List.drop_of_length_le (by omega)]; exact Row.nil _ _) (fun e => by cases e) (fun e => by cases e) (by rw [List.length_take]; omega) (by rw [List.length_drop]; omega) (by rw [List.length_take, List.length_drop]; omega)
        rw [← hput] at own
        have hnk : k = n := by omega
        subst hck
        have p2 := pW.below hb2 pW.2.2.2.2
        obtain ⟨c0, c1, -, -, c4⟩ := p2
        have R1 := Lib.hid run1
        have R2 := Lib.hid run2
        have R3 := Lib.hid run3
        have OWN := Lib.hid own
        have HB4 := Lib.hid (hbW.trans hb4)
        clear run1 run2 run3 own hb4 hb2 hbW pW hW px hb0 rW hput hat hn hkk
        subst hnk
        go_wp2_with (first | (at_builtin; refine wpList_append_run rfl _ _ _ rfl _ _ _ _ rfl rfl R1.out ?_) | (at_builtin; refine wpList_append_run rfl _ _ _ rfl _ _ _ _ rfl rfl R2.out ?_) | (at_builtin; refine wpList_append_run rfl _ _ _ rfl _ _ _ _ rfl rfl R3.out ?_))
        go_ret
        exact ⟨v3, rfl, OWN.out, HB4.out⟩
      · obtain ⟨v1, w2, v2, w3, v3, w4, run1, run2, run3, own, hb4, hb2⟩ := put_runs W w.heap.size hbW.size (some ⟨b, o, none⟩) (some ⟨b, o + k * 2, none⟩) c (c - k) k (n - k) (l.take k) (l.drop k) x (row_take rW k) (row_drop rW k) (fun e => by cases e) (fun e => by cases e) (by rw [List.length_take]; omega) (by rw [List.length_drop]; omega) (by rw [List.length_take, List.length_drop]; omega)
        rw [← hput] at own
        have p2 := pW.below hb2 pW.2.2.2.2
        obtain ⟨c0, c1, -, -, c4⟩ := p2
        have R1 := Lib.hid run1
        have R2 := Lib.hid run2
        have R3 := Lib.hid run3
        have OWN := Lib.hid own
        have HB4 := Lib.hid (hbW.trans hb4)
        clear run1 run2 run3 own hb4 hb2 hbW pW hW px hb0 rW hput hat hn hkk
        go_wp2_with (first | (at_builtin; refine wpList_append_run rfl _ _ _ rfl _ _ _ _ rfl rfl R1.out ?_) | (at_builtin; refine wpList_append_run rfl _ _ _ rfl _ _ _ _ rfl rfl R2.out ?_) | (at_builtin; refine wpList_append_run rfl _ _ _ rfl _ _ _ _ rfl rfl R3.out ?_))
        go_ret
        exact ⟨v3, rfl, OWN.out, HB4.out⟩

theorem put_any (A : Option Addr) (l : List (Int × Int)) (c : Nat) (x : Int × Int) (w : World) (hsz : l.length < 1073741824) (hc : l.length ≤ c) (hcm : c ≤ 9223372036854775807) (hr : Row w A l) (hA : l = [] → A = none ∧ c = 0) :
    Calls Tryz.prog 35 #[.slice A l.length c, .agg #[.int .i64 x.1, .int .i64 x.2]] w (PutPost l x w) := by
  by_cases h0 : l = []
  · obtain ⟨rfl, rfl⟩ := hA h0
    subst h0
    exact put_nil x w
  · obtain ⟨b, o, rfl, h⟩ := hr (List.length_pos_iff.2 h0)
    exact put_some b o l.length c l x w rfl hsz hc hcm h

end Go.Proofs.YtlmokendajgbdaaGreatDoor
namespace Go.Proofs.YtlmokendajgbdaaGreatDoor
open Go.Sort Go.RowKit

/-- What holds at each round's head. -/
def SortRel (l : List (Int × Int)) (w : World) (out i : Value) (wr : World) : Prop :=
  ∃ (k : Nat) (A : Option Addr) (c : Nat), k ≤ l.length ∧ i = .int .i64 k ∧ out = .slice A k c ∧ Row wr A (sortTo l k) ∧ k ≤ c ∧ c ≤ 9223372036854775807 ∧ (k = 0 → A = none ∧ c = 0) ∧ Below w.heap.size w wr
/-- What the reference's Sort hands back. -/
def RefSorted (l : List (Int × Int)) (w : World) (e : Ending) (w' : World) : Prop :=
  ∃ A c, e = .returned (.slice A l.length c) ∧ Row w' A (srt l) ∧ Below w.heap.size w w'
/-- .. and its capacity. -/
def RefSortedC (l : List (Int × Int)) (w : World) (e : Ending) (w' : World) : Prop :=
  ∃ A c, e = .returned (.slice A l.length c) ∧ Row w' A (srt l) ∧ Below w.heap.size w w' ∧ l.length ≤ c ∧ c ≤ 9223372036854775807

set_option maxHeartbeats 1000000 in
theorem refSort_none (A : Option Addr) (c : Nat) (w : World) : Calls Tryz.prog 31 #[.slice A 0 c] w (RefSortedC [] w) := by
  go_enter Tryz.func31, Tryz.ntmps31
  go_wp2_with fail
  refine wp_loop_rounds 1 ?_
  rw [rounds_succ]
  go_wp2_with fail
  go_ret
  exact ⟨none, 0, rfl, by rw [srt_eq [] [] (List.Perm.refl _) (by simp)]; exact Row.nil _ _, Below.refl _ _, Nat.le_refl _, by omega⟩

set_option maxHeartbeats 1000000 in
set_option maxRecDepth 100000 in
theorem refSort_some (b o n c : Nat) (l : List (Int × Int)) (w : World) (hn : n = l.length) (hsz : n < 1073741823)
    (hr : ∀ j v, (cellsE l)[j]? = some v → w.cell? ⟨b, o + j, none⟩ = some v) :
    Calls Tryz.prog 31 #[.slice (some ⟨b, o, none⟩) n c] w (RefSortedC l w) := by
  have HR := Lib.hid hr
  have HN := Lib.hid hn
  clear hr hn
  go_enter Tryz.func31, Tryz.ntmps31
  go_wp2_with fail
  go_loopw [3, 4] (fun out i wr => SortRel l w out i wr) (fun _ i _ => n - (intOf i).toNat)
  case atStart => exact ⟨0, none, 0, Nat.zero_le _, rfl, rfl, Row.nil _ _, Nat.le_refl _, by omega, fun _ => ⟨rfl, rfl⟩, Below.refl _ _⟩
  case round =>
    obtain ⟨k, A, co, hkk, rfl, rfl, hrow, hkc, hcm, hnil, hb⟩ := hrel
    have hn := HN.out
    by_cases hlt : k < n
    · have hkl : k < l.length := by omega
      have hlen := sortTo_length l k (by omega)
      have e1 := row_at HR.out k hkl
      have ke0 : wr.cell? ⟨b, o + k * 2, none⟩ = some (.int .i64 l[k].1) := by rw [hb.cell (block_lt_of_cell e1.1)]; exact e1.1
      have ke1 : wr.cell? ⟨b, o + k * 2 + 1, none⟩ = some (.int .i64 l[k].2) := by rw [hb.cell (block_lt_of_cell e1.2)]; exact e1.2
      have hput := put_any A (sortTo l k) co l[k] wr (by omega) (by omega) hcm hrow (fun e => hnil (by rw [e] at hlen; simpa using hlen.symm))
      rw [hlen] at hput
      have hpost : ∀ e w', PutPost (sortTo l k) l[k] wr e w' → ∃ A' c', e = .returned (.slice A' (k + 1) c') ∧ Row w' A' (sortTo l (k + 1)) ∧ k + 1 ≤ c' ∧ c' ≤ 9223372036854775807 ∧ Below w.heap.size w w' := by
        rintro e w' ⟨v, rfl, own, hbp⟩
        rw [← sortTo_succ l k hkl] at own
        obtain ⟨A', c', rfl, hr', hc1, hc2, -⟩ := own.form
        have hl' := sortTo_length l (k + 1) (by omega)
        rw [hl'] at hc1 ⊢
        exact ⟨A', c', rfl, hr', hc1, hc2, hb.trans (hbp.mono hb.size)⟩
      have HP := Lib.hid (Calls.mono hput hpost)
      generalize l[k] = e at *
      clear hput hpost hlen hn e1 hnil hb hrow
      go_wp2_with fail
      ((with_reducible refine HP.out.mono ?_); rintro e w' ⟨A', c', rfl, hr', hc1, hc2, hb'⟩)
      have HR' := Lib.hid hr'
      have HB' := Lib.hid hb'
      clear hr' hb' HP
      go_wp2_with fail
      go_roundw
      case rel => exact ⟨k + 1, A', c', by omega, by go_num, rfl, HR'.out, hc1, hc2, fun h => by omega, HB'.out⟩
      case measure => simp [intOf]; omega
    · have hk2 : k = l.length := by omega
      have hs : sortTo l k = srt l := by rw [hk2]; exact sortTo_end l
      rw [hs] at hrow
      have HROW := Lib.hid hrow
      have HB := Lib.hid hb
      have HK := Lib.hid (And.intro hk2 (And.intro hkc hcm))
      clear hrow hb hs hk2 hn hnil hkc hcm
      go_wp2_with fail
      go_ret
      exact ⟨A, co, by rw [← HK.out.1]; rfl, HROW.out, HB.out, by have := HK.out; omega, HK.out.2.2⟩

theorem refSort_cap (A : Option Addr) (l : List (Int × Int)) (c : Nat) (w : World) (hsz : l.length < 1073741823) (hr : Row w A l) :
    Calls Tryz.prog 31 #[.slice A l.length c] w (RefSortedC l w) := by
  by_cases h0 : l = []
  · subst h0
    exact refSort_none A c w
  · obtain ⟨b, o, rfl, h⟩ := hr (List.length_pos_iff.2 h0)
    exact refSort_some b o l.length c l w rfl hsz h

theorem refSort_any (A : Option Addr) (l : List (Int × Int)) (c : Nat) (w : World) (hsz : l.length < 1073741823) (hr : Row w A l) :
    Calls Tryz.prog 31 #[.slice A l.length c] w (RefSorted l w) :=
  (refSort_cap A l c w hsz hr).mono fun _ _ ⟨A, c, h1, h2, h3, _, _⟩ => ⟨A, c, h1, h2, h3⟩

end Go.Proofs.YtlmokendajgbdaaGreatDoor
namespace Go.Proofs.YtlmokendajgbdaaGreatDoor
open Go.Sort Go.RowKit

/-- A value that is a row of elements, in a block of their own type. -/
def Rw (W : World) (v : Value) (xs : List (Int × Int)) : Prop :=
  (v = .slice none 0 0 ∧ xs = []) ∨ ∃ (b o c : Nat) (cs : Array Value), v = .slice (some ⟨b, o, none⟩) xs.length c ∧ xs.length ≤ c ∧ c ≤ 9223372036854775807 ∧ W.heap[b]? = some (.cells cs 32 (0, 0)) ∧ ∀ j u, (cellsE xs)[j]? = some u → cs[o + j]? = some u

section
variable {W W' : World} {v : Value} {xs : List (Int × Int)} {mo : Option Nat} {c m : Int}
theorem Rw.none (W : World) : Rw W (.slice Option.none 0 0) [] := .inl ⟨rfl, rfl⟩
theorem Rw.bt (h : Rw W v xs) (hb : Bt mo W W') (hm : MAt W mo c m) : Rw W' v xs := by
  rcases h with h | ⟨b, o, k, cs, hv, h1, h2, h3, h4⟩
  · exact .inl h
  · exact .inr ⟨b, o, k, cs, hv, h1, h2, hb.row hm h3 (by decide), h4⟩
theorem Rw.stay (h : Rw W v xs) (hb : Below W.heap.size W W') : Rw W' v xs := h.bt (mo := Option.none) (c := 0) (m := 0) (Bt.ofBelow hb) trivial
theorem Own.rw {base : Nat} (h : Own W base v xs) : Rw W v xs := by
  have h0 := h
  rcases h.2 with ⟨rfl, hn⟩ | ⟨g, cap, cur, rfl, hb, hg, hc, hm, hs, ht⟩
  · exact .inl ⟨rfl, List.eq_nil_of_length_eq_zero hn⟩
  · refine .inr ⟨g, 0, cap, cur, rfl, hc, by unfold maxLen at hm; omega, hg, fun j u hu => ?_⟩
    rw [← ht, List.getElem?_take] at hu
    split at hu
    · rw [Nat.zero_add]; simpa using hu
    · cases hu
/-- What a walk asks of such a value. -/
theorem Rw.form (h : Rw W v xs) : ∃ (A : Option Addr) (k : Nat), v = .slice A xs.length k ∧ Row W A xs ∧ xs.length ≤ k ∧ k ≤ 9223372036854775807 ∧ (A = Option.none → k = 0) := by
  rcases h with ⟨rfl, rfl⟩ | ⟨b, o, k, cs, rfl, h1, h2, h3, h4⟩
  · exact ⟨Option.none, 0, rfl, Row.nil _ _, Nat.le_refl _, by omega, fun _ => rfl⟩
  · refine ⟨_, k, rfl, fun _ => ⟨b, o, rfl, fun j u hu => ?_⟩, h1, h2, fun e => by cases e⟩
    have := h4 j u hu
    simp [World.cell?, h3, this]
end

theorem putRw (v : Value) (l : List (Int × Int)) (x : Int × Int) (w : World) (h : Rw w v l) (hsz : l.length < 1073741823) : Calls Tryz.prog 35 #[v, .agg #[.int .i64 x.1, .int .i64 x.2]] w fun e w' => ∃ v', e = .returned v' ∧ Rw w' v' (putL l x) ∧ Below w.heap.size w w' := by
  rcases h with ⟨rfl, rfl⟩ | ⟨b, o, k, cs, rfl, h1, h2, h3, h4⟩
  · exact (put_nil x w).mono fun _ _ ⟨v', he, ho, hb⟩ => ⟨v', he, ho.rw, hb⟩
  · exact (put_some b o l.length k l x w rfl (by omega) h1 h2 (fun j u hu => by have := h4 j u hu; simp [World.cell?, h3, this])).mono fun _ _ ⟨v', he, ho, hb⟩ => ⟨v', he, ho.rw, hb⟩

set_option maxHeartbeats 2000000 in
set_option maxRecDepth 100000 in
theorem sortRw (A : Option Addr) (l : List (Int × Int)) (cap : Nat) (w : World) (hr : Row w A l) (hsz : l.length < 16777216) : Calls Tryz.prog 31 #[.slice A l.length cap] w fun e w' => ∃ v', e = .returned v' ∧ Rw w' v' (srt l) ∧ Below w.heap.size w w' := by
  obtain ⟨n, hn⟩ : ∃ n, n = l.length := ⟨_, rfl⟩
  rw [← hn]
  have HR := Lib.hid (And.intro hr (And.intro hn hsz))
  clear hr hn hsz
  go_enter Tryz.func31, Tryz.ntmps31
  go_wp2_with fail
  go_loopg [3, 4] n (fun k out i wr => ∃ j : Nat, i = .int .i64 (j : Int) ∧ j + k = n ∧ Rw wr out (sortTo l j) ∧ Below w.heap.size w wr)
  case atStart => exact ⟨0, rfl, by omega, Rw.none _, Below.refl _ _⟩
  case round =>
    obtain ⟨j, rfl, hj, hrow, hb⟩ := hrel
    by_cases hlt : j < n
    · have hkl : j < l.length := by rw [← HR.out.2.1]; exact hlt
      have hlen := sortTo_length l j (by omega)
      obtain ⟨b, o, rfl, hc⟩ := HR.out.1 (by omega)
      have e1 := row_at hc j hkl
      have ke0 : wr.cell? ⟨b, o + j * 2, none⟩ = some (.int .i64 l[j].1) := by rw [hb.cell (block_lt_of_cell e1.1)]; exact e1.1
      have ke1 : wr.cell? ⟨b, o + j * 2 + 1, none⟩ = some (.int .i64 l[j].2) := by rw [hb.cell (block_lt_of_cell e1.2)]; exact e1.2
      have hput := putRw _ (sortTo l j) l[j] wr hrow (by have := HR.out.2.2; omega)
      rw [← sortTo_succ l j hkl] at hput
      have HP := Lib.hid hput
      have HB := Lib.hid (And.intro hb hj)
      generalize l[j] = x at *
      have q1 : (j : Int) < (n : Int) := by omega
      have q2 : (0 : Int) ≤ (j : Int) := by omega
      have q3 : n < 16777216 := by have := HR.out; omega
      clear hput hlen e1 hb hrow hc hkl hj
      go_wp2_with fail
      ((with_reducible refine HP.out.mono ?_); rintro e w2 ⟨v', rfl, hr', hb'⟩)
      have HB' := Lib.hid (And.intro hr' (HB.out.1.trans (hb'.mono HB.out.1.size)))
      clear hr' hb' HP
      go_wp2_with fail
      go_roundg (n - 1 - j)
      case measure => have := HB.out.2; omega
      case rel => exact ⟨j + 1, by congr 1, by have := HB.out.2; omega, HB'.out.1, HB'.out.2⟩
    · have hjn : j = l.length := by have := HR.out.2.1; omega
      rw [hjn, sortTo_end] at hrow
      have X := Lib.hid (And.intro hrow hb)
      have hz : ¬ (j : Int) < (n : Int) := by omega
      clear hrow hb hjn hj
      go_wp2_with fail
      go_ret
      exact ⟨_, rfl, X.out.1, X.out.2⟩

set_option maxHeartbeats 2000000 in
set_option maxRecDepth 100000 in
theorem sumRw (u v : Value) (xs ys : List (Int × Int)) (w : World) (hx : Rw w u xs) (hy : Rw w v ys) (hs1 : xs.length < 16777216) (hs2 : ys.length < 16777216) : Calls Tryz.prog 34 #[u, v] w fun e w' => ∃ v', e = .returned v' ∧ Rw w' v' (ys.foldl putL xs) ∧ Below w.heap.size w w' := by
  obtain ⟨A, cap, rfl, hr, -⟩ := hy.form
  obtain ⟨n, hn⟩ : ∃ n, n = ys.length := ⟨_, rfl⟩
  rw [← hn]
  have HR := Lib.hid (And.intro hr (And.intro hn (And.intro hs1 (And.intro hs2 hx))))
  clear hr hn hs1 hs2 hx hy
  go_enter Tryz.func34, Tryz.ntmps34
  go_wp2_with fail
  go_loopg [5, 6] n (fun k out i wr => ∃ j : Nat, i = .int .i64 (j : Int) ∧ j + k = n ∧ Rw wr out ((ys.take j).foldl putL xs) ∧ Below w.heap.size w wr)
  case atStart => exact ⟨0, rfl, by omega, HR.out.2.2.2.2, Below.refl _ _⟩
  case round =>
    obtain ⟨j, rfl, hj, hrow, hb⟩ := hrel
    by_cases hlt : j < n
    · have hkl : j < ys.length := by rw [← HR.out.2.1]; exact hlt
      have hlen : ((ys.take j).foldl putL xs).length = j + xs.length := by
        have h1 : ∀ (l acc : List (Int × Int)), (l.foldl putL acc).length = l.length + acc.length := fun l => by
          induction l with
          | nil => intro acc; simp
          | cons y r ih => intro acc; rw [List.foldl_cons, ih, putL_length, List.length_cons]; omega
        rw [h1, List.length_take]; omega
      obtain ⟨b, o, rfl, hc⟩ := HR.out.1 (by omega)
      have e1 := row_at hc j hkl
      have ke0 : wr.cell? ⟨b, o + j * 2, none⟩ = some (.int .i64 ys[j].1) := by rw [hb.cell (block_lt_of_cell e1.1)]; exact e1.1
      have ke1 : wr.cell? ⟨b, o + j * 2 + 1, none⟩ = some (.int .i64 ys[j].2) := by rw [hb.cell (block_lt_of_cell e1.2)]; exact e1.2
      have hput := putRw _ ((ys.take j).foldl putL xs) ys[j] wr hrow (by have := HR.out.2.2; omega)
      rw [show putL ((ys.take j).foldl putL xs) ys[j] = (ys.take (j + 1)).foldl putL xs by rw [List.take_succ_eq_append_getElem hkl, List.foldl_append]; rfl] at hput
      have HP := Lib.hid hput
      have HB := Lib.hid (And.intro hb hj)
      generalize ys[j] = x at *
      have q1 : (j : Int) < (n : Int) := by omega
      have q2 : (0 : Int) ≤ (j : Int) := by omega
      have q3 : n < 16777216 := by have := HR.out; omega
      clear hput hlen e1 hb hrow hc hkl hj
      go_wp2_with fail
      ((with_reducible refine HP.out.mono ?_); rintro e w2 ⟨v', rfl, hr', hb'⟩)
      have HB' := Lib.hid (And.intro hr' (HB.out.1.trans (hb'.mono HB.out.1.size)))
      clear hr' hb' HP
      go_wp2_with fail
      go_roundg (n - 1 - j)
      case measure => have := HB.out.2; omega
      case rel => exact ⟨j + 1, by congr 1, by have := HB.out.2; omega, HB'.out.1, HB'.out.2⟩
    · have hjn : j = ys.length := by have := HR.out.2.1; omega
      rw [hjn, List.take_length] at hrow
      have X := Lib.hid (And.intro hrow hb)
      have hz : ¬ (j : Int) < (n : Int) := by omega
      clear hrow hb hjn hj
      go_wp2_with fail
      go_ret
      exact ⟨_, rfl, X.out.1, X.out.2⟩

theorem sameRw (u v : Value) (xs ys : List (Int × Int)) (w : World) (hx : Rw w u xs) (hy : Rw w v ys) (hs : xs.length < 16777216) : Calls Tryz.prog 33 #[u, v] w fun e w' => e = .returned (.bool (decide (xs = ys))) ∧ Below w.heap.size w w' := by
  obtain ⟨A, k, rfl, ha, -⟩ := hx.form
  obtain ⟨B, k', rfl, hb, -⟩ := hy.form
  exact same_any A B xs ys k k' w (by omega) ha hb

end Go.Proofs.YtlmokendajgbdaaGreatDoor
