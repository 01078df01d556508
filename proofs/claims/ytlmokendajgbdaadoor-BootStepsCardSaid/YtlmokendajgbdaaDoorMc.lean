/-
  What the library's FormatInt reads of memory (one table), as a property of a world that stays where nothing below has changed; its contract, and that of elem.Text, for every element of two 64-bit numbers. No other conditions.
  Plain facts, of no program: elements of two 64-bit numbers, how long their texts are; all of a row in order: of rows with the same elements, of a row with one more, of two rows' sum. No conditions.
  Contracts of the reference's Compare and Same: for any elements and any two rows (of fewer than 2^31 elements): what they return; nothing that was there has changed.
  Contracts of the reference's Put, Sort and Compare: for any row of fewer than 2^30 elements and any element: a new row with the element where it belongs; all of a row in order; nothing that was there has changed.
  Contract of the reference's Sort: for any row of fewer than 2^30 elements: a new row that holds all of them in order; nothing that was there has changed.
  Rows of elements that a call has made, as values: they stay where only a meter's block turns; contracts of the reference's Put, Sort, Sum and Same over them; nothing that was there has changed. Conditions: fewer than 2 to the 24th elements.
-/
import Derived.Test.YtlmokendajgbdaaDoorShelf
import Derived.Test.YtlmokendajgbdaaDoorMb
import Derived.Shelf.Strconv.Itoa4
import Derived.Lib.QuietBelow
import Derived.Lib.ItoaLen
import Derived.Lib.ItoaMem
import Derived.Test.YtlmokendajgbdaaDoorMa
import Derived.Deep.LoopGhost
namespace Go.Proofs.YtlmokendajgbdaaDoor
open Go.Sort Go.RowKit

/-- What the library's calls read of memory. -/
structure Env (w : World) : Prop where
  tab : Lib.TabIs Tryd.prog w "internal/strconv.uint64pow10" .u64 Lib.pow10Tab

theorem Env.below {w w' : World} (h : Env w) (hb : Below w.heap.size w w') : Env w' where
  tab := var_stays hb h.tab

theorem formatInt_any (n : Int) (h0 : -9223372036854775808 ≤ n) (h1 : n ≤ 9223372036854775807) (w : World) (he : Env w) :
    Calls Tryd.prog 55 #[.int .i64 n, .int .i64 10] w fun e w' => e = .returned (.string ⟨(Lib.itoa n).toArray⟩) ∧ Below w.heap.size w w' :=
  (Any.strconv_FormatInt_10 Tryd.laysM173 n h0 h1 w he.tab).mono fun _ _ ⟨a, k, os, b⟩ => ⟨a, by rw [b]; exact below_grow w k os⟩

theorem append_bytes (a b : List UInt8) : (⟨a.toArray⟩ : ByteArray) ++ ⟨b.toArray⟩ = ⟨(a ++ b).toArray⟩ := by
  apply ByteArray.ext
  simp

/-- An element as a text. -/
def textOf (p q : Int) : List UInt8 := Lib.itoa p ++ (58 :: Lib.itoa q)

set_option maxHeartbeats 400000 in
theorem text_any (p q : Int) (hp : -9223372036854775808 ≤ p ∧ p ≤ 9223372036854775807) (hq : -9223372036854775808 ≤ q ∧ q ≤ 9223372036854775807) (w : World) (he : Env w) :
    Calls Tryd.prog 26 #[.agg #[.int .i64 p, .int .i64 q]] w fun e w' => e = .returned (.string ⟨(textOf p q).toArray⟩) ∧ Below w.heap.size w w' := by
  have lp := Lib.itoa_length_le p hp.1 hp.2
  have lq := Lib.itoa_length_le q hq.1 hq.2
  have hF : ∀ (n : Int) (h0 : -9223372036854775808 ≤ n) (h1 : n ≤ 9223372036854775807) (o : Obj) d os, Calls Tryd.prog 55 #[.int .i64 n, .int .i64 10] (grow (redrawn (w.alloc o) d) os) fun e w'' => e = .returned (.string ⟨(Lib.itoa n).toArray⟩) ∧ ∃ r : Regrown, w'' = grow (redrawn (w.alloc o) r.d) r.os :=
    fun n h0 h1 o d os => Calls.regrown_of (formatInt_any n h0 h1 _ ((he.below ((Below.refl w.heap.size w).alloc (Nat.le_refl _) o)).below (below_regrown _ d os)))
  have HF := Lib.hid hF
  clear hF he
  obtain ⟨hp0, hp1⟩ := hp
  obtain ⟨hq0, hq1⟩ := hq
  obtain ⟨c0, c1, _, _, _, hb⟩ := pair_after (w := w) (x := .int .i64 p) (y := .int .i64 q) (t := 32) (Below.refl _ _)
  have k0 := fun d os => cell_regrown c0 d os
  have k1 := fun d os => cell_regrown c1 d os
  clear c0 c1
  have HB := Lib.hid hb
  clear hb
  have n1 : ¬ 9223372036854775807 < (Lib.itoa p).length + 1 := by omega
  have n2 : ¬ 9223372036854775807 < (Lib.itoa p).length + 1 + (Lib.itoa q).length := by omega
  go_enter Tryd.func26, Tryd.ntmps26
  go_wp2_with fail
  refine wp_region_quiet_below (by kernel_rfl) (by kernel_rfl) ?_
  repeat (go_big_quiet_step ((with_reducible exact HF.out _ (by assumption) (by assumption) _ _ _)))
  refine wpQuiet_nil ?_
  intro _ hw'
  obtain ⟨⟨dq, osq⟩, hw''⟩ := hw'
  subst hw''
  go_wp2
  go_ret
  refine ⟨?_, HB.out.trans ((below_regrown _ dq osq).mono HB.out.size)⟩
  rw [show (⟨#[58]⟩ : ByteArray) = ⟨[58].toArray⟩ from rfl, append_bytes, append_bytes]
  simp [textOf]


open Go.Lib in
theorem digit_toNat (d : Nat) (h : d < 10) : (UInt8.ofNat (48 + d)).toNat = 48 + d := by
  simp [UInt8.toNat_ofNat']; omega

def in64 (v : Int) : Prop := -9223372036854775808 ≤ v ∧ v ≤ 9223372036854775807


end Go.Proofs.YtlmokendajgbdaaDoor
namespace Go.Proofs.YtlmokendajgbdaaDoor
open Go.Sort Go.RowKit

/-- All things are pairs of 64-bit numbers. -/
def fits (l : List (Int × Int)) : Prop := ∀ e ∈ l, in64 e.1 ∧ in64 e.2
theorem fits.append {a b : List (Int × Int)} (h : fits (a ++ b)) : fits a ∧ fits b := ⟨fun e he => h e (by simp [he]), fun e he => h e (by simp [he])⟩
theorem fits.join {a b : List (Int × Int)} (h : fits a) (k : fits b) : fits (a ++ b) := fun e he => by rcases List.mem_append.1 he with he | he; exact h e he; exact k e he
theorem fits.cons {x : Int × Int} {b : List (Int × Int)} (h : fits (x :: b)) : (in64 x.1 ∧ in64 x.2) ∧ fits b := ⟨h x (by simp), fun e he => h e (by simp [he])⟩
theorem fits.more {x : Int × Int} {b : List (Int × Int)} (h : in64 x.1 ∧ in64 x.2) (k : fits b) : fits (x :: b) := fun e he => by rcases List.mem_cons.1 he with rfl | he; exact h; exact k e he
theorem fits.perm {a b : List (Int × Int)} (h : fits a) (p : a.Perm b) : fits b := fun e he => h e (p.symm.subset he)
theorem fits.nil : fits [] := fun _ h => by cases h
theorem textOf_length (p q : Int) (hp : in64 p) (hq : in64 q) : (textOf p q).length ≤ 43 := by
  have h1 := Lib.itoa_length_le p hp.1 hp.2
  have h2 := Lib.itoa_length_le q hq.1 hq.2
  simp only [textOf, List.length_append, List.length_cons]
  omega
theorem textE_any (x : Int × Int) (h : in64 x.1 ∧ in64 x.2) (w : World) (he : Env w) : Calls Tryd.prog 26 #[.agg #[.int .i64 x.1, .int .i64 x.2]] w fun e w' => e = .returned (.string ⟨(textOf x.1 x.2).toArray⟩) ∧ Below w.heap.size w w' := text_any x.1 x.2 h.1 h.2 w he

theorem srt_spec (xs : List (Int × Int)) : ordered (srt xs) ∧ (srt xs).Perm xs := by
  obtain ⟨h1, h2⟩ := fold_spec xs [] (by unfold ordered; simp)
  have h3 : (xs.foldl putL []).Perm xs := by simpa using h2
  rw [srt_eq xs _ h3 h1]
  exact ⟨h1, h3⟩
theorem srt_length (xs : List (Int × Int)) : (srt xs).length = xs.length := (srt_spec xs).2.length_eq
theorem srt_perm {xs ys : List (Int × Int)} (h : xs.Perm ys) : srt xs = srt ys := srt_eq xs _ ((srt_spec ys).2.trans h.symm) (srt_spec ys).1
theorem srt_srt (xs : List (Int × Int)) : srt (srt xs) = srt xs := srt_perm (srt_spec xs).2
theorem srt_ordered {xs : List (Int × Int)} (h : ordered xs) : srt xs = xs := srt_eq xs xs (List.Perm.refl _) h
theorem srt_nil : srt [] = [] := srt_ordered (by unfold ordered; simp)
theorem putL_srt (xs : List (Int × Int)) (x : Int × Int) : putL (srt xs) x = srt (x :: xs) :=
  (srt_eq _ _ ((putL_perm _ _).trans ((srt_spec xs).2.cons x)) (putL_ordered _ _ (srt_spec xs).1)).symm
/-- The least one, and the others. -/
theorem srt_cons {x : Int × Int} {xs : List (Int × Int)} (h : ∀ e ∈ xs, ltE e x = false) : srt (x :: xs) = x :: srt xs := by
  refine srt_eq _ _ ((srt_spec xs).2.cons x) ?_
  rw [List.pairwise_cons]
  exact ⟨fun e he => by rw [h e ((srt_spec xs).2.subset he)]; rfl, (srt_spec xs).1⟩
theorem srt_mem {e : Int × Int} {xs : List (Int × Int)} : e ∈ srt xs ↔ e ∈ xs := (srt_spec xs).2.mem_iff
/-- The sum of two rows in order. -/
theorem sum_srt (xs ys : List (Int × Int)) : (srt ys).foldl putL (srt xs) = srt (xs ++ ys) := by
  obtain ⟨h1, h2⟩ := fold_spec (srt ys) (srt xs) (srt_spec xs).1
  refine (srt_eq _ _ (h2.trans ?_) h1).symm
  exact ((srt_spec ys).2.append (srt_spec xs).2).trans List.perm_append_comm

end Go.Proofs.YtlmokendajgbdaaDoor
namespace Go.Proofs.YtlmokendajgbdaaDoor
open Go.Sort Go.RowKit

/-- What holds at each round's head. -/
def SameRel (xs ys : List (Int × Int)) (w : World) (i : Value) (wr : World) : Prop :=
  ∃ k : Nat, k ≤ xs.length ∧ i = .int .i64 k ∧ xs.take k = ys.take k ∧ ∃ p : Regrown, wr = grow (redrawn w p.d) p.os

theorem take_more {xs ys : List (Int × Int)} {k : Nat} (h : xs.take k = ys.take k) (h1 : k < xs.length) (h2 : k < ys.length) (e : xs[k] = ys[k]) : xs.take (k + 1) = ys.take (k + 1) := by
  rw [List.take_succ_eq_append_getElem h1, List.take_succ_eq_append_getElem h2, h, e]

end Go.Proofs.YtlmokendajgbdaaDoor
namespace Go.Proofs.YtlmokendajgbdaaDoor
open Go.Sort Go.RowKit

theorem cellsE_take (l : List (Int × Int)) (k : Nat) : cellsE (l.take k) = (cellsE l).take (k * 2) := by
  induction l generalizing k with
  | nil => simp [cellsE]
  | cons x r ih =>
    cases k with
    | zero => simp [cellsE]
    | succ k =>
      have e : cellsE (x :: r) = .int .i64 x.1 :: .int .i64 x.2 :: cellsE r := rfl
      rw [List.take_succ_cons, e, show (k + 1) * 2 = k * 2 + 1 + 1 by omega, List.take_succ_cons, List.take_succ_cons, ← ih k]
      rfl
theorem cellsE_drop (l : List (Int × Int)) (k : Nat) : cellsE (l.drop k) = (cellsE l).drop (k * 2) := by
  induction l generalizing k with
  | nil => simp [cellsE]
  | cons x r ih =>
    cases k with
    | zero => simp [cellsE]
    | succ k =>
      have e : cellsE (x :: r) = .int .i64 x.1 :: .int .i64 x.2 :: cellsE r := rfl
      rw [List.drop_succ_cons, e, show (k + 1) * 2 = k * 2 + 1 + 1 by omega, List.drop_succ_cons, List.drop_succ_cons, ← ih k]
theorem row_take {w : World} {b o : Nat} {l : List (Int × Int)} (h : ∀ j v, (cellsE l)[j]? = some v → w.cell? ⟨b, o + j, none⟩ = some v) (k : Nat) : Row w (some ⟨b, o, none⟩) (l.take k) := fun _ =>
  ⟨b, o, rfl, fun j v hv => by
    rw [cellsE_take, List.getElem?_take] at hv
    split at hv
    · exact h j v hv
    · cases hv⟩
theorem row_drop {w : World} {b o : Nat} {l : List (Int × Int)} (h : ∀ j v, (cellsE l)[j]? = some v → w.cell? ⟨b, o + j, none⟩ = some v) (k : Nat) : Row w (some ⟨b, o + k * 2, none⟩) (l.drop k) := fun _ =>
  ⟨b, o + k * 2, rfl, fun j v hv => by
    rw [cellsE_drop, List.getElem?_drop] at hv
    rw [Nat.add_assoc]
    exact h _ v hv⟩

/-- What Put hands back. -/
def PutPost (l : List (Int × Int)) (x : Int × Int) (w : World) (e : Ending) (w' : World) : Prop :=
  ∃ v, e = .returned v ∧ Own w' w.heap.size v (putL l x) ∧ Below w.heap.size w w'

/-- The three appends of Put, one behind the other. -/
theorem put_runs (W : World) (base : Nat) (hbase : base ≤ W.heap.size) (A1 A2 : Option Addr) (c1 c2 n1 n2 : Nat) (l1 l2 : List (Int × Int)) (x : Int × Int) (h1 : Row W A1 l1) (h2 : Row W A2 l2) (e1 : A1 = none → c1 = 0) (e2 : A2 = none → c2 = 0)
    (hn1 : n1 = l1.length) (hn2 : n2 = l2.length) (hlen : l1.length + l2.length < 1073741824) :
    ∃ v1 w2 v2 w3 v3 w4, (Builtin.append_ #[22, 22] 22 #[.slice none 0 0, .slice A1 n1 c1]).run Tryd.prog W = .ok v1 w2 ∧
      (Builtin.append_ #[22, 22] 22 #[v1, .slice (some ⟨w2.heap.size, 0, none⟩) 1 1]).run Tryd.prog (w2.alloc (.cells #[.int .i64 x.1, .int .i64 x.2] 32)) = .ok v2 w3 ∧
      (Builtin.append_ #[22, 22] 22 #[v2, .slice A2 n2 c2]).run Tryd.prog w3 = .ok v3 w4 ∧
      Own w4 base v3 (l1 ++ x :: l2) ∧ Below base W w4 ∧ Below W.heap.size W w2 := by
  subst hn1
  subst hn2
  obtain ⟨v1, w2, run1, own1, gr1⟩ := append_row W W.heap.size (.slice none 0 0) [] l1 A1 c1 (Own.none _ _) h1 e1 (by simp; omega) (Nat.le_refl _)
  rw [List.nil_append] at own1
  have hb2 := below_grown (Below.refl W.heap.size W) gr1 (Nat.le_refl _) (fun g hg => by simp [Value.ownBlock] at hg)
  have hb2' : Below W.heap.size W (w2.alloc (.cells #[.int .i64 x.1, .int .i64 x.2] 32)) := hb2.alloc hb2.size _
  have own1' : Own (w2.alloc (.cells #[.int .i64 x.1, .int .i64 x.2] 32)) W.heap.size v1 l1 := own1.below ((Below.refl w2.heap.size w2).alloc (Nat.le_refl _) _)
  obtain ⟨v2, w3, run2, own2, gr2⟩ := append_row (w2.alloc (.cells #[.int .i64 x.1, .int .i64 x.2] 32)) W.heap.size v1 l1 [x] (some ⟨w2.heap.size, 0, none⟩) 1 own1' (row_new w2 [x] 32) (fun e => by cases e) (by simp; omega) hb2'.size
  have hb3 := below_grown hb2' gr2 hb2'.size own1'.block
  obtain ⟨v3, w4, run3, own3, gr3⟩ := append_row w3 W.heap.size v2 (l1 ++ [x]) l2 A2 c2 own2 (h2.below hb3) e2 (by simp; omega) hb3.size
  have hb4 := below_grown hb3 gr3 hb3.size own2.block
  refine ⟨v1, w2, v2, w3, v3, w4, run1, run2, run3, ?_, hb4.mono hbase, hb2⟩
  rw [List.append_assoc] at own3
  obtain ⟨q1, q2⟩ := own3
  refine ⟨q1, ?_⟩
  rcases q2 with q2 | ⟨g, cap, cur, a, b, r⟩
  · exact Or.inl q2
  · exact Or.inr ⟨g, cap, cur, a, Nat.le_trans hbase b, r⟩

/-- What holds at each round's head. -/
def PutRel (l : List (Int × Int)) (x : Int × Int) (w1 : World) (i : Value) (wr : World) : Prop :=
  ∃ k : Nat, k ≤ l.length ∧ i = .int .i64 k ∧ (∀ j (h : j < l.length), j < k → ltE l[j] x = true) ∧ ∃ p : Regrown, wr = grow (redrawn w1 p.d) p.os

end Go.Proofs.YtlmokendajgbdaaDoor
namespace Go.Proofs.YtlmokendajgbdaaDoor
open Go.Sort Go.RowKit

/-- What holds at each round's head. -/
def SortRel (l : List (Int × Int)) (w : World) (out i : Value) (wr : World) : Prop :=
  ∃ (k : Nat) (A : Option Addr) (c : Nat), k ≤ l.length ∧ i = .int .i64 k ∧ out = .slice A k c ∧ Row wr A (sortTo l k) ∧ k ≤ c ∧ c ≤ 9223372036854775807 ∧ (k = 0 → A = none ∧ c = 0) ∧ Below w.heap.size w wr
/-- What the reference's Sort hands back. -/
def RefSorted (l : List (Int × Int)) (w : World) (e : Ending) (w' : World) : Prop :=
  ∃ A c, e = .returned (.slice A l.length c) ∧ Row w' A (srt l) ∧ Below w.heap.size w w'
/-- .. and its capacity. -/
def RefSortedC (l : List (Int × Int)) (w : World) (e : Ending) (w' : World) : Prop :=
  ∃ A c, e = .returned (.slice A l.length c) ∧ Row w' A (srt l) ∧ Below w.heap.size w w' ∧ l.length ≤ c ∧ c ≤ 9223372036854775807

end Go.Proofs.YtlmokendajgbdaaDoor
namespace Go.Proofs.YtlmokendajgbdaaDoor
open Go.Sort Go.RowKit

/-- A value that is a row of elements, in a block of their own type. -/
def Rw (W : World) (v : Value) (xs : List (Int × Int)) : Prop :=
  (v = .slice none 0 0 ∧ xs = []) ∨ ∃ (b o c : Nat) (cs : Array Value), v = .slice (some ⟨b, o, none⟩) xs.length c ∧ xs.length ≤ c ∧ c ≤ 9223372036854775807 ∧ W.heap[b]? = some (.cells cs 32 (0, 0)) ∧ ∀ j u, (cellsE xs)[j]? = some u → cs[o + j]? = some u

section
variable {W W' : World} {v : Value} {xs : List (Int × Int)} {mo : Option Nat} {c m : Int}
theorem Rw.none (W : World) : Rw W (.slice Option.none 0 0) [] := .inl ⟨rfl, rfl⟩
theorem Rw.bt (h : Rw W v xs) (hb : Bt mo W W') (hm : MAt W mo c m) : Rw W' v xs := by
  rcases h with h | ⟨b, o, k, cs, hv, h1, h2, h3, h4⟩
  · exact .inl h
  · exact .inr ⟨b, o, k, cs, hv, h1, h2, hb.row hm h3 (by decide), h4⟩
theorem Rw.stay (h : Rw W v xs) (hb : Below W.heap.size W W') : Rw W' v xs := h.bt (mo := Option.none) (c := 0) (m := 0) (Bt.ofBelow hb) trivial
theorem Own.rw {base : Nat} (h : Own W base v xs) : Rw W v xs := by
  have h0 := h
  rcases h.2 with ⟨rfl, hn⟩ | ⟨g, cap, cur, rfl, hb, hg, hc, hm, hs, ht⟩
  · exact .inl ⟨rfl, List.eq_nil_of_length_eq_zero hn⟩
  · refine .inr ⟨g, 0, cap, cur, rfl, hc, by unfold maxLen at hm; omega, hg, fun j u hu => ?_⟩
    rw [← ht, List.getElem?_take] at hu
    split at hu
    · rw [Nat.zero_add]; simpa using hu
    · cases hu
/-- What a walk asks of such a value. -/
theorem Rw.form (h : Rw W v xs) : ∃ (A : Option Addr) (k : Nat), v = .slice A xs.length k ∧ Row W A xs ∧ xs.length ≤ k ∧ k ≤ 9223372036854775807 ∧ (A = Option.none → k = 0) := by
  rcases h with ⟨rfl, rfl⟩ | ⟨b, o, k, cs, rfl, h1, h2, h3, h4⟩
  · exact ⟨Option.none, 0, rfl, Row.nil _ _, Nat.le_refl _, by omega, fun _ => rfl⟩
  · refine ⟨_, k, rfl, fun _ => ⟨b, o, rfl, fun j u hu => ?_⟩, h1, h2, fun e => by cases e⟩
    have := h4 j u hu
    simp [World.cell?, h3, this]
end

end Go.Proofs.YtlmokendajgbdaaDoor
