/-
  What the library's FormatInt reads of memory (one table), as a property of a world that stays where nothing below has changed; its contract, and that of elem.Text, for every element of two 64-bit numbers. No other conditions.
  Plain facts, of no program: elements of two 64-bit numbers, how long their texts are; all of a row in order: of rows with the same elements, of a row with one more, of two rows' sum. No conditions.
  Contracts of the reference's Compare and Same: for any elements and any two rows (of fewer than 2^31 elements): what they return; nothing that was there has changed.
  Contracts of the reference's Put, Sort and Compare: for any row of fewer than 2^30 elements and any element: a new row with the element where it belongs; all of a row in order; nothing that was there has changed.
  Contract of the reference's Sort: for any row of fewer than 2^30 elements: a new row that holds all of them in order; nothing that was there has changed.
  Rows of elements that a call has made, as values: they stay where only a meter's block turns; contracts of the reference's Put, Sort, Sum and Same over them; nothing that was there has changed. Conditions: fewer than 2 to the 24th elements.
-/
import Derived.Test.YtaeainnkhjnlaaaGreatDoorShelf
import Derived.Test.YtaeainnkhjnlaaaGreatDoorMb
import Derived.Shelf.Strconv.Itoa4
import Derived.Lib.QuietBelow
import Derived.Lib.ItoaLen
import Derived.Lib.ItoaMem
import Derived.Test.YtaeainnkhjnlaaaGreatDoorMa
import Derived.Deep.LoopGhost
namespace Go.Proofs.YtaeainnkhjnlaaaGreatDoor
open Go.Sort Go.RowKit

/-- What the library's calls read of memory. -/
structure Env (w : World) : Prop where
  tab : Lib.TabIs Tryz.prog w "internal/strconv.uint64pow10" .u64 Lib.pow10Tab

theorem Env.below {w w' : World} (h : Env w) (hb : Below w.heap.size w w') : Env w' where
  tab := var_stays hb h.tab

theorem formatInt_any (n : Int) (h0 : -9223372036854775808 ≤ n) (h1 : n ≤ 9223372036854775807) (w : World) (he : Env w) :
    Calls Tryz.prog 68 #[.int .i64 n, .int .i64 10] w fun e w' => e = .returned (.string ⟨(Lib.itoa n).toArray⟩) ∧ Below w.heap.size w w' :=
  (Any.strconv_FormatInt_10 Tryz.laysM173 n h0 h1 w he.tab).mono fun _ _ ⟨a, k, os, b⟩ => ⟨a, by rw [b]; exact below_grow w k os⟩

theorem append_bytes (a b : List UInt8) : (⟨a.toArray⟩ : ByteArray) ++ ⟨b.toArray⟩ = ⟨(a ++ b).toArray⟩ := by
  apply ByteArray.ext
  simp

/-- An element as a text. -/
def textOf (p q : Int) : List UInt8 := Lib.itoa p ++ (58 :: Lib.itoa q)

set_option maxHeartbeats 400000 in
theorem text_any (p q : Int) (hp : -9223372036854775808 ≤ p ∧ p ≤ 9223372036854775807) (hq : -9223372036854775808 ≤ q ∧ q ≤ 9223372036854775807) (w : World) (he : Env w) :
    Calls Tryz.prog 35 #[.agg #[.int .i64 p, .int .i64 q]] w fun e w' => e = .returned (.string ⟨(textOf p q).toArray⟩) ∧ Below w.heap.size w w' := by
  have lp := Lib.itoa_length_le p hp.1 hp.2
  have lq := Lib.itoa_length_le q hq.1 hq.2
  have hF : ∀ (n : Int) (h0 : -9223372036854775808 ≤ n) (h1 : n ≤ 9223372036854775807) (o : Obj) d os, Calls Tryz.prog 68 #[.int .i64 n, .int .i64 10] (grow (redrawn (w.alloc o) d) os) fun e w'' => e = .returned (.string ⟨(Lib.itoa n).toArray⟩) ∧ ∃ r : Regrown, w'' = grow (redrawn (w.alloc o) r.d) r.os :=
    fun n h0 h1 o d os => Calls.regrown_of (formatInt_any n h0 h1 _ ((he.below ((Below.refl w.heap.size w).alloc (Nat.le_refl _) o)).below (below_regrown _ d os)))
  have HF := Lib.hid hF
  clear hF he
  obtain ⟨hp0, hp1⟩ := hp
  obtain ⟨hq0, hq1⟩ := hq
  obtain ⟨c0, c1, _, _, _, hb⟩ := pair_after (w := w) (x := .int .i64 p) (y := .int .i64 q) (t := 32) (Below.refl _ _)
  have k0 := fun d os => cell_regrown c0 d os
  have k1 := fun d os => cell_regrown c1 d os
  clear c0 c1
  have HB := Lib.hid hb
  clear hb
  have n1 : ¬ 9223372036854775807 < (Lib.itoa p).length + 1 := by omega
  have n2 : ¬ 9223372036854775807 < (Lib.itoa p).length + 1 + (Lib.itoa q).length := by omega
  go_enter Tryz.func35, Tryz.ntmps35
  go_wp2_with fail
  refine wp_region_quiet_below (by kernel_rfl) (by kernel_rfl) ?_
  repeat (go_big_quiet_step ((with_reducible exact HF.out _ (by assumption) (by assumption) _ _ _)))
  refine wpQuiet_nil ?_
  intro _ hw'
  obtain ⟨⟨dq, osq⟩, hw''⟩ := hw'
  subst hw''
  go_wp2
  go_ret
  refine ⟨?_, HB.out.trans ((below_regrown _ dq osq).mono HB.out.size)⟩
  rw [show (⟨#[58]⟩ : ByteArray) = ⟨[58].toArray⟩ from rfl, append_bytes, append_bytes]
  simp [textOf]


open Go.Lib in
theorem digit_toNat (d : Nat) (h : d < 10) : (UInt8.ofNat (48 + d)).toNat = 48 + d := by
  simp [UInt8.toNat_ofNat']; omega

def in64 (v : Int) : Prop := -9223372036854775808 ≤ v ∧ v ≤ 9223372036854775807


end Go.Proofs.YtaeainnkhjnlaaaGreatDoor
namespace Go.Proofs.YtaeainnkhjnlaaaGreatDoor
open Go.Sort Go.RowKit

/-- All things are pairs of 64-bit numbers. -/
def fits (l : List (Int × Int)) : Prop := ∀ e ∈ l, in64 e.1 ∧ in64 e.2
theorem fits.append {a b : List (Int × Int)} (h : fits (a ++ b)) : fits a ∧ fits b := ⟨fun e he => h e (by simp [he]), fun e he => h e (by simp [he])⟩
theorem fits.join {a b : List (Int × Int)} (h : fits a) (k : fits b) : fits (a ++ b) := fun e he => by rcases List.mem_append.1 he with he | he; exact h e he; exact k e he
theorem fits.cons {x : Int × Int} {b : List (Int × Int)} (h : fits (x :: b)) : (in64 x.1 ∧ in64 x.2) ∧ fits b := ⟨h x (by simp), fun e he => h e (by simp [he])⟩
theorem fits.more {x : Int × Int} {b : List (Int × Int)} (h : in64 x.1 ∧ in64 x.2) (k : fits b) : fits (x :: b) := fun e he => by rcases List.mem_cons.1 he with rfl | he; exact h; exact k e he
theorem fits.perm {a b : List (Int × Int)} (h : fits a) (p : a.Perm b) : fits b := fun e he => h e (p.symm.subset he)
theorem fits.nil : fits [] := fun _ h => by cases h
theorem textOf_length (p q : Int) (hp : in64 p) (hq : in64 q) : (textOf p q).length ≤ 43 := by
  have h1 := Lib.itoa_length_le p hp.1 hp.2
  have h2 := Lib.itoa_length_le q hq.1 hq.2
  simp only [textOf, List.length_append, List.length_cons]
  omega
theorem textE_any (x : Int × Int) (h : in64 x.1 ∧ in64 x.2) (w : World) (he : Env w) : Calls Tryz.prog 35 #[.agg #[.int .i64 x.1, .int .i64 x.2]] w fun e w' => e = .returned (.string ⟨(textOf x.1 x.2).toArray⟩) ∧ Below w.heap.size w w' := text_any x.1 x.2 h.1 h.2 w he

end Go.Proofs.YtaeainnkhjnlaaaGreatDoor
namespace Go.Proofs.YtaeainnkhjnlaaaGreatDoor
open Go.Sort Go.RowKit

end Go.Proofs.YtaeainnkhjnlaaaGreatDoor
namespace Go.Proofs.YtaeainnkhjnlaaaGreatDoor
open Go.Sort Go.RowKit

theorem cellsE_drop (l : List (Int × Int)) (k : Nat) : cellsE (l.drop k) = (cellsE l).drop (k * 2) := by
  induction l generalizing k with
  | nil => simp [cellsE]
  | cons x r ih =>
    cases k with
    | zero => simp [cellsE]
    | succ k =>
      have e : cellsE (x :: r) = .int .i64 x.1 :: .int .i64 x.2 :: cellsE r := rfl
      rw [List.drop_succ_cons, e, show (k + 1) * 2 = k * 2 + 1 + 1 by omega, List.drop_succ_cons, List.drop_succ_cons, ← ih k]
end Go.Proofs.YtaeainnkhjnlaaaGreatDoor
namespace Go.Proofs.YtaeainnkhjnlaaaGreatDoor
open Go.Sort Go.RowKit

end Go.Proofs.YtaeainnkhjnlaaaGreatDoor
namespace Go.Proofs.YtaeainnkhjnlaaaGreatDoor
open Go.Sort Go.RowKit

/-- A value that is a row of elements, in a block of their own type. -/
def Rw (W : World) (v : Value) (xs : List (Int × Int)) : Prop :=
  (v = .slice none 0 0 ∧ xs = []) ∨ ∃ (b o c : Nat) (cs : Array Value), v = .slice (some ⟨b, o, none⟩) xs.length c ∧ xs.length ≤ c ∧ c ≤ 9223372036854775807 ∧ W.heap[b]? = some (.cells cs 32 (0, 0)) ∧ ∀ j u, (cellsE xs)[j]? = some u → cs[o + j]? = some u

section
variable {W W' : World} {v : Value} {xs : List (Int × Int)} {mo : Option Nat} {c m : Int}
theorem Rw.none (W : World) : Rw W (.slice Option.none 0 0) [] := .inl ⟨rfl, rfl⟩
theorem Rw.bt (h : Rw W v xs) (hb : Bt mo W W') (hm : MAt W mo c m) : Rw W' v xs := by
  rcases h with h | ⟨b, o, k, cs, hv, h1, h2, h3, h4⟩
  · exact .inl h
  · exact .inr ⟨b, o, k, cs, hv, h1, h2, hb.row hm h3 (by decide), h4⟩
theorem Rw.stay (h : Rw W v xs) (hb : Below W.heap.size W W') : Rw W' v xs := h.bt (mo := Option.none) (c := 0) (m := 0) (Bt.ofBelow hb) trivial
theorem Own.rw {base : Nat} (h : Own W base v xs) : Rw W v xs := by
  have h0 := h
  rcases h.2 with ⟨rfl, hn⟩ | ⟨g, cap, cur, rfl, hb, hg, hc, hm, hs, ht⟩
  · exact .inl ⟨rfl, List.eq_nil_of_length_eq_zero hn⟩
  · refine .inr ⟨g, 0, cap, cur, rfl, hc, by unfold maxLen at hm; omega, hg, fun j u hu => ?_⟩
    rw [← ht, List.getElem?_take] at hu
    split at hu
    · rw [Nat.zero_add]; simpa using hu
    · cases hu
/-- What a walk asks of such a value. -/
theorem Rw.form (h : Rw W v xs) : ∃ (A : Option Addr) (k : Nat), v = .slice A xs.length k ∧ Row W A xs ∧ xs.length ≤ k ∧ k ≤ 9223372036854775807 ∧ (A = Option.none → k = 0) := by
  rcases h with ⟨rfl, rfl⟩ | ⟨b, o, k, cs, rfl, h1, h2, h3, h4⟩
  · exact ⟨Option.none, 0, rfl, Row.nil _ _, Nat.le_refl _, by omega, fun _ => rfl⟩
  · refine ⟨_, k, rfl, fun _ => ⟨b, o, rfl, fun j u hu => ?_⟩, h1, h2, fun e => by cases e⟩
    have := h4 j u hu
    simp [World.cell?, h3, this]
end

end Go.Proofs.YtaeainnkhjnlaaaGreatDoor
