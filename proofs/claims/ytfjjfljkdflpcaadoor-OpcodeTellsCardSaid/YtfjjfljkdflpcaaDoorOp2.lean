/-
  Contracts of the reference's Same over rows of numbers, of how many numbers an operation is told, in the program and in the reference, and of what is wrong with an operation: for any inputs; the program's table holds what its text lays. Condition of Same: fewer than 2 to the 31st numbers.
-/
import Derived.Test.YtfjjfljkdflpcaaDoorOp1
import Derived.Lib.LaidTab
import Derived.Lib.Hide
namespace Go.Proofs.YtfjjfljkdflpcaaDoor
open Go.Sort Go.RowKit

/-- What stands at the head of each round of Same. -/
def SameRel (xs ys : List Int) (w : World) (i : Value) (wr : World) : Prop :=
  ∃ k : Nat, k ≤ xs.length ∧ i = .int .i64 k ∧ xs.take k = ys.take k ∧ Below w.heap.size w wr

set_option maxHeartbeats 1000000 in
theorem same_unlike (A B : Option Addr) (na nb ca cb : Nat) (w : World) (h : na ≠ nb) :
    Calls Tryd.prog 11 #[.slice A na ca, .slice B nb cb] w fun e w' => e = .returned (.bool false) ∧ Below w.heap.size w w' := by
  have h1 : ((na : Int) != (nb : Int)) = true := by rw [bne_iff_ne]; omega
  go_enter Tryd.func11, Tryd.ntmps11
  go_wp2_with fail
  go_ret
  exact ⟨rfl, Below.refl _ _⟩

theorem take_more {xs ys : List Int} {k : Nat} (h : xs.take k = ys.take k) (h1 : k < xs.length) (h2 : k < ys.length) (e : xs[k] = ys[k]) : xs.take (k + 1) = ys.take (k + 1) := by
  rw [List.take_succ_eq_append_getElem h1, List.take_succ_eq_append_getElem h2, h, e]

set_option maxHeartbeats 2000000 in
set_option maxRecDepth 100000 in
theorem same_even (A B : Option Addr) (xs ys : List Int) (n c d : Nat) (w : World) (hn : n = xs.length) (hm : n = ys.length) (ha : Row1 nm w A xs) (hb : Row1 nm w B ys) (h2 : n < 2147483648) :
    Calls Tryd.prog 11 #[.slice A n c, .slice B n d] w fun e w' => e = .returned (.bool (decide (xs = ys))) ∧ Below w.heap.size w w' := by
  have HA := Lib.hid ha
  have HB := Lib.hid hb
  have HN := Lib.hid hn
  have HM := Lib.hid hm
  clear ha hb hn hm
  go_enter Tryd.func11, Tryd.ntmps11
  go_wp2_with fail
  go_loopw [5] (fun v wr => SameRel xs ys w v wr) (fun v _ => n - (intOf v).toNat)
  case atStart => exact ⟨0, Nat.zero_le _, rfl, rfl, Below.refl _ _⟩
  case round =>
    obtain ⟨k, hk, rfl, ht, hw⟩ := hrel
    by_cases hlt : k < n
    · have hk1 : k < xs.length := by have := HN.out; omega
      have hk2 : k < ys.length := by have := HM.out; omega
      obtain ⟨b, o, rfl, hc⟩ := HA.out (by omega)
      obtain ⟨b', o', rfl, hc'⟩ := HB.out (by omega)
      have hx := hc k hk1
      have hy := hc' k hk2
      rw [← hw.cell (p := ⟨b, o + k, none⟩) (lt_of_cell hx)] at hx
      rw [← hw.cell (p := ⟨b', o' + k, none⟩) (lt_of_cell hy)] at hy
      have hmore := fun (e : xs[k] = ys[k]) => take_more ht hk1 hk2 e
      have hstop : ¬ xs[k] = ys[k] → decide (xs = ys) = false := fun hne => by
        rw [decide_eq_false_iff_not]
        intro e
        subst e
        exact hne rfl
      clear hc hc'
      generalize xs[k] = x at *
      generalize ys[k] = y at *
      rw [nm_def] at hx hy
      have HW := Lib.hid hw
      have HT := Lib.hid hmore
      have HS := Lib.hid hstop
      have HK := Lib.hid (And.intro hk (And.intro hk1 hk2))
      clear hw hmore hstop ht hk hk1 hk2
      by_cases e : x = y
      · have HE := Lib.hid (HT.out e)
        subst e
        clear HT HS
        go_wp2_with fail
        go_region
        all_goals go_wp2_with fail
        all_goals exact ⟨⟨k + 1, HK.out.2.1, by go_num, HE.out, HW.out.drew⟩, by simp [intOf]; omega⟩
      · have HE := Lib.hid (HS.out e)
        clear HT HS
        go_wp2_with fail
        go_region
        all_goals go_wp2_with fail
        all_goals go_ret
        all_goals exact ⟨(congrArg (fun b => Ending.returned (.bool b)) HE.out).symm, HW.out.drew⟩
    · have e : k = n := by have := HN.out; omega
      have hxy : decide (xs = ys) = true := by
        rw [decide_eq_true_eq]
        have h1 := HN.out
        have h2 := HM.out
        rw [e, h1, List.take_length, List.take_of_length_le (by omega)] at ht
        exact ht
      subst e
      have HW := Lib.hid hw
      have HE := Lib.hid hxy
      clear hw ht hxy hk
      go_wp2_with fail
      go_ret
      exact ⟨(congrArg (fun b => Ending.returned (.bool b)) HE.out).symm, HW.out⟩

/-- Two rows that are read: are they the same? -/
theorem same_any {A B : Option Addr} {xs ys : List Int} {n m c d : Nat} {w : World} (hn : n = xs.length) (hm : m = ys.length) (ha : Row1 nm w A xs) (hb : Row1 nm w B ys) (h2 : n < 2147483648) :
    Calls Tryd.prog 11 #[.slice A n c, .slice B m d] w fun e w' => e = .returned (.bool (decide (xs = ys))) ∧ Below w.heap.size w w' := by
  by_cases h : n = m
  · subst h
    exact same_even A B xs ys n c d w hn hm ha hb h2
  · have hf : decide (xs = ys) = false := by
      rw [decide_eq_false_iff_not]; intro e; subst e; omega
    rw [hf]
    exact same_unlike A B n m c d w h

/-- What the program reads of memory: its table. -/
structure Env (w : World) : Prop where
  tab : Lib.TabIs Tryd.prog w "slagheap/opcode.told" .i64 toldL
theorem gTold : Tryd.prog.globalNamed "slagheap/opcode.told" = some 0 := by kernel_rfl
theorem var_stays' {P : Program} {w w' : World} {n : String} {cs : Array Value} (hb : Below w.heap.size w w') (hv : w.var? P n = some cs) : w'.var? P n = some cs := var_stays hb hv
theorem Env.below {w w' : World} (h : Env w) (hb : Below w.heap.size w w') : Env w' where
  tab := var_stays hb h.tab
theorem Env.cell {w : World} (h : Env w) (i : Nat) (hi : i < 23) : w.cell? ⟨0, i, none⟩ = some (.int .i64 (toldL.getD i 0)) := by
  have h1 := h.tab
  unfold Lib.TabIs World.var? at h1
  rw [gTold, Option.bind_some] at h1
  have h2 : i < toldL.length := hi
  unfold World.cell?
  simp only
  split at h1
  · rename_i hh
    injection h1 with h1
    rw [hh]
    simp [h1, h2]
  · cases h1

set_option maxRecDepth 100000 in
set_option maxHeartbeats 1000000 in
theorem args_no (c : Int) (h : c < 1 ∨ 22 < c) (w : World) :
    Calls Tryd.prog 9 #[.int .i64 c] w fun e w' => e = .returned (.tuple #[.int .i64 0, .bool false]) ∧ w' = w := by
  by_cases h1 : c < 1
  · clear h
    have d1 : decide (c < 1) = true := by simpa using h1
    go_enter Tryd.func9, Tryd.ntmps9
    go_wp2_with fail
    go_ret2
    exact ⟨rfl, rfl⟩
  · have h2 : 22 < c := by omega
    have d1 : decide (c < 1) = false := by simpa using h1
    have d2 : decide (22 < c) = true := by simpa using h2
    clear h
    go_enter Tryd.func9, Tryd.ntmps9
    go_wp2_with fail
    go_ret2
    exact ⟨rfl, rfl⟩

set_option maxRecDepth 100000 in
set_option maxHeartbeats 1000000 in
theorem args_yes (k : Nat) (h : 1 ≤ k ∧ k ≤ 22) (w : World) (he : Env w) :
    Calls Tryd.prog 9 #[.int .i64 k] w fun e w' => e = .returned (.tuple #[.int .i64 (toldL.getD k 0), .bool true]) ∧ w' = w := by
  have hc := he.cell k (by omega)
  have d1 : decide ((k : Int) < 1) = false := by simp; omega
  have d2 : decide ((22 : Int) < (k : Int)) = false := by simp; omega
  have b1 : (0 : Int) ≤ (k : Int) := by omega
  have b2 : (k : Int) < 23 := by omega
  generalize toldL.getD k 0 = r at *
  clear he h
  go_enter Tryd.func9, Tryd.ntmps9
  go_wp2_with fail
  go_ret2
  exact ⟨rfl, rfl⟩

/-- What Args tells of a code. -/
def toldV (c : Int) : Int := if toldN c < 0 then 0 else toldN c
theorem toldN_lt (c : Int) : toldN c < 4 := by
  unfold toldN
  split
  · rename_i h
    obtain ⟨k, rfl⟩ : ∃ k : Nat, c = k := ⟨c.toNat, by omega⟩
    have hk : k < 23 := by omega
    have : ∀ j, j < 23 → toldL.getD j 0 < 4 := by decide
    simpa using this k hk
  · omega
theorem toldL_nonneg (k : Nat) : 0 ≤ toldL.getD k 0 := by
  by_cases hk : k < 23
  · have : ∀ j, j < 23 → 0 ≤ toldL.getD j 0 := by decide
    exact this k hk
  · have : toldL.length ≤ k := by show 23 ≤ k; omega
    simp [List.getD, List.getElem?_eq_none this]
theorem toldN_in (c : Int) (h : 1 ≤ c ∧ c ≤ 22) : 0 ≤ toldN c := by
  unfold toldN
  rw [if_pos h]
  exact toldL_nonneg _
theorem toldN_out (c : Int) (h : c < 1 ∨ 22 < c) : toldN c = -1 := by
  unfold toldN
  rw [if_neg (by omega)]

theorem args_any (c : Int) (w : World) (he : Env w) :
    Calls Tryd.prog 9 #[.int .i64 c] w fun e w' => e = .returned (.tuple #[.int .i64 (toldV c), .bool (decide (0 ≤ toldN c))]) ∧ w' = w := by
  by_cases h : 1 ≤ c ∧ c ≤ 22
  · obtain ⟨k, rfl⟩ : ∃ k : Nat, c = k := ⟨c.toNat, by omega⟩
    have h1 := toldN_in k h
    have e1 : toldV k = toldL.getD k 0 := by
      unfold toldV
      rw [if_neg (by omega)]
      unfold toldN
      rw [if_pos h]
      simp
    have e2 : decide (0 ≤ toldN k) = true := by simpa using h1
    rw [e1, e2]
    exact args_yes k (by omega) w he
  · have h1 := toldN_out c (by omega)
    have e1 : toldV c = 0 := by unfold toldV; rw [if_pos (by omega)]
    have e2 : decide (0 ≤ toldN c) = false := by rw [h1]; rfl
    rw [e1, e2]
    exact args_no c (by omega) w

end Go.Proofs.YtfjjfljkdflpcaaDoor
