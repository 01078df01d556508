/-
  Contracts of package cons at ints: Push, First, Rest, Len, for any list in memory: what each returns, that the list it returns lies in memory, and that nothing that was there has changed. Condition: a length that is added to is below 2 to the 62nd.
-/
import Derived.Test.YtanhlnhdmkfbfaaChain
import Derived.Test.YtanhlnhdmkfbfaaProg
import Derived.Lib.Hide
import Derived.WalkKit
import Derived.WalkLawsBesides
import Derived.Outline
import Derived.Deep.QuietTactic
import Derived.BigQuiet
import Derived.LoopTactic
namespace Go.Proofs.Ytanhlnhdmkfbfaa
open Go.Sort Go.RowKit

/-- A thing. -/
abbrev El : Type := Int
/-- A thing, as a value. -/
abbrev one (x : El) : Value := .int .i64 x
/-- The thing of no list. -/
abbrev zero : El := 0
/-- A list's value. -/
abbrev lst (p : Option Addr) (n : Int) : Value := .agg #[.pointer p, .int .i64 n]

theorem ch_new (p : Option Addr) (xs : List El) (x : El) (w w' : World) (b : Nat) (h : Ch one 57 w p xs) (hb : Below w.heap.size w w') (h0 : w'.heap[b]? = some (.cells #[one x, .pointer p] 57 (0, 0))) : Ch one 57 w' (some ⟨b, 0, none⟩) (x :: xs) :=
  ⟨b, p, rfl, (Array.getElem?_eq_some_iff.1 h0).1, h0, h.stay hb⟩

set_option maxHeartbeats 1000000 in
theorem push_any (p : Option Addr) (xs : List El) (n : Int) (x : El) (w : World) (h : Ch one 57 w p xs) (h0 : 0 ≤ n) (h1 : n < 4611686018427387904) : Calls Try.prog 8 #[lst p n, one x] w fun e w' =>
    ∃ b, e = .returned (lst (some ⟨b, 0, none⟩) (n + 1)) ∧ Ch one 57 w' (some ⟨b, 0, none⟩) (x :: xs) ∧ Below w.heap.size w w' := by
  have H := Lib.hid h
  clear h
  go_enter Try.func8, Try.ntmps8
  go_wp2
  refine bodyPost_ret (v := lst (some ⟨w.heap.size + 1 + 1, 0, none⟩) (n + 1)) (by simp [results, Try.results8, go_sem]) rfl ⟨_, rfl, ?_⟩
  have hb : Below w.heap.size w (((w.alloc (.cells #[.pointer p, .int .i64 n] 27)).alloc (.cells #[.pointer (some ⟨w.heap.size + 1 + 1, 0, none⟩), .int .i64 (n + 1)] 27)).alloc (.cells #[one x, .pointer p] 57)) := (((Below.refl _ w).alloc (Nat.le_refl _) _).alloc (by simp) _).alloc (by simp; omega) _
  refine ⟨ch_new p xs x w _ _ H.out hb ?_, hb⟩
  have := World.alloc_heap_new ((w.alloc (.cells #[.pointer p, .int .i64 n] 27)).alloc (.cells #[.pointer (some ⟨w.heap.size + 1 + 1, 0, none⟩), .int .i64 (n + 1)] 27)) (.cells #[one x, .pointer p] 57)
  simpa using this

set_option maxHeartbeats 1000000 in
theorem first_nil (n : Int) (w : World) : Calls Try.prog 18 #[lst none n] w fun e w' =>
    e = .returned (.tuple #[one zero, .bool false]) ∧ Below w.heap.size w w' := by
  go_enter Try.func18, Try.ntmps18
  go_wp2
  go_ret2
  exact ⟨rfl, (Below.refl _ _).alloc (Nat.le_refl _) _⟩

set_option maxHeartbeats 1000000 in
theorem first_cons (p : Option Addr) (x : El) (xs : List El) (n : Int) (w : World) (h : Ch one 57 w p (x :: xs)) : Calls Try.prog 18 #[lst p n] w fun e w' =>
    e = .returned (.tuple #[one x, .bool true]) ∧ Below w.heap.size w w' := by
  obtain ⟨b, q, rfl, hb, hh, -⟩ := h
  have hv : w.cell? ⟨b, 0, none⟩ = some (one x) := by simp [World.cell?, hh]
  clear hh
  have hv1 := ((Below.refl w.heap.size w).alloc (Nat.le_refl _) (.cells #[.pointer (some ⟨b, 0, none⟩), .int .i64 n] 27)).cell (p := ⟨b, 0, none⟩) hb
  rw [hv] at hv1
  clear hv
  go_enter Try.func18, Try.ntmps18
  go_wp2
  go_ret2
  exact ⟨rfl, (Below.refl _ _).alloc (Nat.le_refl _) _⟩

set_option maxHeartbeats 1000000 in
theorem len_any (p : Option Addr) (n : Int) (w : World) : Calls Try.prog 21 #[lst p n] w fun e w' =>
    e = .returned (.int .i64 n) ∧ Below w.heap.size w w' := by
  go_enter Try.func21, Try.ntmps21
  go_wp2
  go_ret
  exact ⟨rfl, (Below.refl _ _).alloc (Nat.le_refl _) _⟩

set_option maxHeartbeats 1000000 in
theorem rest_nil (n : Int) (w : World) : Calls Try.prog 10 #[lst none n] w fun e w' =>
    e = .returned (lst none n) ∧ Below w.heap.size w w' := by
  go_enter Try.func10, Try.ntmps10
  go_wp2
  refine bodyPost_ret (v := lst none n) (by simp [results, Try.results10, go_sem]) rfl ⟨rfl, ?_⟩
  exact ((Below.refl _ w).alloc (Nat.le_refl _) _).alloc (by simp) _

set_option maxHeartbeats 1000000 in
theorem rest_cons (p : Option Addr) (x : El) (xs : List El) (n : Int) (w : World) (h : Ch one 57 w p (x :: xs)) (h0 : 0 < n) (h1 : n < 4611686018427387904) : Calls Try.prog 10 #[lst p n] w fun e w' =>
    ∃ q, e = .returned (lst q (n - 1)) ∧ Ch one 57 w' q xs ∧ Below w.heap.size w w' := by
  obtain ⟨b, q, rfl, hb, hh, hr⟩ := h
  have hv : w.cell? ⟨b, 1, none⟩ = some (.pointer q) := by simp [World.cell?, hh]
  clear hh
  have HR := Lib.hid hr
  clear hr
  have hb' : Below w.heap.size w ((w.alloc (.cells #[.pointer (some ⟨b, 0, none⟩), .int .i64 n] 27)).alloc (.cells #[.pointer none, .int .i64 0] 27)) := ((Below.refl w.heap.size w).alloc (Nat.le_refl _) _).alloc (by simp) _
  have hv1 := hb'.cell (p := ⟨b, 1, none⟩) hb
  rw [hv] at hv1
  clear hv
  have HB := Lib.hid hb'
  clear hb'
  go_enter Try.func10, Try.ntmps10
  go_wp2
  go_region
  all_goals
    go_wp2
    refine bodyPost_ret (v := lst q (n - 1)) (by simp [results, Try.results10, go_sem]) rfl ⟨_, rfl, ?_⟩
    have hb2 : Below w.heap.size w ((w.alloc (.cells #[.pointer (some ⟨b, 0, none⟩), .int .i64 n] 27)).alloc (.cells #[.pointer q, .int .i64 (n - 1)] 27)).drew := (((Below.refl w.heap.size w).alloc (Nat.le_refl _) _).alloc (by simp) _).drew
    exact ⟨Ch.stay HR.out hb2, hb2⟩

/-- Rest, of any list. -/
theorem rest_any (p : Option Addr) (xs : List El) (n : Nat) (w : World) (h : Ch one 57 w p xs) (hn : xs.length = n) (h1 : n < 2147483648) : Calls Try.prog 10 #[lst p n] w fun e w' =>
    ∃ q, e = .returned (lst q ((n - 1 : Nat) : Int)) ∧ Ch one 57 w' q xs.tail ∧ Below w.heap.size w w' := by
  cases xs with
  | nil =>
    obtain rfl := h.nil
    obtain rfl : n = 0 := hn.symm
    exact (rest_nil _ w).mono fun e w' ⟨he, hb⟩ => ⟨none, he, rfl, hb⟩
  | cons x xs =>
    refine (rest_cons p x xs n w h (by simp at hn; omega) (by omega)).mono fun e w' ⟨q, he, hc, hb⟩ => ⟨q, ?_, hc, hb⟩
    rw [he, show ((n - 1 : Nat) : Int) = (n : Int) - 1 from by simp at hn; omega]

end Go.Proofs.Ytanhlnhdmkfbfaa
