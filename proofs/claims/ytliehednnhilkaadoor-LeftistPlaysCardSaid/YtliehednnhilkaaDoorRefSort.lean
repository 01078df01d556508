/-
  Contract of the reference's Sort: for any row of fewer than 2^30 elements: a new row that holds all of them in order; nothing that was there has changed.
-/
import Derived.Test.YtliehednnhilkaaDoorPut
namespace Go.Proofs.YtliehednnhilkaaDoor
open Go.Sort Go.RowKit

/-- What holds at each round's head. -/
def SortRel (l : List (Int × Int)) (w : World) (out i : Value) (wr : World) : Prop :=
  ∃ (k : Nat) (A : Option Addr) (c : Nat), k ≤ l.length ∧ i = .int .i64 k ∧ out = .slice A k c ∧ Row wr A (sortTo l k) ∧ k ≤ c ∧ c ≤ 9223372036854775807 ∧ (k = 0 → A = none ∧ c = 0) ∧ Below w.heap.size w wr
/-- What the reference's Sort hands back. -/
def RefSorted (l : List (Int × Int)) (w : World) (e : Ending) (w' : World) : Prop :=
  ∃ A c, e = .returned (.slice A l.length c) ∧ Row w' A (srt l) ∧ Below w.heap.size w w'
/-- .. and its capacity. -/
def RefSortedC (l : List (Int × Int)) (w : World) (e : Ending) (w' : World) : Prop :=
  ∃ A c, e = .returned (.slice A l.length c) ∧ Row w' A (srt l) ∧ Below w.heap.size w w' ∧ l.length ≤ c ∧ c ≤ 9223372036854775807

set_option maxHeartbeats 1000000 in
theorem refSort_none (A : Option Addr) (c : Nat) (w : World) : Calls Tryd.prog 32 #[.slice A 0 c] w (RefSortedC [] w) := by
  go_enter Tryd.func32, Tryd.ntmps32
  go_wp2_with fail
  refine wp_loop_rounds 1 ?_
  rw [rounds_succ]
  go_wp2_with fail
  go_ret
  exact ⟨none, 0, rfl, by rw [srt_eq [] [] (List.Perm.refl _) (by simp)]; exact Row.nil _ _, Below.refl _ _, Nat.le_refl _, by omega⟩

set_option maxHeartbeats 1000000 in
set_option maxRecDepth 100000 in
theorem refSort_some (b o n c : Nat) (l : List (Int × Int)) (w : World) (hn : n = l.length) (hsz : n < 1073741823)
    (hr : ∀ j v, (cellsE l)[j]? = some v → w.cell? ⟨b, o + j, none⟩ = some v) :
    Calls Tryd.prog 32 #[.slice (some ⟨b, o, none⟩) n c] w (RefSortedC l w) := by
  have HR := Lib.hid hr
  have HN := Lib.hid hn
  clear hr hn
  go_enter Tryd.func32, Tryd.ntmps32
  go_wp2_with fail
  go_loopw [3, 4] (fun out i wr => SortRel l w out i wr) (fun _ i _ => n - (intOf i).toNat)
  case atStart => exact ⟨0, none, 0, Nat.zero_le _, rfl, rfl, Row.nil _ _, Nat.le_refl _, by omega, fun _ => ⟨rfl, rfl⟩, Below.refl _ _⟩
  case round =>
    obtain ⟨k, A, co, hkk, rfl, rfl, hrow, hkc, hcm, hnil, hb⟩ := hrel
    have hn := HN.out
    by_cases hlt : k < n
    · have hkl : k < l.length := by omega
      have hlen := sortTo_length l k (by omega)
      have e1 := row_at HR.out k hkl
      have ke0 : wr.cell? ⟨b, o + k * 2, none⟩ = some (.int .i64 l[k].1) := by rw [hb.cell (block_lt_of_cell e1.1)]; exact e1.1
      have ke1 : wr.cell? ⟨b, o + k * 2 + 1, none⟩ = some (.int .i64 l[k].2) := by rw [hb.cell (block_lt_of_cell e1.2)]; exact e1.2
      have hput := put_any A (sortTo l k) co l[k] wr (by omega) (by omega) hcm hrow (fun e => hnil (by rw [e] at hlen; simpa using hlen.symm))
      rw [hlen] at hput
      have hpost : ∀ e w', PutPost (sortTo l k) l[k] wr e w' → ∃ A' c', e = .returned (.slice A' (k + 1) c') ∧ Row w' A' (sortTo l (k + 1)) ∧ k + 1 ≤ c' ∧ c' ≤ 9223372036854775807 ∧ Below w.heap.size w w' := by
        rintro e w' ⟨v, rfl, own, hbp⟩
        rw [← sortTo_succ l k hkl] at own
        obtain ⟨A', c', rfl, hr', hc1, hc2, -⟩ := own.form
        have hl' := sortTo_length l (k + 1) (by omega)
        rw [hl'] at hc1 ⊢
        exact ⟨A', c', rfl, hr', hc1, hc2, hb.trans (hbp.mono hb.size)⟩
      have HP := Lib.hid (Calls.mono hput hpost)
      generalize l[k] = e at *
      clear hput hpost hlen hn e1 hnil hb hrow
      go_wp2_with fail
      ((with_reducible refine HP.out.mono ?_); rintro e w' ⟨A', c', rfl, hr', hc1, hc2, hb'⟩)
      have HR' := Lib.hid hr'
      have HB' := Lib.hid hb'
      clear hr' hb' HP
      go_wp2_with fail
      go_roundw
      case rel => exact ⟨k + 1, A', c', by omega, by go_num, rfl, HR'.out, hc1, hc2, fun h => by omega, HB'.out⟩
      case measure => simp [intOf]; omega
    · have hk2 : k = l.length := by omega
      have hs : sortTo l k = srt l := by rw [hk2]; exact sortTo_end l
      rw [hs] at hrow
      have HROW := Lib.hid hrow
      have HB := Lib.hid hb
      have HK := Lib.hid (And.intro hk2 (And.intro hkc hcm))
      clear hrow hb hs hk2 hn hnil hkc hcm
      go_wp2_with fail
      go_ret
      exact ⟨A, co, by rw [← HK.out.1]; rfl, HROW.out, HB.out, by have := HK.out; omega, HK.out.2.2⟩

theorem refSort_cap (A : Option Addr) (l : List (Int × Int)) (c : Nat) (w : World) (hsz : l.length < 1073741823) (hr : Row w A l) :
    Calls Tryd.prog 32 #[.slice A l.length c] w (RefSortedC l w) := by
  by_cases h0 : l = []
  · subst h0
    exact refSort_none A c w
  · obtain ⟨b, o, rfl, h⟩ := hr (List.length_pos_iff.2 h0)
    exact refSort_some b o l.length c l w rfl hsz h

theorem refSort_any (A : Option Addr) (l : List (Int × Int)) (c : Nat) (w : World) (hsz : l.length < 1073741823) (hr : Row w A l) :
    Calls Tryd.prog 32 #[.slice A l.length c] w (RefSorted l w) :=
  (refSort_cap A l c w hsz hr).mono fun _ _ ⟨A, c, h1, h2, h3, _, _⟩ => ⟨A, c, h1, h2, h3⟩

end Go.Proofs.YtliehednnhilkaaDoor
