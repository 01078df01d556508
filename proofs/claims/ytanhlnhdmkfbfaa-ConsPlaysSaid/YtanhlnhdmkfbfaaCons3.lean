/-
  Contracts of package cons at ints: Drop, Of. Which list each returns, and that nothing that was there has changed. Condition: fewer than 2 to the 31st things.
-/
import Derived.Test.YtanhlnhdmkfbfaaCons2
import Derived.Test.YtanhlnhdmkfbfaaRow1
import Derived.StillTailTactics
namespace Go.Proofs.Ytanhlnhdmkfbfaa
open Go.Sort Go.RowKit

/-- What stands at the head of each round of Drop: i things are gone. -/
def DropRel (w : World) (n : Int) (xs : List El) (m0 m1 : Nat) (v : Value) (W : World) : Prop :=
  ∃ (i L : Nat) (q : Option Addr), v = .int .i64 (n - i) ∧ L = xs.length - i ∧ i ≤ xs.length ∧ (0 < i → (i : Int) ≤ n) ∧ Box2 W m0 27 (.pointer q) (.int .i64 L) ∧ Ch one 57 W q (xs.drop i) ∧ Box2 W m1 27 (.pointer none) (.int .i64 0) ∧ Below w.heap.size w W

set_option maxHeartbeats 2000000 in
set_option maxRecDepth 100000 in
theorem drop_any (p : Option Addr) (xs : List El) (n : Int) (w : World) (h : Ch one 57 w p xs) (h2 : xs.length < 2147483648) (hn0 : -9223372036854775808 ≤ n) (hn1 : n < 9223372036854775808) :
    Calls Try.prog 16 #[lst p xs.length, .int .i64 n] w fun e w' =>
      ∃ q, e = .returned (lst q ((xs.length - n.toNat : Nat) : Int)) ∧ Ch one 57 w' q (xs.drop n.toNat) ∧ Below w.heap.size w w' := by
  have H := Lib.hid h
  clear h
  go_enter Try.func16, Try.ntmps16
  go_wp2_with fail
  have hB0 : Below w.heap.size w ((w.alloc (.cells #[.pointer p, .int .i64 xs.length] 27)).alloc (.cells #[.pointer none, .int .i64 0] 27)) := ((Below.refl _ w).alloc (Nat.le_refl _) _).alloc (by simp) _
  have bL := (Box2.new w 27 (.pointer p) (.int .i64 xs.length)).alloc (.cells #[.pointer none, .int .i64 0] 27)
  have bR := Box2.new (w.alloc (.cells #[.pointer p, .int .i64 xs.length] 27)) 27 (.pointer none) (.int .i64 0)
  simp only [World.size_alloc] at bR
  have H0 := Lib.hid (show DropRel w n xs w.heap.size (w.heap.size + 1) (.int .i64 n) _ from ⟨0, xs.length, p, by simp, by simp, Nat.zero_le _, by omega, bL, H.out.stay hB0, bR, hB0⟩)
  clear hB0 bL bR H
  go_loopw [1] (fun v wr => DropRel w n xs w.heap.size (w.heap.size + 1) v wr) (fun v _ => (intOf v).toNat)
  case atStart => exact H0.out
  case round =>
    clear H0
    obtain ⟨i, L, q, rfl, hL, hi, hin, hbl, hc, hbr, hb⟩ := hrel
    have HL := Lib.hid hbl
    have HR := Lib.hid hbr
    have HC := Lib.hid hc
    have HB := Lib.hid hb
    have HN := Lib.hid hL
    have c0 := hbl.c0
    have c1 := hbl.c1
    clear hbl hbr hc hb hL
    by_cases hpos : 0 < n - i
    · have g1 : decide (0 < n - (i : Int)) = true := by simpa using hpos
      cases hd : xs.drop i with
      | nil =>
        have hc := HC.out
        rw [hd] at hc
        obtain rfl := hc.nil
        have hlen : xs.length ≤ i := by simpa using hd
        have d0 := HR.out.c0
        have d1 := HR.out.c1
        have e0 := HR.out.z0
        have e1 := HR.out.z1
        clear hc
        go_wp2_with fail
        have hr2 := HR.out.set (.pointer none) (.int .i64 L)
        have f0 := hr2.c0
        have f1 := hr2.c1
        refine bodyPost_ret (v := lst none L) (by simp [results, Try.results16, go_sem, f0, f1]) rfl ⟨none, ?_, ?_, below_set2 HB.out (by omega) _ _⟩
        · rw [show L = xs.length - n.toNat from by have := HN.out; omega]
        · rw [List.drop_eq_nil_of_le (by omega : xs.length ≤ n.toNat)]
          exact Ch.none _
      | cons x rest =>
        have hc := HC.out
        rw [hd] at hc
        obtain ⟨b, q', rfl, -⟩ := id hc
        have hlen : i < xs.length := by
          have := congrArg List.length hd
          simp at this
          omega
        have hrest : rest = xs.drop (i + 1) := by
          have := congrArg List.tail hd
          simpa using this.symm
        have HC2 := Lib.hid hc
        have HT := Lib.hid hrest
        have HI := Lib.hid hin
        have H1 := Lib.hid hlen
        clear hc hrest hin hlen hd
        go_wp2_with fail
        ((with_reducible refine (rest_cons _ x rest L _ HC2.out (by have := HN.out; have := H1.out; omega) (by have := HN.out; omega)).mono ?_); rintro e w2 ⟨q2, rfl, hc2, hb2⟩)
        have hl2 := HL.out.stay hb2
        have d0 := hl2.c0
        have d1 := hl2.c1
        have e0 := hl2.z0
        have e1 := hl2.z1
        have HL2 := Lib.hid hl2
        have HC3 := Lib.hid hc2
        have HB2 := Lib.hid hb2
        clear hl2 hc2 hb2
        go_wp2_with fail
        go_roundw
        case rel =>
          refine ⟨i + 1, L - 1, q2, by go_num, by have := HN.out; omega, H1.out, fun _ => by omega, ?_, ?_, (HR.out.stay HB2.out).aside (by omega) _ _, below_set2 (HB.out.trans (HB2.out.mono HB.out.size)) (Nat.le_refl _) _ _⟩
          · rw [show ((L - 1 : Nat) : Int) = (L : Int) - 1 from by have := HN.out; have := H1.out; omega]
            exact HL2.out.set _ _
          · rw [← HT.out]
            exact HC3.out.set2 HL2.out (by decide) _ _
        case measure => simp [intOf]; omega
    · have g1 : decide (0 < n - (i : Int)) = false := by simpa using hpos
      have d0 := HR.out.c0
      have d1 := HR.out.c1
      have e0 := HR.out.z0
      have e1 := HR.out.z1
      go_wp2_with fail
      have hr2 := HR.out.set (.pointer q) (.int .i64 L)
      have f0 := hr2.c0
      have f1 := hr2.c1
      have hin2 : i = n.toNat := by omega
      refine bodyPost_ret (v := lst q L) (by simp [results, Try.results16, go_sem, f0, f1]) rfl ⟨q, ?_, ?_, below_set2 HB.out (by omega) _ _⟩
      · rw [show L = xs.length - n.toNat from by have := HN.out; omega]
      · rw [← hin2]
        exact HC.out.set2 HR.out (by decide) _ _

end Go.Proofs.Ytanhlnhdmkfbfaa
