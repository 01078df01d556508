/-
  Contract of package cons at ints: Of. Which list it returns, and that nothing that was there has changed. Condition: fewer than 2 to the 31st things.
-/
import Derived.Test.YtanhlnhdmkfbfaaCons2
import Derived.Test.YtanhlnhdmkfbfaaRow1
import Derived.StillTailTactics
namespace Go.Proofs.Ytanhlnhdmkfbfaa
open Go.Sort Go.RowKit

/-- What stands at the head of each round of Of: the first k things are still to be pushed. -/
def OfRel (w : World) (xs : List El) (m0 m1 : Nat) (v : Value) (W : World) : Prop :=
  ∃ (k L : Nat) (q : Option Addr), v = .int .i64 ((k : Int) - 1) ∧ k ≤ xs.length ∧ L = xs.length - k ∧ Box2 W m1 27 (.pointer q) (.int .i64 L) ∧ Ch one 57 W q (xs.drop k) ∧ Box2 W m0 27 (.pointer none) (.int .i64 0) ∧ Below w.heap.size w W

theorem below_drewn (w : World) : Below w.heap.size w { w with drawn := w.drawn + 1 } := (Below.refl _ _).drew

set_option maxHeartbeats 2000000 in
set_option maxRecDepth 100000 in
theorem of_any (A : Option Addr) (xs : List El) (n c : Nat) (w : World) (hn : n = xs.length) (hr : Row1 one w A xs) (h2 : xs.length < 2147483648) :
    Calls Try.prog 7 #[.slice A n c] w fun e w' =>
      ∃ q, e = .returned (lst q xs.length) ∧ Ch one 57 w' q xs ∧ Below w.heap.size w w' := by
  have HR := Lib.hid hr
  have HN := Lib.hid hn
  have hn2 : n < 2147483648 := by omega
  clear hr hn h2
  go_enter Try.func7, Try.ntmps7
  go_wp2_with fail
  have hB0 : Below w.heap.size w ((w.alloc (.cells #[.pointer none, .int .i64 0] 27)).alloc (.cells #[.pointer none, .int .i64 0] 27)) := ((Below.refl _ w).alloc (Nat.le_refl _) _).alloc (by simp) _
  have bL := (Box2.new w 27 (.pointer none) (.int .i64 0)).alloc (.cells #[.pointer none, .int .i64 0] 27)
  have bR := Box2.new (w.alloc (.cells #[.pointer none, .int .i64 0] 27)) 27 (.pointer none) (.int .i64 0)
  simp only [World.size_alloc] at bR
  have H0 := Lib.hid (show OfRel w xs w.heap.size (w.heap.size + 1) (.int .i64 ((n : Int) - 1)) _ from ⟨n, 0, none, rfl, by rw [HN.out]; exact Nat.le_refl _, by rw [HN.out]; simp, bR, by rw [HN.out, List.drop_length]; exact Ch.none _, bL, hB0⟩)
  clear hB0 bL bR
  go_loopw [4] (fun v wr => OfRel w xs w.heap.size (w.heap.size + 1) v wr) (fun v _ => (intOf v + 1).toNat)
  case atStart => exact H0.out
  case round =>
    clear H0
    obtain ⟨k, L, q, rfl, hk, hL, hbl, hc, hbr, hb⟩ := hrel
    have HK := Lib.hid hk
    have HL := Lib.hid hbl
    have HE := Lib.hid hbr
    have HC := Lib.hid hc
    have HB := Lib.hid hb
    have HM := Lib.hid hL
    have c0 := hbl.c0
    have c1 := hbl.c1
    have hkn : k ≤ n := by rw [HN.out]; exact hk
    clear hbl hbr hc hb hL hk
    cases k with
    | zero =>
      have d0 := HE.out.c0
      have d1 := HE.out.c1
      have e0 := HE.out.z0
      have e1 := HE.out.z1
      go_wp2_with fail
      have hr2 := HE.out.set (.pointer q) (.int .i64 L)
      have f0 := hr2.c0
      have f1 := hr2.c1
      refine bodyPost_ret (v := lst q L) (by simp [results, Try.results7, go_sem, f0, f1]) rfl ⟨q, ?_, ?_, below_set2 HB.out (Nat.le_refl _) _ _⟩
      · rw [show L = xs.length from by have := HM.out; omega]
      · have hc := HC.out
        rw [List.drop_zero] at hc
        exact hc.set2 HE.out (by decide) _ _
    | succ k =>
      obtain ⟨b, o, rfl, hcell⟩ := HR.out (by have := HK.out; omega)
      have hx := hcell k HK.out
      rw [← HB.out.cell (p := ⟨b, o + k, none⟩) (lt_of_cell hx)] at hx
      clear hcell
      generalize hxe : xs[k]'HK.out = x at hx
      have HX := Lib.hid (show xs.drop k = x :: xs.drop (k + 1) from by rw [List.drop_eq_getElem_cons HK.out, hxe])
      clear hxe
      rw [show (((k + 1 : Nat) : Int) - 1) = (k : Int) from by omega]
      go_wp2_with fail
      have HP := Lib.hid (fun w h => push_any q (xs.drop (k + 1)) L x w h (by omega) (by have := HM.out; have := HN.out; omega))
      go_region_with (go_at_call 8; ((with_reducible refine (HP.out _ HC.out.drew).mono ?_); rintro e w2 ⟨b2, rfl, hc2, hb2⟩; have HC2 := Lib.hid hc2; have HB2 := Lib.hid hb2; have hl2 := HL.out.stay (W' := w2) (below_drewn wr |>.trans hb2); have d0 := hl2.c0; have d1 := hl2.c1; have e0 := hl2.z0; have e1 := hl2.z1; have HL2 := Lib.hid hl2; clear hc2 hb2 hl2))
      all_goals go_wp2_with fail
      all_goals
        have hb2 : Below wr.heap.size wr w2 := (below_drewn wr).trans HB2.out
        refine ⟨⟨k, L + 1, some ⟨b2, 0, none⟩, rfl, by have := HK.out; omega, by have := HK.out; have := HM.out; omega, HL2.out.set _ _, ?_, (HE.out.stay hb2).aside (by omega) _ _, below_set2 (HB.out.trans (hb2.mono HB.out.size)) (by omega) _ _⟩, by simp [intOf]⟩
        rw [HX.out]
        exact HC2.out.set2 HL2.out (by decide) _ _

end Go.Proofs.Ytanhlnhdmkfbfaa
