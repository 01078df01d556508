/-
  The walk of the statement ConsPlays: for any row of numbers and any acts it returns true, and nothing that was there has changed, in any world.
-/
import Derived.Test.YtanhlnhdmkfbfaaPlays0
import Derived.Test.YtanhlnhdmkfbfaaPlays1
import Derived.IntWalk
namespace Go.Proofs.Ytanhlnhdmkfbfaa
open Go.Sort Go.RowKit

/-- What stands at the head of each round. -/
def PlayRel (w : World) (N : Nat) (v6 v7 i : Value) (W : World) : Prop :=
  ∃ (k L gA cA gW cW : Nat) (E : List Ent), i = .int .i64 k ∧ k ≤ N ∧ v6 = .slice (some ⟨gA, 0, none⟩) L cA ∧ v7 = .slice (some ⟨gW, 0, none⟩) L cW ∧ L = k + 1 ∧ E.length = L ∧ St w (200 + k) W gA cA gW cW E

theorem old_cell {w w' : World} {a : Addr} {v : Value} (hb : Below w.heap.size w w') (h : w.cell? a = some v) : w'.cell? a = some v := (hb.cell (p := a) (lt_of_cell h)).trans h

theorem first_state (w w2 : World) (A p : Option Addr) (xs : List El) (n c N : Nat) (hn : n = xs.length) (hr : Row1 one w A xs) (hc : n ≤ c) (hcm : c ≤ 9223372036854775807) (hA : A = none → c = 0) (h30 : n ≤ 30) (hl : LL w2 p n xs) (hb : Below w.heap.size w w2) :
    PlayRel w N (.slice (some ⟨w2.heap.size, 0, none⟩) 1 1) (.slice (some ⟨w2.heap.size + 1, 0, none⟩) 1 1) (.int .i64 0) ((w2.alloc (.cells #[.pointer p, .int .i64 n] 27)).alloc (.cells #[.slice A n c] 22)) := by
  have b1 := below_new w2 (.cells #[.pointer p, .int .i64 n] 27)
  have b2 := below_new (w2.alloc (.cells #[.pointer p, .int .i64 n] 27)) (.cells #[.slice A n c] 22)
  have hsl : SL w.heap.size w A n c xs := ⟨RowT.of_arg hr (Nat.le_refl _), hn, hc, hcm, hA, by omega⟩
  have hra : RA w.heap.size (w2.alloc (.cells #[.pointer p, .int .i64 n] 27)) w2.heap.size 1 [⟨p, n, A, c, xs⟩] :=
    World.ownsRow_lit w2 #[.pointer p, .int .i64 n] 1 hb.size (by unfold maxLen; omega) rfl
  have hrw := World.ownsRow_lit (base := w.heap.size) (e := 22) (size := 1) (w2.alloc (.cells #[.pointer p, .int .i64 n] 27)) #[.slice A n c] 1 (Nat.le_trans hb.size b1.size) (by unfold maxLen; omega) rfl
  rw [World.size_alloc] at hrw
  refine ⟨0, 1, _, _, _, _, [⟨p, n, A, c, xs⟩], rfl, Nat.zero_le _, rfl, rfl, rfl, rfl, hra.stay b2, hrw, fun e he => ?_, hb.trans ((Below.step b1 b2).mono hb.size)⟩
  simp at he
  subst he
  exact ⟨(hl.stay b1).stay b2, (hsl.stay hb).stay (Below.step b1 b2), by simp; omega⟩

/-- What stands at the head of each round of the last loop. -/
def FinRel (w : World) (B gA cA gW cW : Nat) (E : List Ent) (i : Value) (W : World) : Prop := ∃ j : Nat, i = .int .i64 j ∧ j ≤ E.length ∧ St w B W gA cA gW cW E

attribute [local go_sem ↓] Go.wp_at_zero Go.wp_at_succ

set_option maxHeartbeats 16000000 in
set_option maxRecDepth 100000 in
theorem plays_any (A B : Option Addr) (xs : List El) (n c N d : Nat) (X : Nat → Act4) (w : World) (hn : n = xs.length) (hr : Row1 one w A xs) (hc : n ≤ c) (hcm : c ≤ 9223372036854775807) (hA : A = none → c = 0)
    (hX : ActRow4 w B N X) (hx : ∀ i, i < N → ((X i).k < 256 ∧ (X i).a < 256 ∧ (X i).t < 256) ∧ -9223372036854775808 ≤ (X i).x ∧ (X i).x < 9223372036854775808) :
    Calls Try.prog 3 #[.slice A n c, .slice B N d] w fun e w' => e = .returned (.bool true) ∧ Below w.heap.size w w' := by
  have HR := Lib.hid hr
  have HN := Lib.hid hn
  have HC := Lib.hid hc
  have HCM := Lib.hid hcm
  have HA := Lib.hid hA
  have HX := Lib.hid hX
  have HY := Lib.hid hx
  clear hr hn hc hcm hA hX hx
  go_enter Try.func3, Try.ntmps3
  go_wp2_with fail
  ((with_reducible refine (awake_any _).mono ?_); rintro e w1 ⟨rfl, hb1⟩)
  have B1 := Lib.hid hb1
  clear hb1
  by_cases h30 : 30 < n
  · have g1 : decide ((30 : Int) < (n : Int)) = true := by simp; omega
    go_wp2_with fail
    go_ret
    exact ⟨rfl, B1.out⟩
  · have g1 : decide ((30 : Int) < (n : Int)) = false := by simp; omega
    by_cases h20 : 20 < N
    · have g2 : decide ((20 : Int) < (N : Int)) = true := by simp; omega
      go_wp2_with fail
      go_ret
      exact ⟨rfl, B1.out⟩
    · have g2 : decide ((20 : Int) < (N : Int)) = false := by simp; omega
      go_wp2_with fail
      ((with_reducible refine (of_l HN.out (HR.out.stay B1.out) (by omega)).mono ?_); rintro e w2 ⟨p2, n2, rfl, hl2, hb2⟩)
      obtain rfl : n2 = n := by rw [hl2.len, HN.out]
      have B2 := Lib.hid (Below.step B1.out hb2)
      have L2 := Lib.hid hl2
      clear hl2 hb2 B1 g1 g2
      go_wp2_with fail
      have H0 := Lib.hid (show PlayRel w N (.slice (some ⟨w2.heap.size, 0, none⟩) 1 1) (.slice (some ⟨w2.heap.size + 1, 0, none⟩) 1 1) (.int .i64 0) ((w2.alloc (.cells #[.pointer p2, .int .i64 n2] 27)).alloc (.cells #[.slice A n2 c] 22)) from
        first_state w w2 A p2 xs n2 c N HN.out HR.out HC.out HCM.out HA.out (by omega) L2.out B2.out)
      clear L2 B2 HA HCM HC
      go_loopw [6, 7, 8] (fun v6 v7 i wr => PlayRel w N v6 v7 i wr) (fun _ _ i _ => N - (intOf i).toNat)
      case atStart => exact H0.out
      case round =>
        clear H0
        obtain ⟨k, L, gA, cA, gW, cW, E, rfl, hk, rfl, rfl, hL, hE, hst⟩ := hrel
        by_cases hlt : k < N
        · obtain ⟨b0, o0, rfl, hact⟩ := HX.out (by omega)
          obtain ⟨a0, a1, a2, a3⟩ := hact k hlt
          obtain ⟨⟨hy0, hy1, hy2⟩, hy3⟩ := HY.out k hlt
          rw [← hst.below.cell (p := ⟨b0, o0 + k * 4, none⟩) (lt_of_cell a0)] at a0
          rw [← hst.below.cell (p := ⟨b0, o0 + k * 4 + 1, none⟩) (lt_of_cell a1)] at a1
          rw [← hst.below.cell (p := ⟨b0, o0 + k * 4 + 2, none⟩) (lt_of_cell a2)] at a2
          rw [← hst.below.cell (p := ⟨b0, o0 + k * 4 + 3, none⟩) (lt_of_cell a3)] at a3
          clear hact HX HY
          generalize X k = Y at *
          obtain ⟨yk, ya, yt, yx⟩ := Y
          simp only at a0 a1 a2 a3 hy0 hy1 hy2 hy3
          have hi : ya % L < L := Nat.mod_lt _ (by omega)
          have hj : yt % L < L := Nat.mod_lt _ (by omega)
          have c0 := (hst.ra.cells (ya % L) (by omega)).1
          have c1 := (hst.ra.cells (ya % L) (by omega)).2
          have c2 := (hst.ra.cells (yt % L) (by omega)).1
          have c3 := (hst.ra.cells (yt % L) (by omega)).2
          have c4 := hst.rw.cells (ya % L) (by omega)
          have c5 := hst.rw.cells (yt % L) (by omega)
          have G1 := Lib.hid (hst.at (ya % L) (by omega))
          have G2 := Lib.hid (hst.at (yt % L) (by omega))
          generalize E[ya % L]'(by omega) = e1 at *
          generalize E[yt % L]'(by omega) = e2 at *
          have f0 : 0 ≤ (ya : Int) % (L : Int) := by rw [← Int.natCast_emod]; exact Int.natCast_nonneg _
          have f1 : (ya : Int) % (L : Int) < (L : Int) := by rw [← Int.natCast_emod]; exact Int.ofNat_lt.2 hi
          have f2 : ((ya : Int) % (L : Int)).toNat = ya % L := by rw [← Int.natCast_emod]; exact Int.toNat_natCast _
          have f3 : 0 ≤ (yt : Int) % (L : Int) := by rw [← Int.natCast_emod]; exact Int.natCast_nonneg _
          have f4 : (yt : Int) % (L : Int) < (L : Int) := by rw [← Int.natCast_emod]; exact Int.ofNat_lt.2 hj
          have f5 : ((yt : Int) % (L : Int)).toNat = yt % L := by rw [← Int.natCast_emod]; exact Int.toNat_natCast _
          have HB0 := Lib.hid (lt_of_cell a0)
          have HS := Lib.hid hst
          have HE := Lib.hid hE
          have HL := Lib.hid hL
          have l0 : 0 < L := by omega
          clear hst hE hL
          obtain ⟨p1, n1, A1, d1, xs1⟩ := e1
          obtain ⟨p3, n3, A3, d3, xs3⟩ := e2
          simp only at c0 c1 c2 c3 c4 c5
          have hb1 := below_new wr (.cells #[.pointer p1, .int .i64 n1] 27)
          have hb2 := Below.step hb1 (below_new (wr.alloc (.cells #[.pointer p1, .int .i64 n1] 27)) (.cells #[.pointer p3, .int .i64 n3] 27))
          have i2 := old_cell hb1 a2
          have i3 := old_cell hb1 c2
          have i4 := old_cell hb1 c3
          have j0 := old_cell hb2 a0
          have j1 := old_cell hb2 a1
          have j2 := old_cell hb2 a2
          have j3 := old_cell hb2 a3
          have j4 := old_cell hb2 c4
          have j5 := old_cell hb2 c5
          have BA := Lib.hid ((Box2.new wr 27 (.pointer p1) (.int .i64 n1)).alloc (.cells #[.pointer p3, .int .i64 n3] 27))
          have bb := Box2.new (wr.alloc (.cells #[.pointer p1, .int .i64 n1] 27)) 27 (.pointer p3) (.int .i64 n3)
          rw [World.size_alloc] at bb
          have BB := Lib.hid bb
          have S2 := Lib.hid (HS.out.stay hb2)
          have M1 := Lib.hid (G1.out.stay hb2)
          have M2 := Lib.hid (G2.out.stay hb2)
          have GA := Lib.hid (row_block HS.out.ra).2.1
          have nb1 : n1 ≤ 200 + k := G1.out.le
          have nb3 : n3 ≤ 200 + k := G2.out.le
          clear hb1 hb2 HS G1 G2 bb
          go_wp2_with fail
          all_goals
            generalize ((wr.alloc (.cells #[.pointer p1, .int .i64 n1] 27)).alloc (.cells #[.pointer p3, .int .i64 n3] 27)) = W2 at *
            generalize wr.heap.size = ba at *
            clear a0 a1 a2 a3 c0 c1 c2 c3 c4 c5 i2 i3 i4 j1 j2 j4 j5 f0 f1 f2 f3 f4 f5 hi hj
          · as_aux_lemma =>
              have y0 := BA.out.c0
              have y1 := BA.out.c1
              have BD := Lib.hid BA.out.drew
              have MD := Lib.hid M1.out.ll.drew
              have bne : b0 ≠ ba := by have := HB0.out; omega
              go_region_with (go_at_call 8; ((with_reducible refine (push_l yx MD.out (by omega)).mono ?_); rintro e w5 ⟨p5, n5, rfl, hl5, hb5⟩; have x5 := BD.out.stay hb5; have d0 := x5.c0; have d1 := x5.c1; have e0 := x5.z0; have e1 := x5.z1; have T5 := Lib.hid hl5; have C5 := Lib.hid hb5; have v5 := cell_aside bne (old_cell (Below.step (below_drawn W2) hb5) j3) (.pointer p5) (.int .i64 n5); clear x5 hl5 hb5))
              all_goals
                obtain ⟨s6, x6, l6, m6, o6⟩ := (S2.out.stay (below_drawn W2)).stored BD.out GA.out C5.out T5.out (M1.out.stay (below_drawn W2)) (M2.out.stay (below_drawn W2))
                have S6 := Lib.hid s6
                have X6 := Lib.hid x6
                have L6 := Lib.hid l6
                have M6 := Lib.hid m6
                have N6 := Lib.hid o6
                clear s6 x6 l6 m6 o6 T5 C5 BA BB S2 M1 M2 j0 j3 BD MD y0 y1 bne
                go_wp2_with fail
                generalize (w5.setCell ⟨ba, 0, none⟩ (.pointer p5)).setCell ⟨ba, 1, none⟩ (.int .i64 n5) = W6 at *
                clear d0 d1 e0 e1
                ((with_reducible refine (refPush_any yx M6.out.sl (by have := M6.out.le; simp only at this ⊢; omega)).mono ?_); rintro e w7 ⟨A7, n7, q7, rfl, hs7, hb7⟩)
                obtain rfl : n7 = n5 := by rw [hs7.len, L6.out.len]
                have hbd : n7 ≤ 200 + k + 1 := by
                  have := hs7.len
                  have := M6.out.sl.len
                  have := M6.out.le
                  simp at *
                  omega
                obtain ⟨g1, q1, wA, g2, q2, wB, hrA, hrB, hst⟩ := (S6.out.stay hb7).tail HE.out (by have := HL.out; omega) ⟨p5, n7, A7, q7, _⟩ ⟨L6.out.stay hb7, hs7, hbd⟩
                have z0 := (X6.out.stay hb7).c0
                have z1 := (X6.out.stay hb7).c1
                have RL := Lib.hid (show PlayRel w N (.slice (some ⟨g1, 0, none⟩) (L + 1) q1) (.slice (some ⟨g2, 0, none⟩) (L + 1) q2) (.int .i64 ((k : Int) + 1)) wB from ⟨k + 1, L + 1, g1, q1, g2, q2, _, by simp, hlt, rfl, rfl, by have := HL.out; omega, by simp [HE.out], hst⟩)
                clear hst hs7 hb7 S6 X6 L6 M6 N6 hbd
                go_wp2_with (first | (refine wpList_append_run rfl _ _ 29 rfl _ _ _ _ rfl rfl hrA ?_) | (refine wpList_append_run rfl _ _ 30 rfl _ _ _ _ rfl rfl hrB ?_))
                exact ⟨RL.out, by simp [intOf]; omega⟩
          · as_aux_lemma =>
              ((with_reducible refine (rest_l M1.out.ll).mono ?_); rintro e w5 ⟨p5, n5, rfl, hl5, hb5⟩)
              have x5 := BA.out.stay hb5
              have d0 := x5.c0
              have d1 := x5.c1
              have e0 := x5.z0
              have e1 := x5.z1
              obtain ⟨s6, x6, l6, m6, o6⟩ := S2.out.stored BA.out GA.out hb5 hl5 M1.out M2.out
              have S6 := Lib.hid s6
              have X6 := Lib.hid x6
              have L6 := Lib.hid l6
              have M6 := Lib.hid m6
              have N6 := Lib.hid o6
              clear x5 s6 x6 l6 m6 o6 hl5 hb5 BA BB S2 M1 M2 j0 j3
              go_wp2_with fail
              generalize (w5.setCell ⟨ba, 0, none⟩ (.pointer p5)).setCell ⟨ba, 1, none⟩ (.int .i64 n5) = W6 at *
              clear d0 d1 e0 e1
              ((with_reducible refine (refRest_any M6.out.sl).mono ?_); rintro e w7 ⟨A7, n7, q7, rfl, hs7, hb7⟩)
              obtain rfl : n7 = n5 := by rw [hs7.len, L6.out.len]
              have hbd : n7 ≤ 200 + k + 1 := by
                have := hs7.len
                have := M6.out.sl.len
                have := M6.out.le
                simp at *
                omega
              obtain ⟨g1, q1, wA, g2, q2, wB, hrA, hrB, hst⟩ := (S6.out.stay hb7).tail HE.out (by have := HL.out; omega) ⟨p5, n7, A7, q7, _⟩ ⟨L6.out.stay hb7, hs7, hbd⟩
              have z0 := (X6.out.stay hb7).c0
              have z1 := (X6.out.stay hb7).c1
              have RL := Lib.hid (show PlayRel w N (.slice (some ⟨g1, 0, none⟩) (L + 1) q1) (.slice (some ⟨g2, 0, none⟩) (L + 1) q2) (.int .i64 ((k : Int) + 1)) wB from ⟨k + 1, L + 1, g1, q1, g2, q2, _, by simp, hlt, rfl, rfl, by have := HL.out; omega, by simp [HE.out], hst⟩)
              clear hst hs7 hb7 S6 X6 L6 M6 N6 hbd
              go_wp2_with (first | (refine wpList_append_run rfl _ _ 29 rfl _ _ _ _ rfl rfl hrA ?_) | (refine wpList_append_run rfl _ _ 30 rfl _ _ _ _ rfl rfl hrB ?_))
              exact ⟨RL.out, by simp [intOf]; omega⟩
          · as_aux_lemma =>
              ((with_reducible refine (rev_l M1.out.ll).mono ?_); rintro e w5 ⟨p5, n5, rfl, hl5, hb5⟩)
              have x5 := BA.out.stay hb5
              have d0 := x5.c0
              have d1 := x5.c1
              have e0 := x5.z0
              have e1 := x5.z1
              obtain ⟨s6, x6, l6, m6, o6⟩ := S2.out.stored BA.out GA.out hb5 hl5 M1.out M2.out
              have S6 := Lib.hid s6
              have X6 := Lib.hid x6
              have L6 := Lib.hid l6
              have M6 := Lib.hid m6
              have N6 := Lib.hid o6
              clear x5 s6 x6 l6 m6 o6 hl5 hb5 BA BB S2 M1 M2 j0 j3
              go_wp2_with fail
              generalize (w5.setCell ⟨ba, 0, none⟩ (.pointer p5)).setCell ⟨ba, 1, none⟩ (.int .i64 n5) = W6 at *
              clear d0 d1 e0 e1
              ((with_reducible refine (refRev_any M6.out.sl).mono ?_); rintro e w7 ⟨A7, n7, q7, rfl, hs7, hb7⟩)
              obtain rfl : n7 = n5 := by rw [hs7.len, L6.out.len]
              have hbd : n7 ≤ 200 + k + 1 := by
                have := hs7.len
                have := M6.out.sl.len
                have := M6.out.le
                simp at *
                omega
              obtain ⟨g1, q1, wA, g2, q2, wB, hrA, hrB, hst⟩ := (S6.out.stay hb7).tail HE.out (by have := HL.out; omega) ⟨p5, n7, A7, q7, _⟩ ⟨L6.out.stay hb7, hs7, hbd⟩
              have z0 := (X6.out.stay hb7).c0
              have z1 := (X6.out.stay hb7).c1
              have RL := Lib.hid (show PlayRel w N (.slice (some ⟨g1, 0, none⟩) (L + 1) q1) (.slice (some ⟨g2, 0, none⟩) (L + 1) q2) (.int .i64 ((k : Int) + 1)) wB from ⟨k + 1, L + 1, g1, q1, g2, q2, _, by simp, hlt, rfl, rfl, by have := HL.out; omega, by simp [HE.out], hst⟩)
              clear hst hs7 hb7 S6 X6 L6 M6 N6 hbd
              go_wp2_with (first | (refine wpList_append_run rfl _ _ 29 rfl _ _ _ _ rfl rfl hrA ?_) | (refine wpList_append_run rfl _ _ 30 rfl _ _ _ _ rfl rfl hrB ?_))
              exact ⟨RL.out, by simp [intOf]; omega⟩
          · as_aux_lemma =>
              go_ret
              exact ⟨rfl, S2.out.below⟩
          · as_aux_lemma =>
              ((with_reducible refine (join_l M1.out.ll M2.out.ll (by simp only; omega)).mono ?_); rintro e w5 ⟨p5, n5, rfl, hl5, hb5⟩)
              have x5 := BA.out.stay hb5
              have d0 := x5.c0
              have d1 := x5.c1
              have e0 := x5.z0
              have e1 := x5.z1
              obtain ⟨s6, x6, l6, m6, o6⟩ := S2.out.stored BA.out GA.out hb5 hl5 M1.out M2.out
              have S6 := Lib.hid s6
              have X6 := Lib.hid x6
              have L6 := Lib.hid l6
              have M6 := Lib.hid m6
              have N6 := Lib.hid o6
              clear x5 s6 x6 l6 m6 o6 hl5 hb5 BA BB S2 M1 M2 j0 j3
              go_wp2_with fail
              generalize (w5.setCell ⟨ba, 0, none⟩ (.pointer p5)).setCell ⟨ba, 1, none⟩ (.int .i64 n5) = W6 at *
              clear d0 d1 e0 e1
              ((with_reducible refine (refJoin_any M6.out.sl N6.out.sl (by simp only; omega)).mono ?_); rintro e w7 ⟨A7, n7, q7, rfl, hs7, hb7⟩)
              obtain rfl : n7 = n5 := by rw [hs7.len, L6.out.len]
              have hbd : n7 ≤ 200 + k + 1 := by
                have := hs7.len
                have := M6.out.sl.len
                have := N6.out.sl.len
                simp at *
                omega
              obtain ⟨g1, q1, wA, g2, q2, wB, hrA, hrB, hst⟩ := (S6.out.stay hb7).tail HE.out (by have := HL.out; omega) ⟨p5, n7, A7, q7, _⟩ ⟨L6.out.stay hb7, hs7, hbd⟩
              have z0 := (X6.out.stay hb7).c0
              have z1 := (X6.out.stay hb7).c1
              have RL := Lib.hid (show PlayRel w N (.slice (some ⟨g1, 0, none⟩) (L + 1) q1) (.slice (some ⟨g2, 0, none⟩) (L + 1) q2) (.int .i64 ((k : Int) + 1)) wB from ⟨k + 1, L + 1, g1, q1, g2, q2, _, by simp, hlt, rfl, rfl, by have := HL.out; omega, by simp [HE.out], hst⟩)
              clear hst hs7 hb7 S6 X6 L6 M6 N6 hbd
              go_wp2_with (first | (refine wpList_append_run rfl _ _ 29 rfl _ _ _ _ rfl rfl hrA ?_) | (refine wpList_append_run rfl _ _ 30 rfl _ _ _ _ rfl rfl hrB ?_))
              exact ⟨RL.out, by simp [intOf]; omega⟩
          · as_aux_lemma =>
              have y0 := BA.out.c0
              have y1 := BA.out.c1
              have BD := Lib.hid BA.out.drew
              have MD := Lib.hid M1.out.ll.drew
              have bne : b0 ≠ ba := by have := HB0.out; omega
              go_region_with (go_at_call 16; ((with_reducible refine (drop_l yx MD.out hy3.1 hy3.2).mono ?_); rintro e w5 ⟨p5, n5, rfl, hl5, hb5⟩; have x5 := BD.out.stay hb5; have d0 := x5.c0; have d1 := x5.c1; have e0 := x5.z0; have e1 := x5.z1; have T5 := Lib.hid hl5; have C5 := Lib.hid hb5; have v5 := cell_aside bne (old_cell (Below.step (below_drawn W2) hb5) j3) (.pointer p5) (.int .i64 n5); clear x5 hl5 hb5))
              all_goals
                obtain ⟨s6, x6, l6, m6, o6⟩ := (S2.out.stay (below_drawn W2)).stored BD.out GA.out C5.out T5.out (M1.out.stay (below_drawn W2)) (M2.out.stay (below_drawn W2))
                have S6 := Lib.hid s6
                have X6 := Lib.hid x6
                have L6 := Lib.hid l6
                have M6 := Lib.hid m6
                have N6 := Lib.hid o6
                clear s6 x6 l6 m6 o6 T5 C5 BA BB S2 M1 M2 j0 j3 BD MD y0 y1 bne
                go_wp2_with fail
                generalize (w5.setCell ⟨ba, 0, none⟩ (.pointer p5)).setCell ⟨ba, 1, none⟩ (.int .i64 n5) = W6 at *
                clear d0 d1 e0 e1
                ((with_reducible refine (refDrop_any yx M6.out.sl hy3.1 hy3.2).mono ?_); rintro e w7 ⟨A7, n7, q7, rfl, hs7, hb7⟩)
                obtain rfl : n7 = n5 := by rw [hs7.len, L6.out.len]
                have hbd : n7 ≤ 200 + k + 1 := by
                  have := hs7.len
                  have := M6.out.sl.len
                  have := M6.out.le
                  simp at *
                  omega
                obtain ⟨g1, q1, wA, g2, q2, wB, hrA, hrB, hst⟩ := (S6.out.stay hb7).tail HE.out (by have := HL.out; omega) ⟨p5, n7, A7, q7, _⟩ ⟨L6.out.stay hb7, hs7, hbd⟩
                have z0 := (X6.out.stay hb7).c0
                have z1 := (X6.out.stay hb7).c1
                have RL := Lib.hid (show PlayRel w N (.slice (some ⟨g1, 0, none⟩) (L + 1) q1) (.slice (some ⟨g2, 0, none⟩) (L + 1) q2) (.int .i64 ((k : Int) + 1)) wB from ⟨k + 1, L + 1, g1, q1, g2, q2, _, by simp, hlt, rfl, rfl, by have := HL.out; omega, by simp [HE.out], hst⟩)
                clear hst hs7 hb7 S6 X6 L6 M6 N6 hbd
                go_wp2_with (first | (refine wpList_append_run rfl _ _ 29 rfl _ _ _ _ rfl rfl hrA ?_) | (refine wpList_append_run rfl _ _ 30 rfl _ _ _ _ rfl rfl hrB ?_))
                exact ⟨RL.out, by simp [intOf]; omega⟩
        · obtain rfl : k = N := by omega
          have ll : L ≤ 21 := by omega
          have HS := Lib.hid hst
          have HE := Lib.hid hE
          clear hst hE hL HX HY HR HN
          generalize wr = w3 at *
          go_wp2_with fail
          go_loopw [13] (fun i wr => FinRel w (200 + k) gA cA gW cW E i wr) (fun i _ => L - (intOf i).toNat)
          case atStart => exact ⟨0, rfl, Nat.zero_le _, HS.out⟩
          case round =>
            clear HS
            obtain ⟨j, rfl, hj, hst⟩ := hrel
            have hjL : j ≤ L := by rw [← HE.out]; exact hj
            clear hj
            by_cases hjl : j < L
            · have hje : j < E.length := by rw [HE.out]; exact hjl
              have c0 := (hst.ra.cells j hje).1
              have c1 := (hst.ra.cells j hje).2
              have c2 := hst.rw.cells j hje
              have G1 := Lib.hid (hst.at j hje)
              have HS := Lib.hid hst
              generalize E[j]'hje = e1 at *
              obtain ⟨p1, n1, A1, d1, xs1⟩ := e1
              simp only at c0 c1 c2
              have nb1 : n1 ≤ 200 + k := G1.out.le
              clear hst hje
              cases xs1 with
              | nil =>
                as_aux_lemma =>
                  obtain rfl := G1.out.ll.ch.nil
                  have g1 : decide (0 < (n1 : Int)) = false := by have := G1.out.ll.len; simp at this; simp [this]
                  have g2 : decide (0 < n1) = false := by have := G1.out.ll.len; simp at this; simp [this]
                  go_wp2_with fail
                  ((with_reducible refine (first_none n1 _).mono ?_); rintro e w4 ⟨rfl, hb4⟩)
                  have G4 := Lib.hid (G1.out.stay hb4)
                  have S4 := Lib.hid (HS.out.stay hb4)
                  have b0 := old_cell hb4 c0
                  have b1 := old_cell hb4 c1
                  have b2 := old_cell hb4 c2
                  clear hb4 c0 c1 c2 G1 HS
                  go_wp2_with fail
                  have GD := Lib.hid (G4.out.stay (below_drawn w4))
                  have s0 := old_cell (below_drawn w4) b0
                  have s1 := old_cell (below_drawn w4) b1
                  have s2 := old_cell (below_drawn w4) b2
                  have i0 : (0 : Int) ≤ (j : Int) := by omega
                  have i1 : (j : Int) < (L : Int) := by omega
                  refine wp_region_noPanic ?_
                  refine wp_region_held_drew (S := fun w' => w'.cell? ⟨gA, j * 2, none⟩ = some (.pointer none) ∧ w'.cell? ⟨gA, j * 2 + 1, none⟩ = some (.int .i64 n1) ∧ w'.cell? ⟨gW, j, none⟩ = some (.slice A1 n1 d1)) (by kernel_rfl) ⟨s0, s1, s2⟩ (fun hHeld => ?_)
                  refine wpAnyH_take (i := 0) (v := ?_) (by simp only [List.getElem?_toArray, List.getElem?_cons_zero]; exact rfl) (by kernel_rfl) (by kernel_rfl) (by kernel_rfl) (fun _ _ _ h => h) (Or.inl ⟨by rfl, ?_⟩) hHeld ?_
                  rotate_left
                  · (intro w0 hSw; (try dsimp only at hSw); go_simp; (try with_reducible rfl))
                  try simp only [Act.put, List.setIfInBounds_toArray, List.set_cons_zero, List.set_cons_succ]
                  refine wpAnyH_take (i := 1) (v := ?_) (by simp only [List.getElem?_toArray, List.getElem?_cons_succ, List.getElem?_cons_zero]; exact rfl) (by kernel_rfl) (by kernel_rfl) (by kernel_rfl) (fun _ _ _ h => h) (Or.inl ⟨by rfl, ?_⟩) hHeld ?_
                  rotate_left
                  · (intro w0 hSw; (try dsimp only at hSw); go_simp; (try with_reducible rfl))
                  try simp only [Act.put, List.setIfInBounds_toArray, List.set_cons_zero, List.set_cons_succ]
                  refine wpAnyH_take (i := 2) (v := ?_) (by simp only [List.getElem?_toArray, List.getElem?_cons_succ, List.getElem?_cons_zero]; exact rfl) (by kernel_rfl) (by kernel_rfl) (by kernel_rfl) (fun _ _ _ h => h) (Or.inl ⟨by rfl, ?_⟩) hHeld ?_
                  rotate_left
                  · (intro w0 hSw; (try dsimp only at hSw); go_simp; (try with_reducible rfl))
                  try simp only [Act.put, List.setIfInBounds_toArray, List.set_cons_zero, List.set_cons_succ]
                  refine wpAnyH_take (i := 3) (v := ?_) (by simp only [List.getElem?_toArray, List.getElem?_cons_succ, List.getElem?_cons_zero]; exact rfl) (by kernel_rfl) (by kernel_rfl) (by kernel_rfl) (fun _ _ _ h => h) (Or.inl ⟨by rfl, ?_⟩) hHeld ?_
                  rotate_left
                  · (intro w0 hSw; (try dsimp only at hSw); go_simp; (try with_reducible rfl))
                  try simp only [Act.put, List.setIfInBounds_toArray, List.set_cons_zero, List.set_cons_succ]
                  refine wpAnyH_take (i := 5) (v := ?_) (by simp only [List.getElem?_toArray, List.getElem?_cons_succ, List.getElem?_cons_zero]; exact rfl) (by kernel_rfl) (by kernel_rfl) (by kernel_rfl) (fun _ _ _ h => h) (Or.inl ⟨by rfl, ?_⟩) hHeld ?_
                  rotate_left
                  · (intro w0 hSw; (try dsimp only at hSw); go_simp; (try with_reducible rfl))
                  try simp only [Act.put, List.setIfInBounds_toArray, List.set_cons_zero, List.set_cons_succ]
                  refine wpAnyH_take (i := 6) (v := ?_) (by simp only [List.getElem?_toArray, List.getElem?_cons_succ, List.getElem?_cons_zero]; exact rfl) (by kernel_rfl) (by kernel_rfl) (by kernel_rfl) (fun _ _ _ h => h) (Or.inl ⟨by rfl, ?_⟩) hHeld ?_
                  rotate_left
                  · (intro w0 hSw; (try dsimp only at hSw); go_simp; (try with_reducible rfl))
                  try simp only [Act.put, List.setIfInBounds_toArray, List.set_cons_zero, List.set_cons_succ]
                  refine wpAnyH_take (i := 7) (v := ?_) (by simp only [List.getElem?_toArray, List.getElem?_cons_succ, List.getElem?_cons_zero]; exact rfl) (by kernel_rfl) (by kernel_rfl) (by kernel_rfl) (fun _ _ _ h => h) (Or.inl ⟨by rfl, ?_⟩) hHeld ?_
                  rotate_left
                  · (intro w0 hSw; (try dsimp only at hSw); go_simp; (try with_reducible rfl))
                  try simp only [Act.put, List.setIfInBounds_toArray, List.set_cons_zero, List.set_cons_succ]
                  refine wpAnyH_take (i := 8) (v := ?_) (by simp only [List.getElem?_toArray, List.getElem?_cons_succ, List.getElem?_cons_zero]; exact rfl) (by kernel_rfl) (by kernel_rfl) (by kernel_rfl) (fun _ _ _ h => h) (Or.inl ⟨by rfl, ?_⟩) hHeld ?_
                  rotate_left
                  · (intro w0 hSw; (try dsimp only at hSw); go_simp; (try with_reducible rfl))
                  try simp only [Act.put, List.setIfInBounds_toArray, List.set_cons_zero, List.set_cons_succ]
                  refine wpAnyH_ready (rs := [4]) (by kernel_rfl) (by simp) ?_
                  refine AllReadyH.cons (by simp only [List.getElem?_toArray, List.getElem?_cons_succ, List.getElem?_cons_zero]; exact rfl) (fun K hK => ?_) AllReadyH.nil
                  go_simp
                  ((with_reducible refine (all_l GD.out.ll).mono ?_); rintro e w5 ⟨A5, c5, rfl, -, hr5, -, hb5⟩; have R5 := Lib.hid hr5; have B5 := Lib.hid hb5; have t0 := old_cell (hb5) s0; have t1 := old_cell (hb5) s1; have t2 := old_cell (hb5) s2; clear hr5 hb5)
                  go_wp2_with fail
                  refine hK.out _ _ ?_ (fun hHeld => ?_)
                  · exact ⟨t0, t1, t2⟩
                  clear hK K
                  try simp only [Act.put, List.setIfInBounds_toArray, List.set_cons_zero, List.set_cons_succ]
                  refine wpAnyH_ready (rs := [9]) (by kernel_rfl) (by simp) ?_
                  refine AllReadyH.cons (by simp only [List.getElem?_toArray, List.getElem?_cons_succ, List.getElem?_cons_zero]; exact rfl) (fun K hK => ?_) AllReadyH.nil
                  go_simp
                  ((with_reducible refine (same_two GD.out.ll.len GD.out.sl.len R5.out (GD.out.sl.row.stay B5.out) GD.out.ll.lt).mono ?_); rintro e w6 ⟨rfl, hb6⟩; have B6 := Lib.hid (Below.step B5.out hb6); have v0 := old_cell (Below.step B5.out hb6) s0; have v1 := old_cell (Below.step B5.out hb6) s1; have v2 := old_cell (Below.step B5.out hb6) s2; clear hb6)
                  go_wp2_with fail
                  refine hK.out _ _ ?_ (fun hHeld => ?_)
                  · exact ⟨v0, v1, v2⟩
                  clear hK K
                  try simp only [Act.put, List.setIfInBounds_toArray, List.set_cons_zero, List.set_cons_succ]
                  refine wpAnyH_take (i := 10) (v := ?_) (by simp only [List.getElem?_toArray, List.getElem?_cons_succ, List.getElem?_cons_zero]; exact rfl) (by kernel_rfl) (by kernel_rfl) (by kernel_rfl) (fun _ _ _ h => h) (Or.inl ⟨by rfl, ?_⟩) hHeld ?_
                  rotate_left
                  · (intro w0 hSw; (try dsimp only at hSw); go_simp; (try with_reducible rfl))
                  try simp only [Act.put, List.setIfInBounds_toArray, List.set_cons_zero, List.set_cons_succ]
                  refine wpAnyH_take (i := 11) (v := ?_) (by simp only [List.getElem?_toArray, List.getElem?_cons_succ, List.getElem?_cons_zero]; exact rfl) (by kernel_rfl) (by kernel_rfl) (by kernel_rfl) (fun _ _ _ h => h) (Or.inl ⟨by rfl, ?_⟩) hHeld ?_
                  rotate_left
                  · (intro w0 hSw; (try dsimp only at hSw); go_simp; (try with_reducible rfl))
                  try simp only [Act.put, List.setIfInBounds_toArray, List.set_cons_zero, List.set_cons_succ]
                  refine wpAnyH_take (i := 12) (v := ?_) (by simp only [List.getElem?_toArray, List.getElem?_cons_succ, List.getElem?_cons_zero]; exact rfl) (by kernel_rfl) (by kernel_rfl) (by kernel_rfl) (fun _ _ _ h => h) (Or.inl ⟨by rfl, ?_⟩) hHeld ?_
                  rotate_left
                  · (intro w0 hSw; (try dsimp only at hSw); go_simp; (try with_reducible rfl))
                  try simp only [Act.put, List.setIfInBounds_toArray, List.set_cons_zero, List.set_cons_succ]
                  refine wpAnyH_take (i := 13) (v := ?_) (by simp only [List.getElem?_toArray, List.getElem?_cons_succ, List.getElem?_cons_zero]; exact rfl) (by kernel_rfl) (by kernel_rfl) (by kernel_rfl) (fun _ _ _ h => h) (Or.inl ⟨by rfl, ?_⟩) hHeld ?_
                  rotate_left
                  · (intro w0 hSw; (try dsimp only at hSw); go_simp; (try with_reducible rfl))
                  try simp only [Act.put, List.setIfInBounds_toArray, List.set_cons_zero, List.set_cons_succ]
                  refine wpAnyH_take (i := 14) (v := ?_) (by simp only [List.getElem?_toArray, List.getElem?_cons_succ, List.getElem?_cons_zero]; exact rfl) (by kernel_rfl) (by kernel_rfl) (by kernel_rfl) (fun _ _ _ h => h) (Or.inl ⟨by rfl, ?_⟩) hHeld ?_
                  rotate_left
                  · (intro w0 hSw; (try dsimp only at hSw); go_simp; (try with_reducible rfl))
                  try simp only [Act.put, List.setIfInBounds_toArray, List.set_cons_zero, List.set_cons_succ]
                  refine wpAnyH_take (i := 15) (v := ?_) (by simp only [List.getElem?_toArray, List.getElem?_cons_succ, List.getElem?_cons_zero]; exact rfl) (by kernel_rfl) (by kernel_rfl) (by kernel_rfl) (fun _ _ _ h => h) (Or.inl ⟨by rfl, ?_⟩) hHeld ?_
                  rotate_left
                  · (intro w0 hSw; (try dsimp only at hSw); go_simp; (try with_reducible rfl))
                  try simp only [Act.put, List.setIfInBounds_toArray, List.set_cons_zero, List.set_cons_succ]
                  refine wpAnyH_take (i := 17) (v := ?_) (by simp only [List.getElem?_toArray, List.getElem?_cons_succ, List.getElem?_cons_zero]; exact rfl) (by kernel_rfl) (by kernel_rfl) (by kernel_rfl) (fun _ _ _ h => h) (Or.inl ⟨by rfl, ?_⟩) hHeld ?_
                  rotate_left
                  · (intro w0 hSw; (try dsimp only at hSw); go_simp; (try with_reducible rfl))
                  try simp only [Act.put, List.setIfInBounds_toArray, List.set_cons_zero, List.set_cons_succ]
                  refine wpAnyH_take (i := 18) (v := ?_) (by simp only [List.getElem?_toArray, List.getElem?_cons_succ, List.getElem?_cons_zero]; exact rfl) (by kernel_rfl) (by kernel_rfl) (by kernel_rfl) (fun _ _ _ h => h) (Or.inl ⟨by rfl, ?_⟩) hHeld ?_
                  rotate_left
                  · (intro w0 hSw; (try dsimp only at hSw); go_simp; (try with_reducible rfl))
                  try simp only [Act.put, List.setIfInBounds_toArray, List.set_cons_zero, List.set_cons_succ]
                  refine wpAnyH_take (i := 19) (v := ?_) (by simp only [List.getElem?_toArray, List.getElem?_cons_succ, List.getElem?_cons_zero]; exact rfl) (by kernel_rfl) (by kernel_rfl) (by kernel_rfl) (fun _ _ _ h => h) (Or.inl ⟨by rfl, ?_⟩) hHeld ?_
                  rotate_left
                  · (intro w0 hSw; (try dsimp only at hSw); go_simp; (try with_reducible rfl))
                  try simp only [Act.put, List.setIfInBounds_toArray, List.set_cons_zero, List.set_cons_succ]
                  refine wpAnyH_take (i := 20) (v := ?_) (by simp only [List.getElem?_toArray, List.getElem?_cons_succ, List.getElem?_cons_zero]; exact rfl) (by kernel_rfl) (by kernel_rfl) (by kernel_rfl) (fun _ _ _ h => h) (Or.inl ⟨by rfl, ?_⟩) hHeld ?_
                  rotate_left
                  · (intro w0 hSw; (try dsimp only at hSw); go_simp; (try with_reducible rfl))
                  try simp only [Act.put, List.setIfInBounds_toArray, List.set_cons_zero, List.set_cons_succ]
                  refine wpAnyH_take (i := 21) (v := ?_) (by simp only [List.getElem?_toArray, List.getElem?_cons_succ, List.getElem?_cons_zero]; exact rfl) (by kernel_rfl) (by kernel_rfl) (by kernel_rfl) (fun _ _ _ h => h) (Or.inl ⟨by rfl, ?_⟩) hHeld ?_
                  rotate_left
                  · (intro w0 hSw; (try dsimp only at hSw); go_simp; (try with_reducible rfl))
                  try simp only [Act.put, List.setIfInBounds_toArray, List.set_cons_zero, List.set_cons_succ]
                  refine wpAnyH_ready (rs := [16]) (by kernel_rfl) (by simp) ?_
                  refine AllReadyH.cons (by simp only [List.getElem?_toArray, List.getElem?_cons_succ, List.getElem?_cons_zero]; exact rfl) (fun K hK => ?_) AllReadyH.nil
                  go_simp
                  ((with_reducible refine len_l.mono ?_); rintro e w7 ⟨rfl, hb7⟩; have B7 := Lib.hid (Below.step B6.out hb7); have x0 := old_cell (Below.step B6.out hb7) s0; have x1 := old_cell (Below.step B6.out hb7) s1; have x2 := old_cell (Below.step B6.out hb7) s2; clear hb7)
                  go_wp2_with fail
                  refine hK.out _ _ ?_ (fun hHeld => ?_)
                  · exact ⟨x0, x1, x2⟩
                  clear hK K
                  try simp only [Act.put, List.setIfInBounds_toArray, List.set_cons_zero, List.set_cons_succ]
                  refine wpAnyH_take (i := 22) (v := ?_) (by simp only [List.getElem?_toArray, List.getElem?_cons_succ, List.getElem?_cons_zero]; exact rfl) (by kernel_rfl) (by kernel_rfl) (by kernel_rfl) (fun _ _ _ h => h) (Or.inl ⟨by rfl, ?_⟩) hHeld ?_
                  rotate_left
                  · (intro w0 hSw; (try dsimp only at hSw); go_simp; (try with_reducible rfl))
                  try simp only [Act.put, List.setIfInBounds_toArray, List.set_cons_zero, List.set_cons_succ]
                  refine wpAnyH_take (i := 23) (v := ?_) (by simp only [List.getElem?_toArray, List.getElem?_cons_succ, List.getElem?_cons_zero]; exact rfl) (by kernel_rfl) (by kernel_rfl) (by kernel_rfl) (fun _ _ _ h => h) (Or.inl ⟨by rfl, ?_⟩) hHeld ?_
                  rotate_left
                  · (intro w0 hSw; (try dsimp only at hSw); go_simp; (try with_reducible rfl))
                  try simp only [Act.put, List.setIfInBounds_toArray, List.set_cons_zero, List.set_cons_succ]
                  refine wpAnyH_take (i := 24) (v := ?_) (by simp only [List.getElem?_toArray, List.getElem?_cons_succ, List.getElem?_cons_zero]; exact rfl) (by kernel_rfl) (by kernel_rfl) (by kernel_rfl) (fun _ _ _ h => h) (Or.inl ⟨by rfl, ?_⟩) hHeld ?_
                  rotate_left
                  · (intro w0 hSw; (try dsimp only at hSw); go_simp; (try with_reducible rfl))
                  try simp only [Act.put, List.setIfInBounds_toArray, List.set_cons_zero, List.set_cons_succ]
                  refine wpAnyH_take (i := 25) (v := ?_) (by simp only [List.getElem?_toArray, List.getElem?_cons_succ, List.getElem?_cons_zero]; exact rfl) (by kernel_rfl) (by kernel_rfl) (by kernel_rfl) (fun _ _ _ h => h) (Or.inl ⟨by rfl, ?_⟩) hHeld ?_
                  rotate_left
                  · (intro w0 hSw; (try dsimp only at hSw); go_simp; (try with_reducible rfl))
                  try simp only [Act.put, List.setIfInBounds_toArray, List.set_cons_zero, List.set_cons_succ]
                  refine wpAnyH_take (i := 26) (v := ?_) (by simp only [List.getElem?_toArray, List.getElem?_cons_succ, List.getElem?_cons_zero]; exact rfl) (by kernel_rfl) (by kernel_rfl) (by kernel_rfl) (fun _ _ _ h => h) (Or.inl ⟨by rfl, ?_⟩) hHeld ?_
                  rotate_left
                  · (intro w0 hSw; (try dsimp only at hSw); go_simp; (try with_reducible rfl))
                  try simp only [Act.put, List.setIfInBounds_toArray, List.set_cons_zero, List.set_cons_succ]
                  refine wpAnyH_take (i := 27) (v := ?_) (by simp only [List.getElem?_toArray, List.getElem?_cons_succ, List.getElem?_cons_zero]; exact rfl) (by kernel_rfl) (by kernel_rfl) (by kernel_rfl) (fun _ _ _ h => h) (Or.inl ⟨by rfl, ?_⟩) hHeld ?_
                  rotate_left
                  · (intro w0 hSw; (try dsimp only at hSw); go_simp; (try with_reducible rfl))
                  try simp only [Act.put, List.setIfInBounds_toArray, List.set_cons_zero, List.set_cons_succ]
                  refine wpAnyH_take (i := 28) (v := ?_) (by simp only [List.getElem?_toArray, List.getElem?_cons_succ, List.getElem?_cons_zero]; exact rfl) (by kernel_rfl) (by kernel_rfl) (by kernel_rfl) (fun _ _ _ h => h) (Or.inl ⟨by rfl, ?_⟩) hHeld ?_
                  rotate_left
                  · (intro w0 hSw; (try dsimp only at hSw); go_simp; (try with_reducible rfl))
                  try simp only [Act.put, List.setIfInBounds_toArray, List.set_cons_zero, List.set_cons_succ]
                  refine wpAnyH_take (i := 29) (v := ?_) (by simp only [List.getElem?_toArray, List.getElem?_cons_succ, List.getElem?_cons_zero]; exact rfl) (by kernel_rfl) (by kernel_rfl) (by kernel_rfl) (fun _ _ _ h => h) (Or.inl ⟨by rfl, ?_⟩) hHeld ?_
                  rotate_left
                  · (intro w0 hSw; (try dsimp only at hSw); go_simp; (try with_reducible rfl))
                  try simp only [Act.put, List.setIfInBounds_toArray, List.set_cons_zero, List.set_cons_succ]
                  refine wpAnyH_take (i := 30) (v := ?_) (by simp only [List.getElem?_toArray, List.getElem?_cons_succ, List.getElem?_cons_zero]; exact rfl) (by kernel_rfl) (by kernel_rfl) (by kernel_rfl) (fun _ _ _ h => h) (Or.inl ⟨by rfl, ?_⟩) hHeld ?_
                  rotate_left
                  · (intro w0 hSw; (try dsimp only at hSw); go_simp; (try with_reducible rfl))
                  try simp only [Act.put, List.setIfInBounds_toArray, List.set_cons_zero, List.set_cons_succ]
                  refine wpAnyH_take (i := 31) (v := ?_) (by simp only [List.getElem?_toArray, List.getElem?_cons_succ, List.getElem?_cons_zero]; exact rfl) (by kernel_rfl) (by kernel_rfl) (by kernel_rfl) (fun _ _ _ h => h) (Or.inl ⟨by rfl, ?_⟩) hHeld ?_
                  rotate_left
                  · (intro w0 hSw; (try dsimp only at hSw); go_simp; (try with_reducible rfl))
                  try simp only [Act.put, List.setIfInBounds_toArray, List.set_cons_zero, List.set_cons_succ]
                  refine wpAnyH_take (i := 32) (v := ?_) (by simp only [List.getElem?_toArray, List.getElem?_cons_succ, List.getElem?_cons_zero]; exact rfl) (by kernel_rfl) (by kernel_rfl) (by kernel_rfl) (fun _ _ _ h => h) (Or.inl ⟨by rfl, ?_⟩) hHeld ?_
                  rotate_left
                  · (intro w0 hSw; (try dsimp only at hSw); go_simp; (try with_reducible rfl))
                  try simp only [Act.put, List.setIfInBounds_toArray, List.set_cons_zero, List.set_cons_succ]
                  refine wpAnyH_take (i := 33) (v := ?_) (by simp only [List.getElem?_toArray, List.getElem?_cons_succ, List.getElem?_cons_zero]; exact rfl) (by kernel_rfl) (by kernel_rfl) (by kernel_rfl) (fun _ _ _ h => h) (Or.inl ⟨by rfl, ?_⟩) hHeld ?_
                  rotate_left
                  · (intro w0 hSw; (try dsimp only at hSw); go_simp; (try with_reducible rfl))
                  try simp only [Act.put, List.setIfInBounds_toArray, List.set_cons_zero, List.set_cons_succ]
                  refine wpAnyH_take (i := 34) (v := ?_) (by simp only [List.getElem?_toArray, List.getElem?_cons_succ, List.getElem?_cons_zero]; exact rfl) (by kernel_rfl) (by kernel_rfl) (by kernel_rfl) (fun _ _ _ h => h) (Or.inl ⟨by rfl, ?_⟩) hHeld ?_
                  rotate_left
                  · (intro w0 hSw; (try dsimp only at hSw); go_simp; (try with_reducible rfl))
                  try simp only [Act.put, List.setIfInBounds_toArray, List.set_cons_zero, List.set_cons_succ]
                  refine wpAnyH_take (i := 35) (v := ?_) (by simp only [List.getElem?_toArray, List.getElem?_cons_succ, List.getElem?_cons_zero]; exact rfl) (by kernel_rfl) (by kernel_rfl) (by kernel_rfl) (fun _ _ _ h => h) (Or.inl ⟨by rfl, ?_⟩) hHeld ?_
                  rotate_left
                  · (intro w0 hSw; (try dsimp only at hSw); go_simp; (try with_reducible rfl))
                  try simp only [Act.put, List.setIfInBounds_toArray, List.set_cons_zero, List.set_cons_succ]
                  refine wpAnyH_take (i := 36) (v := ?_) (by simp only [List.getElem?_toArray, List.getElem?_cons_succ, List.getElem?_cons_zero]; exact rfl) (by kernel_rfl) (by kernel_rfl) (by kernel_rfl) (fun _ _ _ h => h) (Or.inl ⟨by rfl, ?_⟩) hHeld ?_
                  rotate_left
                  · (intro w0 hSw; (try dsimp only at hSw); go_simp; (try with_reducible rfl))
                  try simp only [Act.put, List.setIfInBounds_toArray, List.set_cons_zero, List.set_cons_succ]
                  refine wpAnyH_take (i := 37) (v := undef) (by simp only [List.getElem?_toArray, List.getElem?_cons_succ, List.getElem?_cons_zero]; exact rfl) (by kernel_rfl) (by kernel_rfl) (by kernel_rfl) (fun _ _ _ h => h) (Or.inr ⟨by rfl, rfl⟩) hHeld ?_
                  try simp only [Act.put, List.setIfInBounds_toArray, List.set_cons_zero, List.set_cons_succ]
                  refine wpAnyH_take (i := 38) (v := undef) (by simp only [List.getElem?_toArray, List.getElem?_cons_succ, List.getElem?_cons_zero]; exact rfl) (by kernel_rfl) (by kernel_rfl) (by kernel_rfl) (fun _ _ _ h => h) (Or.inr ⟨by rfl, rfl⟩) hHeld ?_
                  try simp only [Act.put, List.setIfInBounds_toArray, List.set_cons_zero, List.set_cons_succ]
                  refine wpAnyH_take (i := 39) (v := undef) (by simp only [List.getElem?_toArray, List.getElem?_cons_succ, List.getElem?_cons_zero]; exact rfl) (by kernel_rfl) (by kernel_rfl) (by kernel_rfl) (fun _ _ _ h => h) (Or.inr ⟨by rfl, rfl⟩) hHeld ?_
                  try simp only [Act.put, List.setIfInBounds_toArray, List.set_cons_zero, List.set_cons_succ]
                  refine wpAnyH_take (i := 40) (v := undef) (by simp only [List.getElem?_toArray, List.getElem?_cons_succ, List.getElem?_cons_zero]; exact rfl) (by kernel_rfl) (by kernel_rfl) (by kernel_rfl) (fun _ _ _ h => h) (Or.inr ⟨by rfl, rfl⟩) hHeld ?_
                  try simp only [Act.put, List.setIfInBounds_toArray, List.set_cons_zero, List.set_cons_succ]
                  refine wpAnyH_take (i := 41) (v := undef) (by simp only [List.getElem?_toArray, List.getElem?_cons_succ, List.getElem?_cons_zero]; exact rfl) (by kernel_rfl) (by kernel_rfl) (by kernel_rfl) (fun _ _ _ h => h) (Or.inr ⟨by rfl, rfl⟩) hHeld ?_
                  try simp only [Act.put, List.setIfInBounds_toArray, List.set_cons_zero, List.set_cons_succ]
                  refine wpAnyH_take (i := 42) (v := undef) (by simp only [List.getElem?_toArray, List.getElem?_cons_succ, List.getElem?_cons_zero]; exact rfl) (by kernel_rfl) (by kernel_rfl) (by kernel_rfl) (fun _ _ _ h => h) (Or.inr ⟨by rfl, rfl⟩) hHeld ?_
                  try simp only [Act.put, List.setIfInBounds_toArray, List.set_cons_zero, List.set_cons_succ]
                  refine wpAnyH_take (i := 43) (v := undef) (by simp only [List.getElem?_toArray, List.getElem?_cons_succ, List.getElem?_cons_zero]; exact rfl) (by kernel_rfl) (by kernel_rfl) (by kernel_rfl) (fun _ _ _ h => h) (Or.inr ⟨by rfl, rfl⟩) hHeld ?_
                  try simp only [Act.put, List.setIfInBounds_toArray, List.set_cons_zero, List.set_cons_succ]
                  refine wpAnyH_take (i := 44) (v := undef) (by simp only [List.getElem?_toArray, List.getElem?_cons_succ, List.getElem?_cons_zero]; exact rfl) (by kernel_rfl) (by kernel_rfl) (by kernel_rfl) (fun _ _ _ h => h) (Or.inr ⟨by rfl, rfl⟩) hHeld ?_
                  try simp only [Act.put, List.setIfInBounds_toArray, List.set_cons_zero, List.set_cons_succ]
                  refine wpAnyH_take (i := 45) (v := ?_) (by simp only [List.getElem?_toArray, List.getElem?_cons_succ, List.getElem?_cons_zero]; exact rfl) (by kernel_rfl) (by kernel_rfl) (by kernel_rfl) (fun _ _ _ h => h) (Or.inl ⟨by rfl, ?_⟩) hHeld ?_
                  rotate_left
                  · (intro w0 hSw; (try dsimp only at hSw); go_simp; (try with_reducible rfl))
                  try simp only [Act.put, List.setIfInBounds_toArray, List.set_cons_zero, List.set_cons_succ]
                  refine wpAnyH_take (i := 46) (v := ?_) (by simp only [List.getElem?_toArray, List.getElem?_cons_succ, List.getElem?_cons_zero]; exact rfl) (by kernel_rfl) (by kernel_rfl) (by kernel_rfl) (fun _ _ _ h => h) (Or.inl ⟨by rfl, ?_⟩) hHeld ?_
                  rotate_left
                  · (intro w0 hSw; (try dsimp only at hSw); go_simp; (try with_reducible rfl))
                  try simp only [Act.put, List.setIfInBounds_toArray, List.set_cons_zero, List.set_cons_succ]
                  refine wpAnyH_take (i := 47) (v := ?_) (by simp only [List.getElem?_toArray, List.getElem?_cons_succ, List.getElem?_cons_zero]; exact rfl) (by kernel_rfl) (by kernel_rfl) (by kernel_rfl) (fun _ _ _ h => h) (Or.inl ⟨by rfl, ?_⟩) hHeld ?_
                  rotate_left
                  · (intro w0 hSw; (try dsimp only at hSw); go_simp; (try with_reducible rfl))
                  try simp only [Act.put, List.setIfInBounds_toArray, List.set_cons_zero, List.set_cons_succ]
                  refine wpAnyH_take (i := 48) (v := ?_) (by simp only [List.getElem?_toArray, List.getElem?_cons_succ, List.getElem?_cons_zero]; exact rfl) (by kernel_rfl) (by kernel_rfl) (by kernel_rfl) (fun _ _ _ h => h) (Or.inl ⟨by rfl, ?_⟩) hHeld ?_
                  rotate_left
                  · (intro w0 hSw; (try dsimp only at hSw); go_simp; (try with_reducible rfl))
                  try simp only [Act.put, List.setIfInBounds_toArray, List.set_cons_zero, List.set_cons_succ]
                  refine wpAnyH_take (i := 49) (v := ?_) (by simp only [List.getElem?_toArray, List.getElem?_cons_succ, List.getElem?_cons_zero]; exact rfl) (by kernel_rfl) (by kernel_rfl) (by kernel_rfl) (fun _ _ _ h => h) (Or.inl ⟨by rfl, ?_⟩) hHeld ?_
                  rotate_left
                  · (intro w0 hSw; (try dsimp only at hSw); go_simp; (try with_reducible rfl))
                  try simp only [Act.put, List.setIfInBounds_toArray, List.set_cons_zero, List.set_cons_succ]
                  refine wpAnyH_take (i := 50) (v := ?_) (by simp only [List.getElem?_toArray, List.getElem?_cons_succ, List.getElem?_cons_zero]; exact rfl) (by kernel_rfl) (by kernel_rfl) (by kernel_rfl) (fun _ _ _ h => h) (Or.inl ⟨by rfl, ?_⟩) hHeld ?_
                  rotate_left
                  · (intro w0 hSw; (try dsimp only at hSw); go_simp; (try with_reducible rfl))
                  try simp only [Act.put, List.setIfInBounds_toArray, List.set_cons_zero, List.set_cons_succ]
                  refine wpAnyH_take (i := 51) (v := ?_) (by simp only [List.getElem?_toArray, List.getElem?_cons_succ, List.getElem?_cons_zero]; exact rfl) (by kernel_rfl) (by kernel_rfl) (by kernel_rfl) (fun _ _ _ h => h) (Or.inl ⟨by rfl, ?_⟩) hHeld ?_
                  rotate_left
                  · (intro w0 hSw; (try dsimp only at hSw); go_simp; (try with_reducible rfl))
                  try simp only [Act.put, List.setIfInBounds_toArray, List.set_cons_zero, List.set_cons_succ]
                  refine wpAnyH_take (i := 52) (v := ?_) (by simp only [List.getElem?_toArray, List.getElem?_cons_succ, List.getElem?_cons_zero]; exact rfl) (by kernel_rfl) (by kernel_rfl) (by kernel_rfl) (fun _ _ _ h => h) (Or.inl ⟨by rfl, ?_⟩) hHeld ?_
                  rotate_left
                  · (intro w0 hSw; (try dsimp only at hSw); go_simp; (try with_reducible rfl))
                  try simp only [Act.put, List.setIfInBounds_toArray, List.set_cons_zero, List.set_cons_succ]
                  refine wpAnyH_take (i := 53) (v := ?_) (by simp only [List.getElem?_toArray, List.getElem?_cons_succ, List.getElem?_cons_zero]; exact rfl) (by kernel_rfl) (by kernel_rfl) (by kernel_rfl) (fun _ _ _ h => h) (Or.inl ⟨by rfl, ?_⟩) hHeld ?_
                  rotate_left
                  · (intro w0 hSw; (try dsimp only at hSw); go_simp; (try with_reducible rfl))
                  try simp only [Act.put, List.setIfInBounds_toArray, List.set_cons_zero, List.set_cons_succ]
                  refine wpAnyH_take (i := 54) (v := ?_) (by simp only [List.getElem?_toArray, List.getElem?_cons_succ, List.getElem?_cons_zero]; exact rfl) (by kernel_rfl) (by kernel_rfl) (by kernel_rfl) (fun _ _ _ h => h) (Or.inl ⟨by rfl, ?_⟩) hHeld ?_
                  rotate_left
                  · (intro w0 hSw; (try dsimp only at hSw); go_simp; (try with_reducible rfl))
                  try simp only [Act.put, List.setIfInBounds_toArray, List.set_cons_zero, List.set_cons_succ]
                  refine wpAnyH_done (by kernel_rfl) ?_ _
                  refine NoPanic.normal ?_
                  go_wp2_with fail
                  have K7 := Lib.hid (Below.step (below_drawn w4) B7.out)
                  have G7 := Lib.hid (G4.out.stay K7.out)
                  clear B5 B6 B7 R5 GD
                  ((with_reducible refine (all_l G7.out.ll).mono ?_); rintro e w8 ⟨A8, c8, rfl, hm8, -, hc8, hb8⟩)
                  have M8 := Lib.hid (show CopyRel w7 A8 n1 c8 (.int .i64 0) w8 from ⟨0, _, rfl, Nat.zero_le _, G7.out.ll.len.symm, hm8, hb8⟩)
                  clear hm8 hb8
                  go_wp2_with fail
                  go_loopw [17] (fun i wr => CopyRel w7 A8 n1 c8 i wr) (fun i _ => n1 - (intOf i).toNat)
                  case atStart => exact M8.out
                  case round =>
                    clear M8
                    obtain ⟨i, zs, rfl, hi, hz, hm, hbz⟩ := hrel
                    by_cases hil : i < n1
                    · obtain ⟨g, rfl, hcell, hfro, hset⟩ := copy_cell hm hz hil hbz
                      generalize zs[i]'(by omega) = y at hcell
                      have HZ := Lib.hid hset
                      have HQ := Lib.hid hz
                      clear hm hbz hset hz
                      go_wp2_with fail
                      exact ⟨⟨i + 1, _, by simp, hil, by rw [List.length_set]; exact HQ.out, (HZ.out _).1, (HZ.out _).2⟩, by simp [intOf]; omega⟩
                    · obtain rfl : i = n1 := by omega
                      have KB := Lib.hid hbz
                      clear hm hbz hz
                      have y0 := old_cell KB.out x0
                      have y1 := old_cell KB.out x1
                      have y2 := old_cell KB.out x2
                      generalize wr = w9 at *
                      have GE := Lib.hid ((G7.out.stay KB.out).stay (below_drawn w9))
                      have z0 := old_cell (below_drawn w9) y0
                      have z1 := old_cell (below_drawn w9) y1
                      have z2 := old_cell (below_drawn w9) y2
                      go_wp2_with fail
                      go_region_held3 (fun w' => w'.cell? ⟨gA, j * 2, none⟩ = some (.pointer none) ∧ w'.cell? ⟨gA, j * 2 + 1, none⟩ = some (.int .i64 i) ∧ w'.cell? ⟨gW, j, none⟩ = some (.slice A1 i d1)) (go_keep)
                        (first | (go_at_call 20; ((with_reducible refine (all_l GE.out.ll).mono ?_); rintro e w10 ⟨A10, c10, rfl, -, hr10, -, hb10⟩; have R10 := Lib.hid hr10; have B10 := Lib.hid hb10; have q0 := old_cell hb10 z0; have q1 := old_cell hb10 z1; have q2 := old_cell hb10 z2; clear hr10 hb10)) | (go_at_call 19; ((with_reducible refine (same_two GE.out.ll.len GE.out.sl.len R10.out (GE.out.sl.row.stay B10.out) GE.out.ll.lt).mono ?_); rintro e w11 ⟨rfl, hb11⟩; have B11 := Lib.hid (Below.step B10.out hb11); have r0 := old_cell (Below.step B10.out hb11) z0; have r1 := old_cell (Below.step B10.out hb11) z1; have r2 := old_cell (Below.step B10.out hb11) z2; clear hb11)))
                      have SF := Lib.hid (S4.out.stay (Below.step K7.out (Below.step KB.out (Below.step (below_drawn w9) B11.out))))
                      clear R10 B10 q0 q1 q2 r0 r1 r2 z0 z1 z2 y0 y1 y2
                      go_wp2_with fail
                      first
                        | exact ⟨⟨j + 1, by simp, by rw [HE.out]; exact hjl, SF.out⟩, by simp [intOf]; omega⟩
                        | (go_roundw; exact ⟨j + 1, by simp, by rw [HE.out]; exact hjl, SF.out⟩; (simp [intOf]; omega))
              | cons x ys =>
                as_aux_lemma =>
                  have g1 : decide (0 < (n1 : Int)) = true := by have := G1.out.ll.len; simp at this; simp; omega
                  have hp1 : 0 < n1 := by have := G1.out.ll.len; simp at this; omega
                  obtain ⟨b, o, ea, hrow⟩ := G1.out.sl.row (by simp)
                  simp only at ea
                  subst ea
                  have c3 := hrow 0 (by simp)
                  simp only [Nat.add_zero, List.getElem_cons_zero] at c3
                  clear hrow
                  go_wp2_with fail
                  ((with_reducible refine (first_cons p1 x ys n1 _ G1.out.ll.ch).mono ?_); rintro e w4 ⟨rfl, hb4⟩)
                  have G4 := Lib.hid (G1.out.stay hb4)
                  have S4 := Lib.hid (HS.out.stay hb4)
                  have b0 := old_cell hb4 c0
                  have b1 := old_cell hb4 c1
                  have b2 := old_cell hb4 c2
                  have b3 := old_cell hb4 c3
                  clear hb4 c0 c1 c2 G1 HS c3
                  go_wp2_with fail
                  have GD := Lib.hid (G4.out.stay (below_drawn w4))
                  have s0 := old_cell (below_drawn w4) b0
                  have s1 := old_cell (below_drawn w4) b1
                  have s2 := old_cell (below_drawn w4) b2
                  have s3 := old_cell (below_drawn w4) b3
                  have i0 : (0 : Int) ≤ (j : Int) := by omega
                  have i1 : (j : Int) < (L : Int) := by omega
                  refine wp_region_noPanic ?_
                  refine wp_region_held_drew (S := fun w' => w'.cell? ⟨gA, j * 2, none⟩ = some (.pointer p1) ∧ w'.cell? ⟨gA, j * 2 + 1, none⟩ = some (.int .i64 n1) ∧ w'.cell? ⟨gW, j, none⟩ = some (.slice (some ⟨b, o, none⟩) n1 d1) ∧ w'.cell? ⟨b, o, none⟩ = some (one x)) (by kernel_rfl) ⟨s0, s1, s2, s3⟩ (fun hHeld => ?_)
                  refine wpAnyH_take (i := 0) (v := ?_) (by simp only [List.getElem?_toArray, List.getElem?_cons_zero]; exact rfl) (by kernel_rfl) (by kernel_rfl) (by kernel_rfl) (fun _ _ _ h => h) (Or.inl ⟨by rfl, ?_⟩) hHeld ?_
                  rotate_left
                  · (intro w0 hSw; (try dsimp only at hSw); go_simp; (try with_reducible rfl))
                  try simp only [Act.put, List.setIfInBounds_toArray, List.set_cons_zero, List.set_cons_succ]
                  refine wpAnyH_take (i := 1) (v := ?_) (by simp only [List.getElem?_toArray, List.getElem?_cons_succ, List.getElem?_cons_zero]; exact rfl) (by kernel_rfl) (by kernel_rfl) (by kernel_rfl) (fun _ _ _ h => h) (Or.inl ⟨by rfl, ?_⟩) hHeld ?_
                  rotate_left
                  · (intro w0 hSw; (try dsimp only at hSw); go_simp; (try with_reducible rfl))
                  try simp only [Act.put, List.setIfInBounds_toArray, List.set_cons_zero, List.set_cons_succ]
                  refine wpAnyH_take (i := 2) (v := ?_) (by simp only [List.getElem?_toArray, List.getElem?_cons_succ, List.getElem?_cons_zero]; exact rfl) (by kernel_rfl) (by kernel_rfl) (by kernel_rfl) (fun _ _ _ h => h) (Or.inl ⟨by rfl, ?_⟩) hHeld ?_
                  rotate_left
                  · (intro w0 hSw; (try dsimp only at hSw); go_simp; (try with_reducible rfl))
                  try simp only [Act.put, List.setIfInBounds_toArray, List.set_cons_zero, List.set_cons_succ]
                  refine wpAnyH_take (i := 3) (v := ?_) (by simp only [List.getElem?_toArray, List.getElem?_cons_succ, List.getElem?_cons_zero]; exact rfl) (by kernel_rfl) (by kernel_rfl) (by kernel_rfl) (fun _ _ _ h => h) (Or.inl ⟨by rfl, ?_⟩) hHeld ?_
                  rotate_left
                  · (intro w0 hSw; (try dsimp only at hSw); go_simp; (try with_reducible rfl))
                  try simp only [Act.put, List.setIfInBounds_toArray, List.set_cons_zero, List.set_cons_succ]
                  refine wpAnyH_take (i := 5) (v := ?_) (by simp only [List.getElem?_toArray, List.getElem?_cons_succ, List.getElem?_cons_zero]; exact rfl) (by kernel_rfl) (by kernel_rfl) (by kernel_rfl) (fun _ _ _ h => h) (Or.inl ⟨by rfl, ?_⟩) hHeld ?_
                  rotate_left
                  · (intro w0 hSw; (try dsimp only at hSw); go_simp; (try with_reducible rfl))
                  try simp only [Act.put, List.setIfInBounds_toArray, List.set_cons_zero, List.set_cons_succ]
                  refine wpAnyH_take (i := 6) (v := ?_) (by simp only [List.getElem?_toArray, List.getElem?_cons_succ, List.getElem?_cons_zero]; exact rfl) (by kernel_rfl) (by kernel_rfl) (by kernel_rfl) (fun _ _ _ h => h) (Or.inl ⟨by rfl, ?_⟩) hHeld ?_
                  rotate_left
                  · (intro w0 hSw; (try dsimp only at hSw); go_simp; (try with_reducible rfl))
                  try simp only [Act.put, List.setIfInBounds_toArray, List.set_cons_zero, List.set_cons_succ]
                  refine wpAnyH_take (i := 7) (v := ?_) (by simp only [List.getElem?_toArray, List.getElem?_cons_succ, List.getElem?_cons_zero]; exact rfl) (by kernel_rfl) (by kernel_rfl) (by kernel_rfl) (fun _ _ _ h => h) (Or.inl ⟨by rfl, ?_⟩) hHeld ?_
                  rotate_left
                  · (intro w0 hSw; (try dsimp only at hSw); go_simp; (try with_reducible rfl))
                  try simp only [Act.put, List.setIfInBounds_toArray, List.set_cons_zero, List.set_cons_succ]
                  refine wpAnyH_take (i := 8) (v := ?_) (by simp only [List.getElem?_toArray, List.getElem?_cons_succ, List.getElem?_cons_zero]; exact rfl) (by kernel_rfl) (by kernel_rfl) (by kernel_rfl) (fun _ _ _ h => h) (Or.inl ⟨by rfl, ?_⟩) hHeld ?_
                  rotate_left
                  · (intro w0 hSw; (try dsimp only at hSw); go_simp; (try with_reducible rfl))
                  try simp only [Act.put, List.setIfInBounds_toArray, List.set_cons_zero, List.set_cons_succ]
                  refine wpAnyH_ready (rs := [4]) (by kernel_rfl) (by simp) ?_
                  refine AllReadyH.cons (by simp only [List.getElem?_toArray, List.getElem?_cons_succ, List.getElem?_cons_zero]; exact rfl) (fun K hK => ?_) AllReadyH.nil
                  go_simp
                  ((with_reducible refine (all_l GD.out.ll).mono ?_); rintro e w5 ⟨A5, c5, rfl, -, hr5, -, hb5⟩; have R5 := Lib.hid hr5; have B5 := Lib.hid hb5; have t0 := old_cell (hb5) s0; have t1 := old_cell (hb5) s1; have t2 := old_cell (hb5) s2; have t3 := old_cell (hb5) s3; clear hr5 hb5)
                  go_wp2_with fail
                  refine hK.out _ _ ?_ (fun hHeld => ?_)
                  · exact ⟨t0, t1, t2, t3⟩
                  clear hK K
                  try simp only [Act.put, List.setIfInBounds_toArray, List.set_cons_zero, List.set_cons_succ]
                  refine wpAnyH_ready (rs := [9]) (by kernel_rfl) (by simp) ?_
                  refine AllReadyH.cons (by simp only [List.getElem?_toArray, List.getElem?_cons_succ, List.getElem?_cons_zero]; exact rfl) (fun K hK => ?_) AllReadyH.nil
                  go_simp
                  ((with_reducible refine (same_two GD.out.ll.len GD.out.sl.len R5.out (GD.out.sl.row.stay B5.out) GD.out.ll.lt).mono ?_); rintro e w6 ⟨rfl, hb6⟩; have B6 := Lib.hid (Below.step B5.out hb6); have v0 := old_cell (Below.step B5.out hb6) s0; have v1 := old_cell (Below.step B5.out hb6) s1; have v2 := old_cell (Below.step B5.out hb6) s2; have v3 := old_cell (Below.step B5.out hb6) s3; clear hb6)
                  go_wp2_with fail
                  refine hK.out _ _ ?_ (fun hHeld => ?_)
                  · exact ⟨v0, v1, v2, v3⟩
                  clear hK K
                  try simp only [Act.put, List.setIfInBounds_toArray, List.set_cons_zero, List.set_cons_succ]
                  refine wpAnyH_take (i := 10) (v := ?_) (by simp only [List.getElem?_toArray, List.getElem?_cons_succ, List.getElem?_cons_zero]; exact rfl) (by kernel_rfl) (by kernel_rfl) (by kernel_rfl) (fun _ _ _ h => h) (Or.inl ⟨by rfl, ?_⟩) hHeld ?_
                  rotate_left
                  · (intro w0 hSw; (try dsimp only at hSw); go_simp; (try with_reducible rfl))
                  try simp only [Act.put, List.setIfInBounds_toArray, List.set_cons_zero, List.set_cons_succ]
                  refine wpAnyH_take (i := 11) (v := ?_) (by simp only [List.getElem?_toArray, List.getElem?_cons_succ, List.getElem?_cons_zero]; exact rfl) (by kernel_rfl) (by kernel_rfl) (by kernel_rfl) (fun _ _ _ h => h) (Or.inl ⟨by rfl, ?_⟩) hHeld ?_
                  rotate_left
                  · (intro w0 hSw; (try dsimp only at hSw); go_simp; (try with_reducible rfl))
                  try simp only [Act.put, List.setIfInBounds_toArray, List.set_cons_zero, List.set_cons_succ]
                  refine wpAnyH_take (i := 12) (v := ?_) (by simp only [List.getElem?_toArray, List.getElem?_cons_succ, List.getElem?_cons_zero]; exact rfl) (by kernel_rfl) (by kernel_rfl) (by kernel_rfl) (fun _ _ _ h => h) (Or.inl ⟨by rfl, ?_⟩) hHeld ?_
                  rotate_left
                  · (intro w0 hSw; (try dsimp only at hSw); go_simp; (try with_reducible rfl))
                  try simp only [Act.put, List.setIfInBounds_toArray, List.set_cons_zero, List.set_cons_succ]
                  refine wpAnyH_take (i := 13) (v := ?_) (by simp only [List.getElem?_toArray, List.getElem?_cons_succ, List.getElem?_cons_zero]; exact rfl) (by kernel_rfl) (by kernel_rfl) (by kernel_rfl) (fun _ _ _ h => h) (Or.inl ⟨by rfl, ?_⟩) hHeld ?_
                  rotate_left
                  · (intro w0 hSw; (try dsimp only at hSw); go_simp; (try with_reducible rfl))
                  try simp only [Act.put, List.setIfInBounds_toArray, List.set_cons_zero, List.set_cons_succ]
                  refine wpAnyH_take (i := 14) (v := ?_) (by simp only [List.getElem?_toArray, List.getElem?_cons_succ, List.getElem?_cons_zero]; exact rfl) (by kernel_rfl) (by kernel_rfl) (by kernel_rfl) (fun _ _ _ h => h) (Or.inl ⟨by rfl, ?_⟩) hHeld ?_
                  rotate_left
                  · (intro w0 hSw; (try dsimp only at hSw); go_simp; (try with_reducible rfl))
                  try simp only [Act.put, List.setIfInBounds_toArray, List.set_cons_zero, List.set_cons_succ]
                  refine wpAnyH_take (i := 15) (v := ?_) (by simp only [List.getElem?_toArray, List.getElem?_cons_succ, List.getElem?_cons_zero]; exact rfl) (by kernel_rfl) (by kernel_rfl) (by kernel_rfl) (fun _ _ _ h => h) (Or.inl ⟨by rfl, ?_⟩) hHeld ?_
                  rotate_left
                  · (intro w0 hSw; (try dsimp only at hSw); go_simp; (try with_reducible rfl))
                  try simp only [Act.put, List.setIfInBounds_toArray, List.set_cons_zero, List.set_cons_succ]
                  refine wpAnyH_take (i := 17) (v := ?_) (by simp only [List.getElem?_toArray, List.getElem?_cons_succ, List.getElem?_cons_zero]; exact rfl) (by kernel_rfl) (by kernel_rfl) (by kernel_rfl) (fun _ _ _ h => h) (Or.inl ⟨by rfl, ?_⟩) hHeld ?_
                  rotate_left
                  · (intro w0 hSw; (try dsimp only at hSw); go_simp; (try with_reducible rfl))
                  try simp only [Act.put, List.setIfInBounds_toArray, List.set_cons_zero, List.set_cons_succ]
                  refine wpAnyH_take (i := 18) (v := ?_) (by simp only [List.getElem?_toArray, List.getElem?_cons_succ, List.getElem?_cons_zero]; exact rfl) (by kernel_rfl) (by kernel_rfl) (by kernel_rfl) (fun _ _ _ h => h) (Or.inl ⟨by rfl, ?_⟩) hHeld ?_
                  rotate_left
                  · (intro w0 hSw; (try dsimp only at hSw); go_simp; (try with_reducible rfl))
                  try simp only [Act.put, List.setIfInBounds_toArray, List.set_cons_zero, List.set_cons_succ]
                  refine wpAnyH_take (i := 19) (v := ?_) (by simp only [List.getElem?_toArray, List.getElem?_cons_succ, List.getElem?_cons_zero]; exact rfl) (by kernel_rfl) (by kernel_rfl) (by kernel_rfl) (fun _ _ _ h => h) (Or.inl ⟨by rfl, ?_⟩) hHeld ?_
                  rotate_left
                  · (intro w0 hSw; (try dsimp only at hSw); go_simp; (try with_reducible rfl))
                  try simp only [Act.put, List.setIfInBounds_toArray, List.set_cons_zero, List.set_cons_succ]
                  refine wpAnyH_take (i := 20) (v := ?_) (by simp only [List.getElem?_toArray, List.getElem?_cons_succ, List.getElem?_cons_zero]; exact rfl) (by kernel_rfl) (by kernel_rfl) (by kernel_rfl) (fun _ _ _ h => h) (Or.inl ⟨by rfl, ?_⟩) hHeld ?_
                  rotate_left
                  · (intro w0 hSw; (try dsimp only at hSw); go_simp; (try with_reducible rfl))
                  try simp only [Act.put, List.setIfInBounds_toArray, List.set_cons_zero, List.set_cons_succ]
                  refine wpAnyH_take (i := 21) (v := ?_) (by simp only [List.getElem?_toArray, List.getElem?_cons_succ, List.getElem?_cons_zero]; exact rfl) (by kernel_rfl) (by kernel_rfl) (by kernel_rfl) (fun _ _ _ h => h) (Or.inl ⟨by rfl, ?_⟩) hHeld ?_
                  rotate_left
                  · (intro w0 hSw; (try dsimp only at hSw); go_simp; (try with_reducible rfl))
                  try simp only [Act.put, List.setIfInBounds_toArray, List.set_cons_zero, List.set_cons_succ]
                  refine wpAnyH_ready (rs := [16]) (by kernel_rfl) (by simp) ?_
                  refine AllReadyH.cons (by simp only [List.getElem?_toArray, List.getElem?_cons_succ, List.getElem?_cons_zero]; exact rfl) (fun K hK => ?_) AllReadyH.nil
                  go_simp
                  ((with_reducible refine len_l.mono ?_); rintro e w7 ⟨rfl, hb7⟩; have B7 := Lib.hid (Below.step B6.out hb7); have x0 := old_cell (Below.step B6.out hb7) s0; have x1 := old_cell (Below.step B6.out hb7) s1; have x2 := old_cell (Below.step B6.out hb7) s2; have x3 := old_cell (Below.step B6.out hb7) s3; clear hb7)
                  go_wp2_with fail
                  refine hK.out _ _ ?_ (fun hHeld => ?_)
                  · exact ⟨x0, x1, x2, x3⟩
                  clear hK K
                  try simp only [Act.put, List.setIfInBounds_toArray, List.set_cons_zero, List.set_cons_succ]
                  refine wpAnyH_take (i := 22) (v := ?_) (by simp only [List.getElem?_toArray, List.getElem?_cons_succ, List.getElem?_cons_zero]; exact rfl) (by kernel_rfl) (by kernel_rfl) (by kernel_rfl) (fun _ _ _ h => h) (Or.inl ⟨by rfl, ?_⟩) hHeld ?_
                  rotate_left
                  · (intro w0 hSw; (try dsimp only at hSw); go_simp; (try with_reducible rfl))
                  try simp only [Act.put, List.setIfInBounds_toArray, List.set_cons_zero, List.set_cons_succ]
                  refine wpAnyH_take (i := 23) (v := ?_) (by simp only [List.getElem?_toArray, List.getElem?_cons_succ, List.getElem?_cons_zero]; exact rfl) (by kernel_rfl) (by kernel_rfl) (by kernel_rfl) (fun _ _ _ h => h) (Or.inl ⟨by rfl, ?_⟩) hHeld ?_
                  rotate_left
                  · (intro w0 hSw; (try dsimp only at hSw); go_simp; (try with_reducible rfl))
                  try simp only [Act.put, List.setIfInBounds_toArray, List.set_cons_zero, List.set_cons_succ]
                  refine wpAnyH_take (i := 24) (v := ?_) (by simp only [List.getElem?_toArray, List.getElem?_cons_succ, List.getElem?_cons_zero]; exact rfl) (by kernel_rfl) (by kernel_rfl) (by kernel_rfl) (fun _ _ _ h => h) (Or.inl ⟨by rfl, ?_⟩) hHeld ?_
                  rotate_left
                  · (intro w0 hSw; (try dsimp only at hSw); go_simp; (try with_reducible rfl))
                  try simp only [Act.put, List.setIfInBounds_toArray, List.set_cons_zero, List.set_cons_succ]
                  refine wpAnyH_take (i := 25) (v := ?_) (by simp only [List.getElem?_toArray, List.getElem?_cons_succ, List.getElem?_cons_zero]; exact rfl) (by kernel_rfl) (by kernel_rfl) (by kernel_rfl) (fun _ _ _ h => h) (Or.inl ⟨by rfl, ?_⟩) hHeld ?_
                  rotate_left
                  · (intro w0 hSw; (try dsimp only at hSw); go_simp; (try with_reducible rfl))
                  try simp only [Act.put, List.setIfInBounds_toArray, List.set_cons_zero, List.set_cons_succ]
                  refine wpAnyH_take (i := 26) (v := ?_) (by simp only [List.getElem?_toArray, List.getElem?_cons_succ, List.getElem?_cons_zero]; exact rfl) (by kernel_rfl) (by kernel_rfl) (by kernel_rfl) (fun _ _ _ h => h) (Or.inl ⟨by rfl, ?_⟩) hHeld ?_
                  rotate_left
                  · (intro w0 hSw; (try dsimp only at hSw); go_simp; (try with_reducible rfl))
                  try simp only [Act.put, List.setIfInBounds_toArray, List.set_cons_zero, List.set_cons_succ]
                  refine wpAnyH_take (i := 27) (v := ?_) (by simp only [List.getElem?_toArray, List.getElem?_cons_succ, List.getElem?_cons_zero]; exact rfl) (by kernel_rfl) (by kernel_rfl) (by kernel_rfl) (fun _ _ _ h => h) (Or.inl ⟨by rfl, ?_⟩) hHeld ?_
                  rotate_left
                  · (intro w0 hSw; (try dsimp only at hSw); go_simp; (try with_reducible rfl))
                  try simp only [Act.put, List.setIfInBounds_toArray, List.set_cons_zero, List.set_cons_succ]
                  refine wpAnyH_take (i := 28) (v := ?_) (by simp only [List.getElem?_toArray, List.getElem?_cons_succ, List.getElem?_cons_zero]; exact rfl) (by kernel_rfl) (by kernel_rfl) (by kernel_rfl) (fun _ _ _ h => h) (Or.inl ⟨by rfl, ?_⟩) hHeld ?_
                  rotate_left
                  · (intro w0 hSw; (try dsimp only at hSw); go_simp; (try with_reducible rfl))
                  try simp only [Act.put, List.setIfInBounds_toArray, List.set_cons_zero, List.set_cons_succ]
                  refine wpAnyH_take (i := 29) (v := ?_) (by simp only [List.getElem?_toArray, List.getElem?_cons_succ, List.getElem?_cons_zero]; exact rfl) (by kernel_rfl) (by kernel_rfl) (by kernel_rfl) (fun _ _ _ h => h) (Or.inl ⟨by rfl, ?_⟩) hHeld ?_
                  rotate_left
                  · (intro w0 hSw; (try dsimp only at hSw); go_simp; (try with_reducible rfl))
                  try simp only [Act.put, List.setIfInBounds_toArray, List.set_cons_zero, List.set_cons_succ]
                  refine wpAnyH_take (i := 30) (v := ?_) (by simp only [List.getElem?_toArray, List.getElem?_cons_succ, List.getElem?_cons_zero]; exact rfl) (by kernel_rfl) (by kernel_rfl) (by kernel_rfl) (fun _ _ _ h => h) (Or.inl ⟨by rfl, ?_⟩) hHeld ?_
                  rotate_left
                  · (intro w0 hSw; (try dsimp only at hSw); go_simp; (try with_reducible rfl))
                  try simp only [Act.put, List.setIfInBounds_toArray, List.set_cons_zero, List.set_cons_succ]
                  refine wpAnyH_take (i := 31) (v := ?_) (by simp only [List.getElem?_toArray, List.getElem?_cons_succ, List.getElem?_cons_zero]; exact rfl) (by kernel_rfl) (by kernel_rfl) (by kernel_rfl) (fun _ _ _ h => h) (Or.inl ⟨by rfl, ?_⟩) hHeld ?_
                  rotate_left
                  · (intro w0 hSw; (try dsimp only at hSw); go_simp; (try with_reducible rfl))
                  try simp only [Act.put, List.setIfInBounds_toArray, List.set_cons_zero, List.set_cons_succ]
                  refine wpAnyH_take (i := 32) (v := ?_) (by simp only [List.getElem?_toArray, List.getElem?_cons_succ, List.getElem?_cons_zero]; exact rfl) (by kernel_rfl) (by kernel_rfl) (by kernel_rfl) (fun _ _ _ h => h) (Or.inl ⟨by rfl, ?_⟩) hHeld ?_
                  rotate_left
                  · (intro w0 hSw; (try dsimp only at hSw); go_simp; (try with_reducible rfl))
                  try simp only [Act.put, List.setIfInBounds_toArray, List.set_cons_zero, List.set_cons_succ]
                  refine wpAnyH_take (i := 33) (v := ?_) (by simp only [List.getElem?_toArray, List.getElem?_cons_succ, List.getElem?_cons_zero]; exact rfl) (by kernel_rfl) (by kernel_rfl) (by kernel_rfl) (fun _ _ _ h => h) (Or.inl ⟨by rfl, ?_⟩) hHeld ?_
                  rotate_left
                  · (intro w0 hSw; (try dsimp only at hSw); go_simp; (try with_reducible rfl))
                  try simp only [Act.put, List.setIfInBounds_toArray, List.set_cons_zero, List.set_cons_succ]
                  refine wpAnyH_take (i := 34) (v := ?_) (by simp only [List.getElem?_toArray, List.getElem?_cons_succ, List.getElem?_cons_zero]; exact rfl) (by kernel_rfl) (by kernel_rfl) (by kernel_rfl) (fun _ _ _ h => h) (Or.inl ⟨by rfl, ?_⟩) hHeld ?_
                  rotate_left
                  · (intro w0 hSw; (try dsimp only at hSw); go_simp; (try with_reducible rfl))
                  try simp only [Act.put, List.setIfInBounds_toArray, List.set_cons_zero, List.set_cons_succ]
                  refine wpAnyH_take (i := 35) (v := ?_) (by simp only [List.getElem?_toArray, List.getElem?_cons_succ, List.getElem?_cons_zero]; exact rfl) (by kernel_rfl) (by kernel_rfl) (by kernel_rfl) (fun _ _ _ h => h) (Or.inl ⟨by rfl, ?_⟩) hHeld ?_
                  rotate_left
                  · (intro w0 hSw; (try dsimp only at hSw); go_simp; (try with_reducible rfl))
                  try simp only [Act.put, List.setIfInBounds_toArray, List.set_cons_zero, List.set_cons_succ]
                  refine wpAnyH_take (i := 36) (v := ?_) (by simp only [List.getElem?_toArray, List.getElem?_cons_succ, List.getElem?_cons_zero]; exact rfl) (by kernel_rfl) (by kernel_rfl) (by kernel_rfl) (fun _ _ _ h => h) (Or.inl ⟨by rfl, ?_⟩) hHeld ?_
                  rotate_left
                  · (intro w0 hSw; (try dsimp only at hSw); go_simp; (try with_reducible rfl))
                  try simp only [Act.put, List.setIfInBounds_toArray, List.set_cons_zero, List.set_cons_succ]
                  refine wpAnyH_take (i := 37) (v := ?_) (by simp only [List.getElem?_toArray, List.getElem?_cons_succ, List.getElem?_cons_zero]; exact rfl) (by kernel_rfl) (by kernel_rfl) (by kernel_rfl) (fun _ _ _ h => h) (Or.inl ⟨by rfl, ?_⟩) hHeld ?_
                  rotate_left
                  · (intro w0 hSw; (try dsimp only at hSw); go_simp; (try with_reducible rfl))
                  try simp only [Act.put, List.setIfInBounds_toArray, List.set_cons_zero, List.set_cons_succ]
                  refine wpAnyH_take (i := 38) (v := ?_) (by simp only [List.getElem?_toArray, List.getElem?_cons_succ, List.getElem?_cons_zero]; exact rfl) (by kernel_rfl) (by kernel_rfl) (by kernel_rfl) (fun _ _ _ h => h) (Or.inl ⟨by rfl, ?_⟩) hHeld ?_
                  rotate_left
                  · (intro w0 hSw; (try dsimp only at hSw); go_simp; (try with_reducible rfl))
                  try simp only [Act.put, List.setIfInBounds_toArray, List.set_cons_zero, List.set_cons_succ]
                  refine wpAnyH_take (i := 39) (v := ?_) (by simp only [List.getElem?_toArray, List.getElem?_cons_succ, List.getElem?_cons_zero]; exact rfl) (by kernel_rfl) (by kernel_rfl) (by kernel_rfl) (fun _ _ _ h => h) (Or.inl ⟨by rfl, ?_⟩) hHeld ?_
                  rotate_left
                  · (intro w0 hSw; (try dsimp only at hSw); go_simp; (try with_reducible rfl))
                  try simp only [Act.put, List.setIfInBounds_toArray, List.set_cons_zero, List.set_cons_succ]
                  refine wpAnyH_take (i := 40) (v := ?_) (by simp only [List.getElem?_toArray, List.getElem?_cons_succ, List.getElem?_cons_zero]; exact rfl) (by kernel_rfl) (by kernel_rfl) (by kernel_rfl) (fun _ _ _ h => h) (Or.inl ⟨by rfl, ?_⟩) hHeld ?_
                  rotate_left
                  · (intro w0 hSw; (try dsimp only at hSw); go_simp; (try with_reducible rfl))
                  try simp only [Act.put, List.setIfInBounds_toArray, List.set_cons_zero, List.set_cons_succ]
                  refine wpAnyH_take (i := 41) (v := ?_) (by simp only [List.getElem?_toArray, List.getElem?_cons_succ, List.getElem?_cons_zero]; exact rfl) (by kernel_rfl) (by kernel_rfl) (by kernel_rfl) (fun _ _ _ h => h) (Or.inl ⟨by rfl, ?_⟩) hHeld ?_
                  rotate_left
                  · (intro w0 hSw; (try dsimp only at hSw); go_simp; (try with_reducible rfl))
                  try simp only [Act.put, List.setIfInBounds_toArray, List.set_cons_zero, List.set_cons_succ]
                  refine wpAnyH_take (i := 42) (v := ?_) (by simp only [List.getElem?_toArray, List.getElem?_cons_succ, List.getElem?_cons_zero]; exact rfl) (by kernel_rfl) (by kernel_rfl) (by kernel_rfl) (fun _ _ _ h => h) (Or.inl ⟨by rfl, ?_⟩) hHeld ?_
                  rotate_left
                  · (intro w0 hSw; (try dsimp only at hSw); go_simp; (try with_reducible rfl))
                  try simp only [Act.put, List.setIfInBounds_toArray, List.set_cons_zero, List.set_cons_succ]
                  refine wpAnyH_take (i := 43) (v := ?_) (by simp only [List.getElem?_toArray, List.getElem?_cons_succ, List.getElem?_cons_zero]; exact rfl) (by kernel_rfl) (by kernel_rfl) (by kernel_rfl) (fun _ _ _ h => h) (Or.inl ⟨by rfl, ?_⟩) hHeld ?_
                  rotate_left
                  · (intro w0 hSw; (try dsimp only at hSw); go_simp; (try with_reducible rfl))
                  try simp only [Act.put, List.setIfInBounds_toArray, List.set_cons_zero, List.set_cons_succ]
                  refine wpAnyH_take (i := 44) (v := ?_) (by simp only [List.getElem?_toArray, List.getElem?_cons_succ, List.getElem?_cons_zero]; exact rfl) (by kernel_rfl) (by kernel_rfl) (by kernel_rfl) (fun _ _ _ h => h) (Or.inl ⟨by rfl, ?_⟩) hHeld ?_
                  rotate_left
                  · (intro w0 hSw; (try dsimp only at hSw); go_simp; (try with_reducible rfl))
                  try simp only [Act.put, List.setIfInBounds_toArray, List.set_cons_zero, List.set_cons_succ]
                  refine wpAnyH_take (i := 45) (v := ?_) (by simp only [List.getElem?_toArray, List.getElem?_cons_succ, List.getElem?_cons_zero]; exact rfl) (by kernel_rfl) (by kernel_rfl) (by kernel_rfl) (fun _ _ _ h => h) (Or.inl ⟨by rfl, ?_⟩) hHeld ?_
                  rotate_left
                  · (intro w0 hSw; (try dsimp only at hSw); go_simp; (try with_reducible rfl))
                  try simp only [Act.put, List.setIfInBounds_toArray, List.set_cons_zero, List.set_cons_succ]
                  refine wpAnyH_take (i := 46) (v := ?_) (by simp only [List.getElem?_toArray, List.getElem?_cons_succ, List.getElem?_cons_zero]; exact rfl) (by kernel_rfl) (by kernel_rfl) (by kernel_rfl) (fun _ _ _ h => h) (Or.inl ⟨by rfl, ?_⟩) hHeld ?_
                  rotate_left
                  · (intro w0 hSw; (try dsimp only at hSw); go_simp; (try with_reducible rfl))
                  try simp only [Act.put, List.setIfInBounds_toArray, List.set_cons_zero, List.set_cons_succ]
                  refine wpAnyH_take (i := 47) (v := ?_) (by simp only [List.getElem?_toArray, List.getElem?_cons_succ, List.getElem?_cons_zero]; exact rfl) (by kernel_rfl) (by kernel_rfl) (by kernel_rfl) (fun _ _ _ h => h) (Or.inl ⟨by rfl, ?_⟩) hHeld ?_
                  rotate_left
                  · (intro w0 hSw; (try dsimp only at hSw); go_simp; (try with_reducible rfl))
                  try simp only [Act.put, List.setIfInBounds_toArray, List.set_cons_zero, List.set_cons_succ]
                  refine wpAnyH_take (i := 48) (v := ?_) (by simp only [List.getElem?_toArray, List.getElem?_cons_succ, List.getElem?_cons_zero]; exact rfl) (by kernel_rfl) (by kernel_rfl) (by kernel_rfl) (fun _ _ _ h => h) (Or.inl ⟨by rfl, ?_⟩) hHeld ?_
                  rotate_left
                  · (intro w0 hSw; (try dsimp only at hSw); go_simp; (try with_reducible rfl))
                  try simp only [Act.put, List.setIfInBounds_toArray, List.set_cons_zero, List.set_cons_succ]
                  refine wpAnyH_take (i := 49) (v := ?_) (by simp only [List.getElem?_toArray, List.getElem?_cons_succ, List.getElem?_cons_zero]; exact rfl) (by kernel_rfl) (by kernel_rfl) (by kernel_rfl) (fun _ _ _ h => h) (Or.inl ⟨by rfl, ?_⟩) hHeld ?_
                  rotate_left
                  · (intro w0 hSw; (try dsimp only at hSw); go_simp; (try with_reducible rfl))
                  try simp only [Act.put, List.setIfInBounds_toArray, List.set_cons_zero, List.set_cons_succ]
                  refine wpAnyH_take (i := 50) (v := ?_) (by simp only [List.getElem?_toArray, List.getElem?_cons_succ, List.getElem?_cons_zero]; exact rfl) (by kernel_rfl) (by kernel_rfl) (by kernel_rfl) (fun _ _ _ h => h) (Or.inl ⟨by rfl, ?_⟩) hHeld ?_
                  rotate_left
                  · (intro w0 hSw; (try dsimp only at hSw); go_simp; (try with_reducible rfl))
                  try simp only [Act.put, List.setIfInBounds_toArray, List.set_cons_zero, List.set_cons_succ]
                  refine wpAnyH_take (i := 51) (v := undef) (by simp only [List.getElem?_toArray, List.getElem?_cons_succ, List.getElem?_cons_zero]; exact rfl) (by kernel_rfl) (by kernel_rfl) (by kernel_rfl) (fun _ _ _ h => h) (Or.inr ⟨by rfl, rfl⟩) hHeld ?_
                  try simp only [Act.put, List.setIfInBounds_toArray, List.set_cons_zero, List.set_cons_succ]
                  refine wpAnyH_take (i := 52) (v := undef) (by simp only [List.getElem?_toArray, List.getElem?_cons_succ, List.getElem?_cons_zero]; exact rfl) (by kernel_rfl) (by kernel_rfl) (by kernel_rfl) (fun _ _ _ h => h) (Or.inr ⟨by rfl, rfl⟩) hHeld ?_
                  try simp only [Act.put, List.setIfInBounds_toArray, List.set_cons_zero, List.set_cons_succ]
                  refine wpAnyH_take (i := 53) (v := ?_) (by simp only [List.getElem?_toArray, List.getElem?_cons_succ, List.getElem?_cons_zero]; exact rfl) (by kernel_rfl) (by kernel_rfl) (by kernel_rfl) (fun _ _ _ h => h) (Or.inl ⟨by rfl, ?_⟩) hHeld ?_
                  rotate_left
                  · (intro w0 hSw; (try dsimp only at hSw); go_simp; (try with_reducible rfl))
                  try simp only [Act.put, List.setIfInBounds_toArray, List.set_cons_zero, List.set_cons_succ]
                  refine wpAnyH_take (i := 54) (v := ?_) (by simp only [List.getElem?_toArray, List.getElem?_cons_succ, List.getElem?_cons_zero]; exact rfl) (by kernel_rfl) (by kernel_rfl) (by kernel_rfl) (fun _ _ _ h => h) (Or.inl ⟨by rfl, ?_⟩) hHeld ?_
                  rotate_left
                  · (intro w0 hSw; (try dsimp only at hSw); go_simp; (try with_reducible rfl))
                  try simp only [Act.put, List.setIfInBounds_toArray, List.set_cons_zero, List.set_cons_succ]
                  refine wpAnyH_done (by kernel_rfl) ?_ _
                  refine NoPanic.normal ?_
                  go_wp2_with fail
                  have K7 := Lib.hid (Below.step (below_drawn w4) B7.out)
                  have G7 := Lib.hid (G4.out.stay K7.out)
                  clear B5 B6 B7 R5 GD
                  ((with_reducible refine (all_l G7.out.ll).mono ?_); rintro e w8 ⟨A8, c8, rfl, hm8, -, hc8, hb8⟩)
                  have M8 := Lib.hid (show CopyRel w7 A8 n1 c8 (.int .i64 0) w8 from ⟨0, _, rfl, Nat.zero_le _, G7.out.ll.len.symm, hm8, hb8⟩)
                  clear hm8 hb8
                  go_wp2_with fail
                  go_loopw [17] (fun i wr => CopyRel w7 A8 n1 c8 i wr) (fun i _ => n1 - (intOf i).toNat)
                  case atStart => exact M8.out
                  case round =>
                    clear M8
                    obtain ⟨i, zs, rfl, hi, hz, hm, hbz⟩ := hrel
                    by_cases hil : i < n1
                    · obtain ⟨g, rfl, hcell, hfro, hset⟩ := copy_cell hm hz hil hbz
                      generalize zs[i]'(by omega) = y at hcell
                      have HZ := Lib.hid hset
                      have HQ := Lib.hid hz
                      clear hm hbz hset hz
                      go_wp2_with fail
                      exact ⟨⟨i + 1, _, by simp, hil, by rw [List.length_set]; exact HQ.out, (HZ.out _).1, (HZ.out _).2⟩, by simp [intOf]; omega⟩
                    · obtain rfl : i = n1 := by omega
                      have KB := Lib.hid hbz
                      clear hm hbz hz
                      have y0 := old_cell KB.out x0
                      have y1 := old_cell KB.out x1
                      have y2 := old_cell KB.out x2
                      generalize wr = w9 at *
                      have GE := Lib.hid ((G7.out.stay KB.out).stay (below_drawn w9))
                      have z0 := old_cell (below_drawn w9) y0
                      have z1 := old_cell (below_drawn w9) y1
                      have z2 := old_cell (below_drawn w9) y2
                      go_wp2_with fail
                      go_region_held3 (fun w' => w'.cell? ⟨gA, j * 2, none⟩ = some (.pointer p1) ∧ w'.cell? ⟨gA, j * 2 + 1, none⟩ = some (.int .i64 i) ∧ w'.cell? ⟨gW, j, none⟩ = some (.slice (some ⟨b, o, none⟩) i d1)) (go_keep)
                        (first | (go_at_call 20; ((with_reducible refine (all_l GE.out.ll).mono ?_); rintro e w10 ⟨A10, c10, rfl, -, hr10, -, hb10⟩; have R10 := Lib.hid hr10; have B10 := Lib.hid hb10; have q0 := old_cell hb10 z0; have q1 := old_cell hb10 z1; have q2 := old_cell hb10 z2; clear hr10 hb10)) | (go_at_call 19; ((with_reducible refine (same_two GE.out.ll.len GE.out.sl.len R10.out (GE.out.sl.row.stay B10.out) GE.out.ll.lt).mono ?_); rintro e w11 ⟨rfl, hb11⟩; have B11 := Lib.hid (Below.step B10.out hb11); have r0 := old_cell (Below.step B10.out hb11) z0; have r1 := old_cell (Below.step B10.out hb11) z1; have r2 := old_cell (Below.step B10.out hb11) z2; clear hb11)))
                      have SF := Lib.hid (S4.out.stay (Below.step K7.out (Below.step KB.out (Below.step (below_drawn w9) B11.out))))
                      clear R10 B10 q0 q1 q2 r0 r1 r2 z0 z1 z2 y0 y1 y2
                      go_wp2_with fail
                      first
                        | exact ⟨⟨j + 1, by simp, by rw [HE.out]; exact hjl, SF.out⟩, by simp [intOf]; omega⟩
                        | (go_roundw; exact ⟨j + 1, by simp, by rw [HE.out]; exact hjl, SF.out⟩; (simp [intOf]; omega))
            · obtain rfl : j = L := by omega
              have HB := Lib.hid hst.below
              clear hst
              go_wp2_with fail
              go_ret
              exact ⟨rfl, HB.out⟩

end Go.Proofs.Ytanhlnhdmkfbfaa
