/-
  The walk of the statement RankStays: for any row and any element it returns true, and nothing that was there has changed, in any world where the library's table is as it is laid.
-/
import Derived.Test.YtlkpmafgokoaiaaDoorRst0
namespace Go.Proofs.YtlkpmafgokoaiaaDoor
open Go.Sort Go.RowKit

set_option maxRecDepth 100000 in
set_option maxHeartbeats 1000000 in
/-- A row of fewer than four, or more than sixty: true at once. -/
theorem stays_out (A : Option Addr) (n c : Nat) (x1 x2 : Int) (w : World) (he : Env w) (hn : n < 4 ∨ 60 < n) :
    Calls Tryd.prog 6 #[.slice A n c, el (x1, x2)] w fun e w' => e = .returned (.bool true) ∧ Below w.heap.size w w' := by
  have HE := Lib.hid (awake_any _ (he.below ((Below.refl w.heap.size w).alloc (Nat.le_refl _) (.cells #[.int .i64 x1, .int .i64 x2] 28))))
  have HB := Lib.hid ((Below.refl w.heap.size w).alloc (Nat.le_refl _) (.cells #[.int .i64 x1, .int .i64 x2] 28))
  clear he
  by_cases h : n < 4
  · have h1 : decide ((n : Int) < 4) = true := by simp; omega
    clear hn
    go_enter Tryd.func6, Tryd.ntmps6
    go_wp2_with fail
    ((with_reducible refine HE.out.mono ?_); rintro e w1 ⟨rfl, hb1⟩)
    have B := Lib.hid (HB.out.trans (hb1.mono HB.out.size))
    clear hb1 HE HB
    go_wp2_with fail
    go_ret
    exact ⟨rfl, B.out⟩
  · have h1 : decide ((n : Int) < 4) = false := by simp; omega
    have h2 : decide (60 < (n : Int)) = true := by simp; omega
    clear hn h
    go_enter Tryd.func6, Tryd.ntmps6
    go_wp2_with fail
    ((with_reducible refine HE.out.mono ?_); rintro e w1 ⟨rfl, hb1⟩)
    have B := Lib.hid (HB.out.trans (hb1.mono HB.out.size))
    clear hb1 HE HB
    go_wp2_with fail
    go_ret
    exact ⟨rfl, B.out⟩

set_option maxRecDepth 100000 in
set_option maxHeartbeats 8000000 in
theorem stays_in (b o n c : Nat) (x1 x2 u1 u2 v1 v2 s1 s2 t1 t2 : Int) (hn : 4 ≤ n) (hn2 : n ≤ 60) (w : World) (he : Env w)
    (hu : w.cell? ⟨b, o, none⟩ = some (.int .i64 u1) ∧ w.cell? ⟨b, o + 1, none⟩ = some (.int .i64 u2)) (hv : w.cell? ⟨b, o + 2, none⟩ = some (.int .i64 v1) ∧ w.cell? ⟨b, o + 2 + 1, none⟩ = some (.int .i64 v2))
    (hs : w.cell? ⟨b, o + 4, none⟩ = some (.int .i64 s1) ∧ w.cell? ⟨b, o + 4 + 1, none⟩ = some (.int .i64 s2)) (ht : w.cell? ⟨b, o + 6, none⟩ = some (.int .i64 t1) ∧ w.cell? ⟨b, o + 6 + 1, none⟩ = some (.int .i64 t2))
    (hf : (in64 x1 ∧ in64 x2) ∧ (in64 u1 ∧ in64 u2) ∧ (in64 v1 ∧ in64 v2) ∧ (in64 s1 ∧ in64 s2) ∧ (in64 t1 ∧ in64 t2)) :
    Calls Tryd.prog 6 #[.slice (some ⟨b, o, none⟩) n c, el (x1, x2)] w fun e w' => e = .returned (.bool true) ∧ Below w.heap.size w w' := by
  have hlt : b < w.heap.size := block_lt_of_cell hu.1
  have HE := Lib.hid (fun W (hb : Below w.heap.size w W) => he.below hb)
  have HC := Lib.hid (fun (j : Nat) (v : Value) (W : World) (hb : Below w.heap.size w W) (h : w.cell? ⟨b, j, none⟩ = some v) => (hb.cell (p := ⟨b, j, none⟩) hlt).trans h)
  have H := Lib.hid (And.intro hu (And.intro hv (And.intro hs ht)))
  have HF := Lib.hid hf
  have h1 : decide ((n : Int) < 4) = false := by simp; omega
  have h2 : decide (60 < (n : Int)) = false := by simp; omega
  have g0 : (0 : Int) < (n : Int) := by omega
  have g1 : (1 : Int) < (n : Int) := by omega
  have g2 : (2 : Int) < (n : Int) := by omega
  have g3 : (3 : Int) < (n : Int) := by omega
  have g4 : 0 < n := by omega
  have g5 : 1 < n := by omega
  have g6 : 2 < n := by omega
  have g7 : 3 < n := by omega
  clear he hu hv hs ht hf hlt
  go_enter Tryd.func6, Tryd.ntmps6
  go_wp2_with fail
  have HX := Lib.hid (PairAt.new w x1 x2 28)
  have hb0 := ((Below.refl w.heap.size w).alloc (Nat.le_refl _) (.cells #[.int .i64 x1, .int .i64 x2] 28))
  ((with_reducible refine (awake_any _ (HE.out _ hb0)).mono ?_); rintro e w1 ⟨rfl, hb1⟩)
  have P1 := Lib.hid (And.intro (HX.out.below hb1 HX.out.lt) (hb0.trans (hb1.mono hb0.size)))
  clear hb0 hb1 HX
  have a0 := HC.out o _ _ P1.out.2 H.out.1.1
  have a1 := HC.out (o + 1) _ _ P1.out.2 H.out.1.2
  have a2 := HC.out (o + 2) _ _ P1.out.2 H.out.2.1.1
  have a3 := HC.out (o + 2 + 1) _ _ P1.out.2 H.out.2.1.2
  go_wp2_with fail
  clear h1 h2
  go_region_held3 (fun w' => w'.cell? ⟨b, o, none⟩ = some (.int .i64 u1) ∧ w'.cell? ⟨b, o + 1, none⟩ = some (.int .i64 u2) ∧ w'.cell? ⟨b, o + 2, none⟩ = some (.int .i64 v1) ∧ w'.cell? ⟨b, o + 2 + 1, none⟩ = some (.int .i64 v2)) (go_keep)
    (first | (go_at_call 12; ((with_reducible refine (linkN p2 p3 (some (leafT (u1, u2))) (some (leafT (v1, v2))) _ T3.out.1 T3.out.2.1 (leaf_lt28 _) (leaf_lt28 _)).mono ?_); rintro e w4 ⟨p4, rfl, ht4, hb4⟩; have T4 := Lib.hid (And.intro ht4 (And.intro (T3.out.2.2.1.trans (hb4.mono T3.out.2.2.1.size)) (T3.out.2.2.2.trans (hb4.mono T3.out.2.2.2.size)))); have f0 := HC.out o _ _ T4.out.2.2 H.out.1.1; have f1 := HC.out (o + 1) _ _ T4.out.2.2 H.out.1.2; have f2 := HC.out (o + 2) _ _ T4.out.2.2 H.out.2.1.1; have f3 := HC.out (o + 2 + 1) _ _ T4.out.2.2 H.out.2.1.2; clear ht4 hb4)) | (go_at_call 11; ((with_reducible refine (leafN (u1, u2) _).mono ?_); rintro e w2 ⟨p2, rfl, ht2, hb2⟩; have T2 := Lib.hid (And.intro ht2 (And.intro ((Below.refl w1.heap.size w1).drew.trans hb2) (P1.out.2.trans (((Below.refl w1.heap.size w1).drew.trans hb2).mono P1.out.2.size)))); have d0 := HC.out o _ _ T2.out.2.2 H.out.1.1; have d1 := HC.out (o + 1) _ _ T2.out.2.2 H.out.1.2; have d2 := HC.out (o + 2) _ _ T2.out.2.2 H.out.2.1.1; have d3 := HC.out (o + 2 + 1) _ _ T2.out.2.2 H.out.2.1.2; clear ht2 hb2)) | (go_at_call 11; ((with_reducible refine (leafN (v1, v2) _).mono ?_); rintro e w3 ⟨p3, rfl, ht3, hb3⟩; have T3 := Lib.hid (And.intro (T2.out.1.stay hb3) (And.intro ht3 (And.intro (T2.out.2.1.trans (hb3.mono T2.out.2.1.size)) (T2.out.2.2.trans (hb3.mono T2.out.2.2.size))))); have e0 := HC.out o _ _ T3.out.2.2.2 H.out.1.1; have e1 := HC.out (o + 1) _ _ T3.out.2.2.2 H.out.1.2; have e2 := HC.out (o + 2) _ _ T3.out.2.2.2 H.out.2.1.1; have e3 := HC.out (o + 2 + 1) _ _ T3.out.2.2.2 H.out.2.1.2; clear ht3 hb3)))
  clear a0 a1 a2 a3 d0 d1 d2 d3 e0 e1 e2 e3 f0 f1 f2 f3 T2 T3
  have P4 := Lib.hid (And.intro (P1.out.1.below T4.out.2.1 P1.out.1.lt) (And.intro (show TAt w4 p4 (some (lnk (leafT (u1, u2)) (leafT (v1, v2)))) from T4.out.1) T4.out.2.2))
  clear T4 P1
  have a0 := HC.out (o + 4) _ _ P4.out.2.2 H.out.2.2.1.1
  have a1 := HC.out (o + 4 + 1) _ _ P4.out.2.2 H.out.2.2.1.2
  have a2 := HC.out (o + 6) _ _ P4.out.2.2 H.out.2.2.2.1
  have a3 := HC.out (o + 6 + 1) _ _ P4.out.2.2 H.out.2.2.2.2
  have a4 := P4.out.1.c0
  have a5 := P4.out.1.c1
  go_wp2_with fail
  go_region_held3 (fun w' => w'.cell? ⟨b, o + 4, none⟩ = some (.int .i64 s1) ∧ w'.cell? ⟨b, o + 4 + 1, none⟩ = some (.int .i64 s2) ∧ w'.cell? ⟨b, o + 6, none⟩ = some (.int .i64 t1) ∧ w'.cell? ⟨b, o + 6 + 1, none⟩ = some (.int .i64 t2) ∧ w'.cell? ⟨w.heap.size, 0, none⟩ = some (.int .i64 x1) ∧ w'.cell? ⟨w.heap.size, 1, none⟩ = some (.int .i64 x2)) (go_keep)
    (first | (go_at_call 14; ((with_reducible refine (skewN (x1, x2) p5 p6 (some (leafT (s1, s2))) (some (leafT (t1, t2))) _ T6.out.1 T6.out.2.1 (leaf_lt28 _) (leaf_lt28 _)).mono ?_); rintro e w7 ⟨p7, rfl, ht7, hb7⟩; have T7 := Lib.hid (And.intro ht7 (And.intro (T6.out.2.2.1.trans (hb7.mono T6.out.2.2.1.size)) (T6.out.2.2.2.trans (hb7.mono T6.out.2.2.2.size)))); have f0 := HC.out (o + 4) _ _ T7.out.2.2 H.out.2.2.1.1; have f1 := HC.out (o + 4 + 1) _ _ T7.out.2.2 H.out.2.2.1.2; have f2 := HC.out (o + 6) _ _ T7.out.2.2 H.out.2.2.2.1; have f3 := HC.out (o + 6 + 1) _ _ T7.out.2.2 H.out.2.2.2.2; have f4 := (P4.out.1.below T7.out.2.1 P4.out.1.lt).c0; have f5 := (P4.out.1.below T7.out.2.1 P4.out.1.lt).c1; clear ht7 hb7)) | (go_at_call 11; ((with_reducible refine (leafN (s1, s2) _).mono ?_); rintro e w5 ⟨p5, rfl, ht5, hb5⟩; have T5 := Lib.hid (And.intro ht5 (And.intro ((Below.refl w4.heap.size w4).drew.trans hb5) (P4.out.2.2.trans (((Below.refl w4.heap.size w4).drew.trans hb5).mono P4.out.2.2.size)))); have d0 := HC.out (o + 4) _ _ T5.out.2.2 H.out.2.2.1.1; have d1 := HC.out (o + 4 + 1) _ _ T5.out.2.2 H.out.2.2.1.2; have d2 := HC.out (o + 6) _ _ T5.out.2.2 H.out.2.2.2.1; have d3 := HC.out (o + 6 + 1) _ _ T5.out.2.2 H.out.2.2.2.2; have d4 := (P4.out.1.below T5.out.2.1 P4.out.1.lt).c0; have d5 := (P4.out.1.below T5.out.2.1 P4.out.1.lt).c1; clear ht5 hb5)) | (go_at_call 11; ((with_reducible refine (leafN (t1, t2) _).mono ?_); rintro e w6 ⟨p6, rfl, ht6, hb6⟩; have T6 := Lib.hid (And.intro (T5.out.1.stay hb6) (And.intro ht6 (And.intro (T5.out.2.1.trans (hb6.mono T5.out.2.1.size)) (T5.out.2.2.trans (hb6.mono T5.out.2.2.size))))); have e0 := HC.out (o + 4) _ _ T6.out.2.2.2 H.out.2.2.1.1; have e1 := HC.out (o + 4 + 1) _ _ T6.out.2.2.2 H.out.2.2.1.2; have e2 := HC.out (o + 6) _ _ T6.out.2.2.2 H.out.2.2.2.1; have e3 := HC.out (o + 6 + 1) _ _ T6.out.2.2.2 H.out.2.2.2.2; have e4 := (P4.out.1.below T6.out.2.2.1 P4.out.1.lt).c0; have e5 := (P4.out.1.below T6.out.2.2.1 P4.out.1.lt).c1; clear ht6 hb6)))
  clear a0 a1 a2 a3 a4 a5 d0 d1 d2 d3 d4 d5 e0 e1 e2 e3 e4 e5 f0 f1 f2 f3 f4 f5 T5 T6
  have hS : fits (oall (some (lnk (leafT (u1, u2)) (leafT (v1, v2))))) ∧ (lnk (leafT (u1, u2)) (leafT (v1, v2))).size = 2 ∧ (lnk (leafT (u1, u2)) (leafT (v1, v2))).ks.len = 1 := ⟨lnk_fits (leaf_fits HF.out.2.1) (leaf_fits HF.out.2.2.1), by rw [lnk_size]; rfl, lnk_len rfl rfl⟩
  have hT : fits (oall (some (skw (x1, x2) (lnk (leafT (s1, s2)) (leafT (t1, t2)))))) ∧ (skw (x1, x2) (lnk (leafT (s1, s2)) (leafT (t1, t2)))).size = 3 ∧ (skw (x1, x2) (lnk (leafT (s1, s2)) (leafT (t1, t2)))).ks.len = 1 := ⟨skw_fits HF.out.1 (lnk_fits (leaf_fits HF.out.2.2.2.1) (leaf_fits HF.out.2.2.2.2)), by rw [skw_size, lnk_size]; rfl, by rw [skw_len]; exact lnk_len rfl rfl⟩
  have P7 := Lib.hid (And.intro (P4.out.1.below T7.out.2.1 P4.out.1.lt) (And.intro (P4.out.2.1.stay T7.out.2.1) (And.intro (show TAt w7 p7 (some (skw (x1, x2) (lnk (leafT (s1, s2)) (leafT (t1, t2))))) from T7.out.1) T7.out.2.2)))
  clear T7 P4 H HC
  generalize lnk (leafT (u1, u2)) (leafT (v1, v2)) = S at *
  generalize skw (x1, x2) (lnk (leafT (s1, s2)) (leafT (t1, t2))) = T at *
  have HS := Lib.hid (And.intro hS hT)
  clear hS hT
  have hU : (lnk S T).size = 5 ∧ (lnk S T).ks.len = 2 ∧ fits (oall (some (lnk S T))) := ⟨by rw [lnk_size, HS.out.1.2.1, HS.out.2.2.1], lnk_len HS.out.1.2.2 HS.out.2.2.2, lnk_fits HS.out.1.1 HS.out.2.1⟩
  have hV : (skw (x1, x2) (lnk S T)).size = 6 ∧ (skw (x1, x2) (lnk S T)).ks.len = 2 ∧ (skw (x1, x2) (lnk S T)).bs ≠ [] := ⟨by rw [skw_size, hU.1], by rw [skw_len, hU.2.1], skw_beside _ _⟩
  go_wp2_with fail
  ((with_reducible refine (show_any p4 (some S) _ (HE.out _ P7.out.2.2.2) P7.out.2.1 HS.out.1.1 (by simp only [osize, HS.out.1.2.1]; decide)).mono ?_); rintro e w8 ⟨rfl, hb8⟩)
  have P8 := Lib.hid (And.intro (P7.out.1.below hb8 P7.out.1.lt) (And.intro (P7.out.2.1.stay hb8) (And.intro (P7.out.2.2.1.stay hb8) (P7.out.2.2.2.trans (hb8.mono P7.out.2.2.2.size)))))
  clear hb8 P7
  go_wp2_with fail
  ((with_reducible refine (show_any p7 (some T) _ (HE.out _ P8.out.2.2.2) P8.out.2.2.1 HS.out.2.1 (by simp only [osize, HS.out.2.2.1]; decide)).mono ?_); rintro e w9 ⟨rfl, hb9⟩)
  have P9 := Lib.hid (And.intro (P8.out.1.below hb9 P8.out.1.lt) (And.intro (P8.out.2.1.stay hb9) (And.intro (P8.out.2.2.1.stay hb9) (P8.out.2.2.2.trans (hb9.mono P8.out.2.2.2.size)))))
  clear hb9 P8
  go_wp2_with fail
  ((with_reducible refine (linkN p4 p7 (some S) (some T) _ P9.out.2.1 P9.out.2.2.1 (by simp only [osize, HS.out.1.2.1]; decide) (by simp only [osize, HS.out.2.2.1]; decide)).mono ?_); rintro e w10 ⟨p10, rfl, ht10, hb10⟩)
  have P10 := Lib.hid (And.intro (P9.out.1.below hb10 P9.out.1.lt) (And.intro (P9.out.2.1.stay hb10) (And.intro (P9.out.2.2.1.stay hb10) (And.intro (show TAt w10 p10 (some (lnk S T)) from ht10) (P9.out.2.2.2.trans (hb10.mono P9.out.2.2.2.size))))))
  clear hb10 ht10 P9
  have a4 := P10.out.1.c0
  have a5 := P10.out.1.c1
  go_wp2_with fail
  ((with_reducible refine (skewN (x1, x2) p4 p7 (some S) (some T) _ P10.out.2.1 P10.out.2.2.1 (by simp only [osize, HS.out.1.2.1]; decide) (by simp only [osize, HS.out.2.2.1]; decide)).mono ?_); rintro e w11 ⟨p11, rfl, ht11, hb11⟩)
  have P11 := Lib.hid (And.intro (P10.out.2.1.stay hb11) (And.intro (P10.out.2.2.1.stay hb11) (And.intro (P10.out.2.2.2.1.stay hb11) (And.intro (show TAt w11 p11 (some (skw (x1, x2) (lnk S T))) from ht11) (P10.out.2.2.2.2.trans (hb11.mono P10.out.2.2.2.2.size))))))
  clear hb11 ht11 P10 a4 a5
  generalize lnk S T = U at *
  generalize skw (x1, x2) U = V at *
  have HU := Lib.hid (And.intro hU hV)
  clear hU hV
  go_wp2_with fail
  ((with_reducible refine (show_any p10 (some U) _ (HE.out _ P11.out.2.2.2.2) P11.out.2.2.1 HU.out.1.2.2 (by simp only [osize, HU.out.1.1]; decide)).mono ?_); rintro e w12 ⟨rfl, hb12⟩)
  have P12 := Lib.hid (And.intro (P11.out.1.stay hb12) (And.intro (P11.out.2.1.stay hb12) (And.intro (P11.out.2.2.1.stay hb12) (And.intro (P11.out.2.2.2.1.stay hb12) (P11.out.2.2.2.2.trans (hb12.mono P11.out.2.2.2.2.size))))))
  clear hb12 P11
  go_wp2_with fail
  ((with_reducible refine (kids_any p10 (some U) _ P12.out.2.2.1 (by simp only [osize, HU.out.1.1]; decide)).mono ?_); rintro e w13 ⟨v13, ps13, rfl, hk13, hown13, hb13⟩)
  have hl13 : ps13.length = 2 := by rw [hk13.length]; exact HU.out.1.2.1
  obtain ⟨g, k13, rfl, hg, hkc, hkm, hblk⟩ := OwnP.blk hown13 (fun e => by rw [e] at hl13; cases hl13)
  rw [hl13] at hblk hkc ⊢
  have P13 := Lib.hid (And.intro (P12.out.1.stay hb13) (And.intro (P12.out.2.1.stay hb13) (And.intro (P12.out.2.2.1.stay hb13) (And.intro (P12.out.2.2.2.1.stay hb13) (P12.out.2.2.2.2.trans (hb13.mono P12.out.2.2.2.2.size))))))
  have G := Lib.hid (And.intro hblk (Nat.le_trans P12.out.2.2.2.2.size hg))
  clear hb13 P12 hk13 hown13 hl13 hblk hg
  go_wp2_with fail
  clear g0 g1 g2 g3 g4 g5 g6 g7
  have HG := Lib.hid G.out.2
  go_loopg [14] 2 (fun m i wr => ∃ j : Nat, i = .int .i64 (j : Int) ∧ j + m = 2 ∧ PtrBlk wr g 2 ∧ Kp w13 wr ∧ Below w.heap.size w wr)
  case atStart => exact ⟨0, rfl, rfl, G.out.1, Kp.refl _, P13.out.2.2.2.2⟩
  case round =>
    clear G
    obtain ⟨j, rfl, hj, hblk, hkp, hbe⟩ := hrel
    by_cases hlt : j < 2
    · have q1 : (j : Int) < 2 := by omega
      have q2 : (0 : Int) ≤ (j : Int) := by omega
      obtain ⟨z, hz⟩ := hblk.cell j hlt
      have hfz := hblk.frozen j
      have A := Lib.hid (And.intro hj (And.intro hblk (And.intro hkp hbe)))
      clear hj hblk hkp hbe
      go_wp2_with fail
      obtain ⟨hj, hblk, hkp, hbe⟩ := A.out
      go_roundg (1 - j)
      case measure => omega
      case rel => exact ⟨j + 1, by congr 1, by omega, hblk.set j _, hkp.trans (hblk.kp j _), hbe.setCell (p := ⟨g, j, none⟩) HG.out _⟩
    · have hj2 : j = 2 := by omega
      subst hj2
      have A := Lib.hid (And.intro hkp hbe)
      clear hj hblk hkp hbe hlt
      go_wp2_with fail
      have P14 := Lib.hid (And.intro (P13.out.1.kp A.out.1) (And.intro (P13.out.2.1.kp A.out.1) (And.intro (P13.out.2.2.1.kp A.out.1) (And.intro (P13.out.2.2.2.1.kp A.out.1) A.out.2))))
      clear A P13 HG
      ((with_reducible refine (all_any p11 (some V) _ P14.out.2.2.2.1 (by simp only [osize, HU.out.2.1]; decide)).mono ?_); rintro e w15 ⟨v15, rfl, hown15, hb15⟩)
      have hl15 : (oall (some V)).length = 6 := by rw [show oall (some V) = V.all from rfl, Tre.all_length]; exact HU.out.2.1
      obtain ⟨g2, k15, rfl, hg2, hkc2, hkm2, hblk2⟩ := hown15.blk (fun e => by rw [e] at hl15; cases hl15)
      rw [hl15] at hblk2 hkc2 ⊢
      have P15 := Lib.hid (And.intro (P14.out.1.stay hb15) (And.intro (P14.out.2.1.stay hb15) (And.intro (P14.out.2.2.1.stay hb15) (And.intro (P14.out.2.2.2.1.stay hb15) (P14.out.2.2.2.2.trans (hb15.mono P14.out.2.2.2.2.size))))))
      have G2 := Lib.hid (And.intro hblk2 (Nat.le_trans P14.out.2.2.2.2.size hg2))
      clear hb15 P14 hown15 hl15 hblk2 hg2
      go_wp2_with fail
      ((with_reducible refine (beside_any p11 (some V) _ P15.out.2.2.2.1 (by simp only [osize, HU.out.2.1]; decide)).mono ?_); rintro e w16 ⟨v16, rfl, hown16, hb16⟩)
      obtain ⟨g3, k16, rfl, hg3, hkc3, hkm3, hblk3⟩ := hown16.blk (show obeside (some V) ≠ [] from HU.out.2.2.2)
      have hnb : (obeside (some V)).length ≤ 6 := by have := HU.out.2.1; simp only [Tre.size] at this; show V.bs.length ≤ 6; omega
      generalize (obeside (some V)).length = nb at *
      have P16 := Lib.hid (And.intro (P15.out.1.stay hb16) (And.intro (P15.out.2.1.stay hb16) (And.intro (P15.out.2.2.1.stay hb16) (And.intro (P15.out.2.2.2.1.stay hb16) (P15.out.2.2.2.2.trans (hb16.mono P15.out.2.2.2.2.size))))))
      have G3 := Lib.hid (And.intro hblk3 (Nat.le_trans P15.out.2.2.2.2.size hg3))
      have G22 := Lib.hid (G2.out.1.stay hb16)
      have HG2 := Lib.hid G2.out.2
      have HG3 := Lib.hid G3.out.2
      clear hb16 P15 hown16 hblk3 hg3 G2
      go_wp2_with fail
      go_loopg [17] 6 (fun m i wr => ∃ j : Nat, i = .int .i64 (j : Int) ∧ j + m = 6 ∧ IntBlk wr g2 (6 * 2) ∧ IntBlk wr g3 (nb * 2) ∧ Kp w16 wr ∧ Below w.heap.size w wr)
      case atStart => exact ⟨0, rfl, rfl, G22.out, G3.out.1, Kp.refl _, P16.out.2.2.2.2⟩
      case round =>
        clear G22 G3
        obtain ⟨j, rfl, hj, hblk, hblk3, hkp, hbe⟩ := hrel
        by_cases hlt : j < 6
        · have q1 : (j : Int) < 6 := by omega
          have q2 : (0 : Int) ≤ (j : Int) := by omega
          obtain ⟨z, hz⟩ := hblk.cell (j * 2) (by omega)
          have hfz := hblk.frozen (j * 2)
          have A := Lib.hid (And.intro hj (And.intro hblk (And.intro hblk3 (And.intro hkp hbe))))
          clear hj hblk hblk3 hkp hbe
          go_wp2_with fail
          obtain ⟨hj, hblk, hblk3, hkp, hbe⟩ := A.out
          go_roundg (5 - j)
          case measure => omega
          case rel => exact ⟨j + 1, by congr 1, by omega, hblk.set _ _, hblk3.other _ _ _, hkp.trans (hblk.kp _ _), hbe.setCell (p := ⟨g2, j * 2, none⟩) HG2.out _⟩
        · have hj2 : j = 6 := by omega
          subst hj2
          have A := Lib.hid (And.intro hblk3 (And.intro hkp hbe))
          clear hj hblk hblk3 hkp hbe hlt
          go_wp2_with fail
          go_loopg [18] nb (fun m i wr => ∃ j : Nat, i = .int .i64 (j : Int) ∧ j + m = nb ∧ IntBlk wr g3 (nb * 2) ∧ Kp w16 wr ∧ Below w.heap.size w wr)
          case atStart => exact ⟨0, rfl, by omega, A.out.1, A.out.2.1, A.out.2.2⟩
          case round =>
            clear A
            obtain ⟨j, rfl, hj, hblk, hkp, hbe⟩ := hrel
            by_cases hlt : j < nb
            · have q1 : (j : Int) < (nb : Int) := by omega
              have q2 : (0 : Int) ≤ (j : Int) := by omega
              obtain ⟨z, hz⟩ := hblk.cell (j * 2) (by omega)
              have hfz := hblk.frozen (j * 2)
              have A := Lib.hid (And.intro hj (And.intro hblk (And.intro hkp hbe)))
              clear hj hblk hkp hbe
              go_wp2_with fail
              obtain ⟨hj, hblk, hkp, hbe⟩ := A.out
              go_roundg (nb - 1 - j)
              case measure => omega
              case rel => exact ⟨j + 1, by congr 1, by omega, hblk.set _ _, hkp.trans (hblk.kp _ _), hbe.setCell (p := ⟨g3, j * 2, none⟩) HG3.out _⟩
            · have hj2 : j = nb := by omega
              subst hj2
              have P17 := Lib.hid (And.intro (P16.out.1.kp hkp) (And.intro (P16.out.2.1.kp hkp) (And.intro (P16.out.2.2.1.kp hkp) (And.intro (P16.out.2.2.2.1.kp hkp) hbe))))
              clear hj hblk hkp hbe hlt P16
              go_wp2_with fail
              ((with_reducible refine (show_any p4 (some S) _ (HE.out _ P17.out.2.2.2.2) P17.out.1 HS.out.1.1 (by simp only [osize, HS.out.1.2.1]; decide)).mono ?_); rintro e w18 ⟨rfl, hb18⟩)
              have P18 := Lib.hid (And.intro (P17.out.2.1.stay hb18) (And.intro (P17.out.2.2.1.stay hb18) (And.intro (P17.out.2.2.2.1.stay hb18) (P17.out.2.2.2.2.trans (hb18.mono P17.out.2.2.2.2.size)))))
              clear hb18 P17
              go_wp2_with fail
              ((with_reducible refine (show_any p7 (some T) _ (HE.out _ P18.out.2.2.2) P18.out.1 HS.out.2.1 (by simp only [osize, HS.out.2.2.1]; decide)).mono ?_); rintro e w19 ⟨rfl, hb19⟩)
              have P19 := Lib.hid (And.intro (P18.out.2.1.stay hb19) (And.intro (P18.out.2.2.1.stay hb19) (P18.out.2.2.2.trans (hb19.mono P18.out.2.2.2.size))))
              clear hb19 P18
              go_wp2_with fail
              ((with_reducible refine (show_any p10 (some U) _ (HE.out _ P19.out.2.2) P19.out.1 HU.out.1.2.2 (by simp only [osize, HU.out.1.1]; decide)).mono ?_); rintro e w20 ⟨rfl, hb20⟩)
              have P20 := Lib.hid (And.intro (P19.out.1.stay hb20) (And.intro (P19.out.2.1.stay hb20) (P19.out.2.2.trans (hb20.mono P19.out.2.2.size))))
              clear hb20 P19
              go_wp2_with fail
              ((with_reducible refine (size_any p10 (some U) _ P20.out.1 (by simp only [osize, HU.out.1.1]; decide)).mono ?_); rintro e w21 ⟨rfl, rfl⟩)
              rw [show osize (some U) = 5 from HU.out.1.1]
              go_wp2_with fail
              ((with_reducible refine (size_any p11 (some V) _ P20.out.2.1 (by simp only [osize, HU.out.2.1]; decide)).mono ?_); rintro e w21 ⟨rfl, rfl⟩)
              rw [show osize (some V) = 6 from HU.out.2.1]
              go_wp2_with fail
              ((with_reducible refine (rank_any p10 (some U) _ P20.out.1).mono ?_); rintro e w21 ⟨rfl, rfl⟩)
              rw [show orank (some U) = ((2 : Nat) : Int) from congrArg Nat.cast HU.out.1.2.1]
              go_wp2_with fail
              ((with_reducible refine (rank_any p11 (some V) _ P20.out.2.1).mono ?_); rintro e w21 ⟨rfl, rfl⟩)
              rw [show orank (some V) = ((2 : Nat) : Int) from congrArg Nat.cast HU.out.2.2.1]
              go_wp2_with fail
              go_ret
              exact ⟨rfl, P20.out.2.2⟩

/-- Any row, any element. -/
theorem stays_any (A : Option Addr) (xs : List (Int × Int)) (c : Nat) (x1 x2 : Int) (w : World) (he : Env w) (hr : Row w A xs) (hf : fits xs) (hx : in64 x1 ∧ in64 x2) :
    Calls Tryd.prog 6 #[.slice A xs.length c, el (x1, x2)] w fun e w' => e = .returned (.bool true) ∧ Below w.heap.size w w' := by
  by_cases h : xs.length < 4 ∨ 60 < xs.length
  · exact stays_out A xs.length c x1 x2 w he h
  · obtain ⟨b, o, rfl, hc⟩ := hr (by omega)
    have h0 := row_at hc 0 (by omega)
    have h1 := row_at hc 1 (by omega)
    have h2 := row_at hc 2 (by omega)
    have h3 := row_at hc 3 (by omega)
    have f0 := hf _ (List.getElem_mem (show 0 < xs.length by omega))
    have f1 := hf _ (List.getElem_mem (show 1 < xs.length by omega))
    have f2 := hf _ (List.getElem_mem (show 2 < xs.length by omega))
    have f3 := hf _ (List.getElem_mem (show 3 < xs.length by omega))
    exact stays_in b o xs.length c x1 x2 _ _ _ _ _ _ _ _ (by omega) (by omega) w he h0 h1 h2 h3 ⟨hx, f0, f1, f2, f3⟩

end Go.Proofs.YtlkpmafgokoaiaaDoor
