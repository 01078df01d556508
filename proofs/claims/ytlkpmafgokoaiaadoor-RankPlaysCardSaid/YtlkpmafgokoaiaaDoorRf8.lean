/-
  Contract of the reference's Right (slagheapref05): whether a tree is well formed; none is. Condition: trees of fewer than 2 to the 28th things.
-/
import Derived.Test.YtlkpmafgokoaiaaDoorRf6
import Derived.Test.YtlkpmafgokoaiaaDoorTr10
namespace Go.Proofs.YtlkpmafgokoaiaaDoor
open Go.Sort Go.RowKit

theorem below_drawn {B : Nat} {W w : World} {k : Nat} (h : Below B W w) : Below B W (w.drewN k) := ⟨h.os, h.tape, h.output, h.size, h.block⟩
theorem all_take_succ {bs : List (Int × Int)} {i : Nat} (h : i < bs.length) (p : Int × Int → Bool) : (bs.take (i + 1)).all p = ((bs.take i).all p && p bs[i]) := by
  have e : bs.take (i + 1) = bs.take i ++ [bs[i]] := by simp
  rw [e, List.all_append]
  simp only [List.all_cons, List.all_nil, Bool.and_true]

set_option maxRecDepth 100000 in
set_option maxHeartbeats 8000000 in
theorem refRight_step (F : Nat → Prop) (n : Nat) (ih : ∀ (t : Tre), t.size < n → ∀ (V : Value) (w : World), RT F w V (some t) → Calls Tryd.prog 24 #[V] w fun e w' => e = .returned (.bool t.right) ∧ Below w.heap.size w w')
    (x1 x2 : Int) (bs : List (Int × Int)) (ks : Wood) (hn : (Tre.mk (x1, x2) bs ks).size = n) (hl : n < 268435456) (V : Value) (w : World) (h : RT F w V (some ⟨(x1, x2), bs, ks⟩)) :
    Calls Tryd.prog 24 #[V] w fun e w' => e = .returned (.bool (Tre.right ⟨(x1, x2), bs, ks⟩)) ∧ Below w.heap.size w w' := by
  obtain ⟨Ab, Ak, cb, ck, kc, rfl, hB, hK, hC, hk0⟩ := h
  have h0 := (Tre.mk (x1, x2) bs ks).size_ne
  have hkl := ks.len_le
  unfold tV
  rw [hn] at h0 ⊢
  simp only []
  have hb0 := (Below.refl w.heap.size w).alloc (Nat.le_refl _) (.cells #[.int .i64 ks.len, .int .i64 x1, .int .i64 x2, .slice Ab bs.length cb, .slice Ak ks.len ck, .int .i64 (n : Nat)] 32)
  have hX := hex_at (new_at (W := w) (o := .cells #[.int .i64 ks.len, .int .i64 x1, .int .i64 x2, .slice Ab bs.length cb, .slice Ak ks.len ck, .int .i64 (n : Nat)] 32) rfl)
  have hbn : bs.length + ks.size + 1 = n := by simp only [Tre.size] at hn; omega
  have hR : Tre.right ⟨(x1, x2), bs, ks⟩ = (besideOk (x1, x2) bs ks.len && ks.right (x1, x2) ks.len) := rfl
  have H := Lib.hid (And.intro (hB.1.row.below hb0) (And.intro (hK.far (Far.below hb0)) (And.intro (hC.far (Far.below hb0)) (And.intro hb0 (And.intro hX (And.intro hbn (And.intro hl hkl)))))))
  have HR0 := Lib.hid hR
  have HI := Lib.hid ih
  have hsz : (w.alloc (.cells #[.int .i64 ks.len, .int .i64 x1, .int .i64 x2, .slice Ab bs.length cb, .slice Ak ks.len ck, .int .i64 (n : Nat)] 32)).heap.size = w.heap.size + 1 := by simp
  have HS := Lib.hid hsz
  clear hB hK hC hk0 hb0 hX hn hl hkl ih hbn hsz hR
  go_enter Tryd.func24, Tryd.ntmps24
  by_cases hgt : ks.len < bs.length
  · have g1 : decide ((ks.len : Int) < (bs.length : Int)) = true := by simp; omega
    have g2 : (ks.len : Int) < (bs.length : Int) := by omega
    have g3 : decide (ks.len < bs.length) = true := by simp; omega
    go_wp2_with fail
    go_ret
    refine ⟨?_, H.out.2.2.2.1⟩
    rw [HR0.out, show besideOk (x1, x2) bs ks.len = false from by simp [besideOk]; omega]
    rfl
  · have g1 : decide ((ks.len : Int) < (bs.length : Int)) = false := by simp; omega
    have g2 : ¬ ((ks.len : Int) < (bs.length : Int)) := by omega
    have g3 : decide (ks.len < bs.length) = false := by simp; omega
    go_wp2_with fail
    have HG := Lib.hid hgt
    clear g1 g2 g3 hgt h0
    generalize w.alloc (.cells #[.int .i64 ks.len, .int .i64 x1, .int .i64 x2, .slice Ab bs.length cb, .slice Ak ks.len ck, .int .i64 (n : Nat)] 32) = w1 at *
    go_loopg [3, 4] bs.length (fun m a u wr => ∃ (i : Nat), a = .int .i64 (i : Int) ∧ i + m = bs.length ∧ ((bs.take i).all fun b => !ltE b (x1, x2)) = true ∧ Below w1.heap.size w1 wr)
    case atStart => exact ⟨0, rfl, by omega, by simp, Below.refl _ _⟩
    case round =>
      obtain ⟨i, rfl, hi, ha, hbe⟩ := hrel
      have d1 := (hbe.cell (p := ⟨w.heap.size, 1, none⟩) (by rw [HS.out]; exact Nat.lt_succ_self _)).trans H.out.2.2.2.2.1.c1
      have d2 := (hbe.cell (p := ⟨w.heap.size, 2, none⟩) (by rw [HS.out]; exact Nat.lt_succ_self _)).trans H.out.2.2.2.2.1.c2
      have d3 := (hbe.cell (p := ⟨w.heap.size, 3, none⟩) (by rw [HS.out]; exact Nat.lt_succ_self _)).trans H.out.2.2.2.2.1.c3
      by_cases hlt : i < bs.length
      · have g1 : decide ((i : Int) < (bs.length : Int)) = true := by simp; omega
        have g2 : (0 : Int) ≤ (i : Int) := by omega
        have g3 : (i : Int) < (bs.length : Int) := by omega
        have g4 : i < bs.length := hlt
        have g5 : decide (i < bs.length) = true := by simp; omega
        have hbl : bs.length < 268435456 := by have := H.out; omega
        have w1' : IntKind.i64.wrap ((i : Int) + 1) = (i : Int) + 1 := by rw [IntKind.wrap_i64]; omega
        obtain ⟨b, o, rfl, hc⟩ := H.out.1 (by omega)
        have hra := row_at hc i hlt
        have c0 := (hbe.cell (p := ⟨b, o + i * 2, none⟩) (block_lt_of_cell hra.1)).trans hra.1
        have c1 := (hbe.cell (p := ⟨b, o + i * 2 + 1, none⟩) (block_lt_of_cell hra.2)).trans hra.2
        have hT := all_take_succ hlt (fun b => !ltE b (x1, x2))
        have hmem := List.getElem_mem hlt
        generalize bs[i] = y at *
        obtain ⟨y1, y2⟩ := y
        have HC := Lib.hid (fun W (hb : Below wr.heap.size wr W) => show W.cell? ⟨w.heap.size, 1, none⟩ = some (.int .i64 x1) ∧ W.cell? ⟨w.heap.size, 2, none⟩ = some (.int .i64 x2) ∧ W.cell? ⟨w.heap.size, 3, none⟩ = some (.slice (some ⟨b, o, none⟩) bs.length cb) ∧ W.cell? ⟨b, o + i * 2, none⟩ = some (.int .i64 y1) ∧ W.cell? ⟨b, o + i * 2 + 1, none⟩ = some (.int .i64 y2) from
          ⟨(hb.cell (block_lt_of_cell d1)).trans d1, (hb.cell (block_lt_of_cell d2)).trans d2, (hb.cell (block_lt_of_cell d3)).trans d3, (hb.cell (block_lt_of_cell c0)).trans c0, (hb.cell (block_lt_of_cell c1)).trans c1⟩)
        cases hv : ltE (y1, y2) (x1, x2) with
        | true =>
          have A := Lib.hid (And.intro hi (And.intro ha (And.intro hbe (And.intro hmem hv))))
          clear hra hi ha hbe hT hmem hbl hlt hc hv
          go_wp2_with fail
          go_region_held3 (fun w' => w'.cell? ⟨w.heap.size, 1, none⟩ = some (.int .i64 x1) ∧ w'.cell? ⟨w.heap.size, 2, none⟩ = some (.int .i64 x2) ∧ w'.cell? ⟨w.heap.size, 3, none⟩ = some (.slice (some ⟨b, o, none⟩) bs.length cb) ∧ w'.cell? ⟨b, o + i * 2, none⟩ = some (.int .i64 y1) ∧ w'.cell? ⟨b, o + i * 2 + 1, none⟩ = some (.int .i64 y2)) (go_keep)
            (first | (go_at_call 32; ((with_reducible refine (refLessE (y1, y2) (x1, x2) _).mono ?_); rintro e w3 ⟨rfl, hb3⟩; rw [A.out.2.2.2.2]; have b3 : Below wr.heap.size wr w3 := (Below.refl _ wr).drew.trans hb3; obtain ⟨k1, k2, k3, k4, k5⟩ := HC.out _ b3; have B3 := Lib.hid (A.out.2.2.1.trans (b3.mono A.out.2.2.1.size)); clear hb3 b3)))
          clear c0 c1 d1 d2 d3 k1 k2 k3 k4 k5
          go_wp2_with fail
          go_ret
          refine ⟨?_, H.out.2.2.2.1.trans (B3.out.mono (by rw [HS.out]; exact Nat.le_succ _))⟩
          rw [HR0.out, show besideOk (x1, x2) bs ks.len = false from by
            simp only [besideOk, Bool.and_eq_false_iff]
            right
            rw [Bool.eq_false_iff]
            intro hall
            rw [List.all_eq_true] at hall
            have := hall _ A.out.2.2.2.1
            rw [A.out.2.2.2.2] at this
            exact absurd this (by simp)]
          rfl
        | false =>
          have A := Lib.hid (And.intro hi (And.intro ha (And.intro hbe (And.intro hT hv))))
          clear hra hi ha hbe hT hmem hbl hlt hc hv
          go_wp2_with fail
          go_region_held3 (fun w' => w'.cell? ⟨w.heap.size, 1, none⟩ = some (.int .i64 x1) ∧ w'.cell? ⟨w.heap.size, 2, none⟩ = some (.int .i64 x2) ∧ w'.cell? ⟨w.heap.size, 3, none⟩ = some (.slice (some ⟨b, o, none⟩) bs.length cb) ∧ w'.cell? ⟨b, o + i * 2, none⟩ = some (.int .i64 y1) ∧ w'.cell? ⟨b, o + i * 2 + 1, none⟩ = some (.int .i64 y2)) (go_keep)
            (first | (go_at_call 32; ((with_reducible refine (refLessE (y1, y2) (x1, x2) _).mono ?_); rintro e w3 ⟨rfl, hb3⟩; rw [A.out.2.2.2.2]; have b3 : Below wr.heap.size wr w3 := (Below.refl _ wr).drew.trans hb3; obtain ⟨k1, k2, k3, k4, k5⟩ := HC.out _ b3; have B3 := Lib.hid (A.out.2.2.1.trans (b3.mono A.out.2.2.1.size)); clear hb3 b3)))
          clear c0 c1 d1 d2 d3 k1 k2 k3 k4 k5
          go_wp2_with fail
          go_roundg (bs.length - (i + 1))
          case measure => have := A.out.1; omega
          case rel => exact ⟨i + 1, by congr 1, by have := A.out.1; omega, by rw [A.out.2.2.2.1, A.out.2.1, A.out.2.2.2.2]; rfl, B3.out⟩
      · obtain rfl : i = bs.length := by omega
        have g1 : decide ((bs.length : Int) < (bs.length : Int)) = false := by simp
        rw [List.take_length] at *
        have HB := Lib.hid (show besideOk (x1, x2) bs ks.len = true by simp only [besideOk, Bool.and_eq_true, decide_eq_true_eq]; exact ⟨by have := HG.out; omega, ha⟩)
        have HW := Lib.hid hbe
        clear hi hlt hbe ha
        go_wp2_with fail
        clear g1 d1 d2 d3
        go_loopg [5, 6, 7] ks.len (fun m a u v wr => ∃ (i : Nat) (rest : Wood), a = .int .i64 (i : Int) ∧ i + rest.len = ks.len ∧ m = rest.len ∧ rest.size ≤ ks.size ∧ rest.right (x1, x2) rest.len = ks.right (x1, x2) ks.len ∧ KL F w1 rest (kc.drop (i * 6)) ∧ Below w1.heap.size w1 wr)
        case atStart => exact ⟨0, ks, rfl, by omega, rfl, Nat.le_refl _, rfl, H.out.2.1, HW.out⟩
        case round =>
          clear HW
          obtain ⟨i, rest, rfl, hi, hm, hsz, hx, hk, hbe⟩ := hrel
          have dn : ∀ o v, w1.cell? ⟨w.heap.size, o, none⟩ = some v → wr.cell? ⟨w.heap.size, o, none⟩ = some v := fun o v h => (hbe.cell (p := ⟨w.heap.size, o, none⟩) (by rw [HS.out]; exact Nat.lt_succ_self _)).trans h
          have d0 := dn _ _ H.out.2.2.2.2.1.c0
          have d1 := dn _ _ H.out.2.2.2.2.1.c1
          have d2 := dn _ _ H.out.2.2.2.2.1.c2
          have d4 := dn _ _ H.out.2.2.2.2.1.c4
          clear dn
          cases rest with
          | nil =>
            simp only [Wood.len, Nat.add_zero] at hi
            have g1 : decide ((i : Int) < (ks.len : Int)) = false := by simp; omega
            have g4 : ¬ i < ks.len := by omega
            have g5 : decide (i < ks.len) = false := by simp; omega
            have A := Lib.hid (And.intro hx hbe)
            clear hx hbe hk hi hm hsz
            go_wp2_with fail
            go_ret
            refine ⟨?_, H.out.2.2.2.1.trans (A.out.2.mono (by rw [HS.out]; exact Nat.le_succ _))⟩
            rw [HR0.out, HB.out, ← A.out.1]
            rfl
          | cons y cs cks rest =>
            obtain ⟨y1, y2⟩ := y
            obtain ⟨kb, ko, Ab', Ak', cb', ck', rfl, ⟨e0, e1, e2, e3, e4, e5⟩, hR, hk'⟩ := kid_at H.out.2.2.1 hk
            have up : ∀ b o v, w1.cell? ⟨b, o, none⟩ = some v → wr.cell? ⟨b, o, none⟩ = some v := fun b o v h => (hbe.cell (p := ⟨b, o, none⟩) (block_lt_of_cell h)).trans h
            have f0 := up _ _ _ e0
            have f1 := up _ _ _ e1
            have f2 := up _ _ _ e2
            have f3 := up _ _ _ e3
            have f4 := up _ _ _ e4
            have f5 := up _ _ _ e5
            have HR := Lib.hid (hR.far (Far.below hbe))
            simp only [Wood.len] at hi
            have hlt : i < ks.len := by omega
            have hks : ks.len < 268435456 := by have := H.out; omega
            have g1 : decide ((i : Int) < (ks.len : Int)) = true := by simp; omega
            have g2 : (0 : Int) ≤ (i : Int) := by omega
            have g3 : (i : Int) < (ks.len : Int) := by omega
            have g4 : i < ks.len := hlt
            have g5 : decide (i < ks.len) = true := by simp; omega
            have w1' : IntKind.i64.wrap ((i : Int) + 1) = (i : Int) + 1 := by rw [IntKind.wrap_i64]; omega
            have s1 : IntKind.i64.wrap ((ks.len : Int) - 1) = (ks.len : Int) - 1 := by rw [IntKind.wrap_i64]; omega
            have hU : ks.right (x1, x2) ks.len = ((decide (cks.len = rest.len) && !ltE (y1, y2) (x1, x2)) && Tre.right ⟨(y1, y2), cs, cks⟩ && rest.right (x1, x2) rest.len) := by
              have q1 : ((rest.len + 1 : Nat) : Int) - 1 = rest.len := by omega
              have q2 : ((cks.len : Int) == (rest.len : Int)) = decide (cks.len = rest.len) := by rw [Bool.eq_iff_iff]; simp; omega
              rw [← hx]
              simp only [Wood.right, Wood.len, Tre.right, besideOk]
              rw [q1, q2]
            have hlen : (Tre.mk (y1, y2) cs cks).size < n ∧ rest.size ≤ ks.size := by
              have h2 := H.out.2.2.2.2.2
              simp only [Wood.size, Tre.size] at hsz ⊢
              omega
            have HI1 := Lib.hid (HI.out ⟨(y1, y2), cs, cks⟩ hlen.1)
            obtain ⟨j, hj⟩ : ∃ j, j = rest.len := ⟨_, rfl⟩
            have s2 : IntKind.i64.wrap ((ks.len : Int) - 1 - (i : Int)) = (j : Int) := by rw [IntKind.wrap_i64]; omega
            have HC := Lib.hid (fun W (hb : Below wr.heap.size wr W) => show W.cell? ⟨w.heap.size, 0, none⟩ = some (.int .i64 ks.len) ∧ W.cell? ⟨w.heap.size, 1, none⟩ = some (.int .i64 x1) ∧ W.cell? ⟨w.heap.size, 2, none⟩ = some (.int .i64 x2) ∧ W.cell? ⟨w.heap.size, 4, none⟩ = some (.slice (some ⟨kb, ko, none⟩) ks.len ck) ∧ W.cell? ⟨kb, ko + i * 6, none⟩ = some (.int .i64 cks.len) ∧ W.cell? ⟨kb, ko + i * 6 + 1, none⟩ = some (.int .i64 y1) ∧ W.cell? ⟨kb, ko + i * 6 + 2, none⟩ = some (.int .i64 y2) from
              ⟨(hb.cell (block_lt_of_cell d0)).trans d0, (hb.cell (block_lt_of_cell d1)).trans d1, (hb.cell (block_lt_of_cell d2)).trans d2, (hb.cell (block_lt_of_cell d4)).trans d4, (hb.cell (block_lt_of_cell f0)).trans f0, (hb.cell (block_lt_of_cell f1)).trans f1, (hb.cell (block_lt_of_cell f2)).trans f2⟩)
            generalize Tre.right ⟨(y1, y2), cs, cks⟩ = r1 at *
            generalize (Tre.mk (y1, y2) cs cks).size = z at *
            have A := Lib.hid (And.intro hi (And.intro hm (And.intro hU (And.intro hk' (And.intro hbe (And.intro hlen hj))))))
            clear up hi hm hsz hx hU hk hk' hbe hlen hj e0 e1 e2 e3 e4 e5 hR hlt hks
            go_wp2_with fail
            ((with_reducible refine (HI1.out _ _ (by have := HR.out; simp only [tV] at this; exact this)).mono ?_); rintro e w3 ⟨rfl, hb3⟩)
            obtain ⟨p0, p1, p2, p4, p5, p6, p7⟩ := HC.out _ hb3
            have B3 := Lib.hid hb3
            clear hb3 HI1 HR d0 d1 d2 d4 f0 f1 f2 f3 f4 f5
            go_wp2_with fail
            generalize hvv : ltE (y1, y2) (x1, x2) = r2 at *
            have HV := Lib.hid hvv
            clear hvv
            go_region_held3 (fun w' => w'.cell? ⟨w.heap.size, 1, none⟩ = some (.int .i64 x1) ∧ w'.cell? ⟨w.heap.size, 2, none⟩ = some (.int .i64 x2) ∧ w'.cell? ⟨w.heap.size, 4, none⟩ = some (.slice (some ⟨kb, ko, none⟩) ks.len ck) ∧ w'.cell? ⟨kb, ko + i * 6 + 1, none⟩ = some (.int .i64 y1) ∧ w'.cell? ⟨kb, ko + i * 6 + 2, none⟩ = some (.int .i64 y2)) (go_keep)
              (first | (go_at_call 32; ((with_reducible refine (refLessE (y1, y2) (x1, x2) _).mono ?_); rintro e w4 ⟨rfl, hb4⟩; rw [HV.out]; have b4 : Below wr.heap.size wr w4 := B3.out.trans (((Below.refl _ w3).drew.trans hb4).mono B3.out.size); obtain ⟨k0, k1, k2, k3, k4, k5, k6⟩ := HC.out _ b4; have B4 := Lib.hid (A.out.2.2.2.2.1.trans (b4.mono A.out.2.2.2.2.1.size)); clear hb4 b4)))
            clear p0 p1 p2 p4 p5 p6 p7
            cases r1 with
            | false =>
              go_wp2_with fail
              go_quiet (fail)
              go_wp2_with fail
              go_ret
              refine ⟨?_, H.out.2.2.2.1.trans ((below_drawn B4.out).mono (by rw [HS.out]; exact Nat.le_succ _))⟩
              rw [HR0.out, HB.out, A.out.2.2.1]
              simp
            | true =>
              cases r2 with
              | true =>
                go_wp2_with fail
                go_quiet (fail)
                go_wp2_with fail
                go_ret
                refine ⟨?_, H.out.2.2.2.1.trans ((below_drawn B4.out).mono (by rw [HS.out]; exact Nat.le_succ _))⟩
                rw [HR0.out, HB.out, A.out.2.2.1]
                simp
              | false =>
                by_cases hg : cks.len = j
                · have g0 : ((cks.len : Int) != (j : Int)) = false := by simp; omega
                  have HG2 := Lib.hid hg
                  clear hg
                  go_wp2_with fail
                  go_quiet (fail)
                  clear k0 k1 k2 k3 k4 k5 k6 s1 s2 g0
                  go_wp2_with fail
                  obtain ⟨hi, hm, hU, hk', -, hlen, hj⟩ := A.out
                  go_roundg rest.len
                  case measure => rw [hm]; simp [Wood.len]
                  case rel => exact ⟨i + 1, rest, by congr 1, by omega, rfl, hlen.2, by rw [hU, HG2.out, hj]; simp, hk', below_drawn B4.out⟩
                · have g0 : ((cks.len : Int) != (j : Int)) = true := by simp; omega
                  have HG2 := Lib.hid hg
                  clear hg
                  go_wp2_with fail
                  go_quiet (fail)
                  go_wp2_with fail
                  go_ret
                  refine ⟨?_, H.out.2.2.2.1.trans ((below_drawn B4.out).mono (by rw [HS.out]; exact Nat.le_succ _))⟩
                  rw [HR0.out, HB.out, A.out.2.2.1, ← A.out.2.2.2.2.2.2, decide_eq_false HG2.out]
                  simp

theorem refRight_some (F : Nat → Prop) (n : Nat) : ∀ (t : Tre), t.size = n → n < 268435456 → ∀ (V : Value) (w : World), RT F w V (some t) → Calls Tryd.prog 24 #[V] w fun e w' => e = .returned (.bool t.right) ∧ Below w.heap.size w w' := by
  induction n using Nat.strongRecOn with
  | ind n ih =>
    intro t hn hl V w h
    obtain ⟨⟨x1, x2⟩, bs, ks⟩ := t
    exact refRight_step F n (fun t' hlt V' w' h' => ih _ hlt t' rfl (by omega) V' w' h') x1 x2 bs ks hn hl V w h
set_option maxRecDepth 100000 in
/-- Whether a tree is well formed; none is. -/
theorem refRight_any (F : Nat → Prop) (t : Option Tre) (hl : osize t < 268435456) (V : Value) (w : World) (h : RT F w V t) : Calls Tryd.prog 24 #[V] w fun e w' => e = .returned (.bool (oright t)) ∧ Below w.heap.size w w' := by
  cases t with
  | some t => exact refRight_some F _ t rfl hl V w h
  | none =>
    obtain rfl := h
    unfold tV
    go_enter Tryd.func24, Tryd.ntmps24
    go_wp2_with fail
    go_ret
    exact ⟨rfl, (Below.refl _ _).alloc (Nat.le_refl _) _⟩

end Go.Proofs.YtlkpmafgokoaiaaDoor
