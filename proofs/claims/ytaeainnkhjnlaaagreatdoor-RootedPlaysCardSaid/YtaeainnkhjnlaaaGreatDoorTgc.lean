/-
  Contracts of the reference's Trees, Meld and Insert (slagheapref07): the trees of two heaps melded, and how many steps there were. Condition: fewer than 2 to the 28th things, all together.
-/
import Derived.Test.YtaeainnkhjnlaaaGreatDoorTgb
namespace Go.Proofs.YtaeainnkhjnlaaaGreatDoor
open Go.Sort Go.RowKit

/-- What Trees of two rows hands back. -/
def TreesR (a b : List Tre) : Prop := ∀ (F : Nat → Prop) (A : Option Addr) (n c : Nat) (B : Option Addr) (m d : Nat) (w : World), (∀ k, w.heap.size ≤ k → F k) → bSize a + bSize b < 268435456 → HAt F w a A n c → HAt F w b B m d →
  Calls Tryz.prog 55 #[.slice A n c, .slice B m d] w (GaveLN F (bmeld a b) (2 * bmeldN a b) w)

set_option maxRecDepth 100000 in
theorem refTrees_nil (b : List Tre) : TreesR [] b := by
  intro F A n c B m d w hF hs ha hb
  obtain rfl : n = 0 := ha.1
  have H := Lib.hid hb
  clear hF hs ha hb
  go_enter Tryz.func55, Tryz.ntmps55
  go_wp2_with fail
  refine bodyPost_ret (v := .tuple #[.slice B m d, .int .i64 0]) (by simp [results, Tryz.results55, go_sem]) rfl ?_
  exact ⟨B, m, d, by rw [bmeldN_nil]; rfl, by rw [bmeld_nil]; exact H.out, Below.refl _ _⟩
set_option maxRecDepth 100000 in
theorem refTrees_right (f : Tre) (a : List Tre) : TreesR (f :: a) [] := by
  intro F A n c B m d w hF hs ha hb
  obtain rfl : m = 0 := hb.1
  have hn : n = a.length + 1 := ha.1
  have z1 : ((n : Int) == 0) = false := by simp; omega
  have z2 : ¬ n = 0 := by omega
  have H := Lib.hid ha
  clear hF hs ha hb hn
  go_enter Tryz.func55, Tryz.ntmps55
  go_wp2_with fail
  refine bodyPost_ret (v := .tuple #[.slice A n c, .int .i64 0]) (by simp [results, Tryz.results55, go_sem]) rfl ?_
  exact ⟨A, n, c, by rw [bmeldN_right]; rfl, by rw [bmeld_right]; exact H.out, Below.refl _ _⟩

set_option maxRecDepth 100000 in
set_option maxHeartbeats 4000000 in
theorem refTrees_lt (f g : Tre) (a b : List Tre) (hr : f.rank < g.rank) (hI : TreesR a (g :: b)) : TreesR (f :: a) (g :: b) := by
  intro F A n c B m d w hF hs ha hb
  obtain ⟨ba, oa, kl, x1, x2, Ab, bl, cb, Ak, ck, sz, rfl, -, ⟨p0, p1, p2, p3, p4, p5⟩, hf⟩ := ha.firstT
  obtain ⟨bb, ob, ul, y1, y2, Bb, dl, db, Bk, dk, uz, rfl, -, ⟨q0, q1, q2, q3, q4, q5⟩, hg⟩ := hb.firstT
  have hs2 : (f.size + bSize a) + (g.size + bSize b) < 268435456 := hs
  have hn := ha.1
  have hm := hb.1
  simp only [List.length_cons] at hn hm
  have hla := bSize_len a
  have hlb := bSize_len b
  have hfp : 0 < f.size := by simp only [Tre.size]; omega
  have hgp : 0 < g.size := by simp only [Tre.size]; omega
  have hc1_ := ha.2.1
  have hc2_ := ha.2.2.1
  have hd1_ := hb.2.1
  have hd2_ := hb.2.2.1
  have HN := Lib.hid (show (n = a.length + 1 ∧ m = b.length + 1) ∧ (n ≤ c ∧ c ≤ 9223372036854775807 ∧ m ≤ d ∧ d ≤ 9223372036854775807) ∧ (f.size + bSize a) + (g.size + bSize b) < 268435456 ∧ n < 268435456 ∧ m < 268435456 ∧ n + m < 268435458 from ⟨⟨hn, hm⟩, ⟨hc1_, hc2_, hd1_, hd2_⟩, hs2, by omega, by omega, by omega⟩)
  have HRA := Lib.hid ha.rest
  have HRB := Lib.hid hb.rest
  unfold TreesR at hI
  have HI := Lib.hid hI
  have H := Lib.hid (And.intro hF (And.intro ha (And.intro hb (And.intro hf hg))))
  have HE := Lib.hid (show kl = f.rank ∧ ul = g.rank from ⟨hf.1.1, hg.1.1⟩)
  have PA := Lib.hid (And.intro p0 (And.intro p1 (And.intro p2 (And.intro p3 (And.intro p4 p5)))))
  have PB := Lib.hid (And.intro q0 (And.intro q1 (And.intro q2 (And.intro q3 (And.intro q4 q5)))))
  have zn1 : ((n : Int) == 0) = false := by simp; omega
  have zn2 : ¬ n = 0 := by omega
  have zn3 : (0 : Int) < (n : Int) := by omega
  have zn4 : 0 < n := by omega
  have zm1 : ((m : Int) == 0) = false := by simp; omega
  have zm2 : ¬ m = 0 := by omega
  have zm3 : (0 : Int) < (m : Int) := by omega
  have zm4 : 0 < m := by omega
  have hkr : kl < ul := by have := HE.out; omega
  have HRR := Lib.hid hr
  have HKR := Lib.hid hkr
  clear hI hF ha hb hf hg hs hs2 hn hm hla hlb hfp hgp hc1_ hc2_ hd1_ hd2_ p1 p2 p3 p4 p5 q1 q2 q3 q4 q5 hr
  go_enter Tryz.func55, Tryz.ntmps55
  go_wp2_with fail
  have g1 : decide ((kl : Int) < (ul : Int)) = true := by simp; omega
  have g2 : (kl : Int) < (ul : Int) := by omega
  have g3 : decide (kl < ul) = true := by simp; omega
  have kc0 := fun d os => cell_regrown p0 d os
  have kc1 := fun d os => cell_regrown q0 d os
  rw [world_self w]
  generalize w.drawn = d0
  generalize (#[] : Array Obj) = os0
  refine wp_region_class (by kernel_rfl) (by kernel_rfl) ?_
  repeat (go_big_quiet_step (fail))
  refine wpQuiet_nil ?_
  intro _ hw'
  obtain ⟨⟨dq, osq⟩, hw''⟩ := hw'
  subst hw''
  have hbq := below_regrown w dq osq
  clear kc0 kc1
  generalize grow (redrawn w dq) osq = wq at *
  have HQ := Lib.hid hbq
  clear hbq hkr
  clear p0 q0
  obtain ⟨kk, hkk⟩ : ∃ q, q = 2 * bmeldN a (g :: b) := ⟨_, rfl⟩
  have HKK := Lib.hid hkk
  clear hkk
  by_cases hc1 : c = 1
  · subst hc1
    have hn1 : n = 1 := by have := HN.out; omega
    subst hn1
    have HL := Lib.hid (HRA.out.1 rfl)
    go_wp2_with fail
    ((with_reducible refine (HI.out F _ _ _ _ _ _ _ (fun k hk => H.out.1 k (by have := HQ.out.size; omega)) (by have := HN.out; simp only [bSize]; omega) (HL.out.stay HQ.out) (H.out.2.2.1.stay HQ.out)).mono ?_); rintro e w3 ⟨A3, n3, c3, rfl, hh, hb3⟩)
    rw [← HKK.out]
    have H3 := Lib.hid (And.intro hh (HQ.out.trans (hb3.mono HQ.out.size)))
    have hlen := hh.1
    have hn3 : n3 < 1000000000 := by have h1 := bmeld_len a (g :: b); have := HN.out; simp only [List.length_cons] at h1; omega
    have HN3 := Lib.hid hn3
    clear hh hb3 hlen hn3
    have c0_ := (H3.out.2.cell (p := ⟨ba, oa, none⟩) (block_lt_of_cell PA.out.1)).trans PA.out.1
    have c1_ := (H3.out.2.cell (p := ⟨ba, oa + 1, none⟩) (block_lt_of_cell PA.out.2.1)).trans PA.out.2.1
    have c2_ := (H3.out.2.cell (p := ⟨ba, oa + 2, none⟩) (block_lt_of_cell PA.out.2.2.1)).trans PA.out.2.2.1
    have c3_ := (H3.out.2.cell (p := ⟨ba, oa + 3, none⟩) (block_lt_of_cell PA.out.2.2.2.1)).trans PA.out.2.2.2.1
    have c4_ := (H3.out.2.cell (p := ⟨ba, oa + 4, none⟩) (block_lt_of_cell PA.out.2.2.2.2.1)).trans PA.out.2.2.2.2.1
    have c5_ := (H3.out.2.cell (p := ⟨ba, oa + 5, none⟩) (block_lt_of_cell PA.out.2.2.2.2.2)).trans PA.out.2.2.2.2.2
    go_wp2_with fail
    ((with_reducible refine (refAheadT w3 (fun k hk => H.out.1 k (by have := H3.out.2.size; omega)) HN3.out H3.out.1 (H.out.2.2.2.1.stay H3.out.2)).mono ?_); rintro e w4 ⟨A4, n4, c4, rfl, hh, hb4⟩)
    have H4 := Lib.hid (And.intro hh (H3.out.2.trans (hb4.mono H3.out.2.size)))
    clear hh hb4
    go_wp2_with fail
    refine bodyPost_ret (v := .tuple #[.slice A4 n4 c4, .int .i64 kk]) (by simp [results, Tryz.results55, go_sem]) rfl ?_
    exact ⟨A4, n4, c4, by rw [bmeldN_lt HRR.out, HKK.out], by rw [bmeld_lt HRR.out]; exact H4.out.1, H4.out.2⟩
  · have HL := Lib.hid HRA.out.2
    have h1c := HN.out.2.1
    have mn0 : ¬ n < 1 := by omega
    have mn1 : 1 ≤ n := by omega
    have mn2 : (1 : Int) ≤ (n : Int) := by omega
    have mn3 : ¬ (n : Int) < 1 := by omega
    have mn4 : ¬ 1 = c := by omega
    have mn5 : 0 < c := by omega
    have mn6 : (n : Int) ≤ (c : Int) := by omega
    have mn7 : (1 : Int) ≤ (c : Int) := by omega
    have mn8 : ¬ c - 1 = 0 := by omega
    have mn9 : ¬ c ≤ 1 := by omega
    have mn10 : 1 < c := by omega
    have mn11 : 1 ≤ c := by omega
    go_wp2_with fail
    ((with_reducible refine (HI.out F _ _ _ _ _ _ _ (fun k hk => H.out.1 k (by have := HQ.out.size; omega)) (by have := HN.out; simp only [bSize]; omega) (HL.out.stay HQ.out) (H.out.2.2.1.stay HQ.out)).mono ?_); rintro e w3 ⟨A3, n3, c3, rfl, hh, hb3⟩)
    rw [← HKK.out]
    have H3 := Lib.hid (And.intro hh (HQ.out.trans (hb3.mono HQ.out.size)))
    have hlen := hh.1
    have hn3 : n3 < 1000000000 := by have h1 := bmeld_len a (g :: b); have := HN.out; simp only [List.length_cons] at h1; omega
    have HN3 := Lib.hid hn3
    clear hh hb3 hlen hn3
    have c0_ := (H3.out.2.cell (p := ⟨ba, oa, none⟩) (block_lt_of_cell PA.out.1)).trans PA.out.1
    have c1_ := (H3.out.2.cell (p := ⟨ba, oa + 1, none⟩) (block_lt_of_cell PA.out.2.1)).trans PA.out.2.1
    have c2_ := (H3.out.2.cell (p := ⟨ba, oa + 2, none⟩) (block_lt_of_cell PA.out.2.2.1)).trans PA.out.2.2.1
    have c3_ := (H3.out.2.cell (p := ⟨ba, oa + 3, none⟩) (block_lt_of_cell PA.out.2.2.2.1)).trans PA.out.2.2.2.1
    have c4_ := (H3.out.2.cell (p := ⟨ba, oa + 4, none⟩) (block_lt_of_cell PA.out.2.2.2.2.1)).trans PA.out.2.2.2.2.1
    have c5_ := (H3.out.2.cell (p := ⟨ba, oa + 5, none⟩) (block_lt_of_cell PA.out.2.2.2.2.2)).trans PA.out.2.2.2.2.2
    go_wp2_with fail
    ((with_reducible refine (refAheadT w3 (fun k hk => H.out.1 k (by have := H3.out.2.size; omega)) HN3.out H3.out.1 (H.out.2.2.2.1.stay H3.out.2)).mono ?_); rintro e w4 ⟨A4, n4, c4, rfl, hh, hb4⟩)
    have H4 := Lib.hid (And.intro hh (H3.out.2.trans (hb4.mono H3.out.2.size)))
    clear hh hb4
    go_wp2_with fail
    refine bodyPost_ret (v := .tuple #[.slice A4 n4 c4, .int .i64 kk]) (by simp [results, Tryz.results55, go_sem]) rfl ?_
    exact ⟨A4, n4, c4, by rw [bmeldN_lt HRR.out, HKK.out], by rw [bmeld_lt HRR.out]; exact H4.out.1, H4.out.2⟩

set_option maxRecDepth 100000 in
set_option maxHeartbeats 4000000 in
theorem refTrees_gt (f g : Tre) (a b : List Tre) (hr : g.rank < f.rank) (hI : TreesR (f :: a) b) : TreesR (f :: a) (g :: b) := by
  intro F A n c B m d w hF hs ha hb
  obtain ⟨ba, oa, kl, x1, x2, Ab, bl, cb, Ak, ck, sz, rfl, -, ⟨p0, p1, p2, p3, p4, p5⟩, hf⟩ := ha.firstT
  obtain ⟨bb, ob, ul, y1, y2, Bb, dl, db, Bk, dk, uz, rfl, -, ⟨q0, q1, q2, q3, q4, q5⟩, hg⟩ := hb.firstT
  have hs2 : (f.size + bSize a) + (g.size + bSize b) < 268435456 := hs
  have hn := ha.1
  have hm := hb.1
  simp only [List.length_cons] at hn hm
  have hla := bSize_len a
  have hlb := bSize_len b
  have hfp : 0 < f.size := by simp only [Tre.size]; omega
  have hgp : 0 < g.size := by simp only [Tre.size]; omega
  have hc1_ := ha.2.1
  have hc2_ := ha.2.2.1
  have hd1_ := hb.2.1
  have hd2_ := hb.2.2.1
  have HN := Lib.hid (show (n = a.length + 1 ∧ m = b.length + 1) ∧ (n ≤ c ∧ c ≤ 9223372036854775807 ∧ m ≤ d ∧ d ≤ 9223372036854775807) ∧ (f.size + bSize a) + (g.size + bSize b) < 268435456 ∧ n < 268435456 ∧ m < 268435456 ∧ n + m < 268435458 from ⟨⟨hn, hm⟩, ⟨hc1_, hc2_, hd1_, hd2_⟩, hs2, by omega, by omega, by omega⟩)
  have HRA := Lib.hid ha.rest
  have HRB := Lib.hid hb.rest
  unfold TreesR at hI
  have HI := Lib.hid hI
  have H := Lib.hid (And.intro hF (And.intro ha (And.intro hb (And.intro hf hg))))
  have HE := Lib.hid (show kl = f.rank ∧ ul = g.rank from ⟨hf.1.1, hg.1.1⟩)
  have PA := Lib.hid (And.intro p0 (And.intro p1 (And.intro p2 (And.intro p3 (And.intro p4 p5)))))
  have PB := Lib.hid (And.intro q0 (And.intro q1 (And.intro q2 (And.intro q3 (And.intro q4 q5)))))
  have zn1 : ((n : Int) == 0) = false := by simp; omega
  have zn2 : ¬ n = 0 := by omega
  have zn3 : (0 : Int) < (n : Int) := by omega
  have zn4 : 0 < n := by omega
  have zm1 : ((m : Int) == 0) = false := by simp; omega
  have zm2 : ¬ m = 0 := by omega
  have zm3 : (0 : Int) < (m : Int) := by omega
  have zm4 : 0 < m := by omega
  have hkr : ul < kl := by have := HE.out; omega
  have HRR := Lib.hid hr
  have HKR := Lib.hid hkr
  clear hI hF ha hb hf hg hs hs2 hn hm hla hlb hfp hgp hc1_ hc2_ hd1_ hd2_ p1 p2 p3 p4 p5 q1 q2 q3 q4 q5 hr
  go_enter Tryz.func55, Tryz.ntmps55
  go_wp2_with fail
  have g1 : decide ((kl : Int) < (ul : Int)) = false := by simp; omega
  have g2 : ¬ (kl : Int) < (ul : Int) := by omega
  have g3 : decide (kl < ul) = false := by simp; omega
  have kc0 := fun d os => cell_regrown p0 d os
  have kc1 := fun d os => cell_regrown q0 d os
  rw [world_self w]
  generalize w.drawn = d0
  generalize (#[] : Array Obj) = os0
  refine wp_region_class (by kernel_rfl) (by kernel_rfl) ?_
  repeat (go_big_quiet_step (fail))
  refine wpQuiet_nil ?_
  intro _ hw'
  obtain ⟨⟨dq, osq⟩, hw''⟩ := hw'
  subst hw''
  have hbq := below_regrown w dq osq
  clear kc0 kc1
  generalize grow (redrawn w dq) osq = wq at *
  have HQ := Lib.hid hbq
  clear hbq hkr
  have p0q := (HQ.out.cell (p := ⟨ba, oa, none⟩) (block_lt_of_cell PA.out.1)).trans PA.out.1
  have q0q := (HQ.out.cell (p := ⟨bb, ob, none⟩) (block_lt_of_cell PB.out.1)).trans PB.out.1
  have hkr := HKR.out
  have gg1 : decide ((ul : Int) < (kl : Int)) = true := by simp; omega
  have gg2 : (ul : Int) < (kl : Int) := by omega
  have gg3 : decide (ul < kl) = true := by simp; omega
  go_wp2_with fail
  have kc0 := fun d os => cell_regrown p0q d os
  have kc1 := fun d os => cell_regrown q0q d os
  rw [world_self wq]
  generalize wq.drawn = d0
  generalize (#[] : Array Obj) = os0
  refine wp_region_class (by kernel_rfl) (by kernel_rfl) ?_
  repeat (go_big_quiet_step (fail))
  refine wpQuiet_nil ?_
  intro _ hw'
  obtain ⟨⟨dq, osq⟩, hw''⟩ := hw'
  subst hw''
  have hbq := below_regrown wq dq osq
  clear kc0 kc1
  generalize grow (redrawn wq dq) osq = wr at *
  have HQ2 := Lib.hid (HQ.out.trans (hbq.mono HQ.out.size))
  clear hbq p0q q0q hkr HQ
  have HQ := HQ2
  clear HQ2
  clear p0 q0
  obtain ⟨kk, hkk⟩ : ∃ q, q = 2 * bmeldN (f :: a) b := ⟨_, rfl⟩
  have HKK := Lib.hid hkk
  clear hkk
  by_cases hd1 : d = 1
  · subst hd1
    have hm1 : m = 1 := by have := HN.out; omega
    subst hm1
    have HL := Lib.hid (HRB.out.1 rfl)
    go_wp2_with fail
    ((with_reducible refine (HI.out F _ _ _ _ _ _ _ (fun k hk => H.out.1 k (by have := HQ.out.size; omega)) (by have := HN.out; simp only [bSize]; omega) (H.out.2.1.stay HQ.out) (HL.out.stay HQ.out)).mono ?_); rintro e w3 ⟨A3, n3, c3, rfl, hh, hb3⟩)
    rw [← HKK.out]
    have H3 := Lib.hid (And.intro hh (HQ.out.trans (hb3.mono HQ.out.size)))
    have hlen := hh.1
    have hn3 : n3 < 1000000000 := by have h1 := bmeld_len (f :: a) b; have := HN.out; simp only [List.length_cons] at h1; omega
    have HN3 := Lib.hid hn3
    clear hh hb3 hlen hn3
    have c0_ := (H3.out.2.cell (p := ⟨bb, ob, none⟩) (block_lt_of_cell PB.out.1)).trans PB.out.1
    have c1_ := (H3.out.2.cell (p := ⟨bb, ob + 1, none⟩) (block_lt_of_cell PB.out.2.1)).trans PB.out.2.1
    have c2_ := (H3.out.2.cell (p := ⟨bb, ob + 2, none⟩) (block_lt_of_cell PB.out.2.2.1)).trans PB.out.2.2.1
    have c3_ := (H3.out.2.cell (p := ⟨bb, ob + 3, none⟩) (block_lt_of_cell PB.out.2.2.2.1)).trans PB.out.2.2.2.1
    have c4_ := (H3.out.2.cell (p := ⟨bb, ob + 4, none⟩) (block_lt_of_cell PB.out.2.2.2.2.1)).trans PB.out.2.2.2.2.1
    have c5_ := (H3.out.2.cell (p := ⟨bb, ob + 5, none⟩) (block_lt_of_cell PB.out.2.2.2.2.2)).trans PB.out.2.2.2.2.2
    go_wp2_with fail
    ((with_reducible refine (refAheadT w3 (fun k hk => H.out.1 k (by have := H3.out.2.size; omega)) HN3.out H3.out.1 (H.out.2.2.2.2.stay H3.out.2)).mono ?_); rintro e w4 ⟨A4, n4, c4, rfl, hh, hb4⟩)
    have H4 := Lib.hid (And.intro hh (H3.out.2.trans (hb4.mono H3.out.2.size)))
    clear hh hb4
    go_wp2_with fail
    refine bodyPost_ret (v := .tuple #[.slice A4 n4 c4, .int .i64 kk]) (by simp [results, Tryz.results55, go_sem]) rfl ?_
    exact ⟨A4, n4, c4, by rw [bmeldN_gt HRR.out, HKK.out], by rw [bmeld_gt HRR.out]; exact H4.out.1, H4.out.2⟩
  · have HL := Lib.hid HRB.out.2
    have h1c := HN.out.2.1
    have mm0 : ¬ m < 1 := by omega
    have mm1 : 1 ≤ m := by omega
    have mm2 : (1 : Int) ≤ (m : Int) := by omega
    have mm3 : ¬ (m : Int) < 1 := by omega
    have mm4 : ¬ 1 = d := by omega
    have mm5 : 0 < d := by omega
    have mm6 : (m : Int) ≤ (d : Int) := by omega
    have mm7 : (1 : Int) ≤ (d : Int) := by omega
    have mm8 : ¬ d - 1 = 0 := by omega
    have mm9 : ¬ d ≤ 1 := by omega
    have mm10 : 1 < d := by omega
    have mm11 : 1 ≤ d := by omega
    go_wp2_with fail
    ((with_reducible refine (HI.out F _ _ _ _ _ _ _ (fun k hk => H.out.1 k (by have := HQ.out.size; omega)) (by have := HN.out; simp only [bSize]; omega) (H.out.2.1.stay HQ.out) (HL.out.stay HQ.out)).mono ?_); rintro e w3 ⟨A3, n3, c3, rfl, hh, hb3⟩)
    rw [← HKK.out]
    have H3 := Lib.hid (And.intro hh (HQ.out.trans (hb3.mono HQ.out.size)))
    have hlen := hh.1
    have hn3 : n3 < 1000000000 := by have h1 := bmeld_len (f :: a) b; have := HN.out; simp only [List.length_cons] at h1; omega
    have HN3 := Lib.hid hn3
    clear hh hb3 hlen hn3
    have c0_ := (H3.out.2.cell (p := ⟨bb, ob, none⟩) (block_lt_of_cell PB.out.1)).trans PB.out.1
    have c1_ := (H3.out.2.cell (p := ⟨bb, ob + 1, none⟩) (block_lt_of_cell PB.out.2.1)).trans PB.out.2.1
    have c2_ := (H3.out.2.cell (p := ⟨bb, ob + 2, none⟩) (block_lt_of_cell PB.out.2.2.1)).trans PB.out.2.2.1
    have c3_ := (H3.out.2.cell (p := ⟨bb, ob + 3, none⟩) (block_lt_of_cell PB.out.2.2.2.1)).trans PB.out.2.2.2.1
    have c4_ := (H3.out.2.cell (p := ⟨bb, ob + 4, none⟩) (block_lt_of_cell PB.out.2.2.2.2.1)).trans PB.out.2.2.2.2.1
    have c5_ := (H3.out.2.cell (p := ⟨bb, ob + 5, none⟩) (block_lt_of_cell PB.out.2.2.2.2.2)).trans PB.out.2.2.2.2.2
    go_wp2_with fail
    ((with_reducible refine (refAheadT w3 (fun k hk => H.out.1 k (by have := H3.out.2.size; omega)) HN3.out H3.out.1 (H.out.2.2.2.2.stay H3.out.2)).mono ?_); rintro e w4 ⟨A4, n4, c4, rfl, hh, hb4⟩)
    have H4 := Lib.hid (And.intro hh (H3.out.2.trans (hb4.mono H3.out.2.size)))
    clear hh hb4
    go_wp2_with fail
    refine bodyPost_ret (v := .tuple #[.slice A4 n4 c4, .int .i64 kk]) (by simp [results, Tryz.results55, go_sem]) rfl ?_
    exact ⟨A4, n4, c4, by rw [bmeldN_gt HRR.out, HKK.out], by rw [bmeld_gt HRR.out]; exact H4.out.1, H4.out.2⟩

set_option maxRecDepth 100000 in
set_option maxHeartbeats 4000000 in
theorem refTrees_eq (f g : Tre) (a b : List Tre) (hr : f.rank = g.rank) (hI : TreesR a b) : TreesR (f :: a) (g :: b) := by
  intro F A n c B m d w hF hs ha hb
  obtain ⟨ba, oa, kl, x1, x2, Ab, bl, cb, Ak, ck, sz, rfl, -, ⟨p0, p1, p2, p3, p4, p5⟩, hf⟩ := ha.firstT
  obtain ⟨bb, ob, ul, y1, y2, Bb, dl, db, Bk, dk, uz, rfl, -, ⟨q0, q1, q2, q3, q4, q5⟩, hg⟩ := hb.firstT
  have hs2 : (f.size + bSize a) + (g.size + bSize b) < 268435456 := hs
  have hn := ha.1
  have hm := hb.1
  simp only [List.length_cons] at hn hm
  have hla := bSize_len a
  have hlb := bSize_len b
  have hfp : 0 < f.size := by simp only [Tre.size]; omega
  have hgp : 0 < g.size := by simp only [Tre.size]; omega
  have hc1_ := ha.2.1
  have hc2_ := ha.2.2.1
  have hd1_ := hb.2.1
  have hd2_ := hb.2.2.1
  have HN := Lib.hid (show (n = a.length + 1 ∧ m = b.length + 1) ∧ (n ≤ c ∧ c ≤ 9223372036854775807 ∧ m ≤ d ∧ d ≤ 9223372036854775807) ∧ (f.size + bSize a) + (g.size + bSize b) < 268435456 ∧ n < 268435456 ∧ m < 268435456 ∧ n + m < 268435458 from ⟨⟨hn, hm⟩, ⟨hc1_, hc2_, hd1_, hd2_⟩, hs2, by omega, by omega, by omega⟩)
  have HRA := Lib.hid ha.rest
  have HRB := Lib.hid hb.rest
  unfold TreesR at hI
  have HI := Lib.hid hI
  have H := Lib.hid (And.intro hF (And.intro ha (And.intro hb (And.intro hf hg))))
  have HE := Lib.hid (show kl = f.rank ∧ ul = g.rank from ⟨hf.1.1, hg.1.1⟩)
  have PA := Lib.hid (And.intro p0 (And.intro p1 (And.intro p2 (And.intro p3 (And.intro p4 p5)))))
  have PB := Lib.hid (And.intro q0 (And.intro q1 (And.intro q2 (And.intro q3 (And.intro q4 q5)))))
  have zn1 : ((n : Int) == 0) = false := by simp; omega
  have zn2 : ¬ n = 0 := by omega
  have zn3 : (0 : Int) < (n : Int) := by omega
  have zn4 : 0 < n := by omega
  have zm1 : ((m : Int) == 0) = false := by simp; omega
  have zm2 : ¬ m = 0 := by omega
  have zm3 : (0 : Int) < (m : Int) := by omega
  have zm4 : 0 < m := by omega
  have hkr : kl = ul := by have := HE.out; omega
  have HRR := Lib.hid hr
  have HKR := Lib.hid hkr
  clear hI hF ha hb hf hg hs hs2 hn hm hla hlb hfp hgp hc1_ hc2_ hd1_ hd2_ p1 p2 p3 p4 p5 q1 q2 q3 q4 q5 hr
  clear hkr
  go_enter Tryz.func55, Tryz.ntmps55
  go_wp2_with fail
  have hkr := HKR.out
  have g1 : decide ((kl : Int) < (ul : Int)) = false := by simp; omega
  have g2 : ¬ (kl : Int) < (ul : Int) := by omega
  have g3 : decide (kl < ul) = false := by simp; omega
  have gg1 : decide ((ul : Int) < (kl : Int)) = false := by simp; omega
  have gg2 : ¬ (ul : Int) < (kl : Int) := by omega
  have gg3 : decide (ul < kl) = false := by simp; omega
  clear hkr
  have kc0 := fun d os => cell_regrown p0 d os
  have kc1 := fun d os => cell_regrown q0 d os
  rw [world_self w]
  generalize w.drawn = d0
  generalize (#[] : Array Obj) = os0
  refine wp_region_class (by kernel_rfl) (by kernel_rfl) ?_
  repeat (go_big_quiet_step (fail))
  refine wpQuiet_nil ?_
  intro _ hw'
  obtain ⟨⟨dq, osq⟩, hw''⟩ := hw'
  subst hw''
  have hbq := below_regrown w dq osq
  clear kc0 kc1
  generalize grow (redrawn w dq) osq = wq at *
  have HQ := Lib.hid hbq
  have p0q := (HQ.out.cell (p := ⟨ba, oa, none⟩) (block_lt_of_cell PA.out.1)).trans PA.out.1
  have q0q := (HQ.out.cell (p := ⟨bb, ob, none⟩) (block_lt_of_cell PB.out.1)).trans PB.out.1
  clear hbq p0 q0
  go_wp2_with fail
  have kc0 := fun d os => cell_regrown p0q d os
  have kc1 := fun d os => cell_regrown q0q d os
  rw [world_self wq]
  generalize wq.drawn = d0
  generalize (#[] : Array Obj) = os0
  refine wp_region_class (by kernel_rfl) (by kernel_rfl) ?_
  repeat (go_big_quiet_step (fail))
  refine wpQuiet_nil ?_
  intro _ hw'
  obtain ⟨⟨dq, osq⟩, hw''⟩ := hw'
  subst hw''
  have hbq := below_regrown wq dq osq
  clear kc0 kc1
  generalize grow (redrawn wq dq) osq = wr at *
  have HQ2 := Lib.hid (HQ.out.trans (hbq.mono HQ.out.size))
  clear hbq p0q q0q HQ
  have HQ := HQ2
  clear HQ2
  have HS := Lib.hid (fun (w' : World) (hz : Below wr.heap.size wr w') => (show w'.cell? ⟨ba, oa, none⟩ = some (.int .i64 kl) ∧ w'.cell? ⟨ba, oa + 1, none⟩ = some (.int .i64 x1) ∧ w'.cell? ⟨ba, oa + 2, none⟩ = some (.int .i64 x2) ∧ w'.cell? ⟨ba, oa + 3, none⟩ = some (.slice Ab bl cb) ∧ w'.cell? ⟨ba, oa + 4, none⟩ = some (.slice Ak kl ck) ∧ w'.cell? ⟨ba, oa + 5, none⟩ = some (.int .i64 sz) ∧ w'.cell? ⟨bb, ob, none⟩ = some (.int .i64 ul) ∧ w'.cell? ⟨bb, ob + 1, none⟩ = some (.int .i64 y1) ∧ w'.cell? ⟨bb, ob + 2, none⟩ = some (.int .i64 y2) ∧ w'.cell? ⟨bb, ob + 3, none⟩ = some (.slice Bb dl db) ∧ w'.cell? ⟨bb, ob + 4, none⟩ = some (.slice Bk ul dk) ∧ w'.cell? ⟨bb, ob + 5, none⟩ = some (.int .i64 uz) from by
    have hzz := HQ.out.trans (hz.mono HQ.out.size)
    exact ⟨(hzz.cell (p := ⟨ba, oa, none⟩) (block_lt_of_cell PA.out.1)).trans PA.out.1, (hzz.cell (p := ⟨ba, oa + 1, none⟩) (block_lt_of_cell PA.out.2.1)).trans PA.out.2.1, (hzz.cell (p := ⟨ba, oa + 2, none⟩) (block_lt_of_cell PA.out.2.2.1)).trans PA.out.2.2.1, (hzz.cell (p := ⟨ba, oa + 3, none⟩) (block_lt_of_cell PA.out.2.2.2.1)).trans PA.out.2.2.2.1, (hzz.cell (p := ⟨ba, oa + 4, none⟩) (block_lt_of_cell PA.out.2.2.2.2.1)).trans PA.out.2.2.2.2.1, (hzz.cell (p := ⟨ba, oa + 5, none⟩) (block_lt_of_cell PA.out.2.2.2.2.2)).trans PA.out.2.2.2.2.2, (hzz.cell (p := ⟨bb, ob, none⟩) (block_lt_of_cell PB.out.1)).trans PB.out.1, (hzz.cell (p := ⟨bb, ob + 1, none⟩) (block_lt_of_cell PB.out.2.1)).trans PB.out.2.1, (hzz.cell (p := ⟨bb, ob + 2, none⟩) (block_lt_of_cell PB.out.2.2.1)).trans PB.out.2.2.1, (hzz.cell (p := ⟨bb, ob + 3, none⟩) (block_lt_of_cell PB.out.2.2.2.1)).trans PB.out.2.2.2.1, (hzz.cell (p := ⟨bb, ob + 4, none⟩) (block_lt_of_cell PB.out.2.2.2.2.1)).trans PB.out.2.2.2.2.1, (hzz.cell (p := ⟨bb, ob + 5, none⟩) (block_lt_of_cell PB.out.2.2.2.2.2)).trans PB.out.2.2.2.2.2⟩))
  go_wp2_with fail
  refine wp_after (R := fun a a' w' => ∃ (u69 u70 u71 u72 u73 u74 u75 u68 u76 u77 : Value) (bv : Nat) (vl : Nat) (z1 z2 : Int) (Cb : Option Addr) (el eb : Nat) (Ck : Option Addr) (ek vz : Nat), a' = ((((((((((((a.put (some 69) u69).put (some 70) u70).put (some 71) u71).put (some 72) u72).put (some 73) u73).put (some 74) u74).put (some 75) u75).put (some 68) u68).put (some 76) u76).put (some 77) u77).put (some 10) (.pointer (some ⟨bv, 0, none⟩))).put (some 11) (.int .i64 2)) ∧ Below wr.heap.size wr w' ∧ TVar w' bv vl z1 z2 Cb el eb Ck ek vz ∧ TIs F w' (lnk f g) vl z1 z2 Cb el eb Ck ek vz) ?_ ?_
  · have hd0 : Below wr.heap.size wr wr.drew := (Below.refl _ _).drew
    refine wp_region_noPanic ?_
    refine wp_region_held_drew (S := fun w' => w'.cell? ⟨ba, oa, none⟩ = some (.int .i64 kl) ∧ w'.cell? ⟨ba, oa + 1, none⟩ = some (.int .i64 x1) ∧ w'.cell? ⟨ba, oa + 2, none⟩ = some (.int .i64 x2) ∧ w'.cell? ⟨ba, oa + 3, none⟩ = some (.slice Ab bl cb) ∧ w'.cell? ⟨ba, oa + 4, none⟩ = some (.slice Ak kl ck) ∧ w'.cell? ⟨ba, oa + 5, none⟩ = some (.int .i64 sz) ∧ w'.cell? ⟨bb, ob, none⟩ = some (.int .i64 ul) ∧ w'.cell? ⟨bb, ob + 1, none⟩ = some (.int .i64 y1) ∧ w'.cell? ⟨bb, ob + 2, none⟩ = some (.int .i64 y2) ∧ w'.cell? ⟨bb, ob + 3, none⟩ = some (.slice Bb dl db) ∧ w'.cell? ⟨bb, ob + 4, none⟩ = some (.slice Bk ul dk) ∧ w'.cell? ⟨bb, ob + 5, none⟩ = some (.int .i64 uz)) (by kernel_rfl) (HS.out _ hd0) (fun hH => ?_)
    generalize wr.drew = wd at *
    refine wpAnyH_take (i := 0) (oi := { dst := some 69, op := Go.Op.move (Go.Operand.tmp 0), type := 33, pos := "ref.go:51", after := #[], guard := none }) (v := ?v1_0_0) rfl (by as_aux_lemma => kernel_rfl) (by as_aux_lemma => kernel_rfl) (by as_aux_lemma => kernel_rfl) (fun _ _ _ h => h) (Or.inl ⟨(by as_aux_lemma => kernel_rfl), ?hy1_0_0⟩) hH ?rest1_0_0
    case hy1_0_0 => (intro w hSw; (try dsimp only at hSw); go_simp; try with_reducible rfl)
    try simp only [Act.put, List.setIfInBounds_toArray, List.set_cons_zero, List.set_cons_succ]
    refine wpAnyH_take (i := 1) (oi := { dst := some 70, op := Go.Op.indexAddr 33 (Go.Operand.tmp 69) (Go.Operand.const (Go.Value.int Go.IntKind.i64 0)), type := 0, pos := "ref.go:51", after := #[{ on := 0, ground := Go.Ground.data }], guard := none }) (v := ?v1_0_1) rfl (by as_aux_lemma => kernel_rfl) (by as_aux_lemma => kernel_rfl) (by as_aux_lemma => kernel_rfl) (fun _ _ _ h => h) (Or.inl ⟨(by as_aux_lemma => kernel_rfl), ?hy1_0_1⟩) hH ?rest1_0_1
    case hy1_0_1 => (intro w hSw; (try dsimp only at hSw); go_simp; try with_reducible rfl)
    try simp only [Act.put, List.setIfInBounds_toArray, List.set_cons_zero, List.set_cons_succ]
    refine wpAnyH_take (i := 2) (oi := { dst := some 71, op := Go.Op.load 104 (Go.Operand.tmp 70), type := 104, pos := "ref.go:51", after := #[{ on := 1, ground := Go.Ground.data }], guard := none }) (v := ?v1_0_2) rfl (by as_aux_lemma => kernel_rfl) (by as_aux_lemma => kernel_rfl) (by as_aux_lemma => kernel_rfl) (fun _ _ _ h => h) (Or.inl ⟨(by as_aux_lemma => kernel_rfl), ?hy1_0_2⟩) hH ?rest1_0_2
    case hy1_0_2 => (intro w hSw; (try dsimp only at hSw); go_simp; try with_reducible rfl)
    try simp only [Act.put, List.setIfInBounds_toArray, List.set_cons_zero, List.set_cons_succ]
    refine wpAnyH_take (i := 3) (oi := { dst := some 72, op := Go.Op.move (Go.Operand.tmp 1), type := 33, pos := "ref.go:51", after := #[], guard := none }) (v := ?v1_0_3) rfl (by as_aux_lemma => kernel_rfl) (by as_aux_lemma => kernel_rfl) (by as_aux_lemma => kernel_rfl) (fun _ _ _ h => h) (Or.inl ⟨(by as_aux_lemma => kernel_rfl), ?hy1_0_3⟩) hH ?rest1_0_3
    case hy1_0_3 => (intro w hSw; (try dsimp only at hSw); go_simp; try with_reducible rfl)
    try simp only [Act.put, List.setIfInBounds_toArray, List.set_cons_zero, List.set_cons_succ]
    refine wpAnyH_take (i := 4) (oi := { dst := some 73, op := Go.Op.indexAddr 33 (Go.Operand.tmp 72) (Go.Operand.const (Go.Value.int Go.IntKind.i64 0)), type := 0, pos := "ref.go:51", after := #[{ on := 3, ground := Go.Ground.data }], guard := none }) (v := ?v1_0_4) rfl (by as_aux_lemma => kernel_rfl) (by as_aux_lemma => kernel_rfl) (by as_aux_lemma => kernel_rfl) (fun _ _ _ h => h) (Or.inl ⟨(by as_aux_lemma => kernel_rfl), ?hy1_0_4⟩) hH ?rest1_0_4
    case hy1_0_4 => (intro w hSw; (try dsimp only at hSw); go_simp; try with_reducible rfl)
    try simp only [Act.put, List.setIfInBounds_toArray, List.set_cons_zero, List.set_cons_succ]
    refine wpAnyH_take (i := 5) (oi := { dst := some 74, op := Go.Op.load 104 (Go.Operand.tmp 73), type := 104, pos := "ref.go:51", after := #[{ on := 4, ground := Go.Ground.data }], guard := none }) (v := ?v1_0_5) rfl (by as_aux_lemma => kernel_rfl) (by as_aux_lemma => kernel_rfl) (by as_aux_lemma => kernel_rfl) (fun _ _ _ h => h) (Or.inl ⟨(by as_aux_lemma => kernel_rfl), ?hy1_0_5⟩) hH ?rest1_0_5
    case hy1_0_5 => (intro w hSw; (try dsimp only at hSw); go_simp; try with_reducible rfl)
    try simp only [Act.put, List.setIfInBounds_toArray, List.set_cons_zero, List.set_cons_succ]
    refine wpAnyH_ready (rs := [6, 10]) (by as_aux_lemma => kernel_rfl) (by simp) ?_
    refine AllReadyH.cons (o := { dst := some 75, op := Go.Op.call { callee := Go.Callee.value (Go.Operand.func 80), args := #[Go.Operand.tmp 71, Go.Operand.tmp 74], argTypes := #[104, 104] }, type := 105, pos := "ref.go:51", after := #[{ on := 2, ground := Go.Ground.data }, { on := 5, ground := Go.Ground.data }], guard := none }) rfl (fun K hK => ?_) (AllReadyH.cons (o := { dst := some 10, op := Go.Op.alloc 104, type := 0, pos := "ref.go:51", after := #[], guard := none }) rfl (fun K hK => ?_) AllReadyH.nil)
    · have hdw := HQ.out.trans (hd0.mono HQ.out.size)
      have hFoA : ∀ k, wd.heap.size ≤ k → F k := fun k hk => H.out.1 k (by have := hdw.size; omega)
      have rA := H.out.2.2.2.1.stay hdw
      have rB := H.out.2.2.2.2.stay hdw
      go_simp
      go_at_call 80
      (with_reducible refine (refLinkT _ hFoA rA rB (by have := HN.out; omega)).mono ?_)
      rintro e w9 ⟨vl, z1, z2, Cb, el, eb, Ck, ek, vz, rfl, ht9, hb9⟩
      refine hK.out _ _ ?_ (fun hH2 => ?_)
      · exact HS.out _ (hd0.trans (hb9.mono hd0.size))
      clear hK K hH
      have hH := hH2
      clear hH2
      have hbx0 := hd0.trans (hb9.mono hd0.size)
      try simp only [Act.put, List.setIfInBounds_toArray, List.set_cons_zero, List.set_cons_succ]
      refine wpAnyH_take (i := 7) (oi := { dst := some 68, op := Go.Op.move (Go.Operand.tmp 75), type := 105, pos := "ref.go:51", after := #[{ on := 6, ground := Go.Ground.data }], guard := none }) (v := ?v1_1_7) rfl (by as_aux_lemma => kernel_rfl) (by as_aux_lemma => kernel_rfl) (by as_aux_lemma => kernel_rfl) (fun _ _ _ h => h) (Or.inl ⟨(by as_aux_lemma => kernel_rfl), ?hy1_1_7⟩) hH ?rest1_1_7
      case hy1_1_7 => (intro w hSw; (try dsimp only at hSw); go_simp; try with_reducible rfl)
      try simp only [Act.put, List.setIfInBounds_toArray, List.set_cons_zero, List.set_cons_succ]
      refine wpAnyH_take (i := 8) (oi := { dst := some 76, op := Go.Op.extract (Go.Operand.tmp 68) 0, type := 104, pos := "ref.go:51", after := #[{ on := 7, ground := Go.Ground.data }], guard := none }) (v := ?v1_1_8) rfl (by as_aux_lemma => kernel_rfl) (by as_aux_lemma => kernel_rfl) (by as_aux_lemma => kernel_rfl) (fun _ _ _ h => h) (Or.inl ⟨(by as_aux_lemma => kernel_rfl), ?hy1_1_8⟩) hH ?rest1_1_8
      case hy1_1_8 => (intro w hSw; (try dsimp only at hSw); go_simp; try with_reducible rfl)
      try simp only [Act.put, List.setIfInBounds_toArray, List.set_cons_zero, List.set_cons_succ]
      refine wpAnyH_take (i := 9) (oi := { dst := some 77, op := Go.Op.extract (Go.Operand.tmp 68) 1, type := 3, pos := "ref.go:51", after := #[{ on := 7, ground := Go.Ground.data }, { on := 11, ground := Go.Ground.gcOnly Go.Departure.lateStores }], guard := none }) (v := ?v1_1_9) rfl (by as_aux_lemma => kernel_rfl) (by as_aux_lemma => kernel_rfl) (by as_aux_lemma => kernel_rfl) (fun _ _ _ h => h) (Or.inl ⟨(by as_aux_lemma => kernel_rfl), ?hy1_1_9⟩) hH ?rest1_1_9
      case hy1_1_9 => (intro w hSw; (try dsimp only at hSw); go_simp; try with_reducible rfl)
      try simp only [Act.put, List.setIfInBounds_toArray, List.set_cons_zero, List.set_cons_succ]
      refine wpAnyH_ready (rs := [10]) (by as_aux_lemma => kernel_rfl) (by simp) ?_
      refine AllReadyH.cons (o := { dst := some 10, op := Go.Op.alloc 104, type := 0, pos := "ref.go:51", after := #[], guard := none }) rfl (fun K hK => ?_) AllReadyH.nil
      go_simp
      refine hK.out _ _ ?_ (fun hH2 => ?_)
      · exact HS.out _ (hbx0.alloc hbx0.size _)
      clear hK K hH
      have hH := hH2
      clear hH2
      have hv : TVar (w9.alloc (.cells #[.int .i64 0, .int .i64 0, .int .i64 0, .slice none 0 0, .slice none 0 0, .int .i64 0] 104)) w9.heap.size 0 0 0 none 0 0 none 0 0 := new_at rfl
      have hbx := hbx0.alloc hbx0.size (.cells #[.int .i64 0, .int .i64 0, .int .i64 0, .slice none 0 0, .slice none 0 0, .int .i64 0] 104)
      have htx := ht9.far (F' := Fb F w9.heap.size) (W' := w9.alloc (.cells #[.int .i64 0, .int .i64 0, .int .i64 0, .slice none 0 0, .slice none 0 0, .int .i64 0] 104)) ⟨fun k hk _ => ((Below.refl _ w9).alloc (Nat.le_refl _) _).block k hk, fun k hk hf => Fb.of hf (by omega)⟩
      have hSR0 : wr.heap.size ≤ w9.heap.size := hbx0.size
      obtain ⟨bv, hbv⟩ : ∃ b, b = w9.heap.size := ⟨_, rfl⟩
      rw [← hbv] at hv htx hSR0 ⊢
      have hSR := hSR0
      clear hbv hb9 ht9 hbx0 hSR0
      generalize w9.alloc (.cells #[.int .i64 0, .int .i64 0, .int .i64 0, .slice none 0 0, .slice none 0 0, .int .i64 0] 104) = w10 at *
      try simp only [Act.put, List.setIfInBounds_toArray, List.set_cons_zero, List.set_cons_succ]
      have v0 := hv.hex.c0
      have vz0 := hv.hex.z0
      have v1 := hv.hex.c1
      have vz1 := hv.hex.z1
      have v2 := hv.hex.c2
      have vz2 := hv.hex.z2
      have v3 := hv.hex.c3
      have vz3 := hv.hex.z3
      have v4 := hv.hex.c4
      have vz4 := hv.hex.z4
      have v5 := hv.hex.c5
      have vz5 := hv.hex.z5
      refine wpAnyH_ready (rs := [11]) (by as_aux_lemma => kernel_rfl) (by simp) ?_
      refine AllReadyH.cons (o := { dst := none, op := Go.Op.store 104 (Go.Operand.tmp 10) (Go.Operand.tmp 76), type := 0, pos := "ref.go:51", after := #[{ on := 10, ground := Go.Ground.data }, { on := 8, ground := Go.Ground.data }, { on := 6, ground := Go.Ground.chain }, { on := 0, ground := Go.Ground.phase }, { on := 1, ground := Go.Ground.phase }, { on := 2, ground := Go.Ground.phase }, { on := 3, ground := Go.Ground.phase }, { on := 4, ground := Go.Ground.phase }, { on := 5, ground := Go.Ground.phase }, { on := 6, ground := Go.Ground.phase }, { on := 7, ground := Go.Ground.phase }, { on := 8, ground := Go.Ground.phase }, { on := 9, ground := Go.Ground.textOnly Go.Departure.lateStores }, { on := 10, ground := Go.Ground.phase }], guard := none }) rfl (fun K hK => ?_) AllReadyH.nil
      go_simp
      refine hK.out _ _ ?_ (fun hH2 => ?_)
      · exact HS.out _ (set6_below hbx hSR _ _ _ _ _ _)
      clear hK K hH
      have hH := hH2
      clear hH2
      have hvz := hv.wrote vl z1 z2 Cb el eb Ck ek vz
      have hbz := set6_below hbx hSR (.int .i64 vl) (.int .i64 z1) (.int .i64 z2) (.slice Cb el eb) (.slice Ck vl ek) (.int .i64 vz)
      have htz := htx.far (F' := F) (W' := set6 w10 bv (.int .i64 vl) (.int .i64 z1) (.int .i64 z2) (.slice Cb el eb) (.slice Ck vl ek) (.int .i64 vz)) ⟨fun k hk hf => set6_far _ _ _ _ _ _ _ _ k hf.2, fun _ _ hf => hf.1⟩
      simp only [set6] at hvz hbz htz
      clear v0 vz0 v1 vz1 v2 vz2 v3 vz3 v4 vz4 v5 vz5
      generalize (((((w10.setCell ⟨bv, 0, none⟩ (.int .i64 vl)).setCell ⟨bv, 1, none⟩ (.int .i64 z1)).setCell ⟨bv, 2, none⟩ (.int .i64 z2)).setCell ⟨bv, 3, none⟩ (.slice Cb el eb)).setCell ⟨bv, 4, none⟩ (.slice Ck vl ek)).setCell ⟨bv, 5, none⟩ (.int .i64 vz) = w11 at *
      try simp only [Act.put, List.setIfInBounds_toArray, List.set_cons_zero, List.set_cons_succ]
      refine wpAnyH_ready (rs := [12]) (by as_aux_lemma => kernel_rfl) (by simp) ?_
      refine AllReadyH.cons (o := { dst := some 11, op := Go.Op.assign (Go.Operand.tmp 77), type := 3, pos := "ref.go:51", after := #[{ on := 9, ground := Go.Ground.data }, { on := 11, ground := Go.Ground.chain }, { on := 0, ground := Go.Ground.phase }, { on := 1, ground := Go.Ground.phase }, { on := 2, ground := Go.Ground.phase }, { on := 3, ground := Go.Ground.phase }, { on := 4, ground := Go.Ground.phase }, { on := 5, ground := Go.Ground.phase }, { on := 6, ground := Go.Ground.phase }, { on := 7, ground := Go.Ground.phase }, { on := 8, ground := Go.Ground.phase }, { on := 9, ground := Go.Ground.phase }, { on := 10, ground := Go.Ground.phase }, { on := 11, ground := Go.Ground.phase }], guard := none }) rfl (fun K hK => ?_) AllReadyH.nil
      go_simp
      refine hK.out _ _ ?_ (fun hH2 => ?_)
      · exact HS.out _ hbz
      clear hK K hH
      have hH := hH2
      clear hH2
      try simp only [Act.put, List.setIfInBounds_toArray, List.set_cons_zero, List.set_cons_succ]
      refine wpAnyH_done (by as_aux_lemma => kernel_rfl) ?_ _
      refine NoPanic.normal ?_
      clear hH
      exact ⟨rfl, _, _, _, _, _, _, _, _, _, _, bv, vl, z1, z2, Cb, el, eb, Ck, ek, vz, by (try simp only [Act.put, List.setIfInBounds_toArray, List.set_cons_zero, List.set_cons_succ]); rfl, hbz, hvz, htz⟩
    · go_simp
      refine hK.out _ _ ?_ (fun hH2 => ?_)
      · exact HS.out _ (hd0.alloc hd0.size _)
      clear hK K hH
      have hH := hH2
      clear hH2
      have hv : TVar (wd.alloc (.cells #[.int .i64 0, .int .i64 0, .int .i64 0, .slice none 0 0, .slice none 0 0, .int .i64 0] 104)) wd.heap.size 0 0 0 none 0 0 none 0 0 := new_at rfl
      have hdx := hd0.alloc hd0.size (.cells #[.int .i64 0, .int .i64 0, .int .i64 0, .slice none 0 0, .slice none 0 0, .int .i64 0] 104)
      have hdw := HQ.out.trans (hd0.mono HQ.out.size)
      have hsx : (wd.alloc (.cells #[.int .i64 0, .int .i64 0, .int .i64 0, .slice none 0 0, .slice none 0 0, .int .i64 0] 104)).heap.size = wd.heap.size + 1 := by simp
      obtain ⟨bv, hbv⟩ : ∃ b, b = wd.heap.size := ⟨_, rfl⟩
      rw [← hbv] at hv hsx ⊢
      have hFo2 : ∀ k, (wd.alloc (.cells #[.int .i64 0, .int .i64 0, .int .i64 0, .slice none 0 0, .slice none 0 0, .int .i64 0] 104)).heap.size ≤ k → Fb F bv k := fun k hk => Fb.of (H.out.1 k (by have := hdw.size; omega)) (by omega)
      have hSR : wr.heap.size ≤ bv := by have := hd0.size; omega
      have r9a := (H.out.2.2.2.1.stay hdw).far (F' := Fb F bv) (W' := wd.alloc (.cells #[.int .i64 0, .int .i64 0, .int .i64 0, .slice none 0 0, .slice none 0 0, .int .i64 0] 104)) ⟨fun k hk _ => ((Below.refl _ wd).alloc (Nat.le_refl _) _).block k hk, fun k hk hf => Fb.of hf (by omega)⟩
      have r9b := (H.out.2.2.2.2.stay hdw).far (F' := Fb F bv) (W' := wd.alloc (.cells #[.int .i64 0, .int .i64 0, .int .i64 0, .slice none 0 0, .slice none 0 0, .int .i64 0] 104)) ⟨fun k hk _ => ((Below.refl _ wd).alloc (Nat.le_refl _) _).block k hk, fun k hk hf => Fb.of hf (by omega)⟩
      clear hbv hsx
      generalize wd.alloc (.cells #[.int .i64 0, .int .i64 0, .int .i64 0, .slice none 0 0, .slice none 0 0, .int .i64 0] 104) = wx at *
      try simp only [Act.put, List.setIfInBounds_toArray, List.set_cons_zero, List.set_cons_succ]
      refine wpAnyH_ready (rs := [6]) (by as_aux_lemma => kernel_rfl) (by simp) ?_
      refine AllReadyH.cons (o := { dst := some 75, op := Go.Op.call { callee := Go.Callee.value (Go.Operand.func 80), args := #[Go.Operand.tmp 71, Go.Operand.tmp 74], argTypes := #[104, 104] }, type := 105, pos := "ref.go:51", after := #[{ on := 2, ground := Go.Ground.data }, { on := 5, ground := Go.Ground.data }], guard := none }) rfl (fun K hK => ?_) AllReadyH.nil
      go_simp
      go_at_call 80
      (with_reducible refine (refLinkT _ hFo2 r9a r9b (by have := HN.out; omega)).mono ?_)
      rintro e w9 ⟨vl, z1, z2, Cb, el, eb, Ck, ek, vz, rfl, ht9, hb9⟩
      refine hK.out _ _ ?_ (fun hH2 => ?_)
      · exact HS.out _ (hdx.trans (hb9.mono hdx.size))
      clear hK K hH
      have hH := hH2
      clear hH2
      have hbx := hdx.trans (hb9.mono hdx.size)
      replace hv := hv.stay hb9
      have htx := ht9
      clear hb9 ht9
      try simp only [Act.put, List.setIfInBounds_toArray, List.set_cons_zero, List.set_cons_succ]
      refine wpAnyH_take (i := 7) (oi := { dst := some 68, op := Go.Op.move (Go.Operand.tmp 75), type := 105, pos := "ref.go:51", after := #[{ on := 6, ground := Go.Ground.data }], guard := none }) (v := ?v1_2_7) rfl (by as_aux_lemma => kernel_rfl) (by as_aux_lemma => kernel_rfl) (by as_aux_lemma => kernel_rfl) (fun _ _ _ h => h) (Or.inl ⟨(by as_aux_lemma => kernel_rfl), ?hy1_2_7⟩) hH ?rest1_2_7
      case hy1_2_7 => (intro w hSw; (try dsimp only at hSw); go_simp; try with_reducible rfl)
      try simp only [Act.put, List.setIfInBounds_toArray, List.set_cons_zero, List.set_cons_succ]
      refine wpAnyH_take (i := 8) (oi := { dst := some 76, op := Go.Op.extract (Go.Operand.tmp 68) 0, type := 104, pos := "ref.go:51", after := #[{ on := 7, ground := Go.Ground.data }], guard := none }) (v := ?v1_2_8) rfl (by as_aux_lemma => kernel_rfl) (by as_aux_lemma => kernel_rfl) (by as_aux_lemma => kernel_rfl) (fun _ _ _ h => h) (Or.inl ⟨(by as_aux_lemma => kernel_rfl), ?hy1_2_8⟩) hH ?rest1_2_8
      case hy1_2_8 => (intro w hSw; (try dsimp only at hSw); go_simp; try with_reducible rfl)
      try simp only [Act.put, List.setIfInBounds_toArray, List.set_cons_zero, List.set_cons_succ]
      refine wpAnyH_take (i := 9) (oi := { dst := some 77, op := Go.Op.extract (Go.Operand.tmp 68) 1, type := 3, pos := "ref.go:51", after := #[{ on := 7, ground := Go.Ground.data }, { on := 11, ground := Go.Ground.gcOnly Go.Departure.lateStores }], guard := none }) (v := ?v1_2_9) rfl (by as_aux_lemma => kernel_rfl) (by as_aux_lemma => kernel_rfl) (by as_aux_lemma => kernel_rfl) (fun _ _ _ h => h) (Or.inl ⟨(by as_aux_lemma => kernel_rfl), ?hy1_2_9⟩) hH ?rest1_2_9
      case hy1_2_9 => (intro w hSw; (try dsimp only at hSw); go_simp; try with_reducible rfl)
      try simp only [Act.put, List.setIfInBounds_toArray, List.set_cons_zero, List.set_cons_succ]
      have v0 := hv.hex.c0
      have vz0 := hv.hex.z0
      have v1 := hv.hex.c1
      have vz1 := hv.hex.z1
      have v2 := hv.hex.c2
      have vz2 := hv.hex.z2
      have v3 := hv.hex.c3
      have vz3 := hv.hex.z3
      have v4 := hv.hex.c4
      have vz4 := hv.hex.z4
      have v5 := hv.hex.c5
      have vz5 := hv.hex.z5
      generalize w9 = w10 at *
      refine wpAnyH_ready (rs := [11]) (by as_aux_lemma => kernel_rfl) (by simp) ?_
      refine AllReadyH.cons (o := { dst := none, op := Go.Op.store 104 (Go.Operand.tmp 10) (Go.Operand.tmp 76), type := 0, pos := "ref.go:51", after := #[{ on := 10, ground := Go.Ground.data }, { on := 8, ground := Go.Ground.data }, { on := 6, ground := Go.Ground.chain }, { on := 0, ground := Go.Ground.phase }, { on := 1, ground := Go.Ground.phase }, { on := 2, ground := Go.Ground.phase }, { on := 3, ground := Go.Ground.phase }, { on := 4, ground := Go.Ground.phase }, { on := 5, ground := Go.Ground.phase }, { on := 6, ground := Go.Ground.phase }, { on := 7, ground := Go.Ground.phase }, { on := 8, ground := Go.Ground.phase }, { on := 9, ground := Go.Ground.textOnly Go.Departure.lateStores }, { on := 10, ground := Go.Ground.phase }], guard := none }) rfl (fun K hK => ?_) AllReadyH.nil
      go_simp
      refine hK.out _ _ ?_ (fun hH2 => ?_)
      · exact HS.out _ (set6_below hbx hSR _ _ _ _ _ _)
      clear hK K hH
      have hH := hH2
      clear hH2
      have hvz := hv.wrote vl z1 z2 Cb el eb Ck ek vz
      have hbz := set6_below hbx hSR (.int .i64 vl) (.int .i64 z1) (.int .i64 z2) (.slice Cb el eb) (.slice Ck vl ek) (.int .i64 vz)
      have htz := htx.far (F' := F) (W' := set6 w10 bv (.int .i64 vl) (.int .i64 z1) (.int .i64 z2) (.slice Cb el eb) (.slice Ck vl ek) (.int .i64 vz)) ⟨fun k hk hf => set6_far _ _ _ _ _ _ _ _ k hf.2, fun _ _ hf => hf.1⟩
      simp only [set6] at hvz hbz htz
      clear v0 vz0 v1 vz1 v2 vz2 v3 vz3 v4 vz4 v5 vz5
      generalize (((((w10.setCell ⟨bv, 0, none⟩ (.int .i64 vl)).setCell ⟨bv, 1, none⟩ (.int .i64 z1)).setCell ⟨bv, 2, none⟩ (.int .i64 z2)).setCell ⟨bv, 3, none⟩ (.slice Cb el eb)).setCell ⟨bv, 4, none⟩ (.slice Ck vl ek)).setCell ⟨bv, 5, none⟩ (.int .i64 vz) = w11 at *
      try simp only [Act.put, List.setIfInBounds_toArray, List.set_cons_zero, List.set_cons_succ]
      refine wpAnyH_ready (rs := [12]) (by as_aux_lemma => kernel_rfl) (by simp) ?_
      refine AllReadyH.cons (o := { dst := some 11, op := Go.Op.assign (Go.Operand.tmp 77), type := 3, pos := "ref.go:51", after := #[{ on := 9, ground := Go.Ground.data }, { on := 11, ground := Go.Ground.chain }, { on := 0, ground := Go.Ground.phase }, { on := 1, ground := Go.Ground.phase }, { on := 2, ground := Go.Ground.phase }, { on := 3, ground := Go.Ground.phase }, { on := 4, ground := Go.Ground.phase }, { on := 5, ground := Go.Ground.phase }, { on := 6, ground := Go.Ground.phase }, { on := 7, ground := Go.Ground.phase }, { on := 8, ground := Go.Ground.phase }, { on := 9, ground := Go.Ground.phase }, { on := 10, ground := Go.Ground.phase }, { on := 11, ground := Go.Ground.phase }], guard := none }) rfl (fun K hK => ?_) AllReadyH.nil
      go_simp
      refine hK.out _ _ ?_ (fun hH2 => ?_)
      · exact HS.out _ hbz
      clear hK K hH
      have hH := hH2
      clear hH2
      try simp only [Act.put, List.setIfInBounds_toArray, List.set_cons_zero, List.set_cons_succ]
      refine wpAnyH_done (by as_aux_lemma => kernel_rfl) ?_ _
      refine NoPanic.normal ?_
      clear hH
      exact ⟨rfl, _, _, _, _, _, _, _, _, _, _, bv, vl, z1, z2, Cb, el, eb, Ck, ek, vz, by (try simp only [Act.put, List.setIfInBounds_toArray, List.set_cons_zero, List.set_cons_succ]); rfl, hbz, hvz, htz⟩
  rintro a' w' ⟨u69, u70, u71, u72, u73, u74, u75, u68, u76, u77, bv, vl, z1, z2, Cb, el, eb, Ck, ek, vz, rfl, hbz, hvz, htz⟩
  try simp only [Act.put, List.setIfInBounds_toArray, List.set_cons_zero, List.set_cons_succ]
  have Z := Lib.hid (And.intro (HQ.out.trans (hbz.mono HQ.out.size)) (And.intro hvz htz))
  obtain ⟨kk, hkk⟩ : ∃ q, q = 2 * bmeldN a b := ⟨_, rfl⟩
  obtain ⟨jj, hjj⟩ : ∃ q, q = 2 * putTN (bmeld a b) (lnk f g) := ⟨_, rfl⟩
  have hml := bmeld_len a b
  have hpl := putT_len (bmeld a b) (lnk f g)
  have HKK := Lib.hid (show kk = 2 * bmeldN a b ∧ jj = 2 * putTN (bmeld a b) (lnk f g) ∧ kk < 1000000000 ∧ jj < 1000000000 from ⟨hkk, hjj, by have := HN.out; omega, by have := HN.out; omega⟩)
  have wk : IntKind.i64.wrap (2 + (kk : Int)) = 2 + (kk : Int) := by have := HKK.out; rw [IntKind.wrap_i64]; omega
  have wj : IntKind.i64.wrap (2 + (kk : Int) + (jj : Int)) = 2 + (kk : Int) + (jj : Int) := by have := HKK.out; rw [IntKind.wrap_i64]; omega
  have HS4 := Lib.hid (fun (w2 : World) (hz : Below w'.heap.size w' w2) => (show w2.cell? ⟨bv, 0, none⟩ = some (.int .i64 vl) ∧ w2.cell? ⟨bv, 1, none⟩ = some (.int .i64 z1) ∧ w2.cell? ⟨bv, 2, none⟩ = some (.int .i64 z2) ∧ w2.cell? ⟨bv, 3, none⟩ = some (.slice Cb el eb) ∧ w2.cell? ⟨bv, 4, none⟩ = some (.slice Ck vl ek) ∧ w2.cell? ⟨bv, 5, none⟩ = some (.int .i64 vz) from ⟨(hvz.stay hz).hex.c0, (hvz.stay hz).hex.c1, (hvz.stay hz).hex.c2, (hvz.stay hz).hex.c3, (hvz.stay hz).hex.c4, (hvz.stay hz).hex.c5⟩))
  clear hkk hjj hml hpl hvz htz hbz
  by_cases hc1 : c = 1
  · subst hc1
    have hn1 : n = 1 := by have := HN.out; omega
    subst hn1
    have HL := Lib.hid (HRA.out.1 rfl)
    by_cases hd1 : d = 1
    · subst hd1
      have hm1 : m = 1 := by have := HN.out; omega
      subst hm1
      have HM := Lib.hid (HRB.out.1 rfl)
      go_wp2_with fail
      have hd0 : Below w'.heap.size w' w'.drew := (Below.refl _ _).drew
      refine wp_region_noPanic ?_
      refine wp_region_held_drew (S := fun w2 => w2.cell? ⟨bv, 0, none⟩ = some (.int .i64 vl) ∧ w2.cell? ⟨bv, 1, none⟩ = some (.int .i64 z1) ∧ w2.cell? ⟨bv, 2, none⟩ = some (.int .i64 z2) ∧ w2.cell? ⟨bv, 3, none⟩ = some (.slice Cb el eb) ∧ w2.cell? ⟨bv, 4, none⟩ = some (.slice Ck vl ek) ∧ w2.cell? ⟨bv, 5, none⟩ = some (.int .i64 vz)) (by kernel_rfl) (HS4.out _ hd0) (fun hH => ?_)
      generalize w'.drew = wd at *
      refine wpAnyH_take (i := 0) (oi := { dst := some 79, op := Go.Op.move (Go.Operand.tmp 0), type := 33, pos := "ref.go:52", after := #[], guard := none }) (v := ?v2_0_0) rfl (by as_aux_lemma => kernel_rfl) (by as_aux_lemma => kernel_rfl) (by as_aux_lemma => kernel_rfl) (fun _ _ _ h => h) (Or.inl ⟨(by as_aux_lemma => kernel_rfl), ?hy2_0_0⟩) hH ?rest2_0_0
      case hy2_0_0 => (intro w hSw; (try dsimp only at hSw); go_simp; try with_reducible rfl)
      try simp only [Act.put, List.setIfInBounds_toArray, List.set_cons_zero, List.set_cons_succ]
      refine wpAnyH_take (i := 1) (oi := { dst := some 80, op := Go.Op.slice 33 (Go.Operand.tmp 79) (some (Go.Operand.const (Go.Value.int Go.IntKind.i64 1))) none none, type := 33, pos := "ref.go:52", after := #[{ on := 0, ground := Go.Ground.data }], guard := none }) (v := ?v2_0_1) rfl (by as_aux_lemma => kernel_rfl) (by as_aux_lemma => kernel_rfl) (by as_aux_lemma => kernel_rfl) (fun _ _ _ h => h) (Or.inl ⟨(by as_aux_lemma => kernel_rfl), ?hy2_0_1⟩) hH ?rest2_0_1
      case hy2_0_1 => (intro w hSw; (try dsimp only at hSw); go_simp; try with_reducible rfl)
      try simp only [Act.put, List.setIfInBounds_toArray, List.set_cons_zero, List.set_cons_succ]
      refine wpAnyH_take (i := 2) (oi := { dst := some 81, op := Go.Op.move (Go.Operand.tmp 1), type := 33, pos := "ref.go:52", after := #[], guard := none }) (v := ?v2_0_2) rfl (by as_aux_lemma => kernel_rfl) (by as_aux_lemma => kernel_rfl) (by as_aux_lemma => kernel_rfl) (fun _ _ _ h => h) (Or.inl ⟨(by as_aux_lemma => kernel_rfl), ?hy2_0_2⟩) hH ?rest2_0_2
      case hy2_0_2 => (intro w hSw; (try dsimp only at hSw); go_simp; try with_reducible rfl)
      try simp only [Act.put, List.setIfInBounds_toArray, List.set_cons_zero, List.set_cons_succ]
      refine wpAnyH_take (i := 3) (oi := { dst := some 82, op := Go.Op.slice 33 (Go.Operand.tmp 81) (some (Go.Operand.const (Go.Value.int Go.IntKind.i64 1))) none none, type := 33, pos := "ref.go:52", after := #[{ on := 2, ground := Go.Ground.data }], guard := none }) (v := ?v2_0_3) rfl (by as_aux_lemma => kernel_rfl) (by as_aux_lemma => kernel_rfl) (by as_aux_lemma => kernel_rfl) (fun _ _ _ h => h) (Or.inl ⟨(by as_aux_lemma => kernel_rfl), ?hy2_0_3⟩) hH ?rest2_0_3
      case hy2_0_3 => (intro w hSw; (try dsimp only at hSw); go_simp; try with_reducible rfl)
      try simp only [Act.put, List.setIfInBounds_toArray, List.set_cons_zero, List.set_cons_succ]
      refine wpAnyH_ready (rs := [4]) (by as_aux_lemma => kernel_rfl) (by simp) ?_
      refine AllReadyH.cons (o := { dst := some 83, op := Go.Op.call { callee := Go.Callee.value (Go.Operand.func 55), args := #[Go.Operand.tmp 80, Go.Operand.tmp 82], argTypes := #[33, 33] }, type := 109, pos := "ref.go:52", after := #[{ on := 1, ground := Go.Ground.data }, { on := 3, ground := Go.Ground.data }], guard := none }) rfl (fun K hK => ?_) AllReadyH.nil
      have hdw := Z.out.1.trans (hd0.mono Z.out.1.size)
      go_simp
      go_at_call 55
      (with_reducible refine (HI.out F _ _ _ _ _ _ _ (fun k hk => H.out.1 k (by have := hdw.size; omega)) (by have := HN.out; omega) (HL.out.stay hdw) (HM.out.stay hdw)).mono ?_)
      rintro e w3 ⟨A3, n3, c3, rfl, hh, hb3⟩
      rw [← HKK.out.1]
      refine hK.out _ _ ?_ (fun hH2 => ?_)
      · exact HS4.out _ (hd0.trans (hb3.mono hd0.size))
      clear hK K hH
      have hH := hH2
      clear hH2
      have hb4 := hd0.trans (hb3.mono hd0.size)
      have H3 := Lib.hid (And.intro hh (And.intro (hdw.trans (hb3.mono hdw.size)) hb4))
      clear hh hb3
      try simp only [Act.put, List.setIfInBounds_toArray, List.set_cons_zero, List.set_cons_succ]
      refine wpAnyH_take (i := 5) (oi := { dst := some 78, op := Go.Op.move (Go.Operand.tmp 83), type := 109, pos := "ref.go:52", after := #[{ on := 4, ground := Go.Ground.data }], guard := none }) (v := ?v2_0_5) rfl (by as_aux_lemma => kernel_rfl) (by as_aux_lemma => kernel_rfl) (by as_aux_lemma => kernel_rfl) (fun _ _ _ h => h) (Or.inl ⟨(by as_aux_lemma => kernel_rfl), ?hy2_0_5⟩) hH ?rest2_0_5
      case hy2_0_5 => (intro w hSw; (try dsimp only at hSw); go_simp; try with_reducible rfl)
      try simp only [Act.put, List.setIfInBounds_toArray, List.set_cons_zero, List.set_cons_succ]
      refine wpAnyH_take (i := 6) (oi := { dst := some 84, op := Go.Op.extract (Go.Operand.tmp 78) 0, type := 33, pos := "ref.go:52", after := #[{ on := 5, ground := Go.Ground.data }], guard := none }) (v := ?v2_0_6) rfl (by as_aux_lemma => kernel_rfl) (by as_aux_lemma => kernel_rfl) (by as_aux_lemma => kernel_rfl) (fun _ _ _ h => h) (Or.inl ⟨(by as_aux_lemma => kernel_rfl), ?hy2_0_6⟩) hH ?rest2_0_6
      case hy2_0_6 => (intro w hSw; (try dsimp only at hSw); go_simp; try with_reducible rfl)
      try simp only [Act.put, List.setIfInBounds_toArray, List.set_cons_zero, List.set_cons_succ]
      refine wpAnyH_take (i := 7) (oi := { dst := some 85, op := Go.Op.extract (Go.Operand.tmp 78) 1, type := 3, pos := "ref.go:52", after := #[{ on := 5, ground := Go.Ground.data }, { on := 8, ground := Go.Ground.gcOnly Go.Departure.lateStores }], guard := none }) (v := ?v2_0_7) rfl (by as_aux_lemma => kernel_rfl) (by as_aux_lemma => kernel_rfl) (by as_aux_lemma => kernel_rfl) (fun _ _ _ h => h) (Or.inl ⟨(by as_aux_lemma => kernel_rfl), ?hy2_0_7⟩) hH ?rest2_0_7
      case hy2_0_7 => (intro w hSw; (try dsimp only at hSw); go_simp; try with_reducible rfl)
      try simp only [Act.put, List.setIfInBounds_toArray, List.set_cons_zero, List.set_cons_succ]
      refine wpAnyH_ready (rs := [8]) (by as_aux_lemma => kernel_rfl) (by simp) ?_
      refine AllReadyH.cons (o := { dst := some 12, op := Go.Op.assign (Go.Operand.tmp 84), type := 33, pos := "ref.go:52", after := #[{ on := 6, ground := Go.Ground.data }, { on := 4, ground := Go.Ground.chain }, { on := 0, ground := Go.Ground.phase }, { on := 1, ground := Go.Ground.phase }, { on := 2, ground := Go.Ground.phase }, { on := 3, ground := Go.Ground.phase }, { on := 4, ground := Go.Ground.phase }, { on := 5, ground := Go.Ground.phase }, { on := 6, ground := Go.Ground.phase }, { on := 7, ground := Go.Ground.textOnly Go.Departure.lateStores }], guard := none }) rfl (fun K hK => ?_) AllReadyH.nil
      go_simp
      refine hK.out _ _ ?_ (fun hH2 => ?_)
      · exact HS4.out _ hb4
      clear hK K hH
      have hH := hH2
      clear hH2
      try simp only [Act.put, List.setIfInBounds_toArray, List.set_cons_zero, List.set_cons_succ]
      refine wpAnyH_ready (rs := [9]) (by as_aux_lemma => kernel_rfl) (by simp) ?_
      refine AllReadyH.cons (o := { dst := some 13, op := Go.Op.assign (Go.Operand.tmp 85), type := 3, pos := "ref.go:52", after := #[{ on := 7, ground := Go.Ground.data }, { on := 8, ground := Go.Ground.chain }, { on := 0, ground := Go.Ground.phase }, { on := 1, ground := Go.Ground.phase }, { on := 2, ground := Go.Ground.phase }, { on := 3, ground := Go.Ground.phase }, { on := 4, ground := Go.Ground.phase }, { on := 5, ground := Go.Ground.phase }, { on := 6, ground := Go.Ground.phase }, { on := 7, ground := Go.Ground.phase }, { on := 8, ground := Go.Ground.phase }], guard := none }) rfl (fun K hK => ?_) AllReadyH.nil
      go_simp
      refine hK.out _ _ ?_ (fun hH2 => ?_)
      · exact HS4.out _ hb4
      clear hK K hH
      have hH := hH2
      clear hH2
      try simp only [Act.put, List.setIfInBounds_toArray, List.set_cons_zero, List.set_cons_succ]
      refine wpAnyH_done (by as_aux_lemma => kernel_rfl) ?_ _
      refine NoPanic.normal ?_
      clear hH
      have c0_ := (Z.out.2.1.stay H3.out.2.2).hex.c0
      have c1_ := (Z.out.2.1.stay H3.out.2.2).hex.c1
      have c2_ := (Z.out.2.1.stay H3.out.2.2).hex.c2
      have c3_ := (Z.out.2.1.stay H3.out.2.2).hex.c3
      have c4_ := (Z.out.2.1.stay H3.out.2.2).hex.c4
      have c5_ := (Z.out.2.1.stay H3.out.2.2).hex.c5
      clear hb4 hd0 hdw
      go_wp2_with fail
      have hPUT := refPuts (bmeld a b)
      unfold PutsR at hPUT
      have hln : bSize (bmeld a b) + (lnk f g).size < 268435456 := by rw [bmeld_size, lnk_size]; have := HN.out; omega
      ((with_reducible refine (hPUT F (lnk f g) vl z1 z2 Cb el eb Ck ek vz _ _ _ w3 (fun k hk => H.out.1 k (by have := H3.out.2.1.size; omega)) (by omega) (Z.out.2.2.stay H3.out.2.2) H3.out.1).mono ?_); rintro e w4 ⟨A4, n4, c4, rfl, hh, hb4⟩)
      rw [← HKK.out.2.1]
      have H4 := Lib.hid (And.intro hh (H3.out.2.1.trans (hb4.mono H3.out.2.1.size)))
      clear hh hb4 hln hPUT
      go_wp2_with fail
      refine bodyPost_ret (v := .tuple #[.slice A4 n4 c4, .int .i64 (2 + (kk : Int) + (jj : Int))]) (by simp [results, Tryz.results55, go_sem]) rfl ?_
      exact ⟨A4, n4, c4, by rw [bmeldN_eq HRR.out, show ((2 * (1 + bmeldN a b + putTN (bmeld a b) (lnk f g)) : Nat) : Int) = 2 + (kk : Int) + (jj : Int) by rw [HKK.out.1, HKK.out.2.1]; omega], by rw [bmeld_eq HRR.out]; exact H4.out.1, H4.out.2⟩
    · have HM := Lib.hid HRB.out.2
      have h1c := HN.out.2.1
      have mm0 : ¬ m < 1 := by omega
      have mm1 : 1 ≤ m := by omega
      have mm2 : (1 : Int) ≤ (m : Int) := by omega
      have mm3 : ¬ (m : Int) < 1 := by omega
      have mm4 : ¬ 1 = d := by omega
      have mm5 : 0 < d := by omega
      have mm6 : (m : Int) ≤ (d : Int) := by omega
      have mm7 : (1 : Int) ≤ (d : Int) := by omega
      have mm8 : ¬ d - 1 = 0 := by omega
      have mm9 : ¬ d ≤ 1 := by omega
      have mm10 : 1 < d := by omega
      have mm11 : 1 ≤ d := by omega
      go_wp2_with fail
      have hd0 : Below w'.heap.size w' w'.drew := (Below.refl _ _).drew
      refine wp_region_noPanic ?_
      refine wp_region_held_drew (S := fun w2 => w2.cell? ⟨bv, 0, none⟩ = some (.int .i64 vl) ∧ w2.cell? ⟨bv, 1, none⟩ = some (.int .i64 z1) ∧ w2.cell? ⟨bv, 2, none⟩ = some (.int .i64 z2) ∧ w2.cell? ⟨bv, 3, none⟩ = some (.slice Cb el eb) ∧ w2.cell? ⟨bv, 4, none⟩ = some (.slice Ck vl ek) ∧ w2.cell? ⟨bv, 5, none⟩ = some (.int .i64 vz)) (by kernel_rfl) (HS4.out _ hd0) (fun hH => ?_)
      generalize w'.drew = wd at *
      refine wpAnyH_take (i := 0) (oi := { dst := some 79, op := Go.Op.move (Go.Operand.tmp 0), type := 33, pos := "ref.go:52", after := #[], guard := none }) (v := ?v3_0_0) rfl (by as_aux_lemma => kernel_rfl) (by as_aux_lemma => kernel_rfl) (by as_aux_lemma => kernel_rfl) (fun _ _ _ h => h) (Or.inl ⟨(by as_aux_lemma => kernel_rfl), ?hy3_0_0⟩) hH ?rest3_0_0
      case hy3_0_0 => (intro w hSw; (try dsimp only at hSw); go_simp; try with_reducible rfl)
      try simp only [Act.put, List.setIfInBounds_toArray, List.set_cons_zero, List.set_cons_succ]
      refine wpAnyH_take (i := 1) (oi := { dst := some 80, op := Go.Op.slice 33 (Go.Operand.tmp 79) (some (Go.Operand.const (Go.Value.int Go.IntKind.i64 1))) none none, type := 33, pos := "ref.go:52", after := #[{ on := 0, ground := Go.Ground.data }], guard := none }) (v := ?v3_0_1) rfl (by as_aux_lemma => kernel_rfl) (by as_aux_lemma => kernel_rfl) (by as_aux_lemma => kernel_rfl) (fun _ _ _ h => h) (Or.inl ⟨(by as_aux_lemma => kernel_rfl), ?hy3_0_1⟩) hH ?rest3_0_1
      case hy3_0_1 => (intro w hSw; (try dsimp only at hSw); go_simp; try with_reducible rfl)
      try simp only [Act.put, List.setIfInBounds_toArray, List.set_cons_zero, List.set_cons_succ]
      refine wpAnyH_take (i := 2) (oi := { dst := some 81, op := Go.Op.move (Go.Operand.tmp 1), type := 33, pos := "ref.go:52", after := #[], guard := none }) (v := ?v3_0_2) rfl (by as_aux_lemma => kernel_rfl) (by as_aux_lemma => kernel_rfl) (by as_aux_lemma => kernel_rfl) (fun _ _ _ h => h) (Or.inl ⟨(by as_aux_lemma => kernel_rfl), ?hy3_0_2⟩) hH ?rest3_0_2
      case hy3_0_2 => (intro w hSw; (try dsimp only at hSw); go_simp; try with_reducible rfl)
      try simp only [Act.put, List.setIfInBounds_toArray, List.set_cons_zero, List.set_cons_succ]
      refine wpAnyH_take (i := 3) (oi := { dst := some 82, op := Go.Op.slice 33 (Go.Operand.tmp 81) (some (Go.Operand.const (Go.Value.int Go.IntKind.i64 1))) none none, type := 33, pos := "ref.go:52", after := #[{ on := 2, ground := Go.Ground.data }], guard := none }) (v := ?v3_0_3) rfl (by as_aux_lemma => kernel_rfl) (by as_aux_lemma => kernel_rfl) (by as_aux_lemma => kernel_rfl) (fun _ _ _ h => h) (Or.inl ⟨(by as_aux_lemma => kernel_rfl), ?hy3_0_3⟩) hH ?rest3_0_3
      case hy3_0_3 => (intro w hSw; (try dsimp only at hSw); go_simp; try with_reducible rfl)
      try simp only [Act.put, List.setIfInBounds_toArray, List.set_cons_zero, List.set_cons_succ]
      refine wpAnyH_ready (rs := [4]) (by as_aux_lemma => kernel_rfl) (by simp) ?_
      refine AllReadyH.cons (o := { dst := some 83, op := Go.Op.call { callee := Go.Callee.value (Go.Operand.func 55), args := #[Go.Operand.tmp 80, Go.Operand.tmp 82], argTypes := #[33, 33] }, type := 109, pos := "ref.go:52", after := #[{ on := 1, ground := Go.Ground.data }, { on := 3, ground := Go.Ground.data }], guard := none }) rfl (fun K hK => ?_) AllReadyH.nil
      have hdw := Z.out.1.trans (hd0.mono Z.out.1.size)
      go_simp
      go_at_call 55
      (with_reducible refine (HI.out F _ _ _ _ _ _ _ (fun k hk => H.out.1 k (by have := hdw.size; omega)) (by have := HN.out; omega) (HL.out.stay hdw) (HM.out.stay hdw)).mono ?_)
      rintro e w3 ⟨A3, n3, c3, rfl, hh, hb3⟩
      rw [← HKK.out.1]
      refine hK.out _ _ ?_ (fun hH2 => ?_)
      · exact HS4.out _ (hd0.trans (hb3.mono hd0.size))
      clear hK K hH
      have hH := hH2
      clear hH2
      have hb4 := hd0.trans (hb3.mono hd0.size)
      have H3 := Lib.hid (And.intro hh (And.intro (hdw.trans (hb3.mono hdw.size)) hb4))
      clear hh hb3
      try simp only [Act.put, List.setIfInBounds_toArray, List.set_cons_zero, List.set_cons_succ]
      refine wpAnyH_take (i := 5) (oi := { dst := some 78, op := Go.Op.move (Go.Operand.tmp 83), type := 109, pos := "ref.go:52", after := #[{ on := 4, ground := Go.Ground.data }], guard := none }) (v := ?v3_0_5) rfl (by as_aux_lemma => kernel_rfl) (by as_aux_lemma => kernel_rfl) (by as_aux_lemma => kernel_rfl) (fun _ _ _ h => h) (Or.inl ⟨(by as_aux_lemma => kernel_rfl), ?hy3_0_5⟩) hH ?rest3_0_5
      case hy3_0_5 => (intro w hSw; (try dsimp only at hSw); go_simp; try with_reducible rfl)
      try simp only [Act.put, List.setIfInBounds_toArray, List.set_cons_zero, List.set_cons_succ]
      refine wpAnyH_take (i := 6) (oi := { dst := some 84, op := Go.Op.extract (Go.Operand.tmp 78) 0, type := 33, pos := "ref.go:52", after := #[{ on := 5, ground := Go.Ground.data }], guard := none }) (v := ?v3_0_6) rfl (by as_aux_lemma => kernel_rfl) (by as_aux_lemma => kernel_rfl) (by as_aux_lemma => kernel_rfl) (fun _ _ _ h => h) (Or.inl ⟨(by as_aux_lemma => kernel_rfl), ?hy3_0_6⟩) hH ?rest3_0_6
      case hy3_0_6 => (intro w hSw; (try dsimp only at hSw); go_simp; try with_reducible rfl)
      try simp only [Act.put, List.setIfInBounds_toArray, List.set_cons_zero, List.set_cons_succ]
      refine wpAnyH_take (i := 7) (oi := { dst := some 85, op := Go.Op.extract (Go.Operand.tmp 78) 1, type := 3, pos := "ref.go:52", after := #[{ on := 5, ground := Go.Ground.data }, { on := 8, ground := Go.Ground.gcOnly Go.Departure.lateStores }], guard := none }) (v := ?v3_0_7) rfl (by as_aux_lemma => kernel_rfl) (by as_aux_lemma => kernel_rfl) (by as_aux_lemma => kernel_rfl) (fun _ _ _ h => h) (Or.inl ⟨(by as_aux_lemma => kernel_rfl), ?hy3_0_7⟩) hH ?rest3_0_7
      case hy3_0_7 => (intro w hSw; (try dsimp only at hSw); go_simp; try with_reducible rfl)
      try simp only [Act.put, List.setIfInBounds_toArray, List.set_cons_zero, List.set_cons_succ]
      refine wpAnyH_ready (rs := [8]) (by as_aux_lemma => kernel_rfl) (by simp) ?_
      refine AllReadyH.cons (o := { dst := some 12, op := Go.Op.assign (Go.Operand.tmp 84), type := 33, pos := "ref.go:52", after := #[{ on := 6, ground := Go.Ground.data }, { on := 4, ground := Go.Ground.chain }, { on := 0, ground := Go.Ground.phase }, { on := 1, ground := Go.Ground.phase }, { on := 2, ground := Go.Ground.phase }, { on := 3, ground := Go.Ground.phase }, { on := 4, ground := Go.Ground.phase }, { on := 5, ground := Go.Ground.phase }, { on := 6, ground := Go.Ground.phase }, { on := 7, ground := Go.Ground.textOnly Go.Departure.lateStores }], guard := none }) rfl (fun K hK => ?_) AllReadyH.nil
      go_simp
      refine hK.out _ _ ?_ (fun hH2 => ?_)
      · exact HS4.out _ hb4
      clear hK K hH
      have hH := hH2
      clear hH2
      try simp only [Act.put, List.setIfInBounds_toArray, List.set_cons_zero, List.set_cons_succ]
      refine wpAnyH_ready (rs := [9]) (by as_aux_lemma => kernel_rfl) (by simp) ?_
      refine AllReadyH.cons (o := { dst := some 13, op := Go.Op.assign (Go.Operand.tmp 85), type := 3, pos := "ref.go:52", after := #[{ on := 7, ground := Go.Ground.data }, { on := 8, ground := Go.Ground.chain }, { on := 0, ground := Go.Ground.phase }, { on := 1, ground := Go.Ground.phase }, { on := 2, ground := Go.Ground.phase }, { on := 3, ground := Go.Ground.phase }, { on := 4, ground := Go.Ground.phase }, { on := 5, ground := Go.Ground.phase }, { on := 6, ground := Go.Ground.phase }, { on := 7, ground := Go.Ground.phase }, { on := 8, ground := Go.Ground.phase }], guard := none }) rfl (fun K hK => ?_) AllReadyH.nil
      go_simp
      refine hK.out _ _ ?_ (fun hH2 => ?_)
      · exact HS4.out _ hb4
      clear hK K hH
      have hH := hH2
      clear hH2
      try simp only [Act.put, List.setIfInBounds_toArray, List.set_cons_zero, List.set_cons_succ]
      refine wpAnyH_done (by as_aux_lemma => kernel_rfl) ?_ _
      refine NoPanic.normal ?_
      clear hH
      have c0_ := (Z.out.2.1.stay H3.out.2.2).hex.c0
      have c1_ := (Z.out.2.1.stay H3.out.2.2).hex.c1
      have c2_ := (Z.out.2.1.stay H3.out.2.2).hex.c2
      have c3_ := (Z.out.2.1.stay H3.out.2.2).hex.c3
      have c4_ := (Z.out.2.1.stay H3.out.2.2).hex.c4
      have c5_ := (Z.out.2.1.stay H3.out.2.2).hex.c5
      clear hb4 hd0 hdw
      go_wp2_with fail
      have hPUT := refPuts (bmeld a b)
      unfold PutsR at hPUT
      have hln : bSize (bmeld a b) + (lnk f g).size < 268435456 := by rw [bmeld_size, lnk_size]; have := HN.out; omega
      ((with_reducible refine (hPUT F (lnk f g) vl z1 z2 Cb el eb Ck ek vz _ _ _ w3 (fun k hk => H.out.1 k (by have := H3.out.2.1.size; omega)) (by omega) (Z.out.2.2.stay H3.out.2.2) H3.out.1).mono ?_); rintro e w4 ⟨A4, n4, c4, rfl, hh, hb4⟩)
      rw [← HKK.out.2.1]
      have H4 := Lib.hid (And.intro hh (H3.out.2.1.trans (hb4.mono H3.out.2.1.size)))
      clear hh hb4 hln hPUT
      go_wp2_with fail
      refine bodyPost_ret (v := .tuple #[.slice A4 n4 c4, .int .i64 (2 + (kk : Int) + (jj : Int))]) (by simp [results, Tryz.results55, go_sem]) rfl ?_
      exact ⟨A4, n4, c4, by rw [bmeldN_eq HRR.out, show ((2 * (1 + bmeldN a b + putTN (bmeld a b) (lnk f g)) : Nat) : Int) = 2 + (kk : Int) + (jj : Int) by rw [HKK.out.1, HKK.out.2.1]; omega], by rw [bmeld_eq HRR.out]; exact H4.out.1, H4.out.2⟩
  · have HL := Lib.hid HRA.out.2
    have h1c := HN.out.2.1
    have mn0 : ¬ n < 1 := by omega
    have mn1 : 1 ≤ n := by omega
    have mn2 : (1 : Int) ≤ (n : Int) := by omega
    have mn3 : ¬ (n : Int) < 1 := by omega
    have mn4 : ¬ 1 = c := by omega
    have mn5 : 0 < c := by omega
    have mn6 : (n : Int) ≤ (c : Int) := by omega
    have mn7 : (1 : Int) ≤ (c : Int) := by omega
    have mn8 : ¬ c - 1 = 0 := by omega
    have mn9 : ¬ c ≤ 1 := by omega
    have mn10 : 1 < c := by omega
    have mn11 : 1 ≤ c := by omega
    by_cases hd1 : d = 1
    · subst hd1
      have hm1 : m = 1 := by have := HN.out; omega
      subst hm1
      have HM := Lib.hid (HRB.out.1 rfl)
      go_wp2_with fail
      have hd0 : Below w'.heap.size w' w'.drew := (Below.refl _ _).drew
      refine wp_region_noPanic ?_
      refine wp_region_held_drew (S := fun w2 => w2.cell? ⟨bv, 0, none⟩ = some (.int .i64 vl) ∧ w2.cell? ⟨bv, 1, none⟩ = some (.int .i64 z1) ∧ w2.cell? ⟨bv, 2, none⟩ = some (.int .i64 z2) ∧ w2.cell? ⟨bv, 3, none⟩ = some (.slice Cb el eb) ∧ w2.cell? ⟨bv, 4, none⟩ = some (.slice Ck vl ek) ∧ w2.cell? ⟨bv, 5, none⟩ = some (.int .i64 vz)) (by kernel_rfl) (HS4.out _ hd0) (fun hH => ?_)
      generalize w'.drew = wd at *
      refine wpAnyH_take (i := 0) (oi := { dst := some 79, op := Go.Op.move (Go.Operand.tmp 0), type := 33, pos := "ref.go:52", after := #[], guard := none }) (v := ?v4_0_0) rfl (by as_aux_lemma => kernel_rfl) (by as_aux_lemma => kernel_rfl) (by as_aux_lemma => kernel_rfl) (fun _ _ _ h => h) (Or.inl ⟨(by as_aux_lemma => kernel_rfl), ?hy4_0_0⟩) hH ?rest4_0_0
      case hy4_0_0 => (intro w hSw; (try dsimp only at hSw); go_simp; try with_reducible rfl)
      try simp only [Act.put, List.setIfInBounds_toArray, List.set_cons_zero, List.set_cons_succ]
      refine wpAnyH_take (i := 1) (oi := { dst := some 80, op := Go.Op.slice 33 (Go.Operand.tmp 79) (some (Go.Operand.const (Go.Value.int Go.IntKind.i64 1))) none none, type := 33, pos := "ref.go:52", after := #[{ on := 0, ground := Go.Ground.data }], guard := none }) (v := ?v4_0_1) rfl (by as_aux_lemma => kernel_rfl) (by as_aux_lemma => kernel_rfl) (by as_aux_lemma => kernel_rfl) (fun _ _ _ h => h) (Or.inl ⟨(by as_aux_lemma => kernel_rfl), ?hy4_0_1⟩) hH ?rest4_0_1
      case hy4_0_1 => (intro w hSw; (try dsimp only at hSw); go_simp; try with_reducible rfl)
      try simp only [Act.put, List.setIfInBounds_toArray, List.set_cons_zero, List.set_cons_succ]
      refine wpAnyH_take (i := 2) (oi := { dst := some 81, op := Go.Op.move (Go.Operand.tmp 1), type := 33, pos := "ref.go:52", after := #[], guard := none }) (v := ?v4_0_2) rfl (by as_aux_lemma => kernel_rfl) (by as_aux_lemma => kernel_rfl) (by as_aux_lemma => kernel_rfl) (fun _ _ _ h => h) (Or.inl ⟨(by as_aux_lemma => kernel_rfl), ?hy4_0_2⟩) hH ?rest4_0_2
      case hy4_0_2 => (intro w hSw; (try dsimp only at hSw); go_simp; try with_reducible rfl)
      try simp only [Act.put, List.setIfInBounds_toArray, List.set_cons_zero, List.set_cons_succ]
      refine wpAnyH_take (i := 3) (oi := { dst := some 82, op := Go.Op.slice 33 (Go.Operand.tmp 81) (some (Go.Operand.const (Go.Value.int Go.IntKind.i64 1))) none none, type := 33, pos := "ref.go:52", after := #[{ on := 2, ground := Go.Ground.data }], guard := none }) (v := ?v4_0_3) rfl (by as_aux_lemma => kernel_rfl) (by as_aux_lemma => kernel_rfl) (by as_aux_lemma => kernel_rfl) (fun _ _ _ h => h) (Or.inl ⟨(by as_aux_lemma => kernel_rfl), ?hy4_0_3⟩) hH ?rest4_0_3
      case hy4_0_3 => (intro w hSw; (try dsimp only at hSw); go_simp; try with_reducible rfl)
      try simp only [Act.put, List.setIfInBounds_toArray, List.set_cons_zero, List.set_cons_succ]
      refine wpAnyH_ready (rs := [4]) (by as_aux_lemma => kernel_rfl) (by simp) ?_
      refine AllReadyH.cons (o := { dst := some 83, op := Go.Op.call { callee := Go.Callee.value (Go.Operand.func 55), args := #[Go.Operand.tmp 80, Go.Operand.tmp 82], argTypes := #[33, 33] }, type := 109, pos := "ref.go:52", after := #[{ on := 1, ground := Go.Ground.data }, { on := 3, ground := Go.Ground.data }], guard := none }) rfl (fun K hK => ?_) AllReadyH.nil
      have hdw := Z.out.1.trans (hd0.mono Z.out.1.size)
      go_simp
      go_at_call 55
      (with_reducible refine (HI.out F _ _ _ _ _ _ _ (fun k hk => H.out.1 k (by have := hdw.size; omega)) (by have := HN.out; omega) (HL.out.stay hdw) (HM.out.stay hdw)).mono ?_)
      rintro e w3 ⟨A3, n3, c3, rfl, hh, hb3⟩
      rw [← HKK.out.1]
      refine hK.out _ _ ?_ (fun hH2 => ?_)
      · exact HS4.out _ (hd0.trans (hb3.mono hd0.size))
      clear hK K hH
      have hH := hH2
      clear hH2
      have hb4 := hd0.trans (hb3.mono hd0.size)
      have H3 := Lib.hid (And.intro hh (And.intro (hdw.trans (hb3.mono hdw.size)) hb4))
      clear hh hb3
      try simp only [Act.put, List.setIfInBounds_toArray, List.set_cons_zero, List.set_cons_succ]
      refine wpAnyH_take (i := 5) (oi := { dst := some 78, op := Go.Op.move (Go.Operand.tmp 83), type := 109, pos := "ref.go:52", after := #[{ on := 4, ground := Go.Ground.data }], guard := none }) (v := ?v4_0_5) rfl (by as_aux_lemma => kernel_rfl) (by as_aux_lemma => kernel_rfl) (by as_aux_lemma => kernel_rfl) (fun _ _ _ h => h) (Or.inl ⟨(by as_aux_lemma => kernel_rfl), ?hy4_0_5⟩) hH ?rest4_0_5
      case hy4_0_5 => (intro w hSw; (try dsimp only at hSw); go_simp; try with_reducible rfl)
      try simp only [Act.put, List.setIfInBounds_toArray, List.set_cons_zero, List.set_cons_succ]
      refine wpAnyH_take (i := 6) (oi := { dst := some 84, op := Go.Op.extract (Go.Operand.tmp 78) 0, type := 33, pos := "ref.go:52", after := #[{ on := 5, ground := Go.Ground.data }], guard := none }) (v := ?v4_0_6) rfl (by as_aux_lemma => kernel_rfl) (by as_aux_lemma => kernel_rfl) (by as_aux_lemma => kernel_rfl) (fun _ _ _ h => h) (Or.inl ⟨(by as_aux_lemma => kernel_rfl), ?hy4_0_6⟩) hH ?rest4_0_6
      case hy4_0_6 => (intro w hSw; (try dsimp only at hSw); go_simp; try with_reducible rfl)
      try simp only [Act.put, List.setIfInBounds_toArray, List.set_cons_zero, List.set_cons_succ]
      refine wpAnyH_take (i := 7) (oi := { dst := some 85, op := Go.Op.extract (Go.Operand.tmp 78) 1, type := 3, pos := "ref.go:52", after := #[{ on := 5, ground := Go.Ground.data }, { on := 8, ground := Go.Ground.gcOnly Go.Departure.lateStores }], guard := none }) (v := ?v4_0_7) rfl (by as_aux_lemma => kernel_rfl) (by as_aux_lemma => kernel_rfl) (by as_aux_lemma => kernel_rfl) (fun _ _ _ h => h) (Or.inl ⟨(by as_aux_lemma => kernel_rfl), ?hy4_0_7⟩) hH ?rest4_0_7
      case hy4_0_7 => (intro w hSw; (try dsimp only at hSw); go_simp; try with_reducible rfl)
      try simp only [Act.put, List.setIfInBounds_toArray, List.set_cons_zero, List.set_cons_succ]
      refine wpAnyH_ready (rs := [8]) (by as_aux_lemma => kernel_rfl) (by simp) ?_
      refine AllReadyH.cons (o := { dst := some 12, op := Go.Op.assign (Go.Operand.tmp 84), type := 33, pos := "ref.go:52", after := #[{ on := 6, ground := Go.Ground.data }, { on := 4, ground := Go.Ground.chain }, { on := 0, ground := Go.Ground.phase }, { on := 1, ground := Go.Ground.phase }, { on := 2, ground := Go.Ground.phase }, { on := 3, ground := Go.Ground.phase }, { on := 4, ground := Go.Ground.phase }, { on := 5, ground := Go.Ground.phase }, { on := 6, ground := Go.Ground.phase }, { on := 7, ground := Go.Ground.textOnly Go.Departure.lateStores }], guard := none }) rfl (fun K hK => ?_) AllReadyH.nil
      go_simp
      refine hK.out _ _ ?_ (fun hH2 => ?_)
      · exact HS4.out _ hb4
      clear hK K hH
      have hH := hH2
      clear hH2
      try simp only [Act.put, List.setIfInBounds_toArray, List.set_cons_zero, List.set_cons_succ]
      refine wpAnyH_ready (rs := [9]) (by as_aux_lemma => kernel_rfl) (by simp) ?_
      refine AllReadyH.cons (o := { dst := some 13, op := Go.Op.assign (Go.Operand.tmp 85), type := 3, pos := "ref.go:52", after := #[{ on := 7, ground := Go.Ground.data }, { on := 8, ground := Go.Ground.chain }, { on := 0, ground := Go.Ground.phase }, { on := 1, ground := Go.Ground.phase }, { on := 2, ground := Go.Ground.phase }, { on := 3, ground := Go.Ground.phase }, { on := 4, ground := Go.Ground.phase }, { on := 5, ground := Go.Ground.phase }, { on := 6, ground := Go.Ground.phase }, { on := 7, ground := Go.Ground.phase }, { on := 8, ground := Go.Ground.phase }], guard := none }) rfl (fun K hK => ?_) AllReadyH.nil
      go_simp
      refine hK.out _ _ ?_ (fun hH2 => ?_)
      · exact HS4.out _ hb4
      clear hK K hH
      have hH := hH2
      clear hH2
      try simp only [Act.put, List.setIfInBounds_toArray, List.set_cons_zero, List.set_cons_succ]
      refine wpAnyH_done (by as_aux_lemma => kernel_rfl) ?_ _
      refine NoPanic.normal ?_
      clear hH
      have c0_ := (Z.out.2.1.stay H3.out.2.2).hex.c0
      have c1_ := (Z.out.2.1.stay H3.out.2.2).hex.c1
      have c2_ := (Z.out.2.1.stay H3.out.2.2).hex.c2
      have c3_ := (Z.out.2.1.stay H3.out.2.2).hex.c3
      have c4_ := (Z.out.2.1.stay H3.out.2.2).hex.c4
      have c5_ := (Z.out.2.1.stay H3.out.2.2).hex.c5
      clear hb4 hd0 hdw
      go_wp2_with fail
      have hPUT := refPuts (bmeld a b)
      unfold PutsR at hPUT
      have hln : bSize (bmeld a b) + (lnk f g).size < 268435456 := by rw [bmeld_size, lnk_size]; have := HN.out; omega
      ((with_reducible refine (hPUT F (lnk f g) vl z1 z2 Cb el eb Ck ek vz _ _ _ w3 (fun k hk => H.out.1 k (by have := H3.out.2.1.size; omega)) (by omega) (Z.out.2.2.stay H3.out.2.2) H3.out.1).mono ?_); rintro e w4 ⟨A4, n4, c4, rfl, hh, hb4⟩)
      rw [← HKK.out.2.1]
      have H4 := Lib.hid (And.intro hh (H3.out.2.1.trans (hb4.mono H3.out.2.1.size)))
      clear hh hb4 hln hPUT
      go_wp2_with fail
      refine bodyPost_ret (v := .tuple #[.slice A4 n4 c4, .int .i64 (2 + (kk : Int) + (jj : Int))]) (by simp [results, Tryz.results55, go_sem]) rfl ?_
      exact ⟨A4, n4, c4, by rw [bmeldN_eq HRR.out, show ((2 * (1 + bmeldN a b + putTN (bmeld a b) (lnk f g)) : Nat) : Int) = 2 + (kk : Int) + (jj : Int) by rw [HKK.out.1, HKK.out.2.1]; omega], by rw [bmeld_eq HRR.out]; exact H4.out.1, H4.out.2⟩
    · have HM := Lib.hid HRB.out.2
      have h1c := HN.out.2.1
      have mm0 : ¬ m < 1 := by omega
      have mm1 : 1 ≤ m := by omega
      have mm2 : (1 : Int) ≤ (m : Int) := by omega
      have mm3 : ¬ (m : Int) < 1 := by omega
      have mm4 : ¬ 1 = d := by omega
      have mm5 : 0 < d := by omega
      have mm6 : (m : Int) ≤ (d : Int) := by omega
      have mm7 : (1 : Int) ≤ (d : Int) := by omega
      have mm8 : ¬ d - 1 = 0 := by omega
      have mm9 : ¬ d ≤ 1 := by omega
      have mm10 : 1 < d := by omega
      have mm11 : 1 ≤ d := by omega
      go_wp2_with fail
      have hd0 : Below w'.heap.size w' w'.drew := (Below.refl _ _).drew
      refine wp_region_noPanic ?_
      refine wp_region_held_drew (S := fun w2 => w2.cell? ⟨bv, 0, none⟩ = some (.int .i64 vl) ∧ w2.cell? ⟨bv, 1, none⟩ = some (.int .i64 z1) ∧ w2.cell? ⟨bv, 2, none⟩ = some (.int .i64 z2) ∧ w2.cell? ⟨bv, 3, none⟩ = some (.slice Cb el eb) ∧ w2.cell? ⟨bv, 4, none⟩ = some (.slice Ck vl ek) ∧ w2.cell? ⟨bv, 5, none⟩ = some (.int .i64 vz)) (by kernel_rfl) (HS4.out _ hd0) (fun hH => ?_)
      generalize w'.drew = wd at *
      refine wpAnyH_take (i := 0) (oi := { dst := some 79, op := Go.Op.move (Go.Operand.tmp 0), type := 33, pos := "ref.go:52", after := #[], guard := none }) (v := ?v5_0_0) rfl (by as_aux_lemma => kernel_rfl) (by as_aux_lemma => kernel_rfl) (by as_aux_lemma => kernel_rfl) (fun _ _ _ h => h) (Or.inl ⟨(by as_aux_lemma => kernel_rfl), ?hy5_0_0⟩) hH ?rest5_0_0
      case hy5_0_0 => (intro w hSw; (try dsimp only at hSw); go_simp; try with_reducible rfl)
      try simp only [Act.put, List.setIfInBounds_toArray, List.set_cons_zero, List.set_cons_succ]
      refine wpAnyH_take (i := 1) (oi := { dst := some 80, op := Go.Op.slice 33 (Go.Operand.tmp 79) (some (Go.Operand.const (Go.Value.int Go.IntKind.i64 1))) none none, type := 33, pos := "ref.go:52", after := #[{ on := 0, ground := Go.Ground.data }], guard := none }) (v := ?v5_0_1) rfl (by as_aux_lemma => kernel_rfl) (by as_aux_lemma => kernel_rfl) (by as_aux_lemma => kernel_rfl) (fun _ _ _ h => h) (Or.inl ⟨(by as_aux_lemma => kernel_rfl), ?hy5_0_1⟩) hH ?rest5_0_1
      case hy5_0_1 => (intro w hSw; (try dsimp only at hSw); go_simp; try with_reducible rfl)
      try simp only [Act.put, List.setIfInBounds_toArray, List.set_cons_zero, List.set_cons_succ]
      refine wpAnyH_take (i := 2) (oi := { dst := some 81, op := Go.Op.move (Go.Operand.tmp 1), type := 33, pos := "ref.go:52", after := #[], guard := none }) (v := ?v5_0_2) rfl (by as_aux_lemma => kernel_rfl) (by as_aux_lemma => kernel_rfl) (by as_aux_lemma => kernel_rfl) (fun _ _ _ h => h) (Or.inl ⟨(by as_aux_lemma => kernel_rfl), ?hy5_0_2⟩) hH ?rest5_0_2
      case hy5_0_2 => (intro w hSw; (try dsimp only at hSw); go_simp; try with_reducible rfl)
      try simp only [Act.put, List.setIfInBounds_toArray, List.set_cons_zero, List.set_cons_succ]
      refine wpAnyH_take (i := 3) (oi := { dst := some 82, op := Go.Op.slice 33 (Go.Operand.tmp 81) (some (Go.Operand.const (Go.Value.int Go.IntKind.i64 1))) none none, type := 33, pos := "ref.go:52", after := #[{ on := 2, ground := Go.Ground.data }], guard := none }) (v := ?v5_0_3) rfl (by as_aux_lemma => kernel_rfl) (by as_aux_lemma => kernel_rfl) (by as_aux_lemma => kernel_rfl) (fun _ _ _ h => h) (Or.inl ⟨(by as_aux_lemma => kernel_rfl), ?hy5_0_3⟩) hH ?rest5_0_3
      case hy5_0_3 => (intro w hSw; (try dsimp only at hSw); go_simp; try with_reducible rfl)
      try simp only [Act.put, List.setIfInBounds_toArray, List.set_cons_zero, List.set_cons_succ]
      refine wpAnyH_ready (rs := [4]) (by as_aux_lemma => kernel_rfl) (by simp) ?_
      refine AllReadyH.cons (o := { dst := some 83, op := Go.Op.call { callee := Go.Callee.value (Go.Operand.func 55), args := #[Go.Operand.tmp 80, Go.Operand.tmp 82], argTypes := #[33, 33] }, type := 109, pos := "ref.go:52", after := #[{ on := 1, ground := Go.Ground.data }, { on := 3, ground := Go.Ground.data }], guard := none }) rfl (fun K hK => ?_) AllReadyH.nil
      have hdw := Z.out.1.trans (hd0.mono Z.out.1.size)
      go_simp
      go_at_call 55
      (with_reducible refine (HI.out F _ _ _ _ _ _ _ (fun k hk => H.out.1 k (by have := hdw.size; omega)) (by have := HN.out; omega) (HL.out.stay hdw) (HM.out.stay hdw)).mono ?_)
      rintro e w3 ⟨A3, n3, c3, rfl, hh, hb3⟩
      rw [← HKK.out.1]
      refine hK.out _ _ ?_ (fun hH2 => ?_)
      · exact HS4.out _ (hd0.trans (hb3.mono hd0.size))
      clear hK K hH
      have hH := hH2
      clear hH2
      have hb4 := hd0.trans (hb3.mono hd0.size)
      have H3 := Lib.hid (And.intro hh (And.intro (hdw.trans (hb3.mono hdw.size)) hb4))
      clear hh hb3
      try simp only [Act.put, List.setIfInBounds_toArray, List.set_cons_zero, List.set_cons_succ]
      refine wpAnyH_take (i := 5) (oi := { dst := some 78, op := Go.Op.move (Go.Operand.tmp 83), type := 109, pos := "ref.go:52", after := #[{ on := 4, ground := Go.Ground.data }], guard := none }) (v := ?v5_0_5) rfl (by as_aux_lemma => kernel_rfl) (by as_aux_lemma => kernel_rfl) (by as_aux_lemma => kernel_rfl) (fun _ _ _ h => h) (Or.inl ⟨(by as_aux_lemma => kernel_rfl), ?hy5_0_5⟩) hH ?rest5_0_5
      case hy5_0_5 => (intro w hSw; (try dsimp only at hSw); go_simp; try with_reducible rfl)
      try simp only [Act.put, List.setIfInBounds_toArray, List.set_cons_zero, List.set_cons_succ]
      refine wpAnyH_take (i := 6) (oi := { dst := some 84, op := Go.Op.extract (Go.Operand.tmp 78) 0, type := 33, pos := "ref.go:52", after := #[{ on := 5, ground := Go.Ground.data }], guard := none }) (v := ?v5_0_6) rfl (by as_aux_lemma => kernel_rfl) (by as_aux_lemma => kernel_rfl) (by as_aux_lemma => kernel_rfl) (fun _ _ _ h => h) (Or.inl ⟨(by as_aux_lemma => kernel_rfl), ?hy5_0_6⟩) hH ?rest5_0_6
      case hy5_0_6 => (intro w hSw; (try dsimp only at hSw); go_simp; try with_reducible rfl)
      try simp only [Act.put, List.setIfInBounds_toArray, List.set_cons_zero, List.set_cons_succ]
      refine wpAnyH_take (i := 7) (oi := { dst := some 85, op := Go.Op.extract (Go.Operand.tmp 78) 1, type := 3, pos := "ref.go:52", after := #[{ on := 5, ground := Go.Ground.data }, { on := 8, ground := Go.Ground.gcOnly Go.Departure.lateStores }], guard := none }) (v := ?v5_0_7) rfl (by as_aux_lemma => kernel_rfl) (by as_aux_lemma => kernel_rfl) (by as_aux_lemma => kernel_rfl) (fun _ _ _ h => h) (Or.inl ⟨(by as_aux_lemma => kernel_rfl), ?hy5_0_7⟩) hH ?rest5_0_7
      case hy5_0_7 => (intro w hSw; (try dsimp only at hSw); go_simp; try with_reducible rfl)
      try simp only [Act.put, List.setIfInBounds_toArray, List.set_cons_zero, List.set_cons_succ]
      refine wpAnyH_ready (rs := [8]) (by as_aux_lemma => kernel_rfl) (by simp) ?_
      refine AllReadyH.cons (o := { dst := some 12, op := Go.Op.assign (Go.Operand.tmp 84), type := 33, pos := "ref.go:52", after := #[{ on := 6, ground := Go.Ground.data }, { on := 4, ground := Go.Ground.chain }, { on := 0, ground := Go.Ground.phase }, { on := 1, ground := Go.Ground.phase }, { on := 2, ground := Go.Ground.phase }, { on := 3, ground := Go.Ground.phase }, { on := 4, ground := Go.Ground.phase }, { on := 5, ground := Go.Ground.phase }, { on := 6, ground := Go.Ground.phase }, { on := 7, ground := Go.Ground.textOnly Go.Departure.lateStores }], guard := none }) rfl (fun K hK => ?_) AllReadyH.nil
      go_simp
      refine hK.out _ _ ?_ (fun hH2 => ?_)
      · exact HS4.out _ hb4
      clear hK K hH
      have hH := hH2
      clear hH2
      try simp only [Act.put, List.setIfInBounds_toArray, List.set_cons_zero, List.set_cons_succ]
      refine wpAnyH_ready (rs := [9]) (by as_aux_lemma => kernel_rfl) (by simp) ?_
      refine AllReadyH.cons (o := { dst := some 13, op := Go.Op.assign (Go.Operand.tmp 85), type := 3, pos := "ref.go:52", after := #[{ on := 7, ground := Go.Ground.data }, { on := 8, ground := Go.Ground.chain }, { on := 0, ground := Go.Ground.phase }, { on := 1, ground := Go.Ground.phase }, { on := 2, ground := Go.Ground.phase }, { on := 3, ground := Go.Ground.phase }, { on := 4, ground := Go.Ground.phase }, { on := 5, ground := Go.Ground.phase }, { on := 6, ground := Go.Ground.phase }, { on := 7, ground := Go.Ground.phase }, { on := 8, ground := Go.Ground.phase }], guard := none }) rfl (fun K hK => ?_) AllReadyH.nil
      go_simp
      refine hK.out _ _ ?_ (fun hH2 => ?_)
      · exact HS4.out _ hb4
      clear hK K hH
      have hH := hH2
      clear hH2
      try simp only [Act.put, List.setIfInBounds_toArray, List.set_cons_zero, List.set_cons_succ]
      refine wpAnyH_done (by as_aux_lemma => kernel_rfl) ?_ _
      refine NoPanic.normal ?_
      clear hH
      have c0_ := (Z.out.2.1.stay H3.out.2.2).hex.c0
      have c1_ := (Z.out.2.1.stay H3.out.2.2).hex.c1
      have c2_ := (Z.out.2.1.stay H3.out.2.2).hex.c2
      have c3_ := (Z.out.2.1.stay H3.out.2.2).hex.c3
      have c4_ := (Z.out.2.1.stay H3.out.2.2).hex.c4
      have c5_ := (Z.out.2.1.stay H3.out.2.2).hex.c5
      clear hb4 hd0 hdw
      go_wp2_with fail
      have hPUT := refPuts (bmeld a b)
      unfold PutsR at hPUT
      have hln : bSize (bmeld a b) + (lnk f g).size < 268435456 := by rw [bmeld_size, lnk_size]; have := HN.out; omega
      ((with_reducible refine (hPUT F (lnk f g) vl z1 z2 Cb el eb Ck ek vz _ _ _ w3 (fun k hk => H.out.1 k (by have := H3.out.2.1.size; omega)) (by omega) (Z.out.2.2.stay H3.out.2.2) H3.out.1).mono ?_); rintro e w4 ⟨A4, n4, c4, rfl, hh, hb4⟩)
      rw [← HKK.out.2.1]
      have H4 := Lib.hid (And.intro hh (H3.out.2.1.trans (hb4.mono H3.out.2.1.size)))
      clear hh hb4 hln hPUT
      go_wp2_with fail
      refine bodyPost_ret (v := .tuple #[.slice A4 n4 c4, .int .i64 (2 + (kk : Int) + (jj : Int))]) (by simp [results, Tryz.results55, go_sem]) rfl ?_
      exact ⟨A4, n4, c4, by rw [bmeldN_eq HRR.out, show ((2 * (1 + bmeldN a b + putTN (bmeld a b) (lnk f g)) : Nat) : Int) = 2 + (kk : Int) + (jj : Int) by rw [HKK.out.1, HKK.out.2.1]; omega], by rw [bmeld_eq HRR.out]; exact H4.out.1, H4.out.2⟩

/-- The trees of two heaps melded. -/
theorem refTrees : ∀ a b : List Tre, TreesR a b :=
  bmeld_ind refTrees_nil refTrees_right (fun f a g b h ih => refTrees_lt f g a b h ih) (fun f a g b h ih => refTrees_gt f g a b h ih) (fun f a g b h ih => refTrees_eq f g a b h ih)

end Go.Proofs.YtaeainnkhjnlaaaGreatDoor
