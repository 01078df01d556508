/-
  Contract of the reference's trees (slagheapref11): two rows of trees of heaps melded, and how many steps there were; nothing that was there has changed. Condition: fewer than 2 to the 28th heaps together.
  Contracts of the reference's level and meld (slagheapref11): trees of heaps levelled, two queues melded, and how many steps there were; nothing that was there has changed. Condition: fewer than 2 to the 28th heaps together.
  Contract of the reference's least (slagheapref11): which tree of heaps has the least root; nothing that was there has changed. Condition: fewer than 2 to the 28th trees.
  Contract of the reference's insert (slagheapref11) where the first two trees aren't of one rank: a heap put into a queue, and how many steps there were; nothing that was there has changed. Condition: fewer than 2 to the 28th heaps.
-/
import Derived.Test.YtlmokendajgbdaaGreatDoorPa
import Derived.Deep.LoopGhost
namespace Go.Proofs.YtlmokendajgbdaaGreatDoor.Bo.Zr
open Go.Sort Go.RowKit Go.Proofs.YtlmokendajgbdaaGreatDoor.Gn Go.Proofs.YtlmokendajgbdaaGreatDoor.Bo

/-- What trees of two rows hands back. -/
def TreesR (a b : List (Gn.Tre Lh)) : Prop := ∀ (F : Nat → Prop) (A : Option Addr) (n c : Nat) (B : Option Addr) (m d : Nat) (w : World), (∀ k, w.heap.size ≤ k → F k) → Gn.bSize a + Gn.bSize b < 268435456 → TsAt F w a A n c → TsAt F w b B m d →
  Calls Tryz.prog 81 #[.slice A n c, .slice B m d] w (GaveLN F (bmeld a b) (2 * bmeldN a b) w)

set_option maxHeartbeats 1000000 in
theorem refTrees_nil (b : List (Gn.Tre Lh)) : TreesR [] b := by
  intro F A n c B m d w hF hs ha hb
  obtain rfl : n = 0 := ts_nil ha
  have H := Lib.hid hb
  clear ha hb hF hs
  go_enter Tryz.func81, Tryz.ntmps81
  go_wp2_with fail
  refine bodyPost_ret (v := .tuple #[.slice B m d, .int .i64 0]) (by simp [results, Tryz.results81, go_sem]) rfl ?_
  exact ⟨B, m, d, by rw [bmeldN_nil]; rfl, by rw [bmeld_nil]; exact H.out, Below.refl _ _⟩
set_option maxHeartbeats 1000000 in
theorem refTrees_right (f : Gn.Tre Lh) (a : List (Gn.Tre Lh)) : TreesR (f :: a) [] := by
  intro F A n c B m d w hF hs ha hb
  obtain rfl : m = 0 := ts_nil hb
  have hn : n = a.length + 1 := ha.1
  have zn1 : ((n : Int) == 0) = false := by simp; omega
  have zn2 : ¬ n = 0 := by omega
  have H := Lib.hid ha
  clear ha hb hF hs hn
  go_enter Tryz.func81, Tryz.ntmps81
  go_wp2_with fail
  refine bodyPost_ret (v := .tuple #[.slice A n c, .int .i64 0]) (by simp [results, Tryz.results81, go_sem]) rfl ?_
  exact ⟨A, n, c, by rw [bmeldN_right]; rfl, by rw [bmeld_right]; exact H.out, Below.refl _ _⟩

set_option maxRecDepth 100000 in
set_option maxHeartbeats 4000000 in
theorem refTrees_lt (f g : Gn.Tre Lh) (a b : List (Gn.Tre Lh)) (hr : f.rank < g.rank) (hI : TreesR a (g :: b)) : TreesR (f :: a) (g :: b) := by
  intro F A n c B m d w hF hs ha hb
  obtain ⟨x, o, Ax, Ab, Ak, ax, ab, ak, rfl, ⟨p0, p1, p2, p3⟩, hf⟩ := ts_first ha
  obtain ⟨y, q, Bx, Bb, Bk, bx, bb, bk, rfl, ⟨q0, q1, q2, q3⟩, hg⟩ := ts_first hb
  have hRa := ts_rest ha
  have hRb := ts_rest hb
  have hn : n = a.length + 1 := ha.1
  have hm : m = b.length + 1 := hb.1
  have hcn := ha.2.1.le
  have hcm := hb.2.1.le
  have hz1 := bSize_len a
  have hz2 := bSize_len b
  have hfs := f.rank_lt
  have hgs := g.rank_lt
  simp only [Gn.bSize] at hs
  have H := Lib.hid (And.intro hF (And.intro ha (And.intro hb (And.intro hf (And.intro hg (And.intro hRa (And.intro hRb (And.intro (show f.size + Gn.bSize a + (g.size + Gn.bSize b) < 268435456 from hs) (And.intro hn (And.intro hm (And.intro hfs (And.intro hgs (And.intro (show a.length ≤ Gn.bSize a from hz1) hz2)))))))))))))
  have HI := Lib.hid hI
  have HP := Lib.hid (And.intro p0 (And.intro p1 (And.intro p2 (And.intro p3 (And.intro q0 (And.intro q1 (And.intro q2 q3)))))))
  have HR := Lib.hid hr
  have zn1 : ((n : Int) == 0) = false := by simp; omega
  have zn2 : ¬ n = 0 := by omega
  have zn3 : (0 : Int) < (n : Int) := by omega
  have zn4 : 0 < n := by omega
  have zm1 : ((m : Int) == 0) = false := by simp; omega
  have zm2 : ¬ m = 0 := by omega
  have zm3 : (0 : Int) < (m : Int) := by omega
  have zm4 : 0 < m := by omega
  have g1 : decide ((f.rank : Int) < (g.rank : Int)) = true := by simp; omega
  have g2 : (f.rank : Int) < (g.rank : Int) := by omega
  by_cases hc1 : c = 1
  · subst hc1
    have hn1 : n = 1 := by omega
    subst hn1
    have hrn : a = [] := List.eq_nil_of_length_eq_zero (by have := H.out.2.2.2.2.2.2.2.2.1; omega)
    clear hF hs ha hb hf hg hRa hRb hn hm hz1 hz2 hfs hgs hI hr p1 p2 p3 q1 q2 q3
    go_enter Tryz.func81, Tryz.ntmps81
    go_wp2_with fail
    go_region_held3 (fun w' => w'.cell? ⟨x, o, none⟩ = some (.int .i64 f.rank) ∧ w'.cell? ⟨y, q, none⟩ = some (.int .i64 g.rank)) (go_keep) (fail)
    have hW : Below w.heap.size w w.drew := (Below.refl _ _).drew
    have hI2 := HI.out
    unfold TreesR at hI2
    have HT := Lib.hid (hI2 F (some ⟨x, o, none⟩) 0 0 (some ⟨y, q, none⟩) m d w.drew (fun k hk => H.out.1 k hk) (by have h8 := H.out.2.2.2.2.2.2.2.1; have h9 : 0 < f.size := (by simp only [Gn.Tre.size]; omega); have h10 : 0 < g.size := (by simp only [Gn.Tre.size]; omega); simp only [Gn.bSize]; omega) (by rw [hrn]; exact ts_zero F _ x o) (H.out.2.2.1.stay hW))
    clear hI2 hW p0 q0 hrn
    go_wp2_with fail
    ((with_reducible refine HT.out.mono ?_); rintro e w6 ⟨L, nl, cl, rfl, hh, hb6⟩)
    have hB6 : Below w.heap.size w w6 := ((Below.refl w.heap.size w).drew).trans hb6
    have v0 := stay_cell hB6 HP.out.1
    have v1 := stay_cell hB6 HP.out.2.1
    have v2 := stay_cell hB6 HP.out.2.2.1
    have v3 := stay_cell hB6 HP.out.2.2.2.1
    obtain ⟨hkn, hkA, kc, hk1, hk2⟩ := hh
    have hnl : nl < 1000000000 := by have h7 := (bmeld_len a (g :: b)); have h8 := H.out.2.2.2.2.2.2.2; simp only [List.length_cons] at h7; rw [hkn]; simp only [Rows.len]; omega
    obtain ⟨A7, c7, w7, hrun, hC, hnn, hb7⟩ := append_t F w6 (fun k hk => H.out.1 k (Nat.le_trans hB6.size hk)) (.int .i64 f.rank) (.slice Ax 1 ax) (.slice Ab f.bs.length ab) (.slice Ak f.rank ak) L nl cl kc (by rw [hk1.length, ← hkn]) hk1.one hk2 hkA.none hnl
    have P7 := Lib.hid (And.intro hC (And.intro hnn (And.intro hb7 (And.intro hk1 (And.intro hB6 hkn)))))
    clear hkn hkA hk1 hk2 hC hnn hb7 hb6 hB6 hnl
    go_wp2_with (at_builtin; refine wpList_append_run rfl _ _ _ rfl _ _ _ _ rfl rfl hrun ?_)
    refine bodyPost_ret (v := .tuple #[.slice A7 (nl + 1) c7, .int .i64 ((2 * bmeldN a (g :: b) : Nat) : Int)]) (by simp [results, Tryz.results81, go_sem]) rfl ?_
    have f7 := Far.below (F := F) P7.out.2.2.1
    have hB7 : Below w.heap.size w w7 := P7.out.2.2.2.2.1.trans (P7.out.2.2.1.mono P7.out.2.2.2.2.1.size)
    exact ⟨A7, nl + 1, c7, by rw [bmeldN_lt HR.out], by rw [bmeld_lt HR.out]; exact ⟨by rw [P7.out.2.2.2.2.2]; rfl, P7.out.2.1, _, RK.cons_t (H.out.2.2.2.1.stay hB7) (P7.out.2.2.2.1.far f7), P7.out.1⟩, hB7⟩
  · have m0 : ¬ n < 1 := by omega
    have m1 : 1 ≤ n := by omega
    have m2 : (1 : Int) ≤ (n : Int) := by omega
    have m3 : ¬ (n : Int) < 1 := by omega
    have m4 : ¬ 1 = c := by omega
    have m5 : 0 < c := by omega
    have m6 : (n : Int) ≤ (c : Int) := by omega
    have m7 : (1 : Int) ≤ (c : Int) := by omega
    have m8 : ¬ c - 1 = 0 := by omega
    have m9 : ¬ c ≤ 1 := by omega
    have m10 : 1 < c := by omega
    have m12 : 1 ≤ c := by omega
    clear hF hs ha hb hf hg hRa hRb hn hm hz1 hz2 hfs hgs hI hr p1 p2 p3 q1 q2 q3
    go_enter Tryz.func81, Tryz.ntmps81
    go_wp2_with fail
    go_region_held3 (fun w' => w'.cell? ⟨x, o, none⟩ = some (.int .i64 f.rank) ∧ w'.cell? ⟨y, q, none⟩ = some (.int .i64 g.rank)) (go_keep) (fail)
    have hW : Below w.heap.size w w.drew := (Below.refl _ _).drew
    have hI2 := HI.out
    unfold TreesR at hI2
    have HT := Lib.hid (hI2 F (some ⟨x, o + 1 * 4, none⟩) (n - 1) (c - 1) (some ⟨y, q, none⟩) m d w.drew (fun k hk => H.out.1 k hk) (by have h8 := H.out.2.2.2.2.2.2.2.1; have h9 : 0 < f.size := (by simp only [Gn.Tre.size]; omega); have h10 : 0 < g.size := (by simp only [Gn.Tre.size]; omega); simp only [Gn.bSize]; omega) (H.out.2.2.2.2.2.1.stay hW) (H.out.2.2.1.stay hW))
    clear hI2 hW p0 q0
    go_wp2_with fail
    ((with_reducible refine HT.out.mono ?_); rintro e w6 ⟨L, nl, cl, rfl, hh, hb6⟩)
    have hB6 : Below w.heap.size w w6 := ((Below.refl w.heap.size w).drew).trans hb6
    have v0 := stay_cell hB6 HP.out.1
    have v1 := stay_cell hB6 HP.out.2.1
    have v2 := stay_cell hB6 HP.out.2.2.1
    have v3 := stay_cell hB6 HP.out.2.2.2.1
    obtain ⟨hkn, hkA, kc, hk1, hk2⟩ := hh
    have hnl : nl < 1000000000 := by have h7 := (bmeld_len a (g :: b)); have h8 := H.out.2.2.2.2.2.2.2; simp only [List.length_cons] at h7; rw [hkn]; simp only [Rows.len]; omega
    obtain ⟨A7, c7, w7, hrun, hC, hnn, hb7⟩ := append_t F w6 (fun k hk => H.out.1 k (Nat.le_trans hB6.size hk)) (.int .i64 f.rank) (.slice Ax 1 ax) (.slice Ab f.bs.length ab) (.slice Ak f.rank ak) L nl cl kc (by rw [hk1.length, ← hkn]) hk1.one hk2 hkA.none hnl
    have P7 := Lib.hid (And.intro hC (And.intro hnn (And.intro hb7 (And.intro hk1 (And.intro hB6 hkn)))))
    clear hkn hkA hk1 hk2 hC hnn hb7 hb6 hB6 hnl
    go_wp2_with (at_builtin; refine wpList_append_run rfl _ _ _ rfl _ _ _ _ rfl rfl hrun ?_)
    refine bodyPost_ret (v := .tuple #[.slice A7 (nl + 1) c7, .int .i64 ((2 * bmeldN a (g :: b) : Nat) : Int)]) (by simp [results, Tryz.results81, go_sem]) rfl ?_
    have f7 := Far.below (F := F) P7.out.2.2.1
    have hB7 : Below w.heap.size w w7 := P7.out.2.2.2.2.1.trans (P7.out.2.2.1.mono P7.out.2.2.2.2.1.size)
    exact ⟨A7, nl + 1, c7, by rw [bmeldN_lt HR.out], by rw [bmeld_lt HR.out]; exact ⟨by rw [P7.out.2.2.2.2.2]; rfl, P7.out.2.1, _, RK.cons_t (H.out.2.2.2.1.stay hB7) (P7.out.2.2.2.1.far f7), P7.out.1⟩, hB7⟩

set_option maxRecDepth 100000 in
set_option maxHeartbeats 4000000 in
theorem refTrees_gt (f g : Gn.Tre Lh) (a b : List (Gn.Tre Lh)) (hr : g.rank < f.rank) (hI : TreesR (f :: a) b) : TreesR (f :: a) (g :: b) := by
  intro F A n c B m d w hF hs ha hb
  obtain ⟨x, o, Ax, Ab, Ak, ax, ab, ak, rfl, ⟨p0, p1, p2, p3⟩, hf⟩ := ts_first ha
  obtain ⟨y, q, Bx, Bb, Bk, bx, bb, bk, rfl, ⟨q0, q1, q2, q3⟩, hg⟩ := ts_first hb
  have hRa := ts_rest ha
  have hRb := ts_rest hb
  have hn : n = a.length + 1 := ha.1
  have hm : m = b.length + 1 := hb.1
  have hcn := ha.2.1.le
  have hcm := hb.2.1.le
  have hz1 := bSize_len a
  have hz2 := bSize_len b
  have hfs := f.rank_lt
  have hgs := g.rank_lt
  simp only [Gn.bSize] at hs
  have H := Lib.hid (And.intro hF (And.intro ha (And.intro hb (And.intro hf (And.intro hg (And.intro hRa (And.intro hRb (And.intro (show f.size + Gn.bSize a + (g.size + Gn.bSize b) < 268435456 from hs) (And.intro hn (And.intro hm (And.intro hfs (And.intro hgs (And.intro (show a.length ≤ Gn.bSize a from hz1) hz2)))))))))))))
  have HI := Lib.hid hI
  have HP := Lib.hid (And.intro p0 (And.intro p1 (And.intro p2 (And.intro p3 (And.intro q0 (And.intro q1 (And.intro q2 q3)))))))
  have HR := Lib.hid hr
  have zn1 : ((n : Int) == 0) = false := by simp; omega
  have zn2 : ¬ n = 0 := by omega
  have zn3 : (0 : Int) < (n : Int) := by omega
  have zn4 : 0 < n := by omega
  have zm1 : ((m : Int) == 0) = false := by simp; omega
  have zm2 : ¬ m = 0 := by omega
  have zm3 : (0 : Int) < (m : Int) := by omega
  have zm4 : 0 < m := by omega
  have g1 : decide ((f.rank : Int) < (g.rank : Int)) = false := by simp; omega
  have g2 : ¬ (f.rank : Int) < (g.rank : Int) := by omega
  have h1 : decide ((g.rank : Int) < (f.rank : Int)) = true := by simp; omega
  have h2 : (g.rank : Int) < (f.rank : Int) := by omega
  by_cases hc1 : d = 1
  · subst hc1
    have hn1 : m = 1 := by omega
    subst hn1
    have hrn : b = [] := List.eq_nil_of_length_eq_zero (by have := H.out.2.2.2.2.2.2.2.2.2.1; omega)
    clear hF hs ha hb hf hg hRa hRb hn hm hz1 hz2 hfs hgs hI hr p1 p2 p3 q1 q2 q3
    go_enter Tryz.func81, Tryz.ntmps81
    go_wp2_with fail
    go_region_held3 (fun w' => w'.cell? ⟨x, o, none⟩ = some (.int .i64 f.rank) ∧ w'.cell? ⟨y, q, none⟩ = some (.int .i64 g.rank)) (go_keep) (fail)
    go_wp2_with fail
    go_region_held3 (fun w' => w'.cell? ⟨x, o, none⟩ = some (.int .i64 f.rank) ∧ w'.cell? ⟨y, q, none⟩ = some (.int .i64 g.rank)) (go_keep) (fail)
    have hW : Below w.heap.size w w.drew.drew := ((Below.refl _ _).drew).drew
    have hI2 := HI.out
    unfold TreesR at hI2
    have HT := Lib.hid (hI2 F (some ⟨x, o, none⟩) n c (some ⟨y, q, none⟩) 0 0 w.drew.drew (fun k hk => H.out.1 k hk) (by have h8 := H.out.2.2.2.2.2.2.2.1; have h9 : 0 < f.size := (by simp only [Gn.Tre.size]; omega); have h10 : 0 < g.size := (by simp only [Gn.Tre.size]; omega); simp only [Gn.bSize]; omega) (H.out.2.1.stay hW) (by rw [hrn]; exact ts_zero F _ y q))
    clear hI2 hW p0 q0 hrn
    go_wp2_with fail
    ((with_reducible refine HT.out.mono ?_); rintro e w6 ⟨L, nl, cl, rfl, hh, hb6⟩)
    have hB6 : Below w.heap.size w w6 := (((Below.refl w.heap.size w).drew).drew).trans hb6
    have v0 := stay_cell hB6 HP.out.2.2.2.2.1
    have v1 := stay_cell hB6 HP.out.2.2.2.2.2.1
    have v2 := stay_cell hB6 HP.out.2.2.2.2.2.2.1
    have v3 := stay_cell hB6 HP.out.2.2.2.2.2.2.2
    obtain ⟨hkn, hkA, kc, hk1, hk2⟩ := hh
    have hnl : nl < 1000000000 := by have h7 := (bmeld_len (f :: a) b); have h8 := H.out.2.2.2.2.2.2.2; simp only [List.length_cons] at h7; rw [hkn]; simp only [Rows.len]; omega
    obtain ⟨A7, c7, w7, hrun, hC, hnn, hb7⟩ := append_t F w6 (fun k hk => H.out.1 k (Nat.le_trans hB6.size hk)) (.int .i64 g.rank) (.slice Bx 1 bx) (.slice Bb g.bs.length bb) (.slice Bk g.rank bk) L nl cl kc (by rw [hk1.length, ← hkn]) hk1.one hk2 hkA.none hnl
    have P7 := Lib.hid (And.intro hC (And.intro hnn (And.intro hb7 (And.intro hk1 (And.intro hB6 hkn)))))
    clear hkn hkA hk1 hk2 hC hnn hb7 hb6 hB6 hnl
    go_wp2_with (at_builtin; refine wpList_append_run rfl _ _ _ rfl _ _ _ _ rfl rfl hrun ?_)
    refine bodyPost_ret (v := .tuple #[.slice A7 (nl + 1) c7, .int .i64 ((2 * bmeldN (f :: a) b : Nat) : Int)]) (by simp [results, Tryz.results81, go_sem]) rfl ?_
    have f7 := Far.below (F := F) P7.out.2.2.1
    have hB7 : Below w.heap.size w w7 := P7.out.2.2.2.2.1.trans (P7.out.2.2.1.mono P7.out.2.2.2.2.1.size)
    exact ⟨A7, nl + 1, c7, by rw [bmeldN_gt HR.out], by rw [bmeld_gt HR.out]; exact ⟨by rw [P7.out.2.2.2.2.2]; rfl, P7.out.2.1, _, RK.cons_t (H.out.2.2.2.2.1.stay hB7) (P7.out.2.2.2.1.far f7), P7.out.1⟩, hB7⟩
  · have m0 : ¬ m < 1 := by omega
    have m1 : 1 ≤ m := by omega
    have m2 : (1 : Int) ≤ (m : Int) := by omega
    have m3 : ¬ (m : Int) < 1 := by omega
    have m4 : ¬ 1 = d := by omega
    have m5 : 0 < d := by omega
    have m6 : (m : Int) ≤ (d : Int) := by omega
    have m7 : (1 : Int) ≤ (d : Int) := by omega
    have m8 : ¬ d - 1 = 0 := by omega
    have m9 : ¬ d ≤ 1 := by omega
    have m10 : 1 < d := by omega
    have m12 : 1 ≤ d := by omega
    clear hF hs ha hb hf hg hRa hRb hn hm hz1 hz2 hfs hgs hI hr p1 p2 p3 q1 q2 q3
    go_enter Tryz.func81, Tryz.ntmps81
    go_wp2_with fail
    go_region_held3 (fun w' => w'.cell? ⟨x, o, none⟩ = some (.int .i64 f.rank) ∧ w'.cell? ⟨y, q, none⟩ = some (.int .i64 g.rank)) (go_keep) (fail)
    go_wp2_with fail
    go_region_held3 (fun w' => w'.cell? ⟨x, o, none⟩ = some (.int .i64 f.rank) ∧ w'.cell? ⟨y, q, none⟩ = some (.int .i64 g.rank)) (go_keep) (fail)
    have hW : Below w.heap.size w w.drew.drew := ((Below.refl _ _).drew).drew
    have hI2 := HI.out
    unfold TreesR at hI2
    have HT := Lib.hid (hI2 F (some ⟨x, o, none⟩) n c (some ⟨y, q + 1 * 4, none⟩) (m - 1) (d - 1) w.drew.drew (fun k hk => H.out.1 k hk) (by have h8 := H.out.2.2.2.2.2.2.2.1; have h9 : 0 < f.size := (by simp only [Gn.Tre.size]; omega); have h10 : 0 < g.size := (by simp only [Gn.Tre.size]; omega); simp only [Gn.bSize]; omega) (H.out.2.1.stay hW) (H.out.2.2.2.2.2.2.1.stay hW))
    clear hI2 hW p0 q0
    go_wp2_with fail
    ((with_reducible refine HT.out.mono ?_); rintro e w6 ⟨L, nl, cl, rfl, hh, hb6⟩)
    have hB6 : Below w.heap.size w w6 := (((Below.refl w.heap.size w).drew).drew).trans hb6
    have v0 := stay_cell hB6 HP.out.2.2.2.2.1
    have v1 := stay_cell hB6 HP.out.2.2.2.2.2.1
    have v2 := stay_cell hB6 HP.out.2.2.2.2.2.2.1
    have v3 := stay_cell hB6 HP.out.2.2.2.2.2.2.2
    obtain ⟨hkn, hkA, kc, hk1, hk2⟩ := hh
    have hnl : nl < 1000000000 := by have h7 := (bmeld_len (f :: a) b); have h8 := H.out.2.2.2.2.2.2.2; simp only [List.length_cons] at h7; rw [hkn]; simp only [Rows.len]; omega
    obtain ⟨A7, c7, w7, hrun, hC, hnn, hb7⟩ := append_t F w6 (fun k hk => H.out.1 k (Nat.le_trans hB6.size hk)) (.int .i64 g.rank) (.slice Bx 1 bx) (.slice Bb g.bs.length bb) (.slice Bk g.rank bk) L nl cl kc (by rw [hk1.length, ← hkn]) hk1.one hk2 hkA.none hnl
    have P7 := Lib.hid (And.intro hC (And.intro hnn (And.intro hb7 (And.intro hk1 (And.intro hB6 hkn)))))
    clear hkn hkA hk1 hk2 hC hnn hb7 hb6 hB6 hnl
    go_wp2_with (at_builtin; refine wpList_append_run rfl _ _ _ rfl _ _ _ _ rfl rfl hrun ?_)
    refine bodyPost_ret (v := .tuple #[.slice A7 (nl + 1) c7, .int .i64 ((2 * bmeldN (f :: a) b : Nat) : Int)]) (by simp [results, Tryz.results81, go_sem]) rfl ?_
    have f7 := Far.below (F := F) P7.out.2.2.1
    have hB7 : Below w.heap.size w w7 := P7.out.2.2.2.2.1.trans (P7.out.2.2.1.mono P7.out.2.2.2.2.1.size)
    exact ⟨A7, nl + 1, c7, by rw [bmeldN_gt HR.out], by rw [bmeld_gt HR.out]; exact ⟨by rw [P7.out.2.2.2.2.2]; rfl, P7.out.2.1, _, RK.cons_t (H.out.2.2.2.2.1.stay hB7) (P7.out.2.2.2.1.far f7), P7.out.1⟩, hB7⟩

set_option maxRecDepth 100000 in
set_option maxHeartbeats 4000000 in
theorem refTrees_eq (f g : Gn.Tre Lh) (a b : List (Gn.Tre Lh)) (hr : f.rank = g.rank) (hI : TreesR a b) : TreesR (f :: a) (g :: b) := by
  intro F A n c B m d w hF hs ha hb
  obtain ⟨x, o, Ax, Ab, Ak, ax, ab, ak, rfl, ⟨p0, p1, p2, p3⟩, hf⟩ := ts_first ha
  obtain ⟨y, q, Bx, Bb, Bk, bx, bb, bk, rfl, ⟨q0, q1, q2, q3⟩, hg⟩ := ts_first hb
  have hRa := ts_rest ha
  have hRb := ts_rest hb
  have hn : n = a.length + 1 := ha.1
  have hm : m = b.length + 1 := hb.1
  have hcn := ha.2.1.le
  have hcm := hb.2.1.le
  have hz1 := bSize_len a
  have hz2 := bSize_len b
  have hfs := f.rank_lt
  have hgs := g.rank_lt
  simp only [Gn.bSize] at hs
  have H := Lib.hid (And.intro hF (And.intro ha (And.intro hb (And.intro hf (And.intro hg (And.intro hRa (And.intro hRb (And.intro (show f.size + Gn.bSize a + (g.size + Gn.bSize b) < 268435456 from hs) (And.intro hn (And.intro hm (And.intro hfs (And.intro hgs (And.intro (show a.length ≤ Gn.bSize a from hz1) hz2)))))))))))))
  have HI := Lib.hid hI
  have HP := Lib.hid (And.intro p0 (And.intro p1 (And.intro p2 (And.intro p3 (And.intro q0 (And.intro q1 (And.intro q2 q3)))))))
  have HR := Lib.hid hr
  have zn1 : ((n : Int) == 0) = false := by simp; omega
  have zn2 : ¬ n = 0 := by omega
  have zn3 : (0 : Int) < (n : Int) := by omega
  have zn4 : 0 < n := by omega
  have zm1 : ((m : Int) == 0) = false := by simp; omega
  have zm2 : ¬ m = 0 := by omega
  have zm3 : (0 : Int) < (m : Int) := by omega
  have zm4 : 0 < m := by omega
  have g1 : decide ((f.rank : Int) < (g.rank : Int)) = false := by simp; omega
  have g2 : ¬ (f.rank : Int) < (g.rank : Int) := by omega
  have h1 : decide ((g.rank : Int) < (f.rank : Int)) = false := by simp; omega
  have h2 : ¬ (g.rank : Int) < (f.rank : Int) := by omega
  by_cases hc1 : c = 1
  · by_cases hd1 : d = 1
    · subst hc1
      have hn1n : n = 1 := by omega
      subst hn1n
      have hrnn : a = [] := List.eq_nil_of_length_eq_zero (by have := H.out.2.2.2.2.2.2.2.2.1; omega)
      subst hd1
      have hn1m : m = 1 := by omega
      subst hn1m
      have hrnm : b = [] := List.eq_nil_of_length_eq_zero (by have := H.out.2.2.2.2.2.2.2.2.2.1; omega)
      obtain ⟨kk, hkk⟩ : ∃ z, z = 2 * bmeldN a b := ⟨_, rfl⟩
      obtain ⟨kj, hkj⟩ : ∃ z, z = 2 * putTN (bmeld a b) (lnk f g) := ⟨_, rfl⟩
      have hl1 := bmeld_len a b
      have hl2 := putT_len (bmeld a b) (lnk f g)
      have HKK := Lib.hid (show kk = 2 * bmeldN a b ∧ kk < 1000000000 ∧ kj = 2 * putTN (bmeld a b) (lnk f g) ∧ kj < 1000000000 from ⟨hkk, by have := H.out.2.2.2.2.2.2.2; omega, hkj, by have := H.out.2.2.2.2.2.2.2; omega⟩)
      have wk1 : IntKind.i64.wrap ((kk : Int) + (kj : Int)) = (kk : Int) + (kj : Int) := by have := HKK.out; rw [IntKind.wrap_i64]; omega
      have wk2 : IntKind.i64.wrap ((kk : Int) + (kj : Int) + 2) = (kk : Int) + (kj : Int) + 2 := by have := HKK.out; rw [IntKind.wrap_i64]; omega
      clear hkk hkj hl1 hl2
      have hW : Below w.heap.size w w.drew.drew.drew := (((Below.refl _ _).drew).drew).drew
      have hI2 := HI.out
      unfold TreesR at hI2
      have HT := Lib.hid (hI2 F (some ⟨x, o, none⟩) 0 0 (some ⟨y, q, none⟩) 0 0 w.drew.drew.drew (fun k hk => H.out.1 k hk) (by have h8 := H.out.2.2.2.2.2.2.2.1; omega) (by rw [hrnn]; exact ts_zero F _ x o) (by rw [hrnm]; exact ts_zero F _ y q))
      clear hI2
      have r1 := stay_cell ((Below.refl w.heap.size w).drew.drew) HP.out.1
      have r5 := stay_cell ((Below.refl w.heap.size w).drew.drew) HP.out.2.2.2.2.1
      clear hF hs ha hb hf hg hRa hRb hn hm hz1 hz2 hfs hgs hI hr hW hrnn hrnm
      go_enter Tryz.func81, Tryz.ntmps81
      go_wp2_with fail
      go_region_held3 (fun w' => w'.cell? ⟨x, o, none⟩ = some (.int .i64 f.rank) ∧ w'.cell? ⟨y, q, none⟩ = some (.int .i64 g.rank)) (go_keep) (fail)
      go_wp2_with fail
      go_region_held3 (fun w' => w'.cell? ⟨x, o, none⟩ = some (.int .i64 f.rank) ∧ w'.cell? ⟨y, q, none⟩ = some (.int .i64 g.rank)) (go_keep) (fail)
      have z1 := stay_cell ((Below.refl w.heap.size w).drew.drew) HP.out.2.1
      have z2 := stay_cell ((Below.refl w.heap.size w).drew.drew) HP.out.2.2.1
      have z3 := stay_cell ((Below.refl w.heap.size w).drew.drew) HP.out.2.2.2.1
      have z5 := stay_cell ((Below.refl w.heap.size w).drew.drew) HP.out.2.2.2.2.2.1
      have z6 := stay_cell ((Below.refl w.heap.size w).drew.drew) HP.out.2.2.2.2.2.2.1
      have z7 := stay_cell ((Below.refl w.heap.size w).drew.drew) HP.out.2.2.2.2.2.2.2
      go_wp2_with fail
      go_region_held3 (fun w' => w'.cell? ⟨x, o, none⟩ = some (.int .i64 f.rank) ∧ w'.cell? ⟨x, o + 1, none⟩ = some (.slice Ax 1 ax) ∧ w'.cell? ⟨x, o + 2, none⟩ = some (.slice Ab f.bs.length ab) ∧ w'.cell? ⟨x, o + 3, none⟩ = some (.slice Ak f.rank ak) ∧ w'.cell? ⟨y, q, none⟩ = some (.int .i64 g.rank) ∧ w'.cell? ⟨y, q + 1, none⟩ = some (.slice Bx 1 bx) ∧ w'.cell? ⟨y, q + 2, none⟩ = some (.slice Bb g.bs.length bb) ∧ w'.cell? ⟨y, q + 3, none⟩ = some (.slice Bk g.rank bk)) (go_keep)
        (first | (go_at_call 81; ((with_reducible refine (HT.out).mono ?_); rintro e w6 ⟨L, nl, cl, rfl, hh, hb6⟩; rw [← HKK.out.1]; have K6 := Lib.hid (And.intro hh ((((Below.refl w.heap.size w).drew.drew.drew).trans hb6))); have v0 := stay_cell K6.out.2 HP.out.1; have v1 := stay_cell K6.out.2 HP.out.2.1; have v2 := stay_cell K6.out.2 HP.out.2.2.1; have v3 := stay_cell K6.out.2 HP.out.2.2.2.1; have v4 := stay_cell K6.out.2 HP.out.2.2.2.2.1; have v5 := stay_cell K6.out.2 HP.out.2.2.2.2.2.1; have v6 := stay_cell K6.out.2 HP.out.2.2.2.2.2.2.1; have v7 := stay_cell K6.out.2 HP.out.2.2.2.2.2.2.2; clear hh hb6)) | fail)
      have hW6 : Below w.heap.size w w6.drew := K6.out.2.trans ((Below.refl w6.heap.size w6).drew.mono K6.out.2.size)
      have HLK := Lib.hid (refLink_any F f g Ax Ab Ak Bx Bb Bk ax ab ak bx bb bk w6.drew (fun k hk => H.out.1 k (Nat.le_trans hW6.size hk)) (H.out.2.2.2.1.stay hW6) (H.out.2.2.2.2.1.stay hW6) (by have := H.out.2.2.2.2.2.2.2; omega) (by have := H.out.2.2.2.2.2.2.2; omega))
      have hP2 := refPuts (bmeld a b)
      unfold PutsR at hP2
      have HPU := Lib.hid (fun (w7 : World) (Lx Lb Lk : Option Addr) (lx lb lk : Nat) (hL : RT F w7 (lnk f g) Lx lx Lb lb Lk lk) (hz : Below w6.heap.size w6 w7) => hP2 F (lnk f g) Lx Lb Lk lx lb lk L nl cl w7 (fun k hk => H.out.1 k (Nat.le_trans K6.out.2.size (Nat.le_trans hz.size hk))) (by rw [Gn.lnk_size, Gn.bmeld_size]; have := H.out.2.2.2.2.2.2.2.1; omega) hL (K6.out.1.stay hz))
      clear hP2 hW6
      go_wp2_with fail
      go_region_held3 (fun w' => w'.cell? ⟨x, o, none⟩ = some (.int .i64 f.rank) ∧ w'.cell? ⟨x, o + 1, none⟩ = some (.slice Ax 1 ax) ∧ w'.cell? ⟨x, o + 2, none⟩ = some (.slice Ab f.bs.length ab) ∧ w'.cell? ⟨x, o + 3, none⟩ = some (.slice Ak f.rank ak) ∧ w'.cell? ⟨y, q, none⟩ = some (.int .i64 g.rank) ∧ w'.cell? ⟨y, q + 1, none⟩ = some (.slice Bx 1 bx) ∧ w'.cell? ⟨y, q + 2, none⟩ = some (.slice Bb g.bs.length bb) ∧ w'.cell? ⟨y, q + 3, none⟩ = some (.slice Bk g.rank bk)) (go_keep)
        (first | (go_at_call 68; ((with_reducible refine (HLK.out).mono ?_); rintro e w7 ⟨Lx, Lb, Lk, lx, lb, lk, rfl, hL, hb7⟩; have K7 := Lib.hid (And.intro hL (((Below.refl w6.heap.size w6).drew).trans hb7)); have y0 := stay_cell (K6.out.2.trans (K7.out.2.mono K6.out.2.size)) HP.out.1; have y1 := stay_cell (K6.out.2.trans (K7.out.2.mono K6.out.2.size)) HP.out.2.1; have y2 := stay_cell (K6.out.2.trans (K7.out.2.mono K6.out.2.size)) HP.out.2.2.1; have y3 := stay_cell (K6.out.2.trans (K7.out.2.mono K6.out.2.size)) HP.out.2.2.2.1; have y4 := stay_cell (K6.out.2.trans (K7.out.2.mono K6.out.2.size)) HP.out.2.2.2.2.1; have y5 := stay_cell (K6.out.2.trans (K7.out.2.mono K6.out.2.size)) HP.out.2.2.2.2.2.1; have y6 := stay_cell (K6.out.2.trans (K7.out.2.mono K6.out.2.size)) HP.out.2.2.2.2.2.2.1; have y7 := stay_cell (K6.out.2.trans (K7.out.2.mono K6.out.2.size)) HP.out.2.2.2.2.2.2.2; clear hL hb7)) | (go_at_call 103; ((with_reducible refine (HPU.out _ Lx Lb Lk lx lb lk K7.out.1 K7.out.2).mono ?_); rintro e w8 ⟨A8, n8, c8, rfl, hh, hb8⟩; rw [← HKK.out.2.2.1]; have K8 := Lib.hid (And.intro hh (K7.out.2.trans (hb8.mono K7.out.2.size))); have u0 := stay_cell (K6.out.2.trans (K8.out.2.mono K6.out.2.size)) HP.out.1; have u1 := stay_cell (K6.out.2.trans (K8.out.2.mono K6.out.2.size)) HP.out.2.1; have u2 := stay_cell (K6.out.2.trans (K8.out.2.mono K6.out.2.size)) HP.out.2.2.1; have u3 := stay_cell (K6.out.2.trans (K8.out.2.mono K6.out.2.size)) HP.out.2.2.2.1; have u4 := stay_cell (K6.out.2.trans (K8.out.2.mono K6.out.2.size)) HP.out.2.2.2.2.1; have u5 := stay_cell (K6.out.2.trans (K8.out.2.mono K6.out.2.size)) HP.out.2.2.2.2.2.1; have u6 := stay_cell (K6.out.2.trans (K8.out.2.mono K6.out.2.size)) HP.out.2.2.2.2.2.2.1; have u7 := stay_cell (K6.out.2.trans (K8.out.2.mono K6.out.2.size)) HP.out.2.2.2.2.2.2.2; clear hh hb8)))
      go_wp2_with fail
      refine bodyPost_ret (v := .tuple #[.slice A8 n8 c8, .int .i64 ((kk : Int) + (kj : Int) + 2)]) (by simp [results, Tryz.results81, go_sem]) rfl ?_
      refine ⟨A8, n8, c8, ?_, by rw [bmeld_eq HR.out]; exact K8.out.1, K6.out.2.trans (K8.out.2.mono K6.out.2.size)⟩
      have e9 : ((2 * bmeldN (f :: a) (g :: b) : Nat) : Int) = (kk : Int) + (kj : Int) + 2 := by
        rw [bmeldN_eq HR.out]
        have h2 := HKK.out
        omega
      rw [e9]
    · subst hc1
      have hn1n : n = 1 := by omega
      subst hn1n
      have hrnn : a = [] := List.eq_nil_of_length_eq_zero (by have := H.out.2.2.2.2.2.2.2.2.1; omega)
      have k0 : ¬ m < 1 := by omega
      have k1 : 1 ≤ m := by omega
      have k2 : (1 : Int) ≤ (m : Int) := by omega
      have k3 : ¬ (m : Int) < 1 := by omega
      have k4 : ¬ 1 = d := by omega
      have k5 : 0 < d := by omega
      have k6 : (m : Int) ≤ (d : Int) := by omega
      have k7 : (1 : Int) ≤ (d : Int) := by omega
      have k8 : ¬ d - 1 = 0 := by omega
      have k9 : ¬ d ≤ 1 := by omega
      have k10 : 1 < d := by omega
      have k12 : 1 ≤ d := by omega
      obtain ⟨kk, hkk⟩ : ∃ z, z = 2 * bmeldN a b := ⟨_, rfl⟩
      obtain ⟨kj, hkj⟩ : ∃ z, z = 2 * putTN (bmeld a b) (lnk f g) := ⟨_, rfl⟩
      have hl1 := bmeld_len a b
      have hl2 := putT_len (bmeld a b) (lnk f g)
      have HKK := Lib.hid (show kk = 2 * bmeldN a b ∧ kk < 1000000000 ∧ kj = 2 * putTN (bmeld a b) (lnk f g) ∧ kj < 1000000000 from ⟨hkk, by have := H.out.2.2.2.2.2.2.2; omega, hkj, by have := H.out.2.2.2.2.2.2.2; omega⟩)
      have wk1 : IntKind.i64.wrap ((kk : Int) + (kj : Int)) = (kk : Int) + (kj : Int) := by have := HKK.out; rw [IntKind.wrap_i64]; omega
      have wk2 : IntKind.i64.wrap ((kk : Int) + (kj : Int) + 2) = (kk : Int) + (kj : Int) + 2 := by have := HKK.out; rw [IntKind.wrap_i64]; omega
      clear hkk hkj hl1 hl2
      have hW : Below w.heap.size w w.drew.drew.drew := (((Below.refl _ _).drew).drew).drew
      have hI2 := HI.out
      unfold TreesR at hI2
      have HT := Lib.hid (hI2 F (some ⟨x, o, none⟩) 0 0 (some ⟨y, q + 1 * 4, none⟩) (m - 1) (d - 1) w.drew.drew.drew (fun k hk => H.out.1 k hk) (by have h8 := H.out.2.2.2.2.2.2.2.1; omega) (by rw [hrnn]; exact ts_zero F _ x o) (H.out.2.2.2.2.2.2.1.stay hW))
      clear hI2
      have r1 := stay_cell ((Below.refl w.heap.size w).drew.drew) HP.out.1
      have r5 := stay_cell ((Below.refl w.heap.size w).drew.drew) HP.out.2.2.2.2.1
      clear hF hs ha hb hf hg hRa hRb hn hm hz1 hz2 hfs hgs hI hr hW hrnn
      go_enter Tryz.func81, Tryz.ntmps81
      go_wp2_with fail
      go_region_held3 (fun w' => w'.cell? ⟨x, o, none⟩ = some (.int .i64 f.rank) ∧ w'.cell? ⟨y, q, none⟩ = some (.int .i64 g.rank)) (go_keep) (fail)
      go_wp2_with fail
      go_region_held3 (fun w' => w'.cell? ⟨x, o, none⟩ = some (.int .i64 f.rank) ∧ w'.cell? ⟨y, q, none⟩ = some (.int .i64 g.rank)) (go_keep) (fail)
      have z1 := stay_cell ((Below.refl w.heap.size w).drew.drew) HP.out.2.1
      have z2 := stay_cell ((Below.refl w.heap.size w).drew.drew) HP.out.2.2.1
      have z3 := stay_cell ((Below.refl w.heap.size w).drew.drew) HP.out.2.2.2.1
      have z5 := stay_cell ((Below.refl w.heap.size w).drew.drew) HP.out.2.2.2.2.2.1
      have z6 := stay_cell ((Below.refl w.heap.size w).drew.drew) HP.out.2.2.2.2.2.2.1
      have z7 := stay_cell ((Below.refl w.heap.size w).drew.drew) HP.out.2.2.2.2.2.2.2
      go_wp2_with fail
      go_region_held3 (fun w' => w'.cell? ⟨x, o, none⟩ = some (.int .i64 f.rank) ∧ w'.cell? ⟨x, o + 1, none⟩ = some (.slice Ax 1 ax) ∧ w'.cell? ⟨x, o + 2, none⟩ = some (.slice Ab f.bs.length ab) ∧ w'.cell? ⟨x, o + 3, none⟩ = some (.slice Ak f.rank ak) ∧ w'.cell? ⟨y, q, none⟩ = some (.int .i64 g.rank) ∧ w'.cell? ⟨y, q + 1, none⟩ = some (.slice Bx 1 bx) ∧ w'.cell? ⟨y, q + 2, none⟩ = some (.slice Bb g.bs.length bb) ∧ w'.cell? ⟨y, q + 3, none⟩ = some (.slice Bk g.rank bk)) (go_keep)
        (first | (go_at_call 81; ((with_reducible refine (HT.out).mono ?_); rintro e w6 ⟨L, nl, cl, rfl, hh, hb6⟩; rw [← HKK.out.1]; have K6 := Lib.hid (And.intro hh ((((Below.refl w.heap.size w).drew.drew.drew).trans hb6))); have v0 := stay_cell K6.out.2 HP.out.1; have v1 := stay_cell K6.out.2 HP.out.2.1; have v2 := stay_cell K6.out.2 HP.out.2.2.1; have v3 := stay_cell K6.out.2 HP.out.2.2.2.1; have v4 := stay_cell K6.out.2 HP.out.2.2.2.2.1; have v5 := stay_cell K6.out.2 HP.out.2.2.2.2.2.1; have v6 := stay_cell K6.out.2 HP.out.2.2.2.2.2.2.1; have v7 := stay_cell K6.out.2 HP.out.2.2.2.2.2.2.2; clear hh hb6)) | fail)
      have hW6 : Below w.heap.size w w6.drew := K6.out.2.trans ((Below.refl w6.heap.size w6).drew.mono K6.out.2.size)
      have HLK := Lib.hid (refLink_any F f g Ax Ab Ak Bx Bb Bk ax ab ak bx bb bk w6.drew (fun k hk => H.out.1 k (Nat.le_trans hW6.size hk)) (H.out.2.2.2.1.stay hW6) (H.out.2.2.2.2.1.stay hW6) (by have := H.out.2.2.2.2.2.2.2; omega) (by have := H.out.2.2.2.2.2.2.2; omega))
      have hP2 := refPuts (bmeld a b)
      unfold PutsR at hP2
      have HPU := Lib.hid (fun (w7 : World) (Lx Lb Lk : Option Addr) (lx lb lk : Nat) (hL : RT F w7 (lnk f g) Lx lx Lb lb Lk lk) (hz : Below w6.heap.size w6 w7) => hP2 F (lnk f g) Lx Lb Lk lx lb lk L nl cl w7 (fun k hk => H.out.1 k (Nat.le_trans K6.out.2.size (Nat.le_trans hz.size hk))) (by rw [Gn.lnk_size, Gn.bmeld_size]; have := H.out.2.2.2.2.2.2.2.1; omega) hL (K6.out.1.stay hz))
      clear hP2 hW6
      go_wp2_with fail
      go_region_held3 (fun w' => w'.cell? ⟨x, o, none⟩ = some (.int .i64 f.rank) ∧ w'.cell? ⟨x, o + 1, none⟩ = some (.slice Ax 1 ax) ∧ w'.cell? ⟨x, o + 2, none⟩ = some (.slice Ab f.bs.length ab) ∧ w'.cell? ⟨x, o + 3, none⟩ = some (.slice Ak f.rank ak) ∧ w'.cell? ⟨y, q, none⟩ = some (.int .i64 g.rank) ∧ w'.cell? ⟨y, q + 1, none⟩ = some (.slice Bx 1 bx) ∧ w'.cell? ⟨y, q + 2, none⟩ = some (.slice Bb g.bs.length bb) ∧ w'.cell? ⟨y, q + 3, none⟩ = some (.slice Bk g.rank bk)) (go_keep)
        (first | (go_at_call 68; ((with_reducible refine (HLK.out).mono ?_); rintro e w7 ⟨Lx, Lb, Lk, lx, lb, lk, rfl, hL, hb7⟩; have K7 := Lib.hid (And.intro hL (((Below.refl w6.heap.size w6).drew).trans hb7)); have y0 := stay_cell (K6.out.2.trans (K7.out.2.mono K6.out.2.size)) HP.out.1; have y1 := stay_cell (K6.out.2.trans (K7.out.2.mono K6.out.2.size)) HP.out.2.1; have y2 := stay_cell (K6.out.2.trans (K7.out.2.mono K6.out.2.size)) HP.out.2.2.1; have y3 := stay_cell (K6.out.2.trans (K7.out.2.mono K6.out.2.size)) HP.out.2.2.2.1; have y4 := stay_cell (K6.out.2.trans (K7.out.2.mono K6.out.2.size)) HP.out.2.2.2.2.1; have y5 := stay_cell (K6.out.2.trans (K7.out.2.mono K6.out.2.size)) HP.out.2.2.2.2.2.1; have y6 := stay_cell (K6.out.2.trans (K7.out.2.mono K6.out.2.size)) HP.out.2.2.2.2.2.2.1; have y7 := stay_cell (K6.out.2.trans (K7.out.2.mono K6.out.2.size)) HP.out.2.2.2.2.2.2.2; clear hL hb7)) | (go_at_call 103; ((with_reducible refine (HPU.out _ Lx Lb Lk lx lb lk K7.out.1 K7.out.2).mono ?_); rintro e w8 ⟨A8, n8, c8, rfl, hh, hb8⟩; rw [← HKK.out.2.2.1]; have K8 := Lib.hid (And.intro hh (K7.out.2.trans (hb8.mono K7.out.2.size))); have u0 := stay_cell (K6.out.2.trans (K8.out.2.mono K6.out.2.size)) HP.out.1; have u1 := stay_cell (K6.out.2.trans (K8.out.2.mono K6.out.2.size)) HP.out.2.1; have u2 := stay_cell (K6.out.2.trans (K8.out.2.mono K6.out.2.size)) HP.out.2.2.1; have u3 := stay_cell (K6.out.2.trans (K8.out.2.mono K6.out.2.size)) HP.out.2.2.2.1; have u4 := stay_cell (K6.out.2.trans (K8.out.2.mono K6.out.2.size)) HP.out.2.2.2.2.1; have u5 := stay_cell (K6.out.2.trans (K8.out.2.mono K6.out.2.size)) HP.out.2.2.2.2.2.1; have u6 := stay_cell (K6.out.2.trans (K8.out.2.mono K6.out.2.size)) HP.out.2.2.2.2.2.2.1; have u7 := stay_cell (K6.out.2.trans (K8.out.2.mono K6.out.2.size)) HP.out.2.2.2.2.2.2.2; clear hh hb8)))
      go_wp2_with fail
      refine bodyPost_ret (v := .tuple #[.slice A8 n8 c8, .int .i64 ((kk : Int) + (kj : Int) + 2)]) (by simp [results, Tryz.results81, go_sem]) rfl ?_
      refine ⟨A8, n8, c8, ?_, by rw [bmeld_eq HR.out]; exact K8.out.1, K6.out.2.trans (K8.out.2.mono K6.out.2.size)⟩
      have e9 : ((2 * bmeldN (f :: a) (g :: b) : Nat) : Int) = (kk : Int) + (kj : Int) + 2 := by
        rw [bmeldN_eq HR.out]
        have h2 := HKK.out
        omega
      rw [e9]
  · by_cases hd1 : d = 1
    · have m0 : ¬ n < 1 := by omega
      have m1 : 1 ≤ n := by omega
      have m2 : (1 : Int) ≤ (n : Int) := by omega
      have m3 : ¬ (n : Int) < 1 := by omega
      have m4 : ¬ 1 = c := by omega
      have m5 : 0 < c := by omega
      have m6 : (n : Int) ≤ (c : Int) := by omega
      have m7 : (1 : Int) ≤ (c : Int) := by omega
      have m8 : ¬ c - 1 = 0 := by omega
      have m9 : ¬ c ≤ 1 := by omega
      have m10 : 1 < c := by omega
      have m12 : 1 ≤ c := by omega
      subst hd1
      have hn1m : m = 1 := by omega
      subst hn1m
      have hrnm : b = [] := List.eq_nil_of_length_eq_zero (by have := H.out.2.2.2.2.2.2.2.2.2.1; omega)
      obtain ⟨kk, hkk⟩ : ∃ z, z = 2 * bmeldN a b := ⟨_, rfl⟩
      obtain ⟨kj, hkj⟩ : ∃ z, z = 2 * putTN (bmeld a b) (lnk f g) := ⟨_, rfl⟩
      have hl1 := bmeld_len a b
      have hl2 := putT_len (bmeld a b) (lnk f g)
      have HKK := Lib.hid (show kk = 2 * bmeldN a b ∧ kk < 1000000000 ∧ kj = 2 * putTN (bmeld a b) (lnk f g) ∧ kj < 1000000000 from ⟨hkk, by have := H.out.2.2.2.2.2.2.2; omega, hkj, by have := H.out.2.2.2.2.2.2.2; omega⟩)
      have wk1 : IntKind.i64.wrap ((kk : Int) + (kj : Int)) = (kk : Int) + (kj : Int) := by have := HKK.out; rw [IntKind.wrap_i64]; omega
      have wk2 : IntKind.i64.wrap ((kk : Int) + (kj : Int) + 2) = (kk : Int) + (kj : Int) + 2 := by have := HKK.out; rw [IntKind.wrap_i64]; omega
      clear hkk hkj hl1 hl2
      have hW : Below w.heap.size w w.drew.drew.drew := (((Below.refl _ _).drew).drew).drew
      have hI2 := HI.out
      unfold TreesR at hI2
      have HT := Lib.hid (hI2 F (some ⟨x, o + 1 * 4, none⟩) (n - 1) (c - 1) (some ⟨y, q, none⟩) 0 0 w.drew.drew.drew (fun k hk => H.out.1 k hk) (by have h8 := H.out.2.2.2.2.2.2.2.1; omega) (H.out.2.2.2.2.2.1.stay hW) (by rw [hrnm]; exact ts_zero F _ y q))
      clear hI2
      have r1 := stay_cell ((Below.refl w.heap.size w).drew.drew) HP.out.1
      have r5 := stay_cell ((Below.refl w.heap.size w).drew.drew) HP.out.2.2.2.2.1
      clear hF hs ha hb hf hg hRa hRb hn hm hz1 hz2 hfs hgs hI hr hW hrnm
      go_enter Tryz.func81, Tryz.ntmps81
      go_wp2_with fail
      go_region_held3 (fun w' => w'.cell? ⟨x, o, none⟩ = some (.int .i64 f.rank) ∧ w'.cell? ⟨y, q, none⟩ = some (.int .i64 g.rank)) (go_keep) (fail)
      go_wp2_with fail
      go_region_held3 (fun w' => w'.cell? ⟨x, o, none⟩ = some (.int .i64 f.rank) ∧ w'.cell? ⟨y, q, none⟩ = some (.int .i64 g.rank)) (go_keep) (fail)
      have z1 := stay_cell ((Below.refl w.heap.size w).drew.drew) HP.out.2.1
      have z2 := stay_cell ((Below.refl w.heap.size w).drew.drew) HP.out.2.2.1
      have z3 := stay_cell ((Below.refl w.heap.size w).drew.drew) HP.out.2.2.2.1
      have z5 := stay_cell ((Below.refl w.heap.size w).drew.drew) HP.out.2.2.2.2.2.1
      have z6 := stay_cell ((Below.refl w.heap.size w).drew.drew) HP.out.2.2.2.2.2.2.1
      have z7 := stay_cell ((Below.refl w.heap.size w).drew.drew) HP.out.2.2.2.2.2.2.2
      go_wp2_with fail
      go_region_held3 (fun w' => w'.cell? ⟨x, o, none⟩ = some (.int .i64 f.rank) ∧ w'.cell? ⟨x, o + 1, none⟩ = some (.slice Ax 1 ax) ∧ w'.cell? ⟨x, o + 2, none⟩ = some (.slice Ab f.bs.length ab) ∧ w'.cell? ⟨x, o + 3, none⟩ = some (.slice Ak f.rank ak) ∧ w'.cell? ⟨y, q, none⟩ = some (.int .i64 g.rank) ∧ w'.cell? ⟨y, q + 1, none⟩ = some (.slice Bx 1 bx) ∧ w'.cell? ⟨y, q + 2, none⟩ = some (.slice Bb g.bs.length bb) ∧ w'.cell? ⟨y, q + 3, none⟩ = some (.slice Bk g.rank bk)) (go_keep)
        (first | (go_at_call 81; ((with_reducible refine (HT.out).mono ?_); rintro e w6 ⟨L, nl, cl, rfl, hh, hb6⟩; rw [← HKK.out.1]; have K6 := Lib.hid (And.intro hh ((((Below.refl w.heap.size w).drew.drew.drew).trans hb6))); have v0 := stay_cell K6.out.2 HP.out.1; have v1 := stay_cell K6.out.2 HP.out.2.1; have v2 := stay_cell K6.out.2 HP.out.2.2.1; have v3 := stay_cell K6.out.2 HP.out.2.2.2.1; have v4 := stay_cell K6.out.2 HP.out.2.2.2.2.1; have v5 := stay_cell K6.out.2 HP.out.2.2.2.2.2.1; have v6 := stay_cell K6.out.2 HP.out.2.2.2.2.2.2.1; have v7 := stay_cell K6.out.2 HP.out.2.2.2.2.2.2.2; clear hh hb6)) | fail)
      have hW6 : Below w.heap.size w w6.drew := K6.out.2.trans ((Below.refl w6.heap.size w6).drew.mono K6.out.2.size)
      have HLK := Lib.hid (refLink_any F f g Ax Ab Ak Bx Bb Bk ax ab ak bx bb bk w6.drew (fun k hk => H.out.1 k (Nat.le_trans hW6.size hk)) (H.out.2.2.2.1.stay hW6) (H.out.2.2.2.2.1.stay hW6) (by have := H.out.2.2.2.2.2.2.2; omega) (by have := H.out.2.2.2.2.2.2.2; omega))
      have hP2 := refPuts (bmeld a b)
      unfold PutsR at hP2
      have HPU := Lib.hid (fun (w7 : World) (Lx Lb Lk : Option Addr) (lx lb lk : Nat) (hL : RT F w7 (lnk f g) Lx lx Lb lb Lk lk) (hz : Below w6.heap.size w6 w7) => hP2 F (lnk f g) Lx Lb Lk lx lb lk L nl cl w7 (fun k hk => H.out.1 k (Nat.le_trans K6.out.2.size (Nat.le_trans hz.size hk))) (by rw [Gn.lnk_size, Gn.bmeld_size]; have := H.out.2.2.2.2.2.2.2.1; omega) hL (K6.out.1.stay hz))
      clear hP2 hW6
      go_wp2_with fail
      go_region_held3 (fun w' => w'.cell? ⟨x, o, none⟩ = some (.int .i64 f.rank) ∧ w'.cell? ⟨x, o + 1, none⟩ = some (.slice Ax 1 ax) ∧ w'.cell? ⟨x, o + 2, none⟩ = some (.slice Ab f.bs.length ab) ∧ w'.cell? ⟨x, o + 3, none⟩ = some (.slice Ak f.rank ak) ∧ w'.cell? ⟨y, q, none⟩ = some (.int .i64 g.rank) ∧ w'.cell? ⟨y, q + 1, none⟩ = some (.slice Bx 1 bx) ∧ w'.cell? ⟨y, q + 2, none⟩ = some (.slice Bb g.bs.length bb) ∧ w'.cell? ⟨y, q + 3, none⟩ = some (.slice Bk g.rank bk)) (go_keep)
        (first | (go_at_call 68; ((with_reducible refine (HLK.out).mono ?_); rintro e w7 ⟨Lx, Lb, Lk, lx, lb, lk, rfl, hL, hb7⟩; have K7 := Lib.hid (And.intro hL (((Below.refl w6.heap.size w6).drew).trans hb7)); have y0 := stay_cell (K6.out.2.trans (K7.out.2.mono K6.out.2.size)) HP.out.1; have y1 := stay_cell (K6.out.2.trans (K7.out.2.mono K6.out.2.size)) HP.out.2.1; have y2 := stay_cell (K6.out.2.trans (K7.out.2.mono K6.out.2.size)) HP.out.2.2.1; have y3 := stay_cell (K6.out.2.trans (K7.out.2.mono K6.out.2.size)) HP.out.2.2.2.1; have y4 := stay_cell (K6.out.2.trans (K7.out.2.mono K6.out.2.size)) HP.out.2.2.2.2.1; have y5 := stay_cell (K6.out.2.trans (K7.out.2.mono K6.out.2.size)) HP.out.2.2.2.2.2.1; have y6 := stay_cell (K6.out.2.trans (K7.out.2.mono K6.out.2.size)) HP.out.2.2.2.2.2.2.1; have y7 := stay_cell (K6.out.2.trans (K7.out.2.mono K6.out.2.size)) HP.out.2.2.2.2.2.2.2; clear hL hb7)) | (go_at_call 103; ((with_reducible refine (HPU.out _ Lx Lb Lk lx lb lk K7.out.1 K7.out.2).mono ?_); rintro e w8 ⟨A8, n8, c8, rfl, hh, hb8⟩; rw [← HKK.out.2.2.1]; have K8 := Lib.hid (And.intro hh (K7.out.2.trans (hb8.mono K7.out.2.size))); have u0 := stay_cell (K6.out.2.trans (K8.out.2.mono K6.out.2.size)) HP.out.1; have u1 := stay_cell (K6.out.2.trans (K8.out.2.mono K6.out.2.size)) HP.out.2.1; have u2 := stay_cell (K6.out.2.trans (K8.out.2.mono K6.out.2.size)) HP.out.2.2.1; have u3 := stay_cell (K6.out.2.trans (K8.out.2.mono K6.out.2.size)) HP.out.2.2.2.1; have u4 := stay_cell (K6.out.2.trans (K8.out.2.mono K6.out.2.size)) HP.out.2.2.2.2.1; have u5 := stay_cell (K6.out.2.trans (K8.out.2.mono K6.out.2.size)) HP.out.2.2.2.2.2.1; have u6 := stay_cell (K6.out.2.trans (K8.out.2.mono K6.out.2.size)) HP.out.2.2.2.2.2.2.1; have u7 := stay_cell (K6.out.2.trans (K8.out.2.mono K6.out.2.size)) HP.out.2.2.2.2.2.2.2; clear hh hb8)))
      go_wp2_with fail
      refine bodyPost_ret (v := .tuple #[.slice A8 n8 c8, .int .i64 ((kk : Int) + (kj : Int) + 2)]) (by simp [results, Tryz.results81, go_sem]) rfl ?_
      refine ⟨A8, n8, c8, ?_, by rw [bmeld_eq HR.out]; exact K8.out.1, K6.out.2.trans (K8.out.2.mono K6.out.2.size)⟩
      have e9 : ((2 * bmeldN (f :: a) (g :: b) : Nat) : Int) = (kk : Int) + (kj : Int) + 2 := by
        rw [bmeldN_eq HR.out]
        have h2 := HKK.out
        omega
      rw [e9]
    · have m0 : ¬ n < 1 := by omega
      have m1 : 1 ≤ n := by omega
      have m2 : (1 : Int) ≤ (n : Int) := by omega
      have m3 : ¬ (n : Int) < 1 := by omega
      have m4 : ¬ 1 = c := by omega
      have m5 : 0 < c := by omega
      have m6 : (n : Int) ≤ (c : Int) := by omega
      have m7 : (1 : Int) ≤ (c : Int) := by omega
      have m8 : ¬ c - 1 = 0 := by omega
      have m9 : ¬ c ≤ 1 := by omega
      have m10 : 1 < c := by omega
      have m12 : 1 ≤ c := by omega
      have k0 : ¬ m < 1 := by omega
      have k1 : 1 ≤ m := by omega
      have k2 : (1 : Int) ≤ (m : Int) := by omega
      have k3 : ¬ (m : Int) < 1 := by omega
      have k4 : ¬ 1 = d := by omega
      have k5 : 0 < d := by omega
      have k6 : (m : Int) ≤ (d : Int) := by omega
      have k7 : (1 : Int) ≤ (d : Int) := by omega
      have k8 : ¬ d - 1 = 0 := by omega
      have k9 : ¬ d ≤ 1 := by omega
      have k10 : 1 < d := by omega
      have k12 : 1 ≤ d := by omega
      obtain ⟨kk, hkk⟩ : ∃ z, z = 2 * bmeldN a b := ⟨_, rfl⟩
      obtain ⟨kj, hkj⟩ : ∃ z, z = 2 * putTN (bmeld a b) (lnk f g) := ⟨_, rfl⟩
      have hl1 := bmeld_len a b
      have hl2 := putT_len (bmeld a b) (lnk f g)
      have HKK := Lib.hid (show kk = 2 * bmeldN a b ∧ kk < 1000000000 ∧ kj = 2 * putTN (bmeld a b) (lnk f g) ∧ kj < 1000000000 from ⟨hkk, by have := H.out.2.2.2.2.2.2.2; omega, hkj, by have := H.out.2.2.2.2.2.2.2; omega⟩)
      have wk1 : IntKind.i64.wrap ((kk : Int) + (kj : Int)) = (kk : Int) + (kj : Int) := by have := HKK.out; rw [IntKind.wrap_i64]; omega
      have wk2 : IntKind.i64.wrap ((kk : Int) + (kj : Int) + 2) = (kk : Int) + (kj : Int) + 2 := by have := HKK.out; rw [IntKind.wrap_i64]; omega
      clear hkk hkj hl1 hl2
      have hW : Below w.heap.size w w.drew.drew.drew := (((Below.refl _ _).drew).drew).drew
      have hI2 := HI.out
      unfold TreesR at hI2
      have HT := Lib.hid (hI2 F (some ⟨x, o + 1 * 4, none⟩) (n - 1) (c - 1) (some ⟨y, q + 1 * 4, none⟩) (m - 1) (d - 1) w.drew.drew.drew (fun k hk => H.out.1 k hk) (by have h8 := H.out.2.2.2.2.2.2.2.1; omega) (H.out.2.2.2.2.2.1.stay hW) (H.out.2.2.2.2.2.2.1.stay hW))
      clear hI2
      have r1 := stay_cell ((Below.refl w.heap.size w).drew.drew) HP.out.1
      have r5 := stay_cell ((Below.refl w.heap.size w).drew.drew) HP.out.2.2.2.2.1
      clear hF hs ha hb hf hg hRa hRb hn hm hz1 hz2 hfs hgs hI hr hW
      go_enter Tryz.func81, Tryz.ntmps81
      go_wp2_with fail
      go_region_held3 (fun w' => w'.cell? ⟨x, o, none⟩ = some (.int .i64 f.rank) ∧ w'.cell? ⟨y, q, none⟩ = some (.int .i64 g.rank)) (go_keep) (fail)
      go_wp2_with fail
      go_region_held3 (fun w' => w'.cell? ⟨x, o, none⟩ = some (.int .i64 f.rank) ∧ w'.cell? ⟨y, q, none⟩ = some (.int .i64 g.rank)) (go_keep) (fail)
      have z1 := stay_cell ((Below.refl w.heap.size w).drew.drew) HP.out.2.1
      have z2 := stay_cell ((Below.refl w.heap.size w).drew.drew) HP.out.2.2.1
      have z3 := stay_cell ((Below.refl w.heap.size w).drew.drew) HP.out.2.2.2.1
      have z5 := stay_cell ((Below.refl w.heap.size w).drew.drew) HP.out.2.2.2.2.2.1
      have z6 := stay_cell ((Below.refl w.heap.size w).drew.drew) HP.out.2.2.2.2.2.2.1
      have z7 := stay_cell ((Below.refl w.heap.size w).drew.drew) HP.out.2.2.2.2.2.2.2
      go_wp2_with fail
      go_region_held3 (fun w' => w'.cell? ⟨x, o, none⟩ = some (.int .i64 f.rank) ∧ w'.cell? ⟨x, o + 1, none⟩ = some (.slice Ax 1 ax) ∧ w'.cell? ⟨x, o + 2, none⟩ = some (.slice Ab f.bs.length ab) ∧ w'.cell? ⟨x, o + 3, none⟩ = some (.slice Ak f.rank ak) ∧ w'.cell? ⟨y, q, none⟩ = some (.int .i64 g.rank) ∧ w'.cell? ⟨y, q + 1, none⟩ = some (.slice Bx 1 bx) ∧ w'.cell? ⟨y, q + 2, none⟩ = some (.slice Bb g.bs.length bb) ∧ w'.cell? ⟨y, q + 3, none⟩ = some (.slice Bk g.rank bk)) (go_keep)
        (first | (go_at_call 81; ((with_reducible refine (HT.out).mono ?_); rintro e w6 ⟨L, nl, cl, rfl, hh, hb6⟩; rw [← HKK.out.1]; have K6 := Lib.hid (And.intro hh ((((Below.refl w.heap.size w).drew.drew.drew).trans hb6))); have v0 := stay_cell K6.out.2 HP.out.1; have v1 := stay_cell K6.out.2 HP.out.2.1; have v2 := stay_cell K6.out.2 HP.out.2.2.1; have v3 := stay_cell K6.out.2 HP.out.2.2.2.1; have v4 := stay_cell K6.out.2 HP.out.2.2.2.2.1; have v5 := stay_cell K6.out.2 HP.out.2.2.2.2.2.1; have v6 := stay_cell K6.out.2 HP.out.2.2.2.2.2.2.1; have v7 := stay_cell K6.out.2 HP.out.2.2.2.2.2.2.2; clear hh hb6)) | fail)
      have hW6 : Below w.heap.size w w6.drew := K6.out.2.trans ((Below.refl w6.heap.size w6).drew.mono K6.out.2.size)
      have HLK := Lib.hid (refLink_any F f g Ax Ab Ak Bx Bb Bk ax ab ak bx bb bk w6.drew (fun k hk => H.out.1 k (Nat.le_trans hW6.size hk)) (H.out.2.2.2.1.stay hW6) (H.out.2.2.2.2.1.stay hW6) (by have := H.out.2.2.2.2.2.2.2; omega) (by have := H.out.2.2.2.2.2.2.2; omega))
      have hP2 := refPuts (bmeld a b)
      unfold PutsR at hP2
      have HPU := Lib.hid (fun (w7 : World) (Lx Lb Lk : Option Addr) (lx lb lk : Nat) (hL : RT F w7 (lnk f g) Lx lx Lb lb Lk lk) (hz : Below w6.heap.size w6 w7) => hP2 F (lnk f g) Lx Lb Lk lx lb lk L nl cl w7 (fun k hk => H.out.1 k (Nat.le_trans K6.out.2.size (Nat.le_trans hz.size hk))) (by rw [Gn.lnk_size, Gn.bmeld_size]; have := H.out.2.2.2.2.2.2.2.1; omega) hL (K6.out.1.stay hz))
      clear hP2 hW6
      go_wp2_with fail
      go_region_held3 (fun w' => w'.cell? ⟨x, o, none⟩ = some (.int .i64 f.rank) ∧ w'.cell? ⟨x, o + 1, none⟩ = some (.slice Ax 1 ax) ∧ w'.cell? ⟨x, o + 2, none⟩ = some (.slice Ab f.bs.length ab) ∧ w'.cell? ⟨x, o + 3, none⟩ = some (.slice Ak f.rank ak) ∧ w'.cell? ⟨y, q, none⟩ = some (.int .i64 g.rank) ∧ w'.cell? ⟨y, q + 1, none⟩ = some (.slice Bx 1 bx) ∧ w'.cell? ⟨y, q + 2, none⟩ = some (.slice Bb g.bs.length bb) ∧ w'.cell? ⟨y, q + 3, none⟩ = some (.slice Bk g.rank bk)) (go_keep)
        (first | (go_at_call 68; ((with_reducible refine (HLK.out).mono ?_); rintro e w7 ⟨Lx, Lb, Lk, lx, lb, lk, rfl, hL, hb7⟩; have K7 := Lib.hid (And.intro hL (((Below.refl w6.heap.size w6).drew).trans hb7)); have y0 := stay_cell (K6.out.2.trans (K7.out.2.mono K6.out.2.size)) HP.out.1; have y1 := stay_cell (K6.out.2.trans (K7.out.2.mono K6.out.2.size)) HP.out.2.1; have y2 := stay_cell (K6.out.2.trans (K7.out.2.mono K6.out.2.size)) HP.out.2.2.1; have y3 := stay_cell (K6.out.2.trans (K7.out.2.mono K6.out.2.size)) HP.out.2.2.2.1; have y4 := stay_cell (K6.out.2.trans (K7.out.2.mono K6.out.2.size)) HP.out.2.2.2.2.1; have y5 := stay_cell (K6.out.2.trans (K7.out.2.mono K6.out.2.size)) HP.out.2.2.2.2.2.1; have y6 := stay_cell (K6.out.2.trans (K7.out.2.mono K6.out.2.size)) HP.out.2.2.2.2.2.2.1; have y7 := stay_cell (K6.out.2.trans (K7.out.2.mono K6.out.2.size)) HP.out.2.2.2.2.2.2.2; clear hL hb7)) | (go_at_call 103; ((with_reducible refine (HPU.out _ Lx Lb Lk lx lb lk K7.out.1 K7.out.2).mono ?_); rintro e w8 ⟨A8, n8, c8, rfl, hh, hb8⟩; rw [← HKK.out.2.2.1]; have K8 := Lib.hid (And.intro hh (K7.out.2.trans (hb8.mono K7.out.2.size))); have u0 := stay_cell (K6.out.2.trans (K8.out.2.mono K6.out.2.size)) HP.out.1; have u1 := stay_cell (K6.out.2.trans (K8.out.2.mono K6.out.2.size)) HP.out.2.1; have u2 := stay_cell (K6.out.2.trans (K8.out.2.mono K6.out.2.size)) HP.out.2.2.1; have u3 := stay_cell (K6.out.2.trans (K8.out.2.mono K6.out.2.size)) HP.out.2.2.2.1; have u4 := stay_cell (K6.out.2.trans (K8.out.2.mono K6.out.2.size)) HP.out.2.2.2.2.1; have u5 := stay_cell (K6.out.2.trans (K8.out.2.mono K6.out.2.size)) HP.out.2.2.2.2.2.1; have u6 := stay_cell (K6.out.2.trans (K8.out.2.mono K6.out.2.size)) HP.out.2.2.2.2.2.2.1; have u7 := stay_cell (K6.out.2.trans (K8.out.2.mono K6.out.2.size)) HP.out.2.2.2.2.2.2.2; clear hh hb8)))
      go_wp2_with fail
      refine bodyPost_ret (v := .tuple #[.slice A8 n8 c8, .int .i64 ((kk : Int) + (kj : Int) + 2)]) (by simp [results, Tryz.results81, go_sem]) rfl ?_
      refine ⟨A8, n8, c8, ?_, by rw [bmeld_eq HR.out]; exact K8.out.1, K6.out.2.trans (K8.out.2.mono K6.out.2.size)⟩
      have e9 : ((2 * bmeldN (f :: a) (g :: b) : Nat) : Int) = (kk : Int) + (kj : Int) + 2 := by
        rw [bmeldN_eq HR.out]
        have h2 := HKK.out
        omega
      rw [e9]

theorem refTrees : ∀ a b : List (Gn.Tre Lh), TreesR a b := bmeld_ind refTrees_nil refTrees_right
  (fun f a g b h ih => refTrees_lt f g a b h ih) (fun f a g b h ih => refTrees_gt f g a b h ih) (fun f a g b h ih => refTrees_eq f g a b h ih)

end Go.Proofs.YtlmokendajgbdaaGreatDoor.Bo.Zr
namespace Go.Proofs.YtlmokendajgbdaaGreatDoor.Bo.Zr
open Go.Sort Go.RowKit Go.Proofs.YtlmokendajgbdaaGreatDoor.Gn Go.Proofs.YtlmokendajgbdaaGreatDoor.Bo

set_option maxRecDepth 100000 in
set_option maxHeartbeats 4000000 in
theorem refLevel (l : List (Gn.Tre Lh)) (F : Nat → Prop) (A : Option Addr) (n c : Nat) (w : World) (hF : ∀ k, w.heap.size ≤ k → F k) (hs : Gn.bSize l < 268435456) (hl : TsAt F w l A n c) :
    Calls Tryz.prog 80 #[.slice A n c] w (GaveLN F (levT l) (2 * levN l) w) := by
  cases l with
  | nil =>
    obtain rfl : n = 0 := ts_nil hl
    have H := Lib.hid hl
    clear hl hF hs
    go_enter Tryz.func80, Tryz.ntmps80
    go_wp2_with fail
    refine bodyPost_ret (v := .tuple #[.slice A 0 c, .int .i64 0]) (by simp [results, Tryz.results80, go_sem]) rfl ?_
    exact ⟨A, 0, c, rfl, H.out, Below.refl _ _⟩
  | cons t r =>
    obtain ⟨b, o, Ax, Ab, Ak, ax, ab, ak, rfl, ⟨p0, p1, p2, p3⟩, ht⟩ := ts_first hl
    have hR := ts_rest hl
    have hn : n = r.length + 1 := hl.1
    have hcap := hl.2.1.le
    have zn1 : ((n : Int) == 0) = false := by simp; omega
    have zn2 : ¬ n = 0 := by omega
    have zn3 : (0 : Int) < (n : Int) := by omega
    have zn4 : 0 < n := by omega
    simp only [Gn.bSize] at hs
    have hP2 := refPuts r
    unfold PutsR at hP2
    have HB := Lib.hid ((Below.refl w.heap.size w).drew)
    have HP := Lib.hid (And.intro p0 (And.intro p1 (And.intro p2 p3)))
    have HE := Lib.hid (show levT (t :: r) = putT r t ∧ levN (t :: r) = putTN r t from ⟨rfl, rfl⟩)
    by_cases hc1 : c = 1
    · subst hc1
      have hn1 : n = 1 := by omega
      subst hn1
      have hrn : r = [] := List.eq_nil_of_length_eq_zero (by omega)
      have HPU := Lib.hid (hP2 F t Ax Ab Ak ax ab ak (some ⟨b, o, none⟩) 0 0 w.drew (fun k hk => hF k hk) (by omega) (ht.stay HB.out) (by rw [hrn]; exact ts_zero F _ b o))
      clear hP2 hF hl hR ht hn hs hrn
      go_enter Tryz.func80, Tryz.ntmps80
      go_wp2_with fail
      go_region_held3 (fun w' => w'.cell? ⟨b, o, none⟩ = some (.int .i64 t.rank) ∧ w'.cell? ⟨b, o + 1, none⟩ = some (.slice Ax 1 ax) ∧ w'.cell? ⟨b, o + 2, none⟩ = some (.slice Ab t.bs.length ab) ∧ w'.cell? ⟨b, o + 3, none⟩ = some (.slice Ak t.rank ak)) (go_keep)
        (first | (go_at_call 103; ((with_reducible refine (HPU.out).mono ?_); rintro e w7 ⟨A3, n3, c3, rfl, hh, hb7⟩; rw [← HE.out.2]; have K7 := Lib.hid (And.intro hh (HB.out.trans (hb7.mono HB.out.size))); have y0 := stay_cell K7.out.2 HP.out.1; have y1 := stay_cell K7.out.2 HP.out.2.1; have y2 := stay_cell K7.out.2 HP.out.2.2.1; have y3 := stay_cell K7.out.2 HP.out.2.2.2; clear hh hb7)) | fail)
      go_wp2_with fail
      refine bodyPost_ret (v := .tuple #[.slice A3 n3 c3, .int .i64 ((2 * levN (t :: r) : Nat) : Int)]) (by simp [results, Tryz.results80, go_sem]) rfl ?_
      exact ⟨A3, n3, c3, rfl, by rw [HE.out.1]; exact K7.out.1, K7.out.2⟩
    · have m0 : ¬ n < 1 := by omega
      have m1 : 1 ≤ n := by omega
      have m2 : (1 : Int) ≤ (n : Int) := by omega
      have m3 : ¬ (n : Int) < 1 := by omega
      have m4 : ¬ 1 = c := by omega
      have m5 : 0 < c := by omega
      have m6 : (n : Int) ≤ (c : Int) := by omega
      have m7 : (1 : Int) ≤ (c : Int) := by omega
      have m8 : ¬ c - 1 = 0 := by omega
      have m9 : ¬ c ≤ 1 := by omega
      have m10 : 1 < c := by omega
      have m12 : 1 ≤ c := by omega
      have HPU := Lib.hid (hP2 F t Ax Ab Ak ax ab ak (some ⟨b, o + 1 * 4, none⟩) (n - 1) (c - 1) w.drew (fun k hk => hF k hk) (by omega) (ht.stay HB.out) (hR.stay HB.out))
      clear hP2 hF hl hR ht hn hs
      go_enter Tryz.func80, Tryz.ntmps80
      go_wp2_with fail
      go_region_held3 (fun w' => w'.cell? ⟨b, o, none⟩ = some (.int .i64 t.rank) ∧ w'.cell? ⟨b, o + 1, none⟩ = some (.slice Ax 1 ax) ∧ w'.cell? ⟨b, o + 2, none⟩ = some (.slice Ab t.bs.length ab) ∧ w'.cell? ⟨b, o + 3, none⟩ = some (.slice Ak t.rank ak)) (go_keep)
        (first | (go_at_call 103; ((with_reducible refine (HPU.out).mono ?_); rintro e w7 ⟨A3, n3, c3, rfl, hh, hb7⟩; rw [← HE.out.2]; have K7 := Lib.hid (And.intro hh (HB.out.trans (hb7.mono HB.out.size))); have y0 := stay_cell K7.out.2 HP.out.1; have y1 := stay_cell K7.out.2 HP.out.2.1; have y2 := stay_cell K7.out.2 HP.out.2.2.1; have y3 := stay_cell K7.out.2 HP.out.2.2.2; clear hh hb7)) | fail)
      go_wp2_with fail
      refine bodyPost_ret (v := .tuple #[.slice A3 n3 c3, .int .i64 ((2 * levN (t :: r) : Nat) : Int)]) (by simp [results, Tryz.results80, go_sem]) rfl ?_
      exact ⟨A3, n3, c3, rfl, by rw [HE.out.1]; exact K7.out.1, K7.out.2⟩

set_option maxRecDepth 100000 in
set_option maxHeartbeats 4000000 in
theorem refMeldQ (a b : List (Gn.Tre Lh)) (F : Nat → Prop) (A : Option Addr) (n c : Nat) (B : Option Addr) (m d : Nat) (w : World) (hF : ∀ k, w.heap.size ≤ k → F k) (hs : Gn.bSize a + Gn.bSize b < 268435456) (ha : TsAt F w a A n c) (hb : TsAt F w b B m d) :
    Calls Tryz.prog 47 #[.slice A n c, .slice B m d] w (GaveLN F (smeld a b) (2 * smeldN a b) w) := by
  have l1 := levT_len a
  have l2 := levT_len b
  have l3 := bmeld_len (levT a) (levT b)
  have z1 := bSize_len a
  have z2 := bSize_len b
  obtain ⟨k1, h1⟩ : ∃ z, z = 2 * levN a := ⟨_, rfl⟩
  obtain ⟨k2, h2⟩ : ∃ z, z = 2 * levN b := ⟨_, rfl⟩
  obtain ⟨k3, h3⟩ : ∃ z, z = 2 * bmeldN (levT a) (levT b) := ⟨_, rfl⟩
  have HK := Lib.hid (show k1 = 2 * levN a ∧ k2 = 2 * levN b ∧ k3 = 2 * bmeldN (levT a) (levT b) from ⟨h1, h2, h3⟩)
  have wk1 : IntKind.i64.wrap ((k1 : Int) + (k2 : Int)) = (k1 : Int) + (k2 : Int) := by rw [IntKind.wrap_i64]; omega
  have wk2 : IntKind.i64.wrap ((k1 : Int) + (k2 : Int) + (k3 : Int)) = (k1 : Int) + (k2 : Int) + (k3 : Int) := by rw [IntKind.wrap_i64]; omega
  have H := Lib.hid (And.intro hF (And.intro hs (And.intro ha hb)))
  clear hF hs ha hb l1 l2 l3 z1 z2 h1 h2 h3
  go_enter Tryz.func47, Tryz.ntmps47
  go_wp2_with fail
  ((with_reducible refine (refLevel a F A n c _ H.out.1 (by have := H.out.2.1; omega) H.out.2.2.1).mono ?_); rintro e w1 ⟨A1, n1, c1, rfl, hh1, hb1⟩)
  rw [← HK.out.1]
  have K1 := Lib.hid (And.intro hh1 hb1)
  clear hh1 hb1
  go_wp2_with fail
  ((with_reducible refine (refLevel b F B m d _ (fun k hk => H.out.1 k (Nat.le_trans K1.out.2.size hk)) (by have := H.out.2.1; omega) (H.out.2.2.2.stay K1.out.2)).mono ?_); rintro e w2 ⟨A2, n2, c2, rfl, hh2, hb2⟩)
  rw [← HK.out.2.1]
  have K2 := Lib.hid (And.intro hh2 (And.intro hb2 (K1.out.2.trans (hb2.mono K1.out.2.size))))
  clear hh2 hb2
  have hT := refTrees (levT a) (levT b)
  unfold TreesR at hT
  have HT := Lib.hid (hT F A1 n1 c1 A2 n2 c2 w2 (fun k hk => H.out.1 k (Nat.le_trans K2.out.2.2.size hk)) (by rw [levT_size, levT_size]; exact H.out.2.1) (K1.out.1.stay K2.out.2.1) K2.out.1)
  clear hT
  go_wp2_with fail
  ((with_reducible refine HT.out.mono ?_); rintro e w3 ⟨A3, n3, c3, rfl, hh3, hb3⟩)
  rw [← HK.out.2.2]
  have K3 := Lib.hid (And.intro hh3 (K2.out.2.2.trans (hb3.mono K2.out.2.2.size)))
  clear hh3 hb3
  go_wp2_with fail
  refine bodyPost_ret (v := .tuple #[.slice A3 n3 c3, .int .i64 ((k1 : Int) + (k2 : Int) + (k3 : Int))]) (by simp [results, Tryz.results47, go_sem]) rfl ?_
  refine ⟨A3, n3, c3, ?_, K3.out.1, K3.out.2⟩
  have e9 : ((2 * smeldN a b : Nat) : Int) = (k1 : Int) + (k2 : Int) + (k3 : Int) := by
    have h2 := HK.out
    unfold smeldN
    omega
  rw [e9]

end Go.Proofs.YtlmokendajgbdaaGreatDoor.Bo.Zr
namespace Go.Proofs.YtlmokendajgbdaaGreatDoor.Bo.Zr
open Go.Sort Go.RowKit Go.Proofs.YtlmokendajgbdaaGreatDoor.Gn Go.Proofs.YtlmokendajgbdaaGreatDoor.Bo

theorem refLessE (x y : Int × Int) (w : World) : Calls Tryz.prog 36 #[el x, el y] w fun e w' => e = .returned (.bool (ltE x y)) ∧ Below w.heap.size w w' := refLess_below x.1 x.2 y.1 y.2 w
theorem RK.drop_t {F : Nat → Prop} {W : World} : ∀ (l : List (Gn.Tre Lh)) (kc : List Value) (j : Nat), RK F W (.ts l) kc → RK F W (.ts (l.drop j)) (kc.drop (j * 4))
  | l, kc, 0, h => by simpa using h
  | [], kc, j + 1, h => by
    cases h
    simp only [List.drop_nil]
    exact .t0
  | t :: r, kc, j + 1, h => by
    obtain ⟨Ax, Ab, Ak, cx, cb, ck, cs', rfl, -, hr⟩ := h.head_t
    have := RK.drop_t r cs' j hr
    simpa [Nat.add_mul] using this
/-- The j-th tree of a row. -/
theorem ts_at {F : Nat → Prop} {W : World} {l : List (Gn.Tre Lh)} {b o n c : Nat} (h : TsAt F W l (some ⟨b, o, none⟩) n c) {j : Nat} (hj : j < l.length) : ∃ (Ax Ab Ak : Option Addr) (cx cb ck : Nat),
    (W.cell? ⟨b, o + j * 4, none⟩ = some (.int .i64 l[j].rank) ∧ W.cell? ⟨b, o + j * 4 + 1, none⟩ = some (.slice Ax 1 cx) ∧ W.cell? ⟨b, o + j * 4 + 2, none⟩ = some (.slice Ab l[j].bs.length cb) ∧ W.cell? ⟨b, o + j * 4 + 3, none⟩ = some (.slice Ak l[j].rank ck)) ∧ RT F W l[j] Ax cx Ab cb Ak ck := by
  obtain ⟨-, -, kc, hk, hC⟩ := h
  have hd := RK.drop_t l kc j hk
  rw [List.drop_eq_getElem_cons hj] at hd
  obtain ⟨Ax, Ab, Ak, cx, cb, ck, cs', e, ht, -⟩ := hd.head_t
  have hpos : 0 < kc.length := by rw [hk.length]; simp only [Rows.len]; omega
  obtain ⟨b', o', e2, -, hc⟩ := hC hpos
  cases e2
  have hx : ∀ i v, (kc.drop (j * 4))[i]? = some v → W.cell? ⟨b, o + j * 4 + i, none⟩ = some v := fun i v hv => by
    rw [List.getElem?_drop] at hv
    have := hc _ v hv
    rwa [← Nat.add_assoc] at this
  rw [e] at hx
  exact ⟨Ax, Ab, Ak, cx, cb, ck, ⟨hx 0 _ rfl, hx 1 _ rfl, hx 2 _ rfl, hx 3 _ rfl⟩, ht⟩
theorem ts_some {F : Nat → Prop} {W : World} {l : List (Gn.Tre Lh)} {A : Option Addr} {n c : Nat} (h : TsAt F W l A n c) (hn : 0 < n) : ∃ b o, A = some ⟨b, o, none⟩ := by
  have hl := h.1
  match l, h, hl with
  | [], _, hl => simp only [Rows.len, List.length_nil] at hl; omega
  | t :: r, h, _ => obtain ⟨b, o, -, -, -, -, -, -, e, -⟩ := ts_first h; exact ⟨b, o, e⟩

set_option maxRecDepth 100000 in
set_option maxHeartbeats 2000000 in
theorem refLeast (F : Nat → Prop) (l : List (Gn.Tre Lh)) (A : Option Addr) (n c : Nat) (w : World) (hs : Gn.bSize l < 268435456) (hn1 : 0 < n) (h : TsAt F w l A n c) :
    Calls Tryz.prog 45 #[.slice A n c] w fun e w' => e = .returned (.int .i64 (leastI l : Nat)) ∧ Below w.heap.size w w' := by
  obtain ⟨b, o, rfl⟩ := ts_some h hn1
  have hl := bSize_len l
  have hnl : n = l.length := h.1
  have H := Lib.hid (And.intro h (And.intro hnl (And.intro (show n < 268435456 by omega) hn1)))
  have hn : n < 268435456 := by omega
  clear h hs hl hnl
  go_enter Tryz.func45, Tryz.ntmps45
  go_wp2_with fail
  go_loopg [3, 4] (n - 1) (fun k s iv wr => ∃ j q : Nat, iv = .int .i64 (j : Int) ∧ s = .int .i64 (q : Int) ∧ q = leastK l (j - 1) ∧ 1 ≤ j ∧ j + k = n ∧ Below w.heap.size w wr)
  case atStart => exact ⟨1, 0, rfl, rfl, rfl, Nat.le_refl _, by omega, Below.refl _ _⟩
  case round =>
    obtain ⟨j, q, rfl, rfl, hq, h1j, hj, hb⟩ := hrel
    by_cases hlt : j < n
    · have hql : q ≤ j - 1 := by rw [hq]; exact leastK_le l (j - 1)
      have hjl : j < l.length := by have := H.out; omega
      have hqn : q < l.length := by omega
      obtain ⟨Ax, Ab, Ak, ax, ab, ak, ⟨-, c1, -, -⟩, ht⟩ := ts_at H.out.1 hjl
      obtain ⟨Bx, Bb, Bk, bx, bb, bk, ⟨-, d1, -, -⟩, hu⟩ := ts_at H.out.1 hqn
      obtain ⟨ra, oa, rfl, r1, r2⟩ := ht.root
      obtain ⟨rb, ob, rfl, s1, s2⟩ := hu.root
      obtain ⟨⟨x1, x2⟩, hx⟩ : ∃ z, l[j].x.key = z := ⟨_, rfl⟩
      obtain ⟨⟨y1, y2⟩, hy⟩ : ∃ z, l[q].x.key = z := ⟨_, rfl⟩
      rw [hx] at r1 r2
      rw [hy] at s1 s2
      have ej : (rootAt l j).key = (x1, x2) := by unfold rootAt; rw [List.getElem?_eq_getElem hjl]; exact hx
      have eq' : (rootAt l (leastK l (j - 1))).key = (y1, y2) := by rw [← hq]; unfold rootAt; rw [List.getElem?_eq_getElem hqn]; exact hy
      have hst : leastK l j = if ltE (x1, x2) (y1, y2) = true then j else q := by
        obtain ⟨i, rfl⟩ : ∃ i, j = i + 1 := ⟨j - 1, by omega⟩
        simp only [Nat.add_sub_cancel] at eq' hq
        rw [leastK, ltK_key, ej, eq', ← hq]
      have q1 : (j : Int) < (n : Int) := by omega
      have q2 : (0 : Int) ≤ (j : Int) := by omega
      have q3 : decide ((j : Int) < (n : Int)) = true := by simp; omega
      have q4 : (0 : Int) ≤ (q : Int) := by omega
      have q5 : (q : Int) < (n : Int) := by omega
      have w1' : IntKind.i64.wrap ((j : Int) + 1) = (j : Int) + 1 := by rw [IntKind.wrap_i64]; omega
      have HC := Lib.hid (fun d os => in_class (w := wr) (fun W _ => refLessE (x1, x2) (y1, y2) W) d os)
      have k1 := fun d os => cell_regrown ((hb.cell (p := ⟨b, o + j * 4 + 1, none⟩) (block_lt_of_cell c1)).trans c1) d os
      have k2 := fun d os => cell_regrown ((hb.cell (p := ⟨b, o + q * 4 + 1, none⟩) (block_lt_of_cell d1)).trans d1) d os
      have k3 := fun d os => cell_regrown ((hb.cell (p := ⟨ra, oa + 1, none⟩) (block_lt_of_cell r1)).trans r1) d os
      have k4 := fun d os => cell_regrown ((hb.cell (p := ⟨ra, oa + 2, none⟩) (block_lt_of_cell r2)).trans r2) d os
      have k5 := fun d os => cell_regrown ((hb.cell (p := ⟨rb, ob + 1, none⟩) (block_lt_of_cell s1)).trans s1) d os
      have k6 := fun d os => cell_regrown ((hb.cell (p := ⟨rb, ob + 2, none⟩) (block_lt_of_cell s2)).trans s2) d os
      have HJ := Lib.hid (show leastK l j = (if ltE (x1, x2) (y1, y2) = true then j else q) ∧ j + gk = n from ⟨hst, hj⟩)
      have HB := Lib.hid hb
      clear c1 d1 r1 r2 s1 s2 hx hy ht hu ej eq' hst hq hql hjl hqn hb hj
      go_wp2_with fail
      rw [world_self wr]
      generalize wr.drawn = d0
      generalize (#[] : Array Obj) = os0
      refine wp_region_class (by kernel_rfl) (by kernel_rfl) ?_
      repeat (go_big_quiet_step (first | (with_reducible exact HC.out _ _) | fail))
      refine wpQuiet_nil ?_
      intro _ hw'
      obtain ⟨⟨dq, osq⟩, hw''⟩ := hw'
      subst hw''
      have hb2 := HB.out.trans ((below_regrown wr dq osq).mono HB.out.size)
      generalize grow (redrawn wr dq) osq = w2 at *
      have HB2 := Lib.hid hb2
      clear hb2 k1 k2 k3 k4 k5 k6 HC
      have hjj := HJ.out.1
      cases hv : ltE (x1, x2) (y1, y2) with
      | true =>
        rw [hv] at hjj
        have HJ2 := Lib.hid (show leastK l j = j by simpa using hjj)
        clear hjj hv
        go_wp2_with fail
        go_roundg (n - 1 - j)
        case measure => have := HJ.out; omega
        case rel => exact ⟨j + 1, j, by first | rfl | (congr 1; unfold wrap64; omega), rfl, by rw [Nat.add_sub_cancel]; exact HJ2.out.symm, by omega, by have := HJ.out; omega, HB2.out⟩
      | false =>
        rw [hv] at hjj
        have HJ2 := Lib.hid (show leastK l j = q by simpa using hjj)
        clear hjj hv
        go_wp2_with fail
        go_roundg (n - 1 - j)
        case measure => have := HJ.out; omega
        case rel => exact ⟨j + 1, q, by first | rfl | (congr 1; unfold wrap64; omega), rfl, by rw [Nat.add_sub_cancel]; exact HJ2.out.symm, by omega, by have := HJ.out; omega, HB2.out⟩
    · have q1 : ¬ (j : Int) < (n : Int) := by omega
      have q3 : decide ((j : Int) < (n : Int)) = false := by simp; omega
      have hql : leastI l = q := by rw [hq, leastI]; congr 1; have := H.out.2.1; omega
      have HQ := Lib.hid hql
      have HB := Lib.hid hb
      clear hql hq hj hb
      go_wp2_with fail
      go_ret
      exact ⟨by rw [HQ.out]; rfl, HB.out⟩

end Go.Proofs.YtlmokendajgbdaaGreatDoor.Bo.Zr
namespace Go.Proofs.YtlmokendajgbdaaGreatDoor.Bo.Zr
open Go.Sort Go.RowKit Go.Proofs.YtlmokendajgbdaaGreatDoor.Gn Go.Proofs.YtlmokendajgbdaaGreatDoor.Bo

/-- A block of one heap's four cells, as a row of one. -/
theorem cat_block {F : Nat → Prop} {W : World} {b : Nat} {v0 v1 v2 v3 : Value} {t : TypeId} (h : W.heap[b]? = some (.cells #[v0, v1, v2, v3] t (0, 0))) (hb : F b) : CAt F W (some ⟨b, 0, none⟩) [v0, v1, v2, v3] := fun _ => ⟨b, 0, rfl, hb, fun j v hj => by
  have hq := qd_at h
  rw [Nat.zero_add]
  match j, hj with
  | 0, hj => cases hj; exact hq.c0
  | 1, hj => cases hj; exact hq.c1
  | 2, hj => cases hj; exact hq.c2
  | 3, hj => cases hj; exact hq.c3
  | j + 4, hj => simp at hj⟩
set_option maxRecDepth 100000 in
set_option maxHeartbeats 4000000 in
theorem refIns_nil (F : Nat → Prop) (x : Lh) (z1 z2 : Int) (A0 : Option Addr) (k0 c0 : Nat) (N : Bool) (A : Option Addr) (n c : Nat) (w : World) (hF : ∀ k, w.heap.size ≤ k → F k) (hx : RAt F w x (z1, z2) A0 k0 c0 N) (hs : Gn.bSize ([] : List (Gn.Tre Lh)) < 268435456) (hl : TsAt F w ([] : List (Gn.Tre Lh)) A n c) :
    Calls Tryz.prog 41 #[.agg #[.bool N, .int .i64 z1, .int .i64 z2, .slice A0 k0 c0], .slice A n c] w (GaveLN F (sIns ([] : List (Gn.Tre Lh)) x) (sInsN ([] : List (Gn.Tre Lh)) + sInsM ([] : List (Gn.Tre Lh))) w) := by
  have hz := bSize_len ([] : List (Gn.Tre Lh))
  have hnl : n = (([] : List (Gn.Tre Lh))).length := hl.1
  have hn3 : n < 1000000000 := by omega
  obtain rfl : n = 0 := ts_nil hl
  have hb0 := (Below.refl w.heap.size w).alloc (Nat.le_refl _) (.cells #[.bool N, .int .i64 z1, .int .i64 z2, .slice A0 k0 c0] 35)
  have hv : Qd (w.alloc (.cells #[.bool N, .int .i64 z1, .int .i64 z2, .slice A0 k0 c0] 35)) w.heap.size (.bool N) (.int .i64 z1) (.int .i64 z2) (.slice A0 k0 c0) := qd_at (new_at rfl)
  have H := Lib.hid (And.intro hF (And.intro hx (And.intro hl hb0)))
  have HI := Lib.hid (show sIns ([] : List (Gn.Tre Lh)) x = leafT x :: ([] : List (Gn.Tre Lh)) ∧ sInsN ([] : List (Gn.Tre Lh)) + sInsM ([] : List (Gn.Tre Lh)) = 1 from ⟨rfl, rfl⟩)
  clear hF hx hl hb0 hs hz hnl
  go_enter Tryz.func41, Tryz.ntmps41
  go_wp2_with fail
  generalize w.alloc (.cells #[.bool N, .int .i64 z1, .int .i64 z2, .slice A0 k0 c0] 35) = w1 at *
  rw [world_self w1]
  generalize w1.drawn = d0
  generalize (#[] : Array Obj) = os0
  refine wp_region_class (by kernel_rfl) (by kernel_rfl) ?_
  repeat (go_big_quiet_step (fail))
  refine wpQuiet_nil ?_
  intro _ hw'
  obtain ⟨⟨dq, osq⟩, hw''⟩ := hw'
  subst hw''
  have hbq := below_regrown w1 dq osq
  have hX := hv.keep (hbq.block _ hv.lt)
  generalize grow (redrawn w1 dq) osq = wq at *
  have HB := Lib.hid (H.out.2.2.2.trans (hbq.mono H.out.2.2.2.size))
  have hA2 : Below wq.heap.size wq (wq.alloc (.cells #[.bool N, .int .i64 z1, .int .i64 z2, .slice A0 k0 c0] 35)) := (Below.refl wq.heap.size wq).alloc (Nat.le_refl _) _
  have hrow : (wq.alloc (.cells #[.bool N, .int .i64 z1, .int .i64 z2, .slice A0 k0 c0] 35)).heap[wq.heap.size]? = some (.cells #[.bool N, .int .i64 z1, .int .i64 z2, .slice A0 k0 c0] 35 (0, 0)) := new_at rfl
  have hsz : (wq.alloc (.cells #[.bool N, .int .i64 z1, .int .i64 z2, .slice A0 k0 c0] 35)).heap.size = wq.heap.size + 1 := by simp
  obtain ⟨hkn, hkA, kc, hk1, hk2⟩ := H.out.2.2.1
  have hfar : Far F F w (wq.alloc (.cells #[.bool N, .int .i64 z1, .int .i64 z2, .slice A0 k0 c0] 35)) := ⟨fun k hk _ => (HB.out.trans (hA2.mono HB.out.size)).block k hk, fun k hk h => h⟩
  obtain ⟨A7, c7, w7, hrun, hC, hnn, hb7⟩ := append_t F (wq.alloc (.cells #[.bool N, .int .i64 z1, .int .i64 z2, .slice A0 k0 c0] 35)) (fun k hk => H.out.1 k (by have := HB.out.size; rw [hsz] at hk; omega)) (.int .i64 0) (.slice (some ⟨wq.heap.size, 0, none⟩) 1 1) (.slice none 0 0) (.slice none 0 0) A 0 c kc (by rw [hk1.length, ← hkn]) hk1.one (hk2.far hfar) hkA.none (by omega)
  have P7 := Lib.hid (And.intro hC (And.intro hnn (And.intro hb7 (And.intro (hk1.far hfar) (And.intro hA2 hkn)))))
  have hrow7 := (hb7.block _ (lt_of_heap hrow)).trans hrow
  have HW := Lib.hid hrow7
  rw [hsz] at hrun
  clear hv hbq hkn hkA hk1 hk2 hfar hC hnn hb7 hA2 hrow hrow7 hsz
  go_wp2_with (first
    | (refine wpList_load_h rfl _ rfl _ rfl hX ?_)
    | (at_builtin; refine wpList_append_run rfl _ _ _ rfl _ _ _ _ rfl rfl hrun ?_))
  refine bodyPost_ret (v := .tuple #[.slice A7 (0 + 1) c7, .int .i64 1]) (by simp [results, Tryz.results41, go_sem]) rfl ?_
  have hB2 := HB.out.trans (P7.out.2.2.2.2.1.mono HB.out.size)
  have hB7 : Below w.heap.size w w7 := hB2.trans (P7.out.2.2.1.mono hB2.size)
  have f7 := Far.below (F := F) P7.out.2.2.1
  rw [HI.out.1, HI.out.2]
  refine ⟨A7, 0 + 1, c7, rfl, ⟨rfl, P7.out.2.1, _, RK.cons_t (t := leafT x) ⟨⟨_, RK.cons_h (H.out.2.1.stay hB7) .h0, cat_block HW.out (H.out.1 _ HB.out.size)⟩, RowAt.none_hs F w7, RowAt.none_ts F w7⟩ (P7.out.2.2.2.1.far f7), P7.out.1⟩, hB7⟩

set_option maxRecDepth 100000 in
set_option maxHeartbeats 4000000 in
theorem refIns_one (F : Nat → Prop) (x : Lh) (z1 z2 : Int) (A0 : Option Addr) (k0 c0 : Nat) (N : Bool) (f : Gn.Tre Lh) (A : Option Addr) (n c : Nat) (w : World) (hF : ∀ k, w.heap.size ≤ k → F k) (hx : RAt F w x (z1, z2) A0 k0 c0 N) (hs : Gn.bSize [f] < 268435456) (hl : TsAt F w [f] A n c) :
    Calls Tryz.prog 41 #[.agg #[.bool N, .int .i64 z1, .int .i64 z2, .slice A0 k0 c0], .slice A n c] w (GaveLN F (sIns [f] x) (sInsN [f] + sInsM [f]) w) := by
  have hz := bSize_len [f]
  have hnl : n = ([f]).length := hl.1
  have hn3 : n < 1000000000 := by omega
  have hn1 : n = 1 := hnl
  subst hn1
  have hb0 := (Below.refl w.heap.size w).alloc (Nat.le_refl _) (.cells #[.bool N, .int .i64 z1, .int .i64 z2, .slice A0 k0 c0] 35)
  have hv : Qd (w.alloc (.cells #[.bool N, .int .i64 z1, .int .i64 z2, .slice A0 k0 c0] 35)) w.heap.size (.bool N) (.int .i64 z1) (.int .i64 z2) (.slice A0 k0 c0) := qd_at (new_at rfl)
  have H := Lib.hid (And.intro hF (And.intro hx (And.intro hl hb0)))
  have HI := Lib.hid (show sIns [f] x = leafT x :: [f] ∧ sInsN [f] + sInsM [f] = 1 from ⟨rfl, rfl⟩)
  clear hF hx hl hb0 hs hz hnl
  go_enter Tryz.func41, Tryz.ntmps41
  go_wp2_with fail
  generalize w.alloc (.cells #[.bool N, .int .i64 z1, .int .i64 z2, .slice A0 k0 c0] 35) = w1 at *
  rw [world_self w1]
  generalize w1.drawn = d0
  generalize (#[] : Array Obj) = os0
  refine wp_region_class (by kernel_rfl) (by kernel_rfl) ?_
  repeat (go_big_quiet_step (fail))
  refine wpQuiet_nil ?_
  intro _ hw'
  obtain ⟨⟨dq, osq⟩, hw''⟩ := hw'
  subst hw''
  have hbq := below_regrown w1 dq osq
  have hX := hv.keep (hbq.block _ hv.lt)
  generalize grow (redrawn w1 dq) osq = wq at *
  have HB := Lib.hid (H.out.2.2.2.trans (hbq.mono H.out.2.2.2.size))
  have hA2 : Below wq.heap.size wq (wq.alloc (.cells #[.bool N, .int .i64 z1, .int .i64 z2, .slice A0 k0 c0] 35)) := (Below.refl wq.heap.size wq).alloc (Nat.le_refl _) _
  have hrow : (wq.alloc (.cells #[.bool N, .int .i64 z1, .int .i64 z2, .slice A0 k0 c0] 35)).heap[wq.heap.size]? = some (.cells #[.bool N, .int .i64 z1, .int .i64 z2, .slice A0 k0 c0] 35 (0, 0)) := new_at rfl
  have hsz : (wq.alloc (.cells #[.bool N, .int .i64 z1, .int .i64 z2, .slice A0 k0 c0] 35)).heap.size = wq.heap.size + 1 := by simp
  obtain ⟨hkn, hkA, kc, hk1, hk2⟩ := H.out.2.2.1
  have hfar : Far F F w (wq.alloc (.cells #[.bool N, .int .i64 z1, .int .i64 z2, .slice A0 k0 c0] 35)) := ⟨fun k hk _ => (HB.out.trans (hA2.mono HB.out.size)).block k hk, fun k hk h => h⟩
  obtain ⟨A7, c7, w7, hrun, hC, hnn, hb7⟩ := append_t F (wq.alloc (.cells #[.bool N, .int .i64 z1, .int .i64 z2, .slice A0 k0 c0] 35)) (fun k hk => H.out.1 k (by have := HB.out.size; rw [hsz] at hk; omega)) (.int .i64 0) (.slice (some ⟨wq.heap.size, 0, none⟩) 1 1) (.slice none 0 0) (.slice none 0 0) A 1 c kc (by rw [hk1.length, ← hkn]) hk1.one (hk2.far hfar) hkA.none (by omega)
  have P7 := Lib.hid (And.intro hC (And.intro hnn (And.intro hb7 (And.intro (hk1.far hfar) (And.intro hA2 hkn)))))
  have hrow7 := (hb7.block _ (lt_of_heap hrow)).trans hrow
  have HW := Lib.hid hrow7
  rw [hsz] at hrun
  clear hv hbq hkn hkA hk1 hk2 hfar hC hnn hb7 hA2 hrow hrow7 hsz
  go_wp2_with (first
    | (refine wpList_load_h rfl _ rfl _ rfl hX ?_)
    | (at_builtin; refine wpList_append_run rfl _ _ _ rfl _ _ _ _ rfl rfl hrun ?_))
  refine bodyPost_ret (v := .tuple #[.slice A7 (1 + 1) c7, .int .i64 1]) (by simp [results, Tryz.results41, go_sem]) rfl ?_
  have hB2 := HB.out.trans (P7.out.2.2.2.2.1.mono HB.out.size)
  have hB7 : Below w.heap.size w w7 := hB2.trans (P7.out.2.2.1.mono hB2.size)
  have f7 := Far.below (F := F) P7.out.2.2.1
  rw [HI.out.1, HI.out.2]
  refine ⟨A7, 1 + 1, c7, rfl, ⟨rfl, P7.out.2.1, _, RK.cons_t (t := leafT x) ⟨⟨_, RK.cons_h (H.out.2.1.stay hB7) .h0, cat_block HW.out (H.out.1 _ HB.out.size)⟩, RowAt.none_hs F w7, RowAt.none_ts F w7⟩ (P7.out.2.2.2.1.far f7), P7.out.1⟩, hB7⟩

set_option maxRecDepth 100000 in
set_option maxHeartbeats 4000000 in
theorem refIns_ne (F : Nat → Prop) (x : Lh) (z1 z2 : Int) (A0 : Option Addr) (k0 c0 : Nat) (N : Bool) (f g : Gn.Tre Lh) (r : List (Gn.Tre Lh)) (hr : f.rank ≠ g.rank) (A : Option Addr) (n c : Nat) (w : World) (hF : ∀ k, w.heap.size ≤ k → F k) (hx : RAt F w x (z1, z2) A0 k0 c0 N) (hs : Gn.bSize (f :: g :: r) < 268435456) (hl : TsAt F w (f :: g :: r) A n c) :
    Calls Tryz.prog 41 #[.agg #[.bool N, .int .i64 z1, .int .i64 z2, .slice A0 k0 c0], .slice A n c] w (GaveLN F (sIns (f :: g :: r) x) (sInsN (f :: g :: r) + sInsM (f :: g :: r)) w) := by
  have hz := bSize_len (f :: g :: r)
  have hnl : n = ((f :: g :: r)).length := hl.1
  have hn3 : n < 1000000000 := by omega
  simp only [List.length_cons] at hnl
  obtain ⟨b, o, rfl⟩ := ts_some hl (by omega)
  obtain ⟨-, -, -, -, -, -, ⟨p0, -, -, -⟩, -⟩ := ts_at hl (j := 0) (by simp)
  obtain ⟨-, -, -, -, -, -, ⟨p4, -, -, -⟩, -⟩ := ts_at hl (j := 1) (by simp)
  simp only [List.getElem_cons_zero, List.getElem_cons_succ, Nat.zero_mul, Nat.add_zero] at p0 p4
  have zn1 : decide ((n : Int) < 2) = false := by simp; omega
  have zn2 : ¬ (n : Int) < 2 := by omega
  have zn3 : (0 : Int) < (n : Int) := by omega
  have zn4 : (1 : Int) < (n : Int) := by omega
  have zn5 : 0 < n := by omega
  have zn6 : 1 < n := by omega
  have zr1 : ((f.rank : Int) == (g.rank : Int)) = false := by simp; omega
  have zr2 : ¬ (f.rank : Int) = (g.rank : Int) := by omega
  have zr3 : ((f.rank : Int) != (g.rank : Int)) = true := by simp; omega
  have hb0 := (Below.refl w.heap.size w).alloc (Nat.le_refl _) (.cells #[.bool N, .int .i64 z1, .int .i64 z2, .slice A0 k0 c0] 35)
  have hv : Qd (w.alloc (.cells #[.bool N, .int .i64 z1, .int .i64 z2, .slice A0 k0 c0] 35)) w.heap.size (.bool N) (.int .i64 z1) (.int .i64 z2) (.slice A0 k0 c0) := qd_at (new_at rfl)
  have p0 := stay_cell hb0 p0
  have p4 := stay_cell hb0 p4
  have H := Lib.hid (And.intro hF (And.intro hx (And.intro hl hb0)))
  have HI := Lib.hid (show sIns (f :: g :: r) x = leafT x :: (f :: g :: r) ∧ sInsN (f :: g :: r) + sInsM (f :: g :: r) = 1 from ⟨sIns_ne x hr, by show (if f.rank = g.rank then 2 else 0) + (if f.rank = g.rank then 2 else 1) = 1; rw [if_neg hr, if_neg hr]⟩)
  clear hF hx hl hb0 hs hz hnl hr
  go_enter Tryz.func41, Tryz.ntmps41
  go_wp2_with fail
  generalize w.alloc (.cells #[.bool N, .int .i64 z1, .int .i64 z2, .slice A0 k0 c0] 35) = w1 at *
  have kc0 := fun d os => cell_regrown p0 d os
  have kc1 := fun d os => cell_regrown p4 d os
  rw [world_self w1]
  generalize w1.drawn = d0
  generalize (#[] : Array Obj) = os0
  refine wp_region_class (by kernel_rfl) (by kernel_rfl) ?_
  repeat (go_big_quiet_step (fail))
  refine wpQuiet_nil ?_
  intro _ hw'
  obtain ⟨⟨dq, osq⟩, hw''⟩ := hw'
  subst hw''
  have hbq := below_regrown w1 dq osq
  have hX := hv.keep (hbq.block _ hv.lt)
  clear kc0 kc1 p0 p4
  generalize grow (redrawn w1 dq) osq = wq at *
  have HB := Lib.hid (H.out.2.2.2.trans (hbq.mono H.out.2.2.2.size))
  have hA2 : Below wq.heap.size wq (wq.alloc (.cells #[.bool N, .int .i64 z1, .int .i64 z2, .slice A0 k0 c0] 35)) := (Below.refl wq.heap.size wq).alloc (Nat.le_refl _) _
  have hrow : (wq.alloc (.cells #[.bool N, .int .i64 z1, .int .i64 z2, .slice A0 k0 c0] 35)).heap[wq.heap.size]? = some (.cells #[.bool N, .int .i64 z1, .int .i64 z2, .slice A0 k0 c0] 35 (0, 0)) := new_at rfl
  have hsz : (wq.alloc (.cells #[.bool N, .int .i64 z1, .int .i64 z2, .slice A0 k0 c0] 35)).heap.size = wq.heap.size + 1 := by simp
  obtain ⟨hkn, hkA, kc, hk1, hk2⟩ := H.out.2.2.1
  have hfar : Far F F w (wq.alloc (.cells #[.bool N, .int .i64 z1, .int .i64 z2, .slice A0 k0 c0] 35)) := ⟨fun k hk _ => (HB.out.trans (hA2.mono HB.out.size)).block k hk, fun k hk h => h⟩
  obtain ⟨A7, c7, w7, hrun, hC, hnn, hb7⟩ := append_t F (wq.alloc (.cells #[.bool N, .int .i64 z1, .int .i64 z2, .slice A0 k0 c0] 35)) (fun k hk => H.out.1 k (by have := HB.out.size; rw [hsz] at hk; omega)) (.int .i64 0) (.slice (some ⟨wq.heap.size, 0, none⟩) 1 1) (.slice none 0 0) (.slice none 0 0) (some ⟨b, o, none⟩) n c kc (by rw [hk1.length, ← hkn]) hk1.one (hk2.far hfar) hkA.none (by omega)
  have P7 := Lib.hid (And.intro hC (And.intro hnn (And.intro hb7 (And.intro (hk1.far hfar) (And.intro hA2 hkn)))))
  have hrow7 := (hb7.block _ (lt_of_heap hrow)).trans hrow
  have HW := Lib.hid hrow7
  rw [hsz] at hrun
  clear hv hbq hkn hkA hk1 hk2 hfar hC hnn hb7 hA2 hrow hrow7 hsz
  go_wp2_with (first
    | (refine wpList_load_h rfl _ rfl _ rfl hX ?_)
    | (at_builtin; refine wpList_append_run rfl _ _ _ rfl _ _ _ _ rfl rfl hrun ?_))
  refine bodyPost_ret (v := .tuple #[.slice A7 (n + 1) c7, .int .i64 1]) (by simp [results, Tryz.results41, go_sem]) rfl ?_
  have hB2 := HB.out.trans (P7.out.2.2.2.2.1.mono HB.out.size)
  have hB7 : Below w.heap.size w w7 := hB2.trans (P7.out.2.2.1.mono hB2.size)
  have f7 := Far.below (F := F) P7.out.2.2.1
  rw [HI.out.1, HI.out.2]
  refine ⟨A7, n + 1, c7, rfl, ⟨by simp only [Rows.len, List.length_cons]; have := P7.out.2.2.2.2.2; simp only [Rows.len, List.length_cons] at this; omega, P7.out.2.1, _, RK.cons_t (t := leafT x) ⟨⟨_, RK.cons_h (H.out.2.1.stay hB7) .h0, cat_block HW.out (H.out.1 _ HB.out.size)⟩, RowAt.none_hs F w7, RowAt.none_ts F w7⟩ (P7.out.2.2.2.1.far f7), P7.out.1⟩, hB7⟩

end Go.Proofs.YtlmokendajgbdaaGreatDoor.Bo.Zr
