/-
  Contracts of package cons at ints: each (the iterator), onto, Rev, Join: which list each returns, and that nothing that was there has changed. Condition: fewer than 2 to the 31st things.
-/
import Derived.Test.YtanhlnhdmkfbfaaCons1
import Derived.Test.YtanhlnhdmkfbfaaRange
import Derived.Test.YtanhlnhdmkfbfaaBox
import Derived.Shelf.Abstract
import Derived.Shelf.RegionOpen
import Derived.OwnWalkIn
import Derived.TacticsInMore
import Derived.LoopNIn
import Derived.LoopIn
import Derived.Deep.RegionHeld3
import Derived.Deep.DrawnRows
namespace Go.Proofs.Ytanhlnhdmkfbfaa
open Go.Sort Go.RowKit Go.Shelf

attribute [local go_sem] Oper.semAt_some

set_option maxRecDepth 100000 in
set_option maxHeartbeats 1000000 in
/-- The iterator tells the list's things, one by one. -/
theorem each_tells (p : Option Addr) (xs : List El) (k : Int) (n : Nat) (hn : 1 ≤ n) (m : Nat) (w : World) (hm : m ≤ w.heap.size) (h : Chain one 57 m w p xs) :
    Tells Fence.wide n Try.prog 29 #[lst p k] one m xs w := fun l J W hW hJ hY h0 => by
  have hL : Chain one 57 m (W.alloc (.cells #[.pointer p, .int .i64 k] 27)) p xs := Chain.below ((hW.mono hm).alloc (Nat.le_trans hm hW.size) _) h
  have hJ1 := hJ _ _ (.cells #[.pointer p, .int .i64 k] 27) h0
  refine callsIn_of_wp Try.func29 rfl trivial ?_ rfl
  simp only [Try.ntmps29, List.size_toArray, List.length_cons, List.length_nil, Nat.reduceAdd, Nat.reduceSub, Array.replicate_succ, Array.replicate_zero, List.push_toArray, List.append_toArray, List.nil_append, List.cons_append]
  have HL := Lib.hid hL
  have HJ := Lib.hid hJ1
  have HY := Lib.hid hY
  clear hL hJ1 hY h0 h hJ
  gi_wp2
  gi_loopw [4] (fun c wr => ∃ (pre rest : List El) (q : Option Addr), c = .pointer q ∧ xs = pre ++ rest ∧ Chain one 57 m wr q rest ∧ J pre wr)
    (fun c wr => left one 57 m wr c)
  case atStart =>
    exact ⟨[], xs, p, rfl, rfl, HL.out, HJ.out⟩
  case round =>
    obtain ⟨pre, rest, q, rfl, hx, hl, hJs⟩ := hrel
    cases rest with
    | nil =>
      obtain rfl : q = none := hl
      gi_wp2
      go_end0
      rw [hx, List.append_nil]
      exact ⟨⟨_, rfl⟩, hJs⟩
    | cons x rest =>
      have hl' := hl
      obtain ⟨b, q', rfl, hb, hh, hr⟩ := hl
      have hv : wr.cell? ⟨b, 0, none⟩ = some (one x) := by simp [World.cell?, hh]
      have hq : wr.cell? ⟨b, 1, none⟩ = some (.pointer q') := by simp [World.cell?, hh]
      obtain ⟨fn, tmps, assign, body, hy, hR⟩ := HY.out pre x wr hJs (by rw [hx]; simp)
      gi_wp2
      refine hR.mono ?_
      rintro e W3 ⟨rfl, hJ3, hk3⟩
      have hq3 : W3.cell? ⟨b, 1, none⟩ = some (.pointer q') := (hk3.cell (p := ⟨b, 1, none⟩) hb).trans hq
      gi_wp2
      go_roundw
      case rel => exact ⟨pre ++ [x], rest, q', rfl, by simp [hx], Chain.below hk3 hr, hJ3⟩
      case measure => rw [left_eq (Chain.below hk3 hr), left_eq hl']; simp

/-- What stands between two rounds of onto: m's variable holds a list, what has come pushed on ys one by one. -/
def OntoRel (w : World) (ys : List El) (k : Int) (pre : List El) (W : World) : Prop :=
  ∃ q, Box2 W (w.heap.size + 1) 27 (.pointer q) (.int .i64 (k + pre.length)) ∧ Ch one 57 W q (pre.reverse ++ ys) ∧ Box2 W (w.heap.size + 1 + 1) 27 (.pointer none) (.int .i64 0) ∧ Below w.heap.size w W

theorem ontoRel_own (w : World) (ys : List El) (k : Int) (B : Nat) (hB : w.heap.size ≤ B) : OwnFrom B (OntoRel w ys k) := by
  rintro s A C row ⟨q, h1, h2, h3, h4⟩ hg hr
  refine ⟨q, h1.kept hg (fun r e => (hr r e).2), h2.own hg (fun r e => (hr r e).2), h3.kept hg (fun r e => (hr r e).2), h4.grown hg h4.size (fun r e => Nat.le_trans hB (hr r e).1)⟩

set_option maxRecDepth 100000 in
set_option maxHeartbeats 2000000 in
theorem onto_any (p q : Option Addr) (xs ys : List El) (j k : Int) (w : World) (hp : Ch one 57 w p xs) (hq : Ch one 57 w q ys) (h0 : 0 ≤ k) (h1 : k < 2147483648) (h2 : xs.length < 2147483648) :
    Calls Try.prog 28 #[lst p j, lst q k] w fun e w' =>
      ∃ r, e = .returned (lst r (k + xs.length)) ∧ Ch one 57 w' r (xs.reverse ++ ys) ∧ Below w.heap.size w w' := by
  refine (callsIn_wide (n := 3)).1 ?_
  refine callsIn_of_wp_marks Try.func28 rfl trivial ?_ rfl
  simp only [Try.ntmps28, List.size_toArray, List.length_cons, List.length_nil, Nat.reduceAdd, Nat.reduceSub, Array.replicate_succ, Array.replicate_zero, List.push_toArray, List.append_toArray, List.nil_append, List.cons_append]
  have HP := Lib.hid hp
  have HQ := Lib.hid hq
  clear hp hq
  gi_wp2
  have hB0 : Below w.heap.size w (((w.alloc (.cells #[.pointer p, .int .i64 j] 27)).alloc (.cells #[.pointer q, .int .i64 k] 27)).alloc (.cells #[.pointer none, .int .i64 0] 27)) := (((Below.refl _ w).alloc (Nat.le_refl _) _).alloc (by simp) _).alloc (by simp; omega) _
  have bM := (Box2.new (w.alloc (.cells #[.pointer p, .int .i64 j] 27)) 27 (.pointer q) (.int .i64 k)).alloc (.cells #[.pointer none, .int .i64 0] 27)
  have bR := Box2.new ((w.alloc (.cells #[.pointer p, .int .i64 j] 27)).alloc (.cells #[.pointer q, .int .i64 k] 27)) 27 (.pointer none) (.int .i64 0)
  simp only [World.size_alloc] at bM bR
  have HT := each_tells p xs j (3 - 1) (by omega) w.heap.size _ hB0.size (Chain.below hB0 HP.out)
  have hcq := HQ.out.stay hB0
  refine range_bound rfl (by omega) (gf := 29) (fs := #[lst p j]) rfl trivial (enters_of Try.func29 (by kernel_rfl) rfl) HT hB0.size (OntoRel w ys k) (ontoRel_own w ys k _ hB0.size)
    ⟨q, by simpa using bM, by simpa using hcq, bR, hB0⟩
    (fun x => { tmps := #[lst p j, lst q k, .pointer (some ⟨w.heap.size, 0, none⟩), .pointer (some ⟨w.heap.size + 1, 0, none⟩), .pointer (some ⟨w.heap.size + 1 + 1, 0, none⟩), one x, lst p j, .func (.func 29) #[lst p j] #[], one x, undef, undef, undef, undef], defers := [] }) ?assign ?body ?done
  case assign =>
    intro l x W K hK
    gi_wp2
    exact hK
  case body =>
    rintro l pre x W ⟨r, hm, hc, hr, hb⟩ hlt
    have c0 := hm.c0
    have c1 := hm.c1
    have HM := Lib.hid hm
    have HC := Lib.hid hc
    have HR := Lib.hid hr
    have HB := Lib.hid hb
    clear hm hc hr hb hcq HT bM bR hB0 HP HQ
    gi_wp2_with (refine ⟨trivial, ?_⟩; gi_at_call 8; refine (CallsIn.inRound l (callsIn_wide.2 (push_any r _ _ x _ HC.out (by omega) (by omega)))).mono ?_; rintro e w' ⟨b, rfl, hc2, hb2⟩; have d0 := (HM.out.stay hb2).c0; have d1 := (HM.out.stay hb2).c1; have e0 := (HM.out.stay hb2).z0; have e1 := (HM.out.stay hb2).z1)
    have hm2 := HM.out.stay hb2
    refine ⟨(keeps_stay hb2).trans (keeps_set2 _ _ _ _ _), below_set2 (hb2.mono HB.out.size) (by omega) _ _, some ⟨b, 0, none⟩, ?_, ?_, (HR.out.stay hb2).aside (by omega) _ _, below_set2 (HB.out.trans (hb2.mono HB.out.size)) (by omega) _ _⟩
    · rw [show k + ((pre ++ [x]).length : Int) = k + pre.length + 1 by simp; omega]
      exact hm2.set _ _
    · rw [show (pre ++ [x]).reverse ++ ys = x :: (pre.reverse ++ ys) by simp]
      exact hc2.set2 hm2 (by decide) _ _
  case done =>
    rintro D W hD ⟨r, hm, hc, hr, hb⟩ hK
    have c0 := hm.c0
    have c1 := hm.c1
    have d0 := hr.c0
    have d1 := hr.c1
    have e0 := hr.z0
    have e1 := hr.z1
    gi_wp2
    have hK2 := (keeps_set2 0 (w.heap.size + 1 + 1) W (.pointer r) (.int .i64 (k + xs.length))).same D _ (Nat.zero_le _) hK rfl
    have hr2 := (hr.set (.pointer r) (.int .i64 (k + xs.length))).put (.deferred none) hK2 rfl
    have f0 := hr2.c0
    have f1 := hr2.c1
    refine ⟨by simp, .inl ⟨_, _, rfl, run_takeDeferred hK2, ?_⟩⟩
    refine ⟨lst r (k + xs.length), by simp [results, Try.results28, go_sem, f0, f1], r, rfl, ?_, ?_⟩
    · exact (hc.set2 hr (by decide) _ _).own (grownBy_putObj' _ D _) (fun r e => by cases e; exact ⟨_, hK2, rfl⟩)
    · exact (below_set2 hb (by omega) _ _).trans (belowK_b (w := w) (Nat.le_refl _) _ D _ _ (by simp at hD; omega) hK2 rfl rfl)

set_option maxHeartbeats 1000000 in
theorem rev_any (p : Option Addr) (xs : List El) (n : Int) (w : World) (h : Ch one 57 w p xs) (h2 : xs.length < 2147483648) : Calls Try.prog 12 #[lst p n] w fun e w' =>
    ∃ q, e = .returned (lst q xs.length) ∧ Ch one 57 w' q xs.reverse ∧ Below w.heap.size w w' := by
  have H := Lib.hid h
  clear h
  go_enter Try.func12, Try.ntmps12
  go_wp2_with fail
  ((with_reducible refine (onto_any p none xs [] n 0 _ ((H.out.alloc _).alloc _) (Ch.none _) (by omega) (by omega) h2).mono ?_); rintro e w1 ⟨q, rfl, hc, hb⟩)
  have hr := (Box2.new (w.alloc (.cells #[.pointer p, .int .i64 n] 27)) 27 (.pointer none) (.int .i64 0)).stay hb
  rw [World.size_alloc] at hr
  have hb1 : Below w.heap.size w w1 := (((Below.refl w.heap.size w).alloc (Nat.le_refl _) _).alloc (by simp) _).trans (hb.mono (by simp; omega))
  rw [List.append_nil] at hc
  rw [Int.zero_add]
  have HC := Lib.hid hc
  have HB := Lib.hid hb1
  have HR := Lib.hid hr
  have d0 := hr.c0
  have d1 := hr.c1
  have e0 := hr.z0
  have e1 := hr.z1
  clear hc hb hb1 hr H
  go_wp2
  have hr2 := HR.out.set (.pointer q) (.int .i64 xs.length)
  have f0 := hr2.c0
  have f1 := hr2.c1
  refine bodyPost_ret (v := lst q xs.length) (by simp [results, Try.results12, go_sem, f0, f1]) rfl ⟨_, rfl, HC.out.set2 HR.out (by decide) _ _, below_set2 HB.out (by omega) _ _⟩

set_option maxHeartbeats 1000000 in
theorem join_any (p q : Option Addr) (xs ys : List El) (n : Int) (k : Int) (w : World) (hp : Ch one 57 w p xs) (hq : Ch one 57 w q ys) (h0 : 0 ≤ k) (h1 : k < 2147483648) (h2 : xs.length < 2147483648) :
    Calls Try.prog 14 #[lst p n, lst q k] w fun e w' =>
      ∃ r, e = .returned (lst r (k + xs.length)) ∧ Ch one 57 w' r (xs ++ ys) ∧ Below w.heap.size w w' := by
  have HP := Lib.hid hp
  have HQ := Lib.hid hq
  clear hp hq
  go_enter Try.func14, Try.ntmps14
  go_wp2_with fail
  have hB0 : Below w.heap.size w (((w.alloc (.cells #[.pointer p, .int .i64 n] 27)).alloc (.cells #[.pointer q, .int .i64 k] 27)).alloc (.cells #[.pointer none, .int .i64 0] 27)) := (((Below.refl _ w).alloc (Nat.le_refl _) _).alloc (by simp) _).alloc (by simp; omega) _
  have bL := ((Box2.new w 27 (.pointer p) (.int .i64 n)).alloc (.cells #[.pointer q, .int .i64 k] 27)).alloc (.cells #[.pointer none, .int .i64 0] 27)
  have bM := (Box2.new (w.alloc (.cells #[.pointer p, .int .i64 n] 27)) 27 (.pointer q) (.int .i64 k)).alloc (.cells #[.pointer none, .int .i64 0] 27)
  have bR := Box2.new ((w.alloc (.cells #[.pointer p, .int .i64 n] 27)).alloc (.cells #[.pointer q, .int .i64 k] 27)) 27 (.pointer none) (.int .i64 0)
  simp only [World.size_alloc] at bM bR
  generalize (((w.alloc (.cells #[.pointer p, .int .i64 n] 27)).alloc (.cells #[.pointer q, .int .i64 k] 27)).alloc (.cells #[.pointer none, .int .i64 0] 27)) = W3 at *
  have HP3 := Lib.hid (HP.out.stay hB0).drew
  have HQ3 := Lib.hid (HQ.out.stay hB0).drew
  have HB3 := Lib.hid hB0.drew
  have BL := Lib.hid (show Box2 W3.drew _ _ _ _ from bL)
  have BM := Lib.hid (show Box2 W3.drew _ _ _ _ from bM)
  have BR := Lib.hid (show Box2 W3.drew _ _ _ _ from bR)
  have g0 := bL.c0
  have g1 := bL.c1
  have g2 := bM.c0
  have g3 := bM.c1
  clear hB0 bL bM bR HP HQ
  generalize hx0 : w.heap.size = m0 at *
  generalize hx2 : m0 + 1 + 1 = m2 at *
  generalize hx1 : m0 + 1 = m1 at *
  have n02 : m0 ≠ m2 := by omega
  have n12 : m1 ≠ m2 := by omega
  have HM := Lib.hid (show m0 ≤ m2 by omega)
  have HX := Lib.hid hx0
  clear hx0 hx1 hx2
  go_region_held3 (fun w' => w'.cell? ⟨m0, 0, none⟩ = some (.pointer p) ∧ w'.cell? ⟨m0, 1, none⟩ = some (.int .i64 n) ∧ w'.cell? ⟨m1, 0, none⟩ = some (.pointer q) ∧ w'.cell? ⟨m1, 1, none⟩ = some (.int .i64 k)) (first | go_keep | exact ⟨cell_aside n02 l0 _ _, cell_aside n02 l1 _ _, cell_aside n12 l2 _ _, cell_aside n12 l3 _ _⟩)
    (first | (go_at_call 12; ((with_reducible refine (rev_any p xs n _ HP3.out h2).mono ?_); rintro e w4 ⟨r, rfl, hc4, hb4⟩; have HC4 := Lib.hid hc4; have HB4 := Lib.hid hb4; have k0 := (BL.out.stay hb4).c0; have k1 := (BL.out.stay hb4).c1; have k2 := (BM.out.stay hb4).c0; have k3 := (BM.out.stay hb4).c1; clear hc4 hb4)) | (go_at_call 28; ((with_reducible refine (onto_any r q xs.reverse ys _ k _ HC4.out (HQ3.out.stay HB4.out) h0 h1 (by simpa using h2)).mono ?_); rintro e w5 ⟨r5, rfl, hc5, hb5⟩; have HC5 := Lib.hid hc5; have HB5 := Lib.hid hb5; have l0 := ((BL.out.stay HB4.out).stay hb5).c0; have l1 := ((BL.out.stay HB4.out).stay hb5).c1; have l2 := ((BM.out.stay HB4.out).stay hb5).c0; have l3 := ((BM.out.stay HB4.out).stay hb5).c1; have d0 := ((BR.out.stay HB4.out).stay hb5).c0; have d1 := ((BR.out.stay HB4.out).stay hb5).c1; have e0 := ((BR.out.stay HB4.out).stay hb5).z0; have e1 := ((BR.out.stay HB4.out).stay hb5).z1; clear hc5 hb5)))
  clear g0 g1 g2 g3 k0 k1 k2 k3 l0 l1 l2 l3 d0 d1 e0 e1
  go_wp2
  have hr5 := (BR.out.stay HB4.out).stay HB5.out
  have hr6 := hr5.set (.pointer r5) (.int .i64 (k + xs.length))
  have f0 := hr6.c0
  have f1 := hr6.c1
  have hc5 := HC5.out
  rw [List.reverse_reverse] at hc5
  refine bodyPost_ret (v := lst r5 (k + xs.length)) (by simp [results, Try.results14, go_sem, f0, f1]) rfl ⟨r5, rfl, hc5.set2 hr5 (by decide) _ _, ?_⟩
  have hs := HB3.out.size
  have hs4 := HB4.out.size
  rw [HX.out] at hs ⊢
  exact below_set2 ((HB3.out.trans (HB4.out.mono hs)).trans (HB5.out.mono (Nat.le_trans hs hs4))) HM.out _ _

end Go.Proofs.Ytanhlnhdmkfbfaa
