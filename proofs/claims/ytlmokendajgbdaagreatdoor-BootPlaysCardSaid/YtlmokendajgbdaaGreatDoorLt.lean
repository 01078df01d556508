/-
  Contracts of package cons at trees' addresses: Push, First, Rest, Len, for any list in memory: what each returns, that the list it returns lies in memory, and that nothing that was there has changed. Condition: a length that is added to is below 2 to the 62nd.
  Contracts of package cons at trees' addresses: each (the iterator), onto, Rev, Join: which list each returns, and that nothing that was there has changed. Condition: fewer than 2 to the 31st things.
  Contracts of package cons at trees' addresses: Drop, Of. Which list each returns, and that nothing that was there has changed. Condition: fewer than 2 to the 31st things.
  Contract of package cons at trees' addresses: Of. Which list it returns, and that nothing that was there has changed. Condition: fewer than 2 to the 31st things.
  Contract of package cons at trees' addresses: All. Which row it returns, in memory of its own, and that nothing that was there has changed. Condition: fewer than 2 to the 31st things.
  The contracts of package cons at trees' addresses in one form: a list's value is an address and a length; the list lies in memory. Condition: fewer than 2 to the 31st things.
-/
import Derived.Test.YtlmokendajgbdaaGreatDoorMa
import Derived.Test.YtlmokendajgbdaaGreatDoorProg
import Derived.Lib.Hide
import Derived.WalkKit
import Derived.WalkLawsBesides
import Derived.Outline
import Derived.Deep.QuietTactic
import Derived.BigQuiet
import Derived.LoopTactic
import Derived.Shelf.Abstract
import Derived.Shelf.RegionOpen
import Derived.OwnWalkIn
import Derived.TacticsInMore
import Derived.LoopNIn
import Derived.LoopIn
import Derived.Deep.RegionHeld3
import Derived.Deep.DrawnRows
import Derived.StillTailTactics
namespace Go.Proofs.YtlmokendajgbdaaGreatDoor.Lt
open Go.Sort Go.RowKit

/-- A thing. -/
abbrev El : Type := Option Addr
/-- A thing, as a value. -/
abbrev one (x : El) : Value := .pointer x
/-- The thing of no list. -/
abbrev zero : El := none
/-- A list's value. -/
abbrev lst (p : Option Addr) (n : Int) : Value := .agg #[.pointer p, .int .i64 n]

theorem ch_new (p : Option Addr) (xs : List El) (x : El) (w w' : World) (b : Nat) (h : Ch one 152 w p xs) (hb : Below w.heap.size w w') (h0 : w'.heap[b]? = some (.cells #[one x, .pointer p] 152 (0, 0))) : Ch one 152 w' (some ⟨b, 0, none⟩) (x :: xs) :=
  ⟨b, p, rfl, (Array.getElem?_eq_some_iff.1 h0).1, h0, h.stay hb⟩

set_option maxHeartbeats 1000000 in
theorem push_any (p : Option Addr) (xs : List El) (n : Int) (x : El) (w : World) (h : Ch one 152 w p xs) (h0 : 0 ≤ n) (h1 : n < 4611686018427387904) : Calls Tryz.prog 65 #[lst p n, one x] w fun e w' =>
    ∃ b, e = .returned (lst (some ⟨b, 0, none⟩) (n + 1)) ∧ Ch one 152 w' (some ⟨b, 0, none⟩) (x :: xs) ∧ Below w.heap.size w w' := by
  have H := Lib.hid h
  clear h
  go_enter Tryz.func65, Tryz.ntmps65
  go_wp2
  refine bodyPost_ret (v := lst (some ⟨w.heap.size + 1 + 1, 0, none⟩) (n + 1)) (by simp [results, Tryz.results65, go_sem]) rfl ⟨_, rfl, ?_⟩
  have hb : Below w.heap.size w (((w.alloc (.cells #[.pointer p, .int .i64 n] 83)).alloc (.cells #[.pointer (some ⟨w.heap.size + 1 + 1, 0, none⟩), .int .i64 (n + 1)] 83)).alloc (.cells #[one x, .pointer p] 152)) := (((Below.refl _ w).alloc (Nat.le_refl _) _).alloc (by simp) _).alloc (by simp; omega) _
  refine ⟨ch_new p xs x w _ _ H.out hb ?_, hb⟩
  have := World.alloc_heap_new ((w.alloc (.cells #[.pointer p, .int .i64 n] 83)).alloc (.cells #[.pointer (some ⟨w.heap.size + 1 + 1, 0, none⟩), .int .i64 (n + 1)] 83)) (.cells #[one x, .pointer p] 152)
  simpa using this

set_option maxHeartbeats 1000000 in
theorem first_nil (n : Int) (w : World) : Calls Tryz.prog 61 #[lst none n] w fun e w' =>
    e = .returned (.tuple #[one zero, .bool false]) ∧ Below w.heap.size w w' := by
  go_enter Tryz.func61, Tryz.ntmps61
  go_wp2
  go_ret2
  exact ⟨rfl, (Below.refl _ _).alloc (Nat.le_refl _) _⟩

set_option maxHeartbeats 1000000 in
theorem first_cons (p : Option Addr) (x : El) (xs : List El) (n : Int) (w : World) (h : Ch one 152 w p (x :: xs)) : Calls Tryz.prog 61 #[lst p n] w fun e w' =>
    e = .returned (.tuple #[one x, .bool true]) ∧ Below w.heap.size w w' := by
  obtain ⟨b, q, rfl, hb, hh, -⟩ := h
  have hv : w.cell? ⟨b, 0, none⟩ = some (one x) := by simp [World.cell?, hh]
  clear hh
  have hv1 := ((Below.refl w.heap.size w).alloc (Nat.le_refl _) (.cells #[.pointer (some ⟨b, 0, none⟩), .int .i64 n] 83)).cell (p := ⟨b, 0, none⟩) hb
  rw [hv] at hv1
  clear hv
  go_enter Tryz.func61, Tryz.ntmps61
  go_wp2
  go_ret2
  exact ⟨rfl, (Below.refl _ _).alloc (Nat.le_refl _) _⟩

set_option maxHeartbeats 1000000 in
theorem rest_nil (n : Int) (w : World) : Calls Tryz.prog 62 #[lst none n] w fun e w' =>
    e = .returned (lst none n) ∧ Below w.heap.size w w' := by
  go_enter Tryz.func62, Tryz.ntmps62
  go_wp2
  refine bodyPost_ret (v := lst none n) (by simp [results, Tryz.results62, go_sem]) rfl ⟨rfl, ?_⟩
  exact ((Below.refl _ w).alloc (Nat.le_refl _) _).alloc (by simp) _

set_option maxHeartbeats 1000000 in
theorem rest_cons (p : Option Addr) (x : El) (xs : List El) (n : Int) (w : World) (h : Ch one 152 w p (x :: xs)) (h0 : 0 < n) (h1 : n < 4611686018427387904) : Calls Tryz.prog 62 #[lst p n] w fun e w' =>
    ∃ q, e = .returned (lst q (n - 1)) ∧ Ch one 152 w' q xs ∧ Below w.heap.size w w' := by
  obtain ⟨b, q, rfl, hb, hh, hr⟩ := h
  have hv : w.cell? ⟨b, 1, none⟩ = some (.pointer q) := by simp [World.cell?, hh]
  clear hh
  have HR := Lib.hid hr
  clear hr
  have hb' : Below w.heap.size w ((w.alloc (.cells #[.pointer (some ⟨b, 0, none⟩), .int .i64 n] 83)).alloc (.cells #[.pointer none, .int .i64 0] 83)) := ((Below.refl w.heap.size w).alloc (Nat.le_refl _) _).alloc (by simp) _
  have hv1 := hb'.cell (p := ⟨b, 1, none⟩) hb
  rw [hv] at hv1
  clear hv
  have HB := Lib.hid hb'
  clear hb'
  go_enter Tryz.func62, Tryz.ntmps62
  go_wp2
  go_region
  all_goals
    go_wp2
    refine bodyPost_ret (v := lst q (n - 1)) (by simp [results, Tryz.results62, go_sem]) rfl ⟨_, rfl, ?_⟩
    have hb2 : Below w.heap.size w ((w.alloc (.cells #[.pointer (some ⟨b, 0, none⟩), .int .i64 n] 83)).alloc (.cells #[.pointer q, .int .i64 (n - 1)] 83)).drew := (((Below.refl w.heap.size w).alloc (Nat.le_refl _) _).alloc (by simp) _).drew
    exact ⟨Ch.stay HR.out hb2, hb2⟩

/-- Rest, of any list. -/
theorem rest_any (p : Option Addr) (xs : List El) (n : Nat) (w : World) (h : Ch one 152 w p xs) (hn : xs.length = n) (h1 : n < 2147483648) : Calls Tryz.prog 62 #[lst p n] w fun e w' =>
    ∃ q, e = .returned (lst q ((n - 1 : Nat) : Int)) ∧ Ch one 152 w' q xs.tail ∧ Below w.heap.size w w' := by
  cases xs with
  | nil =>
    obtain rfl := h.nil
    obtain rfl : n = 0 := hn.symm
    exact (rest_nil _ w).mono fun e w' ⟨he, hb⟩ => ⟨none, he, rfl, hb⟩
  | cons x xs =>
    refine (rest_cons p x xs n w h (by simp at hn; omega) (by omega)).mono fun e w' ⟨q, he, hc, hb⟩ => ⟨q, ?_, hc, hb⟩
    rw [he, show ((n - 1 : Nat) : Int) = (n : Int) - 1 from by simp at hn; omega]

end Go.Proofs.YtlmokendajgbdaaGreatDoor.Lt
namespace Go.Proofs.YtlmokendajgbdaaGreatDoor.Lt
open Go.Sort Go.RowKit Go.Shelf

attribute [local go_sem] Oper.semAt_some

set_option maxRecDepth 100000 in
set_option maxHeartbeats 1000000 in
/-- The iterator tells the list's things, one by one. -/
theorem each_tells (p : Option Addr) (xs : List El) (k : Int) (n : Nat) (hn : 1 ≤ n) (m : Nat) (w : World) (hm : m ≤ w.heap.size) (h : Chain one 152 m w p xs) :
    Tells Fence.wide n Tryz.prog 97 #[lst p k] one m xs w := fun l J W hW hJ hY h0 => by
  have hL : Chain one 152 m (W.alloc (.cells #[.pointer p, .int .i64 k] 83)) p xs := Chain.below ((hW.mono hm).alloc (Nat.le_trans hm hW.size) _) h
  have hJ1 := hJ _ _ (.cells #[.pointer p, .int .i64 k] 83) h0
  refine callsIn_of_wp Tryz.func97 rfl trivial ?_ rfl
  simp only [Tryz.ntmps97, List.size_toArray, List.length_cons, List.length_nil, Nat.reduceAdd, Nat.reduceSub, Array.replicate_succ, Array.replicate_zero, List.push_toArray, List.append_toArray, List.nil_append, List.cons_append]
  have HL := Lib.hid hL
  have HJ := Lib.hid hJ1
  have HY := Lib.hid hY
  clear hL hJ1 hY h0 h hJ
  gi_wp2
  gi_loopw [4] (fun c wr => ∃ (pre rest : List El) (q : Option Addr), c = .pointer q ∧ xs = pre ++ rest ∧ Chain one 152 m wr q rest ∧ J pre wr)
    (fun c wr => left one 152 m wr c)
  case atStart =>
    exact ⟨[], xs, p, rfl, rfl, HL.out, HJ.out⟩
  case round =>
    obtain ⟨pre, rest, q, rfl, hx, hl, hJs⟩ := hrel
    cases rest with
    | nil =>
      obtain rfl : q = none := hl
      gi_wp2
      go_end0
      rw [hx, List.append_nil]
      exact ⟨⟨_, rfl⟩, hJs⟩
    | cons x rest =>
      have hl' := hl
      obtain ⟨b, q', rfl, hb, hh, hr⟩ := hl
      have hv : wr.cell? ⟨b, 0, none⟩ = some (one x) := by simp [World.cell?, hh]
      have hq : wr.cell? ⟨b, 1, none⟩ = some (.pointer q') := by simp [World.cell?, hh]
      obtain ⟨fn, tmps, assign, body, hy, hR⟩ := HY.out pre x wr hJs (by rw [hx]; simp)
      gi_wp2
      refine hR.mono ?_
      rintro e W3 ⟨rfl, hJ3, hk3⟩
      have hq3 : W3.cell? ⟨b, 1, none⟩ = some (.pointer q') := (hk3.cell (p := ⟨b, 1, none⟩) hb).trans hq
      gi_wp2
      go_roundw
      case rel => exact ⟨pre ++ [x], rest, q', rfl, by simp [hx], Chain.below hk3 hr, hJ3⟩
      case measure => rw [left_eq (Chain.below hk3 hr), left_eq hl']; simp

/-- What stands between two rounds of onto: m's variable holds a list, what has come pushed on ys one by one. -/
def OntoRel (w : World) (ys : List El) (k : Int) (pre : List El) (W : World) : Prop :=
  ∃ q, Box2 W (w.heap.size + 1) 83 (.pointer q) (.int .i64 (k + pre.length)) ∧ Ch one 152 W q (pre.reverse ++ ys) ∧ Box2 W (w.heap.size + 1 + 1) 83 (.pointer none) (.int .i64 0) ∧ Below w.heap.size w W

theorem ontoRel_own (w : World) (ys : List El) (k : Int) (B : Nat) (hB : w.heap.size ≤ B) : OwnFrom B (OntoRel w ys k) := by
  rintro s A C row ⟨q, h1, h2, h3, h4⟩ hg hr
  refine ⟨q, h1.kept hg (fun r e => (hr r e).2), h2.own hg (fun r e => (hr r e).2), h3.kept hg (fun r e => (hr r e).2), h4.grown hg h4.size (fun r e => Nat.le_trans hB (hr r e).1)⟩

set_option maxRecDepth 100000 in
set_option maxHeartbeats 2000000 in
theorem onto_any (p q : Option Addr) (xs ys : List El) (j k : Int) (w : World) (hp : Ch one 152 w p xs) (hq : Ch one 152 w q ys) (h0 : 0 ≤ k) (h1 : k < 2147483648) (h2 : xs.length < 2147483648) :
    Calls Tryz.prog 98 #[lst p j, lst q k] w fun e w' =>
      ∃ r, e = .returned (lst r (k + xs.length)) ∧ Ch one 152 w' r (xs.reverse ++ ys) ∧ Below w.heap.size w w' := by
  refine (callsIn_wide (n := 3)).1 ?_
  refine callsIn_of_wp_marks Tryz.func98 rfl trivial ?_ rfl
  simp only [Tryz.ntmps98, List.size_toArray, List.length_cons, List.length_nil, Nat.reduceAdd, Nat.reduceSub, Array.replicate_succ, Array.replicate_zero, List.push_toArray, List.append_toArray, List.nil_append, List.cons_append]
  have HP := Lib.hid hp
  have HQ := Lib.hid hq
  clear hp hq
  gi_wp2
  have hB0 : Below w.heap.size w (((w.alloc (.cells #[.pointer p, .int .i64 j] 83)).alloc (.cells #[.pointer q, .int .i64 k] 83)).alloc (.cells #[.pointer none, .int .i64 0] 83)) := (((Below.refl _ w).alloc (Nat.le_refl _) _).alloc (by simp) _).alloc (by simp; omega) _
  have bM := (Box2.new (w.alloc (.cells #[.pointer p, .int .i64 j] 83)) 83 (.pointer q) (.int .i64 k)).alloc (.cells #[.pointer none, .int .i64 0] 83)
  have bR := Box2.new ((w.alloc (.cells #[.pointer p, .int .i64 j] 83)).alloc (.cells #[.pointer q, .int .i64 k] 83)) 83 (.pointer none) (.int .i64 0)
  simp only [World.size_alloc] at bM bR
  have HT := each_tells p xs j (3 - 1) (by omega) w.heap.size _ hB0.size (Chain.below hB0 HP.out)
  have hcq := HQ.out.stay hB0
  refine range_bound rfl (by omega) (gf := 97) (fs := #[lst p j]) rfl trivial (enters_of Tryz.func97 (by kernel_rfl) rfl) HT hB0.size (OntoRel w ys k) (ontoRel_own w ys k _ hB0.size)
    ⟨q, by simpa using bM, by simpa using hcq, bR, hB0⟩
    (fun x => { tmps := #[lst p j, lst q k, .pointer (some ⟨w.heap.size, 0, none⟩), .pointer (some ⟨w.heap.size + 1, 0, none⟩), .pointer (some ⟨w.heap.size + 1 + 1, 0, none⟩), one x, lst p j, .func (.func 97) #[lst p j] #[], one x, undef, undef, undef, undef], defers := [] }) ?assign ?body ?done
  case assign =>
    intro l x W K hK
    gi_wp2
    exact hK
  case body =>
    rintro l pre x W ⟨r, hm, hc, hr, hb⟩ hlt
    have c0 := hm.c0
    have c1 := hm.c1
    have HM := Lib.hid hm
    have HC := Lib.hid hc
    have HR := Lib.hid hr
    have HB := Lib.hid hb
    clear hm hc hr hb hcq HT bM bR hB0 HP HQ
    gi_wp2_with (refine ⟨trivial, ?_⟩; gi_at_call 65; refine (CallsIn.inRound l (callsIn_wide.2 (push_any r _ _ x _ HC.out (by omega) (by omega)))).mono ?_; rintro e w' ⟨b, rfl, hc2, hb2⟩; have d0 := (HM.out.stay hb2).c0; have d1 := (HM.out.stay hb2).c1; have e0 := (HM.out.stay hb2).z0; have e1 := (HM.out.stay hb2).z1)
    have hm2 := HM.out.stay hb2
    refine ⟨(keeps_stay hb2).trans (keeps_set2 _ _ _ _ _), below_set2 (hb2.mono HB.out.size) (by omega) _ _, some ⟨b, 0, none⟩, ?_, ?_, (HR.out.stay hb2).aside (by omega) _ _, below_set2 (HB.out.trans (hb2.mono HB.out.size)) (by omega) _ _⟩
    · rw [show k + ((pre ++ [x]).length : Int) = k + pre.length + 1 by simp; omega]
      exact hm2.set _ _
    · rw [show (pre ++ [x]).reverse ++ ys = x :: (pre.reverse ++ ys) by simp]
      exact hc2.set2 hm2 (by decide) _ _
  case done =>
    rintro D W hD ⟨r, hm, hc, hr, hb⟩ hK
    have c0 := hm.c0
    have c1 := hm.c1
    have d0 := hr.c0
    have d1 := hr.c1
    have e0 := hr.z0
    have e1 := hr.z1
    gi_wp2
    have hK2 := (keeps_set2 0 (w.heap.size + 1 + 1) W (.pointer r) (.int .i64 (k + xs.length))).same D _ (Nat.zero_le _) hK rfl
    have hr2 := (hr.set (.pointer r) (.int .i64 (k + xs.length))).put (.deferred none) hK2 rfl
    have f0 := hr2.c0
    have f1 := hr2.c1
    refine ⟨by simp, .inl ⟨_, _, rfl, run_takeDeferred hK2, ?_⟩⟩
    refine ⟨lst r (k + xs.length), by simp [results, Tryz.results98, go_sem, f0, f1], r, rfl, ?_, ?_⟩
    · exact (hc.set2 hr (by decide) _ _).own (grownBy_putObj' _ D _) (fun r e => by cases e; exact ⟨_, hK2, rfl⟩)
    · exact (below_set2 hb (by omega) _ _).trans (belowK_b (w := w) (Nat.le_refl _) _ D _ _ (by simp at hD; omega) hK2 rfl rfl)

set_option maxHeartbeats 1000000 in
theorem rev_any (p : Option Addr) (xs : List El) (n : Int) (w : World) (h : Ch one 152 w p xs) (h2 : xs.length < 2147483648) : Calls Tryz.prog 75 #[lst p n] w fun e w' =>
    ∃ q, e = .returned (lst q xs.length) ∧ Ch one 152 w' q xs.reverse ∧ Below w.heap.size w w' := by
  have H := Lib.hid h
  clear h
  go_enter Tryz.func75, Tryz.ntmps75
  go_wp2_with fail
  ((with_reducible refine (onto_any p none xs [] n 0 _ ((H.out.alloc _).alloc _) (Ch.none _) (by omega) (by omega) h2).mono ?_); rintro e w1 ⟨q, rfl, hc, hb⟩)
  have hr := (Box2.new (w.alloc (.cells #[.pointer p, .int .i64 n] 83)) 83 (.pointer none) (.int .i64 0)).stay hb
  rw [World.size_alloc] at hr
  have hb1 : Below w.heap.size w w1 := (((Below.refl w.heap.size w).alloc (Nat.le_refl _) _).alloc (by simp) _).trans (hb.mono (by simp; omega))
  rw [List.append_nil] at hc
  rw [Int.zero_add]
  have HC := Lib.hid hc
  have HB := Lib.hid hb1
  have HR := Lib.hid hr
  have d0 := hr.c0
  have d1 := hr.c1
  have e0 := hr.z0
  have e1 := hr.z1
  clear hc hb hb1 hr H
  go_wp2
  have hr2 := HR.out.set (.pointer q) (.int .i64 xs.length)
  have f0 := hr2.c0
  have f1 := hr2.c1
  refine bodyPost_ret (v := lst q xs.length) (by simp [results, Tryz.results75, go_sem, f0, f1]) rfl ⟨_, rfl, HC.out.set2 HR.out (by decide) _ _, below_set2 HB.out (by omega) _ _⟩

set_option maxHeartbeats 1000000 in
theorem join_any (p q : Option Addr) (xs ys : List El) (n : Int) (k : Int) (w : World) (hp : Ch one 152 w p xs) (hq : Ch one 152 w q ys) (h0 : 0 ≤ k) (h1 : k < 2147483648) (h2 : xs.length < 2147483648) :
    Calls Tryz.prog 73 #[lst p n, lst q k] w fun e w' =>
      ∃ r, e = .returned (lst r (k + xs.length)) ∧ Ch one 152 w' r (xs ++ ys) ∧ Below w.heap.size w w' := by
  have HP := Lib.hid hp
  have HQ := Lib.hid hq
  clear hp hq
  go_enter Tryz.func73, Tryz.ntmps73
  go_wp2_with fail
  have hB0 : Below w.heap.size w (((w.alloc (.cells #[.pointer p, .int .i64 n] 83)).alloc (.cells #[.pointer q, .int .i64 k] 83)).alloc (.cells #[.pointer none, .int .i64 0] 83)) := (((Below.refl _ w).alloc (Nat.le_refl _) _).alloc (by simp) _).alloc (by simp; omega) _
  have bL := ((Box2.new w 83 (.pointer p) (.int .i64 n)).alloc (.cells #[.pointer q, .int .i64 k] 83)).alloc (.cells #[.pointer none, .int .i64 0] 83)
  have bM := (Box2.new (w.alloc (.cells #[.pointer p, .int .i64 n] 83)) 83 (.pointer q) (.int .i64 k)).alloc (.cells #[.pointer none, .int .i64 0] 83)
  have bR := Box2.new ((w.alloc (.cells #[.pointer p, .int .i64 n] 83)).alloc (.cells #[.pointer q, .int .i64 k] 83)) 83 (.pointer none) (.int .i64 0)
  simp only [World.size_alloc] at bM bR
  generalize (((w.alloc (.cells #[.pointer p, .int .i64 n] 83)).alloc (.cells #[.pointer q, .int .i64 k] 83)).alloc (.cells #[.pointer none, .int .i64 0] 83)) = W3 at *
  have HP3 := Lib.hid (HP.out.stay hB0).drew
  have HQ3 := Lib.hid (HQ.out.stay hB0).drew
  have HB3 := Lib.hid hB0.drew
  have BL := Lib.hid (show Box2 W3.drew _ _ _ _ from bL)
  have BM := Lib.hid (show Box2 W3.drew _ _ _ _ from bM)
  have BR := Lib.hid (show Box2 W3.drew _ _ _ _ from bR)
  have g0 := bL.c0
  have g1 := bL.c1
  have g2 := bM.c0
  have g3 := bM.c1
  clear hB0 bL bM bR HP HQ
  generalize hx0 : w.heap.size = m0 at *
  generalize hx2 : m0 + 1 + 1 = m2 at *
  generalize hx1 : m0 + 1 = m1 at *
  have n02 : m0 ≠ m2 := by omega
  have n12 : m1 ≠ m2 := by omega
  have HM := Lib.hid (show m0 ≤ m2 by omega)
  have HX := Lib.hid hx0
  clear hx0 hx1 hx2
  go_region_held3 (fun w' => w'.cell? ⟨m0, 0, none⟩ = some (.pointer p) ∧ w'.cell? ⟨m0, 1, none⟩ = some (.int .i64 n) ∧ w'.cell? ⟨m1, 0, none⟩ = some (.pointer q) ∧ w'.cell? ⟨m1, 1, none⟩ = some (.int .i64 k)) (first | go_keep | exact ⟨cell_aside n02 l0 _ _, cell_aside n02 l1 _ _, cell_aside n12 l2 _ _, cell_aside n12 l3 _ _⟩)
    (first | (go_at_call 75; ((with_reducible refine (rev_any p xs n _ HP3.out h2).mono ?_); rintro e w4 ⟨r, rfl, hc4, hb4⟩; have HC4 := Lib.hid hc4; have HB4 := Lib.hid hb4; have k0 := (BL.out.stay hb4).c0; have k1 := (BL.out.stay hb4).c1; have k2 := (BM.out.stay hb4).c0; have k3 := (BM.out.stay hb4).c1; clear hc4 hb4)) | (go_at_call 98; ((with_reducible refine (onto_any r q xs.reverse ys _ k _ HC4.out (HQ3.out.stay HB4.out) h0 h1 (by simpa using h2)).mono ?_); rintro e w5 ⟨r5, rfl, hc5, hb5⟩; have HC5 := Lib.hid hc5; have HB5 := Lib.hid hb5; have l0 := ((BL.out.stay HB4.out).stay hb5).c0; have l1 := ((BL.out.stay HB4.out).stay hb5).c1; have l2 := ((BM.out.stay HB4.out).stay hb5).c0; have l3 := ((BM.out.stay HB4.out).stay hb5).c1; have d0 := ((BR.out.stay HB4.out).stay hb5).c0; have d1 := ((BR.out.stay HB4.out).stay hb5).c1; have e0 := ((BR.out.stay HB4.out).stay hb5).z0; have e1 := ((BR.out.stay HB4.out).stay hb5).z1; clear hc5 hb5)))
  clear g0 g1 g2 g3 k0 k1 k2 k3 l0 l1 l2 l3 d0 d1 e0 e1
  go_wp2
  have hr5 := (BR.out.stay HB4.out).stay HB5.out
  have hr6 := hr5.set (.pointer r5) (.int .i64 (k + xs.length))
  have f0 := hr6.c0
  have f1 := hr6.c1
  have hc5 := HC5.out
  rw [List.reverse_reverse] at hc5
  refine bodyPost_ret (v := lst r5 (k + xs.length)) (by simp [results, Tryz.results73, go_sem, f0, f1]) rfl ⟨r5, rfl, hc5.set2 hr5 (by decide) _ _, ?_⟩
  have hs := HB3.out.size
  have hs4 := HB4.out.size
  rw [HX.out] at hs ⊢
  exact below_set2 ((HB3.out.trans (HB4.out.mono hs)).trans (HB5.out.mono (Nat.le_trans hs hs4))) HM.out _ _

end Go.Proofs.YtlmokendajgbdaaGreatDoor.Lt
namespace Go.Proofs.YtlmokendajgbdaaGreatDoor.Lt
open Go.Sort Go.RowKit

/-- What stands at the head of each round of Drop: i things are gone. -/
def DropRel (w : World) (n : Int) (xs : List El) (m0 m1 : Nat) (v : Value) (W : World) : Prop :=
  ∃ (i L : Nat) (q : Option Addr), v = .int .i64 (n - i) ∧ L = xs.length - i ∧ i ≤ xs.length ∧ (0 < i → (i : Int) ≤ n) ∧ Box2 W m0 83 (.pointer q) (.int .i64 L) ∧ Ch one 152 W q (xs.drop i) ∧ Box2 W m1 83 (.pointer none) (.int .i64 0) ∧ Below w.heap.size w W

set_option maxHeartbeats 2000000 in
set_option maxRecDepth 100000 in
theorem drop_any (p : Option Addr) (xs : List El) (n : Int) (w : World) (h : Ch one 152 w p xs) (h2 : xs.length < 2147483648) (hn0 : -9223372036854775808 ≤ n) (hn1 : n < 9223372036854775808) :
    Calls Tryz.prog 64 #[lst p xs.length, .int .i64 n] w fun e w' =>
      ∃ q, e = .returned (lst q ((xs.length - n.toNat : Nat) : Int)) ∧ Ch one 152 w' q (xs.drop n.toNat) ∧ Below w.heap.size w w' := by
  have H := Lib.hid h
  clear h
  go_enter Tryz.func64, Tryz.ntmps64
  go_wp2_with fail
  have hB0 : Below w.heap.size w ((w.alloc (.cells #[.pointer p, .int .i64 xs.length] 83)).alloc (.cells #[.pointer none, .int .i64 0] 83)) := ((Below.refl _ w).alloc (Nat.le_refl _) _).alloc (by simp) _
  have bL := (Box2.new w 83 (.pointer p) (.int .i64 xs.length)).alloc (.cells #[.pointer none, .int .i64 0] 83)
  have bR := Box2.new (w.alloc (.cells #[.pointer p, .int .i64 xs.length] 83)) 83 (.pointer none) (.int .i64 0)
  simp only [World.size_alloc] at bR
  have H0 := Lib.hid (show DropRel w n xs w.heap.size (w.heap.size + 1) (.int .i64 n) _ from ⟨0, xs.length, p, by simp, by simp, Nat.zero_le _, by omega, bL, H.out.stay hB0, bR, hB0⟩)
  clear hB0 bL bR H
  go_loopw [1] (fun v wr => DropRel w n xs w.heap.size (w.heap.size + 1) v wr) (fun v _ => (intOf v).toNat)
  case atStart => exact H0.out
  case round =>
    clear H0
    obtain ⟨i, L, q, rfl, hL, hi, hin, hbl, hc, hbr, hb⟩ := hrel
    have HL := Lib.hid hbl
    have HR := Lib.hid hbr
    have HC := Lib.hid hc
    have HB := Lib.hid hb
    have HN := Lib.hid hL
    have c0 := hbl.c0
    have c1 := hbl.c1
    clear hbl hbr hc hb hL
    by_cases hpos : 0 < n - i
    · have g1 : decide (0 < n - (i : Int)) = true := by simpa using hpos
      cases hd : xs.drop i with
      | nil =>
        have hc := HC.out
        rw [hd] at hc
        obtain rfl := hc.nil
        have hlen : xs.length ≤ i := by simpa using hd
        have d0 := HR.out.c0
        have d1 := HR.out.c1
        have e0 := HR.out.z0
        have e1 := HR.out.z1
        clear hc
        go_wp2_with fail
        have hr2 := HR.out.set (.pointer none) (.int .i64 L)
        have f0 := hr2.c0
        have f1 := hr2.c1
        refine bodyPost_ret (v := lst none L) (by simp [results, Tryz.results64, go_sem, f0, f1]) rfl ⟨none, ?_, ?_, below_set2 HB.out (by omega) _ _⟩
        · rw [show L = xs.length - n.toNat from by have := HN.out; omega]
        · rw [List.drop_eq_nil_of_le (by omega : xs.length ≤ n.toNat)]
          exact Ch.none _
      | cons x rest =>
        have hc := HC.out
        rw [hd] at hc
        obtain ⟨b, q', rfl, -⟩ := id hc
        have hlen : i < xs.length := by
          have := congrArg List.length hd
          simp at this
          omega
        have hrest : rest = xs.drop (i + 1) := by
          have := congrArg List.tail hd
          simpa using this.symm
        have HC2 := Lib.hid hc
        have HT := Lib.hid hrest
        have HI := Lib.hid hin
        have H1 := Lib.hid hlen
        clear hc hrest hin hlen hd
        go_wp2_with fail
        ((with_reducible refine (rest_cons _ x rest L _ HC2.out (by have := HN.out; have := H1.out; omega) (by have := HN.out; omega)).mono ?_); rintro e w2 ⟨q2, rfl, hc2, hb2⟩)
        have hl2 := HL.out.stay hb2
        have d0 := hl2.c0
        have d1 := hl2.c1
        have e0 := hl2.z0
        have e1 := hl2.z1
        have HL2 := Lib.hid hl2
        have HC3 := Lib.hid hc2
        have HB2 := Lib.hid hb2
        clear hl2 hc2 hb2
        go_wp2_with fail
        go_roundw
        case rel =>
          refine ⟨i + 1, L - 1, q2, by go_num, by have := HN.out; omega, H1.out, fun _ => by omega, ?_, ?_, (HR.out.stay HB2.out).aside (by omega) _ _, below_set2 (HB.out.trans (HB2.out.mono HB.out.size)) (Nat.le_refl _) _ _⟩
          · rw [show ((L - 1 : Nat) : Int) = (L : Int) - 1 from by have := HN.out; have := H1.out; omega]
            exact HL2.out.set _ _
          · rw [← HT.out]
            exact HC3.out.set2 HL2.out (by decide) _ _
        case measure => simp [intOf]; omega
    · have g1 : decide (0 < n - (i : Int)) = false := by simpa using hpos
      have d0 := HR.out.c0
      have d1 := HR.out.c1
      have e0 := HR.out.z0
      have e1 := HR.out.z1
      go_wp2_with fail
      have hr2 := HR.out.set (.pointer q) (.int .i64 L)
      have f0 := hr2.c0
      have f1 := hr2.c1
      have hin2 : i = n.toNat := by omega
      refine bodyPost_ret (v := lst q L) (by simp [results, Tryz.results64, go_sem, f0, f1]) rfl ⟨q, ?_, ?_, below_set2 HB.out (by omega) _ _⟩
      · rw [show L = xs.length - n.toNat from by have := HN.out; omega]
      · rw [← hin2]
        exact HC.out.set2 HR.out (by decide) _ _

end Go.Proofs.YtlmokendajgbdaaGreatDoor.Lt
namespace Go.Proofs.YtlmokendajgbdaaGreatDoor.Lt
open Go.Sort Go.RowKit

/-- What stands at the head of each round of Of: the first k things are still to be pushed. -/
def OfRel (w : World) (xs : List El) (m0 m1 : Nat) (v : Value) (W : World) : Prop :=
  ∃ (k L : Nat) (q : Option Addr), v = .int .i64 ((k : Int) - 1) ∧ k ≤ xs.length ∧ L = xs.length - k ∧ Box2 W m1 83 (.pointer q) (.int .i64 L) ∧ Ch one 152 W q (xs.drop k) ∧ Box2 W m0 83 (.pointer none) (.int .i64 0) ∧ Below w.heap.size w W

theorem below_drewn (w : World) : Below w.heap.size w { w with drawn := w.drawn + 1 } := (Below.refl _ _).drew

set_option maxHeartbeats 2000000 in
set_option maxRecDepth 100000 in
theorem of_any (A : Option Addr) (xs : List El) (n c : Nat) (w : World) (hn : n = xs.length) (hr : Row1 one w A xs) (h2 : xs.length < 2147483648) :
    Calls Tryz.prog 71 #[.slice A n c] w fun e w' =>
      ∃ q, e = .returned (lst q xs.length) ∧ Ch one 152 w' q xs ∧ Below w.heap.size w w' := by
  have HR := Lib.hid hr
  have HN := Lib.hid hn
  have hn2 : n < 2147483648 := by omega
  clear hr hn h2
  go_enter Tryz.func71, Tryz.ntmps71
  go_wp2_with fail
  have hB0 : Below w.heap.size w ((w.alloc (.cells #[.pointer none, .int .i64 0] 83)).alloc (.cells #[.pointer none, .int .i64 0] 83)) := ((Below.refl _ w).alloc (Nat.le_refl _) _).alloc (by simp) _
  have bL := (Box2.new w 83 (.pointer none) (.int .i64 0)).alloc (.cells #[.pointer none, .int .i64 0] 83)
  have bR := Box2.new (w.alloc (.cells #[.pointer none, .int .i64 0] 83)) 83 (.pointer none) (.int .i64 0)
  simp only [World.size_alloc] at bR
  have H0 := Lib.hid (show OfRel w xs w.heap.size (w.heap.size + 1) (.int .i64 ((n : Int) - 1)) _ from ⟨n, 0, none, rfl, by rw [HN.out]; exact Nat.le_refl _, by rw [HN.out]; simp, bR, by rw [HN.out, List.drop_length]; exact Ch.none _, bL, hB0⟩)
  clear hB0 bL bR
  go_loopw [4] (fun v wr => OfRel w xs w.heap.size (w.heap.size + 1) v wr) (fun v _ => (intOf v + 1).toNat)
  case atStart => exact H0.out
  case round =>
    clear H0
    obtain ⟨k, L, q, rfl, hk, hL, hbl, hc, hbr, hb⟩ := hrel
    have HK := Lib.hid hk
    have HL := Lib.hid hbl
    have HE := Lib.hid hbr
    have HC := Lib.hid hc
    have HB := Lib.hid hb
    have HM := Lib.hid hL
    have c0 := hbl.c0
    have c1 := hbl.c1
    have hkn : k ≤ n := by rw [HN.out]; exact hk
    clear hbl hbr hc hb hL hk
    cases k with
    | zero =>
      have d0 := HE.out.c0
      have d1 := HE.out.c1
      have e0 := HE.out.z0
      have e1 := HE.out.z1
      go_wp2_with fail
      have hr2 := HE.out.set (.pointer q) (.int .i64 L)
      have f0 := hr2.c0
      have f1 := hr2.c1
      refine bodyPost_ret (v := lst q L) (by simp [results, Tryz.results71, go_sem, f0, f1]) rfl ⟨q, ?_, ?_, below_set2 HB.out (Nat.le_refl _) _ _⟩
      · rw [show L = xs.length from by have := HM.out; omega]
      · have hc := HC.out
        rw [List.drop_zero] at hc
        exact hc.set2 HE.out (by decide) _ _
    | succ k =>
      obtain ⟨b, o, rfl, hcell⟩ := HR.out (by have := HK.out; omega)
      have hx := hcell k HK.out
      rw [← HB.out.cell (p := ⟨b, o + k, none⟩) (lt_of_cell hx)] at hx
      clear hcell
      generalize hxe : xs[k]'HK.out = x at hx
      have HX := Lib.hid (show xs.drop k = x :: xs.drop (k + 1) from by rw [List.drop_eq_getElem_cons HK.out, hxe])
      clear hxe
      rw [show (((k + 1 : Nat) : Int) - 1) = (k : Int) from by omega]
      go_wp2_with fail
      have HP := Lib.hid (fun w h => push_any q (xs.drop (k + 1)) L x w h (by omega) (by have := HM.out; have := HN.out; omega))
      go_region_with (go_at_call 65; ((with_reducible refine (HP.out _ HC.out.drew).mono ?_); rintro e w2 ⟨b2, rfl, hc2, hb2⟩; have HC2 := Lib.hid hc2; have HB2 := Lib.hid hb2; have hl2 := HL.out.stay (W' := w2) (below_drewn wr |>.trans hb2); have d0 := hl2.c0; have d1 := hl2.c1; have e0 := hl2.z0; have e1 := hl2.z1; have HL2 := Lib.hid hl2; clear hc2 hb2 hl2))
      all_goals go_wp2_with fail
      all_goals
        have hb2 : Below wr.heap.size wr w2 := (below_drewn wr).trans HB2.out
        refine ⟨⟨k, L + 1, some ⟨b2, 0, none⟩, rfl, by have := HK.out; omega, by have := HK.out; have := HM.out; omega, HL2.out.set _ _, ?_, (HE.out.stay hb2).aside (by omega) _ _, below_set2 (HB.out.trans (hb2.mono HB.out.size)) (by omega) _ _⟩, by simp [intOf]⟩
        rw [HX.out]
        exact HC2.out.set2 HL2.out (by decide) _ _

end Go.Proofs.YtlmokendajgbdaaGreatDoor.Lt
namespace Go.Proofs.YtlmokendajgbdaaGreatDoor.Lt
open Go.Sort Go.RowKit Go.Shelf

attribute [local go_sem] Oper.semAt_some

theorem infoOne : (Tryz.prog.info? 118).map (fun i => (i.zero, i.size, i.bytes)) = some (some (one zero), 1, 8) := by kernel_rfl

/-- What stands between two rounds of All: the variable holds a row of its own with what has come. -/
def AllRel (w : World) (B m : Nat) (pre : List El) (W : World) : Prop :=
  (∃ v, Boxed W B 130 v ∧ W.ownsRow m 118 1 v pre.length (pre.map one) ∧ True) ∧ Below w.heap.size w W

set_option maxRecDepth 100000 in
set_option maxHeartbeats 2000000 in
theorem all_any (p : Option Addr) (xs : List El) (w : World) (hp : Ch one 152 w p xs) (h2 : xs.length < 2147483648) :
    Calls Tryz.prog 72 #[lst p xs.length] w fun e w' =>
      ∃ v, e = .returned v ∧ Mine one 118 w' w.heap.size v xs ∧ Below w.heap.size w w' := by
  obtain ⟨i0, hi, hz0, hz1, hz2⟩ := info_parts infoOne
  refine (callsIn_wide (n := 3)).1 ?_
  refine callsIn_of_wp_marks Tryz.func72 rfl trivial ?_ rfl
  simp only [Tryz.ntmps72, List.size_toArray, List.length_cons, List.length_nil, Nat.reduceAdd, Nat.reduceSub, Array.replicate_succ, Array.replicate_zero, List.push_toArray, List.append_toArray, List.nil_append, List.cons_append]
  have HP := Lib.hid hp
  clear hp
  gi_wp2_with (refine wpListIn_make_own _ rfl _ _ 130 rfl w.heap.size 118 i0 (one zero) 1 Tryz.underlying130 hi hz0 hz1 .i64 .i64 (xs.length : Int) xs.length rfl rfl rfl (by rw [hz2]; omega) (by unfold maxLen; omega) (by simp) ?_; intro w1 hown hgrow; have hb1 : Below (w.alloc (.cells #[.pointer p, .int .i64 xs.length] 83)).heap.size (w.alloc (.cells #[.pointer p, .int .i64 xs.length] 83)) w1 := ⟨hgrow.os, hgrow.tape, hgrow.output, hgrow.size, fun k hk => hgrow.block k hk (by simp)⟩; have bL := ((Box2.new w 83 (.pointer p) (.int .i64 xs.length)).stay hb1).alloc (.cells #[.slice (some ⟨w.heap.size + 1, 0, none⟩) 0 xs.length] 130); have c0 := bL.c0; have c1 := bL.c1)
  have hs1 := hb1.size
  simp only [World.size_alloc] at hs1 hown
  have hB0 : Below w.heap.size w (w1.alloc (.cells #[.slice (some ⟨w.heap.size + 1, 0, none⟩) 0 xs.length] 130)) := (((Below.refl w.heap.size w).alloc (Nat.le_refl _) _).trans (hb1.mono (by simp))).alloc (by omega) _
  have bV := Boxed.new w1 130 (.slice (some ⟨w.heap.size + 1, 0, none⟩) 0 xs.length)
  have HO := Lib.hid (hown.alloc (.cells #[.slice (some ⟨w.heap.size + 1, 0, none⟩) 0 xs.length] 130))
  have HT := each_tells p xs xs.length (3 - 1) (by omega) w.heap.size _ hB0.size (Chain.below hB0 HP.out)
  have HS := Lib.hid (show w.heap.size + 1 ≤ w1.heap.size from hs1)
  clear hown hgrow hb1 bL c0 c1 hs1
  refine range_bound rfl (by omega) (gf := 97) (fs := #[lst p xs.length]) rfl trivial (enters_of Tryz.func97 (by kernel_rfl) rfl) HT hB0.size (AllRel w w1.heap.size w.heap.size)
    (OwnFrom.and (Own.from (holdsRow_own w.heap.size w1.heap.size 130 118 1 (fun pre : List El => pre.length) (fun pre => pre.map one) (fun _ _ => True)) _) (ownFrom_below (Nat.le_refl _) hB0.size))
    ⟨⟨_, bV, HO.out, trivial⟩, hB0⟩
    (fun x => { tmps := #[lst p xs.length, .pointer (some ⟨w.heap.size, 0, none⟩), .slice none 0 0, .pointer (some ⟨w1.heap.size, 0, none⟩), one x, .pointer (some ⟨w.heap.size, 1, none⟩), .int .i64 xs.length, .slice (some ⟨w.heap.size + 1, 0, none⟩) 0 xs.length, lst p xs.length, .func (.func 97) #[lst p xs.length] #[], one x, undef, undef, undef, undef, undef], defers := [] }) ?assign ?body ?done
  case assign =>
    intro l x W K hK
    gi_wp2
    exact hK
  case body =>
    rintro l pre x W ⟨⟨v, hv, hrow, -⟩, hB⟩ hlt
    have hc := hv.cell
    clear HT hB0 bV HO HP
    gi_wp2_with (gi_at_builtin; refine wpListIn_append_own _ rfl _ _ 130 rfl w.heap.size 118 i0 (one zero) 1 8 Tryz.underlying130 hi hz0 hz1 hz2 rfl (by decide) _ _ _ rfl (hrow.alloc _) ⟨W.heap.size, 0, none⟩ 1 1 [one x] rfl rfl (cell_one_new _ _ _) (by simp [Value.oneCell']) (by unfold maxLen; omega) (by omega) (by have := hB.size; simp; omega) ?_; intro v' w2 hown' hgrow _; obtain ⟨g', cap', rfl⟩ := ownsRow_succ hown'; obtain ⟨hv1, hv2, hr2, hk2, hb2⟩ := hv.appended (by decide) hrow hB.size (by have := HS.out; omega) hown' hgrow; have hc1 := hv1.cell; have hf1 := hv1.frozen)
    exact ⟨hk2.from _, hb2, ⟨_, hv2, by simpa using hr2, trivial⟩, hB.trans hb2⟩
  case done =>
    rintro D W hD ⟨⟨v, hv, hrow, -⟩, hB⟩ hK
    have hc := hv.cell
    clear HT bV HO HP
    gi_wp2
    refine ⟨by simp, .inl ⟨_, _, rfl, run_takeDeferred hK, ?_⟩⟩
    exact ⟨_, results_tmp rfl _ _ _, v, rfl, ownsRow_putObj hrow _ hK rfl, hB.trans (belowK_b (w := w) (Nat.le_refl _) W D _ _ (Nat.le_trans hB0.size hD) hK rfl rfl)⟩

end Go.Proofs.YtlmokendajgbdaaGreatDoor.Lt
namespace Go.Proofs.YtlmokendajgbdaaGreatDoor.Lt
open Go.Sort Go.RowKit

/-- From p on lies xs, of length n. -/
def LL (W : World) (p : Option Addr) (n : Nat) (xs : List El) : Prop := Ch one 152 W p xs ∧ n = xs.length ∧ n < 2147483648

theorem LL.stay {A B : World} {p : Option Addr} {n : Nat} {xs : List El} (h : LL A p n xs) (hb : Below A.heap.size A B) : LL B p n xs := ⟨h.1.stay hb, h.2⟩
theorem LL.alloc {A : World} {p : Option Addr} {n : Nat} {xs : List El} (h : LL A p n xs) (o : Obj) : LL (A.alloc o) p n xs := ⟨h.1.alloc o, h.2⟩
theorem LL.ch {A : World} {p : Option Addr} {n : Nat} {xs : List El} (h : LL A p n xs) : Ch one 152 A p xs := h.1
theorem LL.len {A : World} {p : Option Addr} {n : Nat} {xs : List El} (h : LL A p n xs) : n = xs.length := h.2.1
theorem LL.lt {A : World} {p : Option Addr} {n : Nat} {xs : List El} (h : LL A p n xs) : n < 2147483648 := h.2.2
theorem LL.none (A : World) : LL A Option.none 0 [] := ⟨Ch.none _, rfl, by decide⟩

/-- What a call hands back that makes a list. -/
def Gives (w : World) (xs : List El) (e : Ending) (w' : World) : Prop := ∃ q, ∃ n : Nat, e = .returned (lst q n) ∧ LL w' q n xs ∧ Below w.heap.size w w'

theorem push_l {w : World} {p : Option Addr} {n : Nat} {xs : List El} (x : El) (h : LL w p n xs) (hn : n + 1 < 2147483648) : Calls Tryz.prog 65 #[lst p n, one x] w (Gives w (x :: xs)) :=
  (push_any p xs n x w h.1 (by omega) (by omega)).mono fun e w' ⟨b, he, hc, hb⟩ => ⟨_, n + 1, by rw [he]; simp, ⟨hc, by rw [h.len]; simp, hn⟩, hb⟩
theorem rest_l {w : World} {p : Option Addr} {n : Nat} {xs : List El} (h : LL w p n xs) : Calls Tryz.prog 62 #[lst p n] w (Gives w xs.tail) :=
  (rest_any p xs n w h.1 h.len.symm h.lt).mono fun e w' ⟨q, he, hc, hb⟩ => ⟨q, n - 1, he, ⟨hc, by rw [h.len]; simp, by have := h.lt; omega⟩, hb⟩
theorem rev_l {w : World} {p : Option Addr} {n : Nat} {xs : List El} (h : LL w p n xs) : Calls Tryz.prog 75 #[lst p n] w (Gives w xs.reverse) :=
  (rev_any p xs n w h.1 (by rw [← h.len]; exact h.lt)).mono fun e w' ⟨q, he, hc, hb⟩ => ⟨q, n, by rw [he, h.len], ⟨hc, by rw [h.len]; simp, h.lt⟩, hb⟩
theorem join_l {w : World} {p q : Option Addr} {n k : Nat} {xs ys : List El} (h : LL w p n xs) (h' : LL w q k ys) (hk : n + k < 2147483648) : Calls Tryz.prog 73 #[lst p n, lst q k] w (Gives w (xs ++ ys)) :=
  (join_any p q xs ys n k w h.1 h'.1 (by omega) (by have := h'.lt; omega) (by rw [← h.len]; exact h.lt)).mono fun e w' ⟨r, he, hc, hb⟩ => ⟨r, n + k, by rw [he, ← h.len]; simp; omega, ⟨hc, by rw [h.len, h'.len]; simp, hk⟩, hb⟩
theorem drop_l {w : World} {p : Option Addr} {n : Nat} {xs : List El} (z : Int) (h : LL w p n xs) (h0 : -9223372036854775808 ≤ z) (h1 : z < 9223372036854775808) : Calls Tryz.prog 64 #[lst p n, .int .i64 z] w (Gives w (xs.drop z.toNat)) := by
  have := drop_any p xs z w h.1 (by rw [← h.len]; exact h.lt) h0 h1
  rw [← h.len] at this
  exact this.mono fun e w' ⟨q, he, hc, hb⟩ => ⟨q, n - z.toNat, he, ⟨hc, by rw [h.len]; simp, by have := h.lt; omega⟩, hb⟩
theorem of_l {w : World} {A : Option Addr} {n c : Nat} {xs : List El} (hn : n = xs.length) (hr : Row1 one w A xs) (h2 : n < 2147483648) : Calls Tryz.prog 71 #[.slice A n c] w (Gives w xs) :=
  (of_any A xs n c w hn hr (by omega)).mono fun e w' ⟨q, he, hc, hb⟩ => ⟨q, n, by rw [he, hn], ⟨hc, hn, h2⟩, hb⟩
/-- All: a row of its own, whose block is new. -/
theorem all_l {w : World} {p : Option Addr} {n : Nat} {xs : List El} (h : LL w p n xs) : Calls Tryz.prog 72 #[lst p n] w fun e w' =>
    ∃ A c, e = .returned (.slice A n c) ∧ Mine one 118 w' w.heap.size (.slice A n c) xs ∧ Row1 one w' A xs ∧ n ≤ c ∧ Below w.heap.size w w' := by
  have := all_any p xs w h.1 (by rw [← h.len]; exact h.lt)
  rw [← h.len] at this
  refine this.mono fun e w' ⟨v, he, hm, hb⟩ => ?_
  obtain ⟨A, c, rfl, hr, hc, -, -⟩ := hm.form
  rw [← h.len] at he hm hc
  exact ⟨A, c, he, hm, hr, hc, hb⟩

end Go.Proofs.YtlmokendajgbdaaGreatDoor.Lt
