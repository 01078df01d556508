/-
  Contracts of package cons at heaps' addresses: Push, First, Rest, Len, for any list in memory: what each returns, that the list it returns lies in memory, and that nothing that was there has changed. Condition: a length that is added to is below 2 to the 62nd.
  Contracts of package cons at heaps' addresses: each (the iterator), onto, Rev, Join: which list each returns, and that nothing that was there has changed. Condition: fewer than 2 to the 31st things.
  Contracts of package cons at heaps' addresses: Drop, Of. Which list each returns, and that nothing that was there has changed. Condition: fewer than 2 to the 31st things.
  Contract of package cons at heaps' addresses: All. Which row it returns, in memory of its own, and that nothing that was there has changed. Condition: fewer than 2 to the 31st things.
  The contracts of package cons at heaps' addresses in one form: a list's value is an address and a length; the list lies in memory. Condition: fewer than 2 to the 31st things.
-/
import Derived.Test.YtpclafbolppgcaaDoorMa
import Derived.Test.YtpclafbolppgcaaDoorProg
import Derived.Lib.Hide
import Derived.WalkKit
import Derived.WalkLawsBesides
import Derived.Outline
import Derived.Deep.QuietTactic
import Derived.BigQuiet
import Derived.LoopTactic
import Derived.Shelf.Abstract
import Derived.Shelf.RegionOpen
import Derived.OwnWalkIn
import Derived.TacticsInMore
import Derived.LoopNIn
import Derived.LoopIn
import Derived.Deep.RegionHeld3
import Derived.Deep.DrawnRows
import Derived.StillTailTactics
namespace Go.Proofs.YtpclafbolppgcaaDoor.Lt
open Go.Sort Go.RowKit

/-- A thing. -/
abbrev El : Type := Option Addr
/-- A thing, as a value. -/
abbrev one (x : El) : Value := .pointer x
/-- .. as an argument. -/
abbrev val (x : El) : Value := .agg #[.pointer x]
/-- The thing of no list. -/
abbrev zero : El := none
/-- A list's value. -/
abbrev lst (p : Option Addr) (n : Int) : Value := .agg #[.pointer p, .int .i64 n]

theorem ch_new (p : Option Addr) (xs : List El) (x : El) (w w' : World) (b : Nat) (h : Ch one 106 w p xs) (hb : Below w.heap.size w w') (h0 : w'.heap[b]? = some (.cells #[one x, .pointer p] 106 (0, 0))) : Ch one 106 w' (some ⟨b, 0, none⟩) (x :: xs) :=
  ⟨b, p, rfl, (Array.getElem?_eq_some_iff.1 h0).1, h0, h.stay hb⟩

set_option maxHeartbeats 1000000 in
theorem push_any (p : Option Addr) (xs : List El) (n : Int) (x : El) (w : World) (h : Ch one 106 w p xs) (h0 : 0 ≤ n) (h1 : n < 4611686018427387904) : Calls Tryd.prog 40 #[lst p n, val x] w fun e w' =>
    ∃ b, e = .returned (lst (some ⟨b, 0, none⟩) (n + 1)) ∧ Ch one 106 w' (some ⟨b, 0, none⟩) (x :: xs) ∧ Below w.heap.size w w' := by
  have H := Lib.hid h
  clear h
  go_enter Tryd.func40, Tryd.ntmps40
  go_wp2
  refine bodyPost_ret (v := lst (some ⟨w.heap.size + 1 + 1 + 1, 0, none⟩) (n + 1)) (by simp [results, Tryd.results40, go_sem]) rfl ⟨_, rfl, ?_⟩
  have hb : Below w.heap.size w ((((w.alloc (.cells #[.pointer p, .int .i64 n] 82)).alloc (.cells #[.pointer x] 29)).alloc (.cells #[.pointer (some ⟨w.heap.size + 1 + 1 + 1, 0, none⟩), .int .i64 (n + 1)] 82)).alloc (.cells #[one x, .pointer p] 106)) := ((((Below.refl _ w).alloc (Nat.le_refl _) _).alloc (by simp) _).alloc (by simp only [World.size_alloc]; omega) _).alloc (by simp only [World.size_alloc]; omega) _
  refine ⟨ch_new p xs x w _ _ H.out hb ?_, hb⟩
  have := World.alloc_heap_new (((w.alloc (.cells #[.pointer p, .int .i64 n] 82)).alloc (.cells #[.pointer x] 29)).alloc (.cells #[.pointer (some ⟨w.heap.size + 1 + 1 + 1, 0, none⟩), .int .i64 (n + 1)] 82)) (.cells #[one x, .pointer p] 106)
  simpa using this

set_option maxHeartbeats 1000000 in
theorem first_nil (n : Int) (w : World) : Calls Tryd.prog 46 #[lst none n] w fun e w' =>
    e = .returned (.tuple #[val zero, .bool false]) ∧ Below w.heap.size w w' := by
  go_enter Tryd.func46, Tryd.ntmps46
  go_wp2
  refine bodyPost_ret (v := .tuple #[val zero, .bool false]) (by simp [results, Tryd.results46, go_sem]) rfl ⟨rfl, ?_⟩
  exact (((Below.refl w.heap.size w).alloc (Nat.le_refl _) _).alloc (by simp) _).alloc (by simp only [World.size_alloc]; omega) _

set_option maxHeartbeats 1000000 in
theorem first_cons (p : Option Addr) (x : El) (xs : List El) (n : Int) (w : World) (h : Ch one 106 w p (x :: xs)) : Calls Tryd.prog 46 #[lst p n] w fun e w' =>
    e = .returned (.tuple #[val x, .bool true]) ∧ Below w.heap.size w w' := by
  obtain ⟨b, q, rfl, hb, hh, -⟩ := h
  have hv : w.cell? ⟨b, 0, none⟩ = some (one x) := by simp [World.cell?, hh]
  clear hh
  have hb2 : Below w.heap.size w ((w.alloc (.cells #[.pointer (some ⟨b, 0, none⟩), .int .i64 n] 82)).alloc (.cells #[.pointer none] 29)) := ((Below.refl w.heap.size w).alloc (Nat.le_refl _) _).alloc (by simp) _
  have hv1 := hb2.cell (p := ⟨b, 0, none⟩) hb
  rw [hv] at hv1
  clear hv hb2
  go_enter Tryd.func46, Tryd.ntmps46
  go_wp2
  refine bodyPost_ret (v := .tuple #[val x, .bool true]) (by simp [results, Tryd.results46, go_sem]) rfl ⟨rfl, ?_⟩
  exact ((Below.refl w.heap.size w).alloc (Nat.le_refl _) _).alloc (by simp) _

set_option maxHeartbeats 1000000 in
theorem len_any (p : Option Addr) (n : Int) (w : World) : Calls Tryd.prog 53 #[lst p n] w fun e w' =>
    e = .returned (.int .i64 n) ∧ Below w.heap.size w w' := by
  go_enter Tryd.func53, Tryd.ntmps53
  go_wp2
  go_ret
  exact ⟨rfl, (Below.refl _ _).alloc (Nat.le_refl _) _⟩

set_option maxHeartbeats 1000000 in
theorem rest_nil (n : Int) (w : World) : Calls Tryd.prog 47 #[lst none n] w fun e w' =>
    e = .returned (lst none n) ∧ Below w.heap.size w w' := by
  go_enter Tryd.func47, Tryd.ntmps47
  go_wp2
  refine bodyPost_ret (v := lst none n) (by simp [results, Tryd.results47, go_sem]) rfl ⟨rfl, ?_⟩
  exact ((Below.refl _ w).alloc (Nat.le_refl _) _).alloc (by simp) _

set_option maxHeartbeats 1000000 in
theorem rest_cons (p : Option Addr) (x : El) (xs : List El) (n : Int) (w : World) (h : Ch one 106 w p (x :: xs)) (h0 : 0 < n) (h1 : n < 4611686018427387904) : Calls Tryd.prog 47 #[lst p n] w fun e w' =>
    ∃ q, e = .returned (lst q (n - 1)) ∧ Ch one 106 w' q xs ∧ Below w.heap.size w w' := by
  obtain ⟨b, q, rfl, hb, hh, hr⟩ := h
  have hv : w.cell? ⟨b, 1, none⟩ = some (.pointer q) := by simp [World.cell?, hh]
  clear hh
  have HR := Lib.hid hr
  clear hr
  have hb' : Below w.heap.size w ((w.alloc (.cells #[.pointer (some ⟨b, 0, none⟩), .int .i64 n] 82)).alloc (.cells #[.pointer none, .int .i64 0] 82)) := ((Below.refl w.heap.size w).alloc (Nat.le_refl _) _).alloc (by simp) _
  have hv1 := hb'.cell (p := ⟨b, 1, none⟩) hb
  rw [hv] at hv1
  clear hv
  have HB := Lib.hid hb'
  clear hb'
  go_enter Tryd.func47, Tryd.ntmps47
  go_wp2
  go_region
  all_goals
    go_wp2
    refine bodyPost_ret (v := lst q (n - 1)) (by simp [results, Tryd.results47, go_sem]) rfl ⟨_, rfl, ?_⟩
    have hb2 : Below w.heap.size w ((w.alloc (.cells #[.pointer (some ⟨b, 0, none⟩), .int .i64 n] 82)).alloc (.cells #[.pointer q, .int .i64 (n - 1)] 82)).drew := (((Below.refl w.heap.size w).alloc (Nat.le_refl _) _).alloc (by simp) _).drew
    exact ⟨Ch.stay HR.out hb2, hb2⟩

/-- Rest, of any list. -/
theorem rest_any (p : Option Addr) (xs : List El) (n : Nat) (w : World) (h : Ch one 106 w p xs) (hn : xs.length = n) (h1 : n < 2147483648) : Calls Tryd.prog 47 #[lst p n] w fun e w' =>
    ∃ q, e = .returned (lst q ((n - 1 : Nat) : Int)) ∧ Ch one 106 w' q xs.tail ∧ Below w.heap.size w w' := by
  cases xs with
  | nil =>
    obtain rfl := h.nil
    obtain rfl : n = 0 := hn.symm
    exact (rest_nil _ w).mono fun e w' ⟨he, hb⟩ => ⟨none, he, rfl, hb⟩
  | cons x xs =>
    refine (rest_cons p x xs n w h (by simp at hn; omega) (by omega)).mono fun e w' ⟨q, he, hc, hb⟩ => ⟨q, ?_, hc, hb⟩
    rw [he, show ((n - 1 : Nat) : Int) = (n : Int) - 1 from by simp at hn; omega]

end Go.Proofs.YtpclafbolppgcaaDoor.Lt
namespace Go.Proofs.YtpclafbolppgcaaDoor.Lt
open Go.Sort Go.RowKit Go.Shelf

attribute [local go_sem] Oper.semAt_some

set_option maxRecDepth 100000 in
set_option maxHeartbeats 1000000 in
/-- The iterator tells the list's things, one by one. -/
theorem each_tells (p : Option Addr) (xs : List El) (k : Int) (n : Nat) (hn : 1 ≤ n) (m : Nat) (w : World) (hm : m ≤ w.heap.size) (h : Chain one 106 m w p xs) :
    Tells Fence.wide n Tryd.prog 61 #[lst p k] val m xs w := fun l J W hW hJ hY h0 => by
  have hL : Chain one 106 m (W.alloc (.cells #[.pointer p, .int .i64 k] 82)) p xs := Chain.below ((hW.mono hm).alloc (Nat.le_trans hm hW.size) _) h
  have hJ1 := hJ _ _ (.cells #[.pointer p, .int .i64 k] 82) h0
  refine callsIn_of_wp Tryd.func61 rfl trivial ?_ rfl
  simp only [Tryd.ntmps61, List.size_toArray, List.length_cons, List.length_nil, Nat.reduceAdd, Nat.reduceSub, Array.replicate_succ, Array.replicate_zero, List.push_toArray, List.append_toArray, List.nil_append, List.cons_append]
  have HL := Lib.hid hL
  have HJ := Lib.hid hJ1
  have HY := Lib.hid hY
  clear hL hJ1 hY h0 h hJ
  gi_wp2
  gi_loopw [4] (fun c wr => ∃ (pre rest : List El) (q : Option Addr), c = .pointer q ∧ xs = pre ++ rest ∧ Chain one 106 m wr q rest ∧ J pre wr)
    (fun c wr => left one 106 m wr c)
  case atStart =>
    exact ⟨[], xs, p, rfl, rfl, HL.out, HJ.out⟩
  case round =>
    obtain ⟨pre, rest, q, rfl, hx, hl, hJs⟩ := hrel
    cases rest with
    | nil =>
      obtain rfl : q = none := hl
      gi_wp2
      go_end0
      rw [hx, List.append_nil]
      exact ⟨⟨_, rfl⟩, hJs⟩
    | cons x rest =>
      have hl' := hl
      obtain ⟨b, q', rfl, hb, hh, hr⟩ := hl
      have hv : wr.cell? ⟨b, 0, none⟩ = some (one x) := by simp [World.cell?, hh]
      have hq : wr.cell? ⟨b, 1, none⟩ = some (.pointer q') := by simp [World.cell?, hh]
      obtain ⟨fn, tmps, assign, body, hy, hR⟩ := HY.out pre x wr hJs (by rw [hx]; simp)
      gi_wp2
      refine hR.mono ?_
      rintro e W3 ⟨rfl, hJ3, hk3⟩
      have hq3 : W3.cell? ⟨b, 1, none⟩ = some (.pointer q') := (hk3.cell (p := ⟨b, 1, none⟩) hb).trans hq
      gi_wp2
      go_roundw
      case rel => exact ⟨pre ++ [x], rest, q', rfl, by simp [hx], Chain.below hk3 hr, hJ3⟩
      case measure => rw [left_eq (Chain.below hk3 hr), left_eq hl']; simp

/-- What stands between two rounds of onto: m's variable holds a list, what has come pushed on ys one by one. -/
def OntoRel (w : World) (ys : List El) (k : Int) (pre : List El) (W : World) : Prop :=
  ∃ q, Box2 W (w.heap.size + 1) 82 (.pointer q) (.int .i64 (k + pre.length)) ∧ Ch one 106 W q (pre.reverse ++ ys) ∧ Box2 W (w.heap.size + 1 + 1) 82 (.pointer none) (.int .i64 0) ∧ Below w.heap.size w W

theorem ontoRel_own (w : World) (ys : List El) (k : Int) (B : Nat) (hB : w.heap.size ≤ B) : OwnFrom B (OntoRel w ys k) := by
  rintro s A C row ⟨q, h1, h2, h3, h4⟩ hg hr
  refine ⟨q, h1.kept hg (fun r e => (hr r e).2), h2.own hg (fun r e => (hr r e).2), h3.kept hg (fun r e => (hr r e).2), h4.grown hg h4.size (fun r e => Nat.le_trans hB (hr r e).1)⟩

end Go.Proofs.YtpclafbolppgcaaDoor.Lt
namespace Go.Proofs.YtpclafbolppgcaaDoor.Lt
open Go.Sort Go.RowKit

/-- What stands at the head of each round of Drop: i things are gone. -/
def DropRel (w : World) (n : Int) (xs : List El) (m0 m1 : Nat) (v : Value) (W : World) : Prop :=
  ∃ (i L : Nat) (q : Option Addr), v = .int .i64 (n - i) ∧ L = xs.length - i ∧ i ≤ xs.length ∧ (0 < i → (i : Int) ≤ n) ∧ Box2 W m0 82 (.pointer q) (.int .i64 L) ∧ Ch one 106 W q (xs.drop i) ∧ Box2 W m1 82 (.pointer none) (.int .i64 0) ∧ Below w.heap.size w W

set_option maxHeartbeats 2000000 in
set_option maxRecDepth 100000 in
theorem drop_any (p : Option Addr) (xs : List El) (n : Int) (w : World) (h : Ch one 106 w p xs) (h2 : xs.length < 2147483648) (hn0 : -9223372036854775808 ≤ n) (hn1 : n < 9223372036854775808) :
    Calls Tryd.prog 54 #[lst p xs.length, .int .i64 n] w fun e w' =>
      ∃ q, e = .returned (lst q ((xs.length - n.toNat : Nat) : Int)) ∧ Ch one 106 w' q (xs.drop n.toNat) ∧ Below w.heap.size w w' := by
  have H := Lib.hid h
  clear h
  go_enter Tryd.func54, Tryd.ntmps54
  go_wp2_with fail
  have hB0 : Below w.heap.size w ((w.alloc (.cells #[.pointer p, .int .i64 xs.length] 82)).alloc (.cells #[.pointer none, .int .i64 0] 82)) := ((Below.refl _ w).alloc (Nat.le_refl _) _).alloc (by simp) _
  have bL := (Box2.new w 82 (.pointer p) (.int .i64 xs.length)).alloc (.cells #[.pointer none, .int .i64 0] 82)
  have bR := Box2.new (w.alloc (.cells #[.pointer p, .int .i64 xs.length] 82)) 82 (.pointer none) (.int .i64 0)
  simp only [World.size_alloc] at bR
  have H0 := Lib.hid (show DropRel w n xs w.heap.size (w.heap.size + 1) (.int .i64 n) _ from ⟨0, xs.length, p, by simp, by simp, Nat.zero_le _, by omega, bL, H.out.stay hB0, bR, hB0⟩)
  clear hB0 bL bR H
  go_loopw [1] (fun v wr => DropRel w n xs w.heap.size (w.heap.size + 1) v wr) (fun v _ => (intOf v).toNat)
  case atStart => exact H0.out
  case round =>
    clear H0
    obtain ⟨i, L, q, rfl, hL, hi, hin, hbl, hc, hbr, hb⟩ := hrel
    have HL := Lib.hid hbl
    have HR := Lib.hid hbr
    have HC := Lib.hid hc
    have HB := Lib.hid hb
    have HN := Lib.hid hL
    have c0 := hbl.c0
    have c1 := hbl.c1
    clear hbl hbr hc hb hL
    by_cases hpos : 0 < n - i
    · have g1 : decide (0 < n - (i : Int)) = true := by simpa using hpos
      cases hd : xs.drop i with
      | nil =>
        have hc := HC.out
        rw [hd] at hc
        obtain rfl := hc.nil
        have hlen : xs.length ≤ i := by simpa using hd
        have d0 := HR.out.c0
        have d1 := HR.out.c1
        have e0 := HR.out.z0
        have e1 := HR.out.z1
        clear hc
        go_wp2_with fail
        have hr2 := HR.out.set (.pointer none) (.int .i64 L)
        have f0 := hr2.c0
        have f1 := hr2.c1
        refine bodyPost_ret (v := lst none L) (by simp [results, Tryd.results54, go_sem, f0, f1]) rfl ⟨none, ?_, ?_, below_set2 HB.out (by omega) _ _⟩
        · rw [show L = xs.length - n.toNat from by have := HN.out; omega]
        · rw [List.drop_eq_nil_of_le (by omega : xs.length ≤ n.toNat)]
          exact Ch.none _
      | cons x rest =>
        have hc := HC.out
        rw [hd] at hc
        obtain ⟨b, q', rfl, -⟩ := id hc
        have hlen : i < xs.length := by
          have := congrArg List.length hd
          simp at this
          omega
        have hrest : rest = xs.drop (i + 1) := by
          have := congrArg List.tail hd
          simpa using this.symm
        have HC2 := Lib.hid hc
        have HT := Lib.hid hrest
        have HI := Lib.hid hin
        have H1 := Lib.hid hlen
        clear hc hrest hin hlen hd
        go_wp2_with fail
        ((with_reducible refine (rest_cons _ x rest L _ HC2.out (by have := HN.out; have := H1.out; omega) (by have := HN.out; omega)).mono ?_); rintro e w2 ⟨q2, rfl, hc2, hb2⟩)
        have hl2 := HL.out.stay hb2
        have d0 := hl2.c0
        have d1 := hl2.c1
        have e0 := hl2.z0
        have e1 := hl2.z1
        have HL2 := Lib.hid hl2
        have HC3 := Lib.hid hc2
        have HB2 := Lib.hid hb2
        clear hl2 hc2 hb2
        go_wp2_with fail
        go_roundw
        case rel =>
          refine ⟨i + 1, L - 1, q2, by go_num, by have := HN.out; omega, H1.out, fun _ => by omega, ?_, ?_, (HR.out.stay HB2.out).aside (by omega) _ _, below_set2 (HB.out.trans (HB2.out.mono HB.out.size)) (Nat.le_refl _) _ _⟩
          · rw [show ((L - 1 : Nat) : Int) = (L : Int) - 1 from by have := HN.out; have := H1.out; omega]
            exact HL2.out.set _ _
          · rw [← HT.out]
            exact HC3.out.set2 HL2.out (by decide) _ _
        case measure => simp [intOf]; omega
    · have g1 : decide (0 < n - (i : Int)) = false := by simpa using hpos
      have d0 := HR.out.c0
      have d1 := HR.out.c1
      have e0 := HR.out.z0
      have e1 := HR.out.z1
      go_wp2_with fail
      have hr2 := HR.out.set (.pointer q) (.int .i64 L)
      have f0 := hr2.c0
      have f1 := hr2.c1
      have hin2 : i = n.toNat := by omega
      refine bodyPost_ret (v := lst q L) (by simp [results, Tryd.results54, go_sem, f0, f1]) rfl ⟨q, ?_, ?_, below_set2 HB.out (by omega) _ _⟩
      · rw [show L = xs.length - n.toNat from by have := HN.out; omega]
      · rw [← hin2]
        exact HC.out.set2 HR.out (by decide) _ _

end Go.Proofs.YtpclafbolppgcaaDoor.Lt
namespace Go.Proofs.YtpclafbolppgcaaDoor.Lt
open Go.Sort Go.RowKit Go.Shelf

attribute [local go_sem] Oper.semAt_some

theorem infoOne : (Tryd.prog.info? 29).map (fun i => (i.zero, i.size, i.bytes)) = some (some (val zero), 1, 8) := by kernel_rfl

/-- What stands between two rounds of All: the variable holds a row of its own with what has come. -/
def AllRel (w : World) (B m : Nat) (pre : List El) (W : World) : Prop :=
  (∃ v, Boxed W B 30 v ∧ W.ownsRow m 29 1 v pre.length (pre.map one) ∧ True) ∧ Below w.heap.size w W

set_option maxRecDepth 100000 in
set_option maxHeartbeats 2000000 in
theorem all_any (p : Option Addr) (xs : List El) (w : World) (hp : Ch one 106 w p xs) (h2 : xs.length < 2147483648) :
    Calls Tryd.prog 55 #[lst p xs.length] w fun e w' =>
      ∃ v, e = .returned v ∧ Mine one 29 w' w.heap.size v xs ∧ Below w.heap.size w w' := by
  obtain ⟨i0, hi, hz0, hz1, hz2⟩ := info_parts infoOne
  refine (callsIn_wide (n := 3)).1 ?_
  refine callsIn_of_wp_marks Tryd.func55 rfl trivial ?_ rfl
  simp only [Tryd.ntmps55, List.size_toArray, List.length_cons, List.length_nil, Nat.reduceAdd, Nat.reduceSub, Array.replicate_succ, Array.replicate_zero, List.push_toArray, List.append_toArray, List.nil_append, List.cons_append]
  have HP := Lib.hid hp
  clear hp
  gi_wp2_with (refine wpListIn_make_own _ rfl _ _ 30 rfl w.heap.size 29 i0 (val zero) 1 Tryd.underlying30 hi hz0 hz1 .i64 .i64 (xs.length : Int) xs.length rfl rfl rfl (by rw [hz2]; omega) (by unfold maxLen; omega) (by simp) ?_; intro w1 hown hgrow; have hb1 : Below (w.alloc (.cells #[.pointer p, .int .i64 xs.length] 82)).heap.size (w.alloc (.cells #[.pointer p, .int .i64 xs.length] 82)) w1 := ⟨hgrow.os, hgrow.tape, hgrow.output, hgrow.size, fun k hk => hgrow.block k hk (by simp)⟩; have bL := ((Box2.new w 82 (.pointer p) (.int .i64 xs.length)).stay hb1).alloc (.cells #[.slice (some ⟨w.heap.size + 1, 0, none⟩) 0 xs.length] 30); have c0 := bL.c0; have c1 := bL.c1)
  have hs1 := hb1.size
  simp only [World.size_alloc] at hs1 hown
  have hB0 : Below w.heap.size w (w1.alloc (.cells #[.slice (some ⟨w.heap.size + 1, 0, none⟩) 0 xs.length] 30)) := (((Below.refl w.heap.size w).alloc (Nat.le_refl _) _).trans (hb1.mono (by simp))).alloc (by omega) _
  have bV := Boxed.new w1 30 (.slice (some ⟨w.heap.size + 1, 0, none⟩) 0 xs.length)
  have HO := Lib.hid (hown.alloc (.cells #[.slice (some ⟨w.heap.size + 1, 0, none⟩) 0 xs.length] 30))
  have HT := each_tells p xs xs.length (3 - 1) (by omega) w.heap.size _ hB0.size (Chain.below hB0 HP.out)
  have HS := Lib.hid (show w.heap.size + 1 ≤ w1.heap.size from hs1)
  clear hown hgrow hb1 bL c0 c1 hs1
  refine range_bound2 rfl (by omega) (gf := 61) (fs := #[lst p xs.length]) rfl trivial (enters_of Tryd.func61 (by kernel_rfl) rfl) HT hB0.size (AllRel w w1.heap.size w.heap.size)
    (OwnFrom.and (Own.from (holdsRow_own w.heap.size w1.heap.size 30 29 1 (fun pre : List El => pre.length) (fun pre => pre.map one) (fun _ _ => True)) _) (ownFrom_below (Nat.le_refl _) hB0.size))
    ⟨⟨_, bV, HO.out, trivial⟩, hB0⟩
    (fun x a1 W => ∃ b, a1 = { tmps := #[lst p xs.length, .pointer (some ⟨w.heap.size, 0, none⟩), .slice none 0 0, .pointer (some ⟨w1.heap.size, 0, none⟩), .pointer (some ⟨b, 0, none⟩), .pointer (some ⟨w.heap.size, 1, none⟩), .int .i64 xs.length, .slice (some ⟨w.heap.size + 1, 0, none⟩) 0 xs.length, lst p xs.length, .func (.func 61) #[lst p xs.length] #[], val x, undef, undef, undef, undef, undef], defers := [] } ∧ Boxed W b 29 (one x)) ?hJ ?assign ?body ?done
  case hJ =>
    rintro x a1 s A C row ⟨b, ha, hbx⟩ hg hr
    exact ⟨b, ha, hbx.kept hg (fun e => by obtain ⟨-, o, ho, hc⟩ := hr b e.symm; rw [show A.heap[b]? = _ from hbx] at ho; cases ho; cases hc)⟩
  case assign =>
    intro l x W K hK
    gi_wp2
    exact hK _ _ ⟨W.heap.size, rfl, Boxed.new W 29 (one x)⟩ ((Below.refl _ _).alloc (Nat.le_refl _) _)
  case body =>
    rintro l pre x a1 W ⟨b, rfl, hbx⟩ ⟨⟨v, hv, hrow, -⟩, hB⟩ hlt
    have hc := hv.cell
    have hx := hbx.cell
    clear HT hB0 bV HO HP hbx
    gi_wp2_with (gi_at_builtin; refine wpListIn_append_own _ rfl _ _ 30 rfl w.heap.size 29 i0 (val zero) 1 8 Tryd.underlying30 hi hz0 hz1 hz2 rfl (by decide) _ _ _ rfl (hrow.alloc _) ⟨W.heap.size, 0, none⟩ 1 1 [one x] rfl rfl (cell_one_new _ _ _) (by simp [Value.oneCell']) (by unfold maxLen; omega) (by omega) (by have := hB.size; simp; omega) ?_; intro v' w2 hown' hgrow _; obtain ⟨g', cap', rfl⟩ := ownsRow_succ hown'; obtain ⟨hv1, hv2, hr2, hk2, hb2⟩ := hv.appended (by decide) hrow hB.size (by have := HS.out; omega) hown' hgrow; have hc1 := hv1.cell; have hf1 := hv1.frozen)
    exact ⟨hk2.from _, hb2, ⟨_, hv2, by simpa using hr2, trivial⟩, hB.trans hb2⟩
  case done =>
    rintro D W hD ⟨⟨v, hv, hrow, -⟩, hB⟩ hK
    have hc := hv.cell
    clear HT bV HO HP
    gi_wp2
    refine ⟨by simp, .inl ⟨_, _, rfl, run_takeDeferred hK, ?_⟩⟩
    exact ⟨_, results_tmp rfl _ _ _, v, rfl, ownsRow_putObj hrow _ hK rfl, hB.trans (belowK_b (w := w) (Nat.le_refl _) W D _ _ (Nat.le_trans hB0.size hD) hK rfl rfl)⟩

end Go.Proofs.YtpclafbolppgcaaDoor.Lt
namespace Go.Proofs.YtpclafbolppgcaaDoor.Lt
open Go.Sort Go.RowKit

/-- From p on lies xs, of length n. -/
def LL (W : World) (p : Option Addr) (n : Nat) (xs : List El) : Prop := Ch one 106 W p xs ∧ n = xs.length ∧ n < 2147483648

theorem LL.stay {A B : World} {p : Option Addr} {n : Nat} {xs : List El} (h : LL A p n xs) (hb : Below A.heap.size A B) : LL B p n xs := ⟨h.1.stay hb, h.2⟩
theorem LL.alloc {A : World} {p : Option Addr} {n : Nat} {xs : List El} (h : LL A p n xs) (o : Obj) : LL (A.alloc o) p n xs := ⟨h.1.alloc o, h.2⟩
theorem LL.ch {A : World} {p : Option Addr} {n : Nat} {xs : List El} (h : LL A p n xs) : Ch one 106 A p xs := h.1
theorem LL.len {A : World} {p : Option Addr} {n : Nat} {xs : List El} (h : LL A p n xs) : n = xs.length := h.2.1
theorem LL.lt {A : World} {p : Option Addr} {n : Nat} {xs : List El} (h : LL A p n xs) : n < 2147483648 := h.2.2
theorem LL.none (A : World) : LL A Option.none 0 [] := ⟨Ch.none _, rfl, by decide⟩

/-- What a call hands back that makes a list. -/
def Gives (w : World) (xs : List El) (e : Ending) (w' : World) : Prop := ∃ q, ∃ n : Nat, e = .returned (lst q n) ∧ LL w' q n xs ∧ Below w.heap.size w w'

theorem push_l {w : World} {p : Option Addr} {n : Nat} {xs : List El} (x : El) (h : LL w p n xs) (hn : n + 1 < 2147483648) : Calls Tryd.prog 40 #[lst p n, val x] w (Gives w (x :: xs)) :=
  (push_any p xs n x w h.1 (by omega) (by omega)).mono fun e w' ⟨b, he, hc, hb⟩ => ⟨_, n + 1, by rw [he]; simp, ⟨hc, by rw [h.len]; simp, hn⟩, hb⟩
theorem rest_l {w : World} {p : Option Addr} {n : Nat} {xs : List El} (h : LL w p n xs) : Calls Tryd.prog 47 #[lst p n] w (Gives w xs.tail) :=
  (rest_any p xs n w h.1 h.len.symm h.lt).mono fun e w' ⟨q, he, hc, hb⟩ => ⟨q, n - 1, he, ⟨hc, by rw [h.len]; simp, by have := h.lt; omega⟩, hb⟩
theorem drop_l {w : World} {p : Option Addr} {n : Nat} {xs : List El} (z : Int) (h : LL w p n xs) (h0 : -9223372036854775808 ≤ z) (h1 : z < 9223372036854775808) : Calls Tryd.prog 54 #[lst p n, .int .i64 z] w (Gives w (xs.drop z.toNat)) := by
  have := drop_any p xs z w h.1 (by rw [← h.len]; exact h.lt) h0 h1
  rw [← h.len] at this
  exact this.mono fun e w' ⟨q, he, hc, hb⟩ => ⟨q, n - z.toNat, he, ⟨hc, by rw [h.len]; simp, by have := h.lt; omega⟩, hb⟩
theorem len_l {w : World} {p : Option Addr} {n : Nat} : Calls Tryd.prog 53 #[lst p n] w fun e w' => e = .returned (.int .i64 n) ∧ Below w.heap.size w w' := len_any p n w
/-- All: a row of its own, whose block is new. -/
theorem all_l {w : World} {p : Option Addr} {n : Nat} {xs : List El} (h : LL w p n xs) : Calls Tryd.prog 55 #[lst p n] w fun e w' =>
    ∃ A c, e = .returned (.slice A n c) ∧ Mine one 29 w' w.heap.size (.slice A n c) xs ∧ Row1 one w' A xs ∧ n ≤ c ∧ Below w.heap.size w w' := by
  have := all_any p xs w h.1 (by rw [← h.len]; exact h.lt)
  rw [← h.len] at this
  refine this.mono fun e w' ⟨v, he, hm, hb⟩ => ?_
  obtain ⟨A, c, rfl, hr, hc, -, -⟩ := hm.form
  rw [← h.len] at he hm hc
  exact ⟨A, c, he, hm, hr, hc, hb⟩

end Go.Proofs.YtpclafbolppgcaaDoor.Lt
