/-
  Contracts of the reference's Put, Sort and Compare: for any row of fewer than 2^30 elements and any element: a new row with the element where it belongs; all of a row in order; nothing that was there has changed.
-/
import Derived.Test.YtliehednnhilkaaDoorPutPlain
import Derived.Test.YtliehednnhilkaaDoorAppend
import Derived.Test.YtliehednnhilkaaDoorKit
import Derived.Test.YtliehednnhilkaaDoorLess
namespace Go.Proofs.YtliehednnhilkaaDoor
open Go.Sort Go.RowKit

theorem refLess_class (w : World) (p q r s : Int) (b : Bool) (hb : ltI p q r s = b) (d : Nat) (os : Array Obj) :
    Calls Tryd.prog 37 #[.agg #[.int .i64 p, .int .i64 q], .agg #[.int .i64 r, .int .i64 s]] (grow (redrawn w d) os) fun e w'' => e = .returned (.bool b) ∧ ∃ x : Regrown, w'' = grow (redrawn w x.d) x.os :=
  in_class (fun W _ => by rw [← hb]; exact refLess_below p q r s W) d os

theorem cellsE_take (l : List (Int × Int)) (k : Nat) : cellsE (l.take k) = (cellsE l).take (k * 2) := by
  induction l generalizing k with
  | nil => simp [cellsE]
  | cons x r ih =>
    cases k with
    | zero => simp [cellsE]
    | succ k =>
      have e : cellsE (x :: r) = .int .i64 x.1 :: .int .i64 x.2 :: cellsE r := rfl
      rw [List.take_succ_cons, e, show (k + 1) * 2 = k * 2 + 1 + 1 by omega, List.take_succ_cons, List.take_succ_cons, ← ih k]
      rfl
theorem cellsE_drop (l : List (Int × Int)) (k : Nat) : cellsE (l.drop k) = (cellsE l).drop (k * 2) := by
  induction l generalizing k with
  | nil => simp [cellsE]
  | cons x r ih =>
    cases k with
    | zero => simp [cellsE]
    | succ k =>
      have e : cellsE (x :: r) = .int .i64 x.1 :: .int .i64 x.2 :: cellsE r := rfl
      rw [List.drop_succ_cons, e, show (k + 1) * 2 = k * 2 + 1 + 1 by omega, List.drop_succ_cons, List.drop_succ_cons, ← ih k]
theorem row_take {w : World} {b o : Nat} {l : List (Int × Int)} (h : ∀ j v, (cellsE l)[j]? = some v → w.cell? ⟨b, o + j, none⟩ = some v) (k : Nat) : Row w (some ⟨b, o, none⟩) (l.take k) := fun _ =>
  ⟨b, o, rfl, fun j v hv => by
    rw [cellsE_take, List.getElem?_take] at hv
    split at hv
    · exact h j v hv
    · cases hv⟩
theorem row_drop {w : World} {b o : Nat} {l : List (Int × Int)} (h : ∀ j v, (cellsE l)[j]? = some v → w.cell? ⟨b, o + j, none⟩ = some v) (k : Nat) : Row w (some ⟨b, o + k * 2, none⟩) (l.drop k) := fun _ =>
  ⟨b, o + k * 2, rfl, fun j v hv => by
    rw [cellsE_drop, List.getElem?_drop] at hv
    rw [Nat.add_assoc]
    exact h _ v hv⟩

/-- What Put hands back. -/
def PutPost (l : List (Int × Int)) (x : Int × Int) (w : World) (e : Ending) (w' : World) : Prop :=
  ∃ v, e = .returned v ∧ Own w' w.heap.size v (putL l x) ∧ Below w.heap.size w w'

/-- The three appends of Put, one behind the other. -/
theorem put_runs (W : World) (base : Nat) (hbase : base ≤ W.heap.size) (A1 A2 : Option Addr) (c1 c2 n1 n2 : Nat) (l1 l2 : List (Int × Int)) (x : Int × Int) (h1 : Row W A1 l1) (h2 : Row W A2 l2) (e1 : A1 = none → c1 = 0) (e2 : A2 = none → c2 = 0)
    (hn1 : n1 = l1.length) (hn2 : n2 = l2.length) (hlen : l1.length + l2.length < 1073741824) :
    ∃ v1 w2 v2 w3 v3 w4, (Builtin.append_ #[36, 36] 36 #[.slice none 0 0, .slice A1 n1 c1]).run Tryd.prog W = .ok v1 w2 ∧
      (Builtin.append_ #[36, 36] 36 #[v1, .slice (some ⟨w2.heap.size, 0, none⟩) 1 1]).run Tryd.prog (w2.alloc (.cells #[.int .i64 x.1, .int .i64 x.2] 32)) = .ok v2 w3 ∧
      (Builtin.append_ #[36, 36] 36 #[v2, .slice A2 n2 c2]).run Tryd.prog w3 = .ok v3 w4 ∧
      Own w4 base v3 (l1 ++ x :: l2) ∧ Below base W w4 ∧ Below W.heap.size W w2 := by
  subst hn1
  subst hn2
  obtain ⟨v1, w2, run1, own1, gr1⟩ := append_row W W.heap.size (.slice none 0 0) [] l1 A1 c1 (Own.none _ _) h1 e1 (by simp; omega) (Nat.le_refl _)
  rw [List.nil_append] at own1
  have hb2 := below_grown (Below.refl W.heap.size W) gr1 (Nat.le_refl _) (fun g hg => by simp [Value.ownBlock] at hg)
  have hb2' : Below W.heap.size W (w2.alloc (.cells #[.int .i64 x.1, .int .i64 x.2] 32)) := hb2.alloc hb2.size _
  have own1' : Own (w2.alloc (.cells #[.int .i64 x.1, .int .i64 x.2] 32)) W.heap.size v1 l1 := own1.below ((Below.refl w2.heap.size w2).alloc (Nat.le_refl _) _)
  obtain ⟨v2, w3, run2, own2, gr2⟩ := append_row (w2.alloc (.cells #[.int .i64 x.1, .int .i64 x.2] 32)) W.heap.size v1 l1 [x] (some ⟨w2.heap.size, 0, none⟩) 1 own1' (row_new w2 [x] 32) (fun e => by cases e) (by simp; omega) hb2'.size
  have hb3 := below_grown hb2' gr2 hb2'.size own1'.block
  obtain ⟨v3, w4, run3, own3, gr3⟩ := append_row w3 W.heap.size v2 (l1 ++ [x]) l2 A2 c2 own2 (h2.below hb3) e2 (by simp; omega) hb3.size
  have hb4 := below_grown hb3 gr3 hb3.size own2.block
  refine ⟨v1, w2, v2, w3, v3, w4, run1, run2, run3, ?_, hb4.mono hbase, hb2⟩
  rw [List.append_assoc] at own3
  obtain ⟨q1, q2⟩ := own3
  refine ⟨q1, ?_⟩
  rcases q2 with q2 | ⟨g, cap, cur, a, b, r⟩
  · exact Or.inl q2
  · exact Or.inr ⟨g, cap, cur, a, Nat.le_trans hbase b, r⟩

set_option maxHeartbeats 1000000 in
set_option maxRecDepth 100000 in
theorem put_nil (x : Int × Int) (w : World) :
    Calls Tryd.prog 36 #[.slice none 0 0, .agg #[.int .i64 x.1, .int .i64 x.2]] w (PutPost [] x w) := by
  have hb0 := (Below.refl w.heap.size w).alloc (Nat.le_refl _) (.cells #[.int .i64 x.1, .int .i64 x.2] 32)
  have px := PairAt.new w x.1 x.2 32
  obtain ⟨w1, hw1⟩ : ∃ w1, w1 = w.alloc (.cells #[.int .i64 x.1, .int .i64 x.2] 32) := ⟨_, rfl⟩
  have HW1 := Lib.hid hw1
  rw [← hw1] at hb0 px
  clear hw1
  go_enter Tryd.func36, Tryd.ntmps36
  go_wp2_with fail
  rw [← HW1.out]
  rw [world_self w1]
  generalize w1.drawn = d0
  generalize (#[] : Array Obj) = os0
  refine wp_loop_rounds 1 ?_
  rw [rounds_succ]
  go_wp2_with fail
  refine wp_region_class (by kernel_rfl) (by kernel_rfl) ?_
  repeat (go_big_quiet_step (fail))
  refine wpQuiet_nil ?_
  intro _ hw'
  obtain ⟨⟨dq, osq⟩, hw''⟩ := hw'
  subst hw''
  have hbW := hb0.trans ((below_regrown w1 dq osq).mono hb0.size)
  have pW := px.below (below_regrown w1 dq osq) px.2.2.2.2
  obtain ⟨W, hW⟩ : ∃ W, W = grow (redrawn w1 dq) osq := ⟨_, rfl⟩
  rw [← hW] at hbW pW ⊢
  obtain ⟨v1, w2, v2, w3, v3, w4, run1, run2, run3, own, hb4, hb2⟩ := put_runs W w.heap.size hbW.size none none 0 0 0 0 [] [] x (Row.nil _ _) (Row.nil _ _) (fun _ => rfl) (fun _ => rfl) rfl rfl (by simp)
  have p2 := pW.below hb2 pW.2.2.2.2
  obtain ⟨c0, c1, -, -, c4⟩ := p2
  have R1 := Lib.hid run1
  have R2 := Lib.hid run2
  have R3 := Lib.hid run3
  have OWN := Lib.hid own
  have HB4 := Lib.hid (hbW.trans hb4)
  clear run1 run2 run3 own hb4 hb2 hbW pW hW px hb0 HW1
  go_wp2_with (first | (at_builtin; refine wpList_append_run rfl _ _ _ rfl _ _ _ _ rfl rfl R1.out ?_) | (at_builtin; refine wpList_append_run rfl _ _ _ rfl _ _ _ _ rfl rfl R2.out ?_) | (at_builtin; refine wpList_append_run rfl _ _ _ rfl _ _ _ _ rfl rfl R3.out ?_))
  go_ret
  exact ⟨v3, rfl, OWN.out, HB4.out⟩

/-- What holds at each round's head. -/
def PutRel (l : List (Int × Int)) (x : Int × Int) (w1 : World) (i : Value) (wr : World) : Prop :=
  ∃ k : Nat, k ≤ l.length ∧ i = .int .i64 k ∧ (∀ j (h : j < l.length), j < k → ltE l[j] x = true) ∧ ∃ p : Regrown, wr = grow (redrawn w1 p.d) p.os

set_option maxHeartbeats 2000000 in
set_option maxRecDepth 100000 in
theorem put_some (b o n c : Nat) (l : List (Int × Int)) (x : Int × Int) (w : World) (hn : n = l.length) (hsz : n < 1073741824) (hc : n ≤ c) (hcm : c ≤ 9223372036854775807)
    (hr : ∀ j v, (cellsE l)[j]? = some v → w.cell? ⟨b, o + j, none⟩ = some v) :
    Calls Tryd.prog 36 #[.slice (some ⟨b, o, none⟩) n c, .agg #[.int .i64 x.1, .int .i64 x.2]] w (PutPost l x w) := by
  have hb0 := (Below.refl w.heap.size w).alloc (Nat.le_refl _) (.cells #[.int .i64 x.1, .int .i64 x.2] 32)
  have px := PairAt.new w x.1 x.2 32
  obtain ⟨w1, hw1⟩ : ∃ w1, w1 = w.alloc (.cells #[.int .i64 x.1, .int .i64 x.2] 32) := ⟨_, rfl⟩
  have HW1 := Lib.hid hw1
  rw [← hw1] at hb0 px
  have hr1 : ∀ j v, (cellsE l)[j]? = some v → w1.cell? ⟨b, o + j, none⟩ = some v := fun j v hv => by
    have := hr j v hv
    rw [hb0.cell (block_lt_of_cell this)]; exact this
  have HR1 := Lib.hid hr1
  have HN := Lib.hid hn
  clear hw1 hr hr1 hn
  go_enter Tryd.func36, Tryd.ntmps36
  go_wp2_with fail
  go_loopw [5] (fun i wr => PutRel l x w1 i wr) (fun i _ => n - (intOf i).toNat)
  case atStart => exact ⟨0, Nat.zero_le _, rfl, fun j _ h => by omega, ⟨w1.drawn, #[]⟩, by rw [← HW1.out]; exact world_self w1⟩
  case round =>
    obtain ⟨k, hkk, rfl, hahead, ⟨d, os⟩, rfl⟩ := hrel
    have hn := HN.out
    by_cases hlt : k < n
    · have hkl : k < l.length := by omega
      have e1 := row_at HR1.out k hkl
      have ke0 := fun d os => cell_regrown e1.1 d os
      have ke1 := fun d os => cell_regrown e1.2 d os
      have kx0 := fun d os => cell_regrown px.1 d os
      have kx1 := fun d os => cell_regrown px.2.1 d os
      cases hb : ltE l[k] x with
      | true =>
        have hnext : ∀ j (h : j < l.length), j < k + 1 → ltE l[j] x = true := fun j h hj => by
          by_cases e : j = k
          · subst e; exact hb
          · exact hahead j h (by omega)
        have HNEXT := Lib.hid hnext
        have HL1 := Lib.hid (fun d os => refLess_class w1 l[k].1 l[k].2 x.1 x.2 true hb d os)
        generalize l[k] = e at *
        clear hnext hahead hb hn e1
        go_wp2_with fail
        refine wp_region_class (by kernel_rfl) (by kernel_rfl) ?_
        repeat (go_big_quiet_step ((with_reducible exact HL1.out _ _)))
        refine wpQuiet_nil ?_
        intro _ hw'
        obtain ⟨⟨dq, osq⟩, hw''⟩ := hw'
        subst hw''
        go_wp2_with fail
        go_roundw
        case rel => exact ⟨k + 1, by omega, by go_num, HNEXT.out, ⟨dq, osq⟩, rfl⟩
        case measure => simp [intOf]; omega
      | false =>
        have hat := aheadOf_eq l x k hahead (by omega) (fun _ => hb)
        have HL1 := Lib.hid (fun d os => refLess_class w1 l[k].1 l[k].2 x.1 x.2 false hb d os)
        generalize l[k] = e at *
        clear hahead hb e1
        have HAT := Lib.hid hat
        have HNN := Lib.hid hn
        clear hat hn
        go_wp2_with fail
        refine wp_region_class (by kernel_rfl) (by kernel_rfl) ?_
        repeat (go_big_quiet_step ((with_reducible exact HL1.out _ _)))
        refine wpQuiet_nil ?_
        intro _ hw'
        obtain ⟨⟨dq, osq⟩, hw''⟩ := hw'
        subst hw''
        have hat := HAT.out
        have hn := HNN.out
        clear ke0 ke1 kx0 kx1 HL1 HAT
        have hbW := hb0.trans ((below_regrown w1 dq osq).mono hb0.size)
        have pW := px.below (below_regrown w1 dq osq) px.2.2.2.2
        have rW : ∀ j v, (cellsE l)[j]? = some v → (grow (redrawn w1 dq) osq).cell? ⟨b, o + j, none⟩ = some v := fun j v hv => cell_regrown (HR1.out j v hv) dq osq
        obtain ⟨W, hW⟩ : ∃ W, W = grow (redrawn w1 dq) osq := ⟨_, rfl⟩
        rw [← hW] at hbW pW rW ⊢
        have hput : putL l x = l.take k ++ x :: l.drop k := by unfold putL; rw [hat]
        have hkn : k ≤ n := by omega
        by_cases hck : c = k
        · exfalso; omega
        · obtain ⟨v1, w2, v2, w3, v3, w4, run1, run2, run3, own, hb4, hb2⟩ := put_runs W w.heap.size hbW.size (some ⟨b, o, none⟩) (some ⟨b, o + k * 2, none⟩) c (c - k) k (n - k) (l.take k) (l.drop k) x (row_take rW k) (row_drop rW k) (fun e => by cases e) (fun e => by cases e) (by rw [List.length_take]; omega) (by rw [List.length_drop]; omega) (by rw [List.length_take, List.length_drop]; omega)
          rw [← hput] at own
          have p2 := pW.below hb2 pW.2.2.2.2
          obtain ⟨c0, c1, -, -, c4⟩ := p2
          have R1 := Lib.hid run1
          have R2 := Lib.hid run2
          have R3 := Lib.hid run3
          have OWN := Lib.hid own
          have HB4 := Lib.hid (hbW.trans hb4)
          clear run1 run2 run3 own hb4 hb2 hbW pW hW px hb0 rW hput hat hn hkk
          go_wp2_with (first | (at_builtin; refine wpList_append_run rfl _ _ _ rfl _ _ _ _ rfl rfl R1.out ?_) | (at_builtin; refine wpList_append_run rfl _ _ _ rfl _ _ _ _ rfl rfl R2.out ?_) | (at_builtin; refine wpList_append_run rfl _ _ _ rfl _ _ _ _ rfl rfl R3.out ?_))
          go_ret
          exact ⟨v3, rfl, OWN.out, HB4.out⟩
    · have hat := aheadOf_eq l x k hahead (by omega) (fun h => by omega)
      have HAT := Lib.hid hat
      have HNN := Lib.hid hn
      clear hat hn hahead
      go_wp2_with fail
      refine wp_region_class (by kernel_rfl) (by kernel_rfl) ?_
      repeat (go_big_quiet_step (fail))
      refine wpQuiet_nil ?_
      intro _ hw'
      obtain ⟨⟨dq, osq⟩, hw''⟩ := hw'
      subst hw''
      have hat := HAT.out
      have hn := HNN.out
      clear HAT
      have hbW := hb0.trans ((below_regrown w1 dq osq).mono hb0.size)
      have pW := px.below (below_regrown w1 dq osq) px.2.2.2.2
      have rW : ∀ j v, (cellsE l)[j]? = some v → (grow (redrawn w1 dq) osq).cell? ⟨b, o + j, none⟩ = some v := fun j v hv => cell_regrown (HR1.out j v hv) dq osq
      obtain ⟨W, hW⟩ : ∃ W, W = grow (redrawn w1 dq) osq := ⟨_, rfl⟩
      rw [← hW] at hbW pW rW ⊢
      have hput : putL l x = l.take k ++ x :: l.drop k := by unfold putL; rw [hat]
      have hkn : k ≤ n := by omega
      by_cases hck : c = k
      · obtain ⟨v1, w2, v2, w3, v3, w4, run1, run2, run3, own, hb4, hb2⟩ := put_runs W w.heap.size hbW.size (some ⟨b, o, none⟩) (some ⟨b, o, none⟩) c 0 k 0 (l.take k) (l.drop k) x (row_take rW k) (by rw [List.drop_of_length_le (by omega)]; exact Row.nil _ _) (fun e => by cases e) (fun e => by cases e) (by rw [List.length_take]; omega) (by rw [List.length_drop]; omega) (by rw [List.length_take, List.length_drop]; omega)
        rw [← hput] at own
        have hnk : k = n := by omega
        subst hck
        have p2 := pW.below hb2 pW.2.2.2.2
        obtain ⟨c0, c1, -, -, c4⟩ := p2
        have R1 := Lib.hid run1
        have R2 := Lib.hid run2
        have R3 := Lib.hid run3
        have OWN := Lib.hid own
        have HB4 := Lib.hid (hbW.trans hb4)
        clear run1 run2 run3 own hb4 hb2 hbW pW hW px hb0 rW hput hat hn hkk
        subst hnk
        go_wp2_with (first | (at_builtin; refine wpList_append_run rfl _ _ _ rfl _ _ _ _ rfl rfl R1.out ?_) | (at_builtin; refine wpList_append_run rfl _ _ _ rfl _ _ _ _ rfl rfl R2.out ?_) | (at_builtin; refine wpList_append_run rfl _ _ _ rfl _ _ _ _ rfl rfl R3.out ?_))
        go_ret
        exact ⟨v3, rfl, OWN.out, HB4.out⟩
      · obtain ⟨v1, w2, v2, w3, v3, w4, run1, run2, run3, own, hb4, hb2⟩ := put_runs W w.heap.size hbW.size (some ⟨b, o, none⟩) (some ⟨b, o + k * 2, none⟩) c (c - k) k (n - k) (l.take k) (l.drop k) x (row_take rW k) (row_drop rW k) (fun e => by cases e) (fun e => by cases e) (by rw [List.length_take]; omega) (by rw [List.length_drop]; omega) (by rw [List.length_take, List.length_drop]; omega)
        rw [← hput] at own
        have p2 := pW.below hb2 pW.2.2.2.2
        obtain ⟨c0, c1, -, -, c4⟩ := p2
        have R1 := Lib.hid run1
        have R2 := Lib.hid run2
        have R3 := Lib.hid run3
        have OWN := Lib.hid own
        have HB4 := Lib.hid (hbW.trans hb4)
        clear run1 run2 run3 own hb4 hb2 hbW pW hW px hb0 rW hput hat hn hkk
        go_wp2_with (first | (at_builtin; refine wpList_append_run rfl _ _ _ rfl _ _ _ _ rfl rfl R1.out ?_) | (at_builtin; refine wpList_append_run rfl _ _ _ rfl _ _ _ _ rfl rfl R2.out ?_) | (at_builtin; refine wpList_append_run rfl _ _ _ rfl _ _ _ _ rfl rfl R3.out ?_))
        go_ret
        exact ⟨v3, rfl, OWN.out, HB4.out⟩

theorem put_any (A : Option Addr) (l : List (Int × Int)) (c : Nat) (x : Int × Int) (w : World) (hsz : l.length < 1073741824) (hc : l.length ≤ c) (hcm : c ≤ 9223372036854775807) (hr : Row w A l) (hA : l = [] → A = none ∧ c = 0) :
    Calls Tryd.prog 36 #[.slice A l.length c, .agg #[.int .i64 x.1, .int .i64 x.2]] w (PutPost l x w) := by
  by_cases h0 : l = []
  · obtain ⟨rfl, rfl⟩ := hA h0
    subst h0
    exact put_nil x w
  · obtain ⟨b, o, rfl, h⟩ := hr (List.length_pos_iff.2 h0)
    exact put_some b o l.length c l x w rfl hsz hc hcm h

end Go.Proofs.YtliehednnhilkaaDoor
