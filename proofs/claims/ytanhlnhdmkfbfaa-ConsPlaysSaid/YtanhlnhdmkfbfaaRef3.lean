/-
  The reference of layer 3, rows of numbers: what Push, Rest, Rev, Join and Drop return for a row that reads as a list, and that nothing that was there has changed. Condition: fewer than 2 to the 31st numbers.
-/
import Derived.Test.YtanhlnhdmkfbfaaAwake3
import Derived.Test.YtanhlnhdmkfbfaaDrops
namespace Go.Proofs.Ytanhlnhdmkfbfaa
open Go.Sort Go.RowKit

/-- At A lie these numbers; the block is below m, or one of numbers. -/
def RowT (m : Nat) (W : World) (A : Option Addr) (xs : List El) : Prop :=
  0 < xs.length → ∃ b o, A = some ⟨b, o, none⟩ ∧ (b < m ∨ ∃ cs fr, W.heap[b]? = some (.cells cs 3 fr)) ∧ ∀ (j : Nat) (hj : j < xs.length), W.cell? ⟨b, o + j, none⟩ = some (one xs[j])

theorem RowT.row {m : Nat} {W : World} {A : Option Addr} {xs : List El} (h : RowT m W A xs) : Row1 one W A xs := fun h0 => by
  obtain ⟨b, o, e, -, hc⟩ := h h0
  exact ⟨b, o, e, hc⟩
theorem RowT.nil (m : Nat) (W : World) (A : Option Addr) : RowT m W A [] := fun h => by simp at h
theorem RowT.stay {m : Nat} {W W' : World} {A : Option Addr} {xs : List El} (h : RowT m W A xs) (hb : Below W.heap.size W W') : RowT m W' A xs := fun h0 => by
  obtain ⟨b, o, e, ht, hc⟩ := h h0
  have hlt := lt_of_cell (hc 0 h0)
  exact ⟨b, o, e, ht.imp id (fun ⟨cs, fr, hh⟩ => ⟨cs, fr, (hb.block b hlt).trans hh⟩), fun j hj => (hb.cell (p := ⟨b, o + j, none⟩) hlt).trans (hc j hj)⟩
theorem RowT.kept {m : Nat} {W W' : World} {row : Option Nat} {A : Option Addr} {xs : List El} (h : RowT m W A xs) (hg : W.grownBy W' row) (hr : ∀ r, row = some r → m ≤ r ∧ ∃ cs t fr, W.heap[r]? = some (.cells cs t fr) ∧ t ≠ 3) : RowT m W' A xs := fun h0 => by
  obtain ⟨b, o, e, ht, hc⟩ := h h0
  have hlt : b < W.heap.size := lt_of_cell (hc 0 h0)
  have hbl : W'.heap[b]? = W.heap[b]? := hg.block b hlt (fun e => by
    obtain ⟨hm, cs, t, fr, hh, hne⟩ := hr b e.symm
    rcases ht with ht | ⟨cs', fr', hh'⟩
    · omega
    · rw [hh] at hh'; cases hh'; exact hne rfl)
  exact ⟨b, o, e, ht.imp id (fun ⟨cs, fr, hh⟩ => ⟨cs, fr, hbl.trans hh⟩), fun j hj => (World.cell?_of_block (w := W) (a := ⟨b, o + j, none⟩) hbl).trans (hc j hj)⟩
theorem RowT.of_arg {m : Nat} {W : World} {A : Option Addr} {xs : List El} (h : Row1 one W A xs) (hm : W.heap.size ≤ m) : RowT m W A xs := fun h0 => by
  obtain ⟨b, o, e, hc⟩ := h h0
  exact ⟨b, o, e, .inl (Nat.lt_of_lt_of_le (lt_of_cell (hc 0 h0)) hm), hc⟩
theorem RowT.of_mine {m base n c : Nat} {W : World} {A : Option Addr} {xs : List El} (h : Mine one 3 W base (.slice A n c) xs) : RowT m W A xs := fun h0 => by
  obtain ⟨A', c', e, hr, -⟩ := h.form
  injection e with e1 e2 e3
  subst e1
  obtain ⟨b, o, e, hc⟩ := hr h0
  refine ⟨b, o, e, .inr ?_, hc⟩
  rcases h.2 with ⟨e', -⟩ | ⟨g, cap, cur, e', -, hg, -⟩
  · injection e' with e'; rw [e'] at e; cases e
  · injection e' with e'
    rw [e'] at e
    injection e with e
    injection e with e
    subst e
    exact ⟨cur, _, hg⟩
theorem RowT.part {m : Nat} {W : World} {a : Addr} {xs : List El} (h : RowT m W (some a) xs) (k : Nat) : RowT m W (some (a.add k)) (xs.drop k) := fun h0 => by
  have hk : k < xs.length := by simp at h0; omega
  obtain ⟨b, o, e, ht, hc⟩ := h (by omega)
  injection e with e
  subst e
  refine ⟨b, o + k, by rw [add_flat], ht, fun j hj => ?_⟩
  have := hc (k + j) (by simp at hj; omega)
  rw [← Nat.add_assoc] at this
  rw [this]
  simp

/-- The slice (A, n, c) reads as xs. -/
def SL (m : Nat) (W : World) (A : Option Addr) (n c : Nat) (xs : List El) : Prop :=
  RowT m W A xs ∧ n = xs.length ∧ n ≤ c ∧ c ≤ 9223372036854775807 ∧ (A = none → c = 0) ∧ n < 2147483648
theorem SL.row {m : Nat} {W : World} {A : Option Addr} {n c : Nat} {xs : List El} (h : SL m W A n c xs) : Row1 one W A xs := h.1.row
theorem SL.len {m : Nat} {W : World} {A : Option Addr} {n c : Nat} {xs : List El} (h : SL m W A n c xs) : n = xs.length := h.2.1
theorem SL.cap {m : Nat} {W : World} {A : Option Addr} {n c : Nat} {xs : List El} (h : SL m W A n c xs) : n ≤ c := h.2.2.1
theorem SL.lt {m : Nat} {W : World} {A : Option Addr} {n c : Nat} {xs : List El} (h : SL m W A n c xs) : n < 2147483648 := h.2.2.2.2.2
theorem SL.nil {m : Nat} {W : World} {A : Option Addr} {n c : Nat} {xs : List El} (h : SL m W A n c xs) : A = none → c = 0 := h.2.2.2.2.1
theorem SL.stay {m : Nat} {W W' : World} {A : Option Addr} {n c : Nat} {xs : List El} (h : SL m W A n c xs) (hb : Below W.heap.size W W') : SL m W' A n c xs := ⟨h.1.stay hb, h.2⟩
theorem SL.kept {m : Nat} {W W' : World} {row : Option Nat} {A : Option Addr} {n c : Nat} {xs : List El} (h : SL m W A n c xs) (hg : W.grownBy W' row) (hr : ∀ r, row = some r → m ≤ r ∧ ∃ cs t fr, W.heap[r]? = some (.cells cs t fr) ∧ t ≠ 3) : SL m W' A n c xs := ⟨h.1.kept hg hr, h.2⟩

/-- What a call of the reference hands back. -/
def Tell (m : Nat) (W : World) (xs : List El) (e : Ending) (W' : World) : Prop := ∃ A, ∃ n c : Nat, e = .returned (.slice A n c) ∧ SL m W' A n c xs ∧ Below W.heap.size W W'

theorem infoInt : (Try.prog.info? 3).map (fun i => (i.zero, i.size, i.bytes)) = some (some (.int .i64 0), 1, 8) := by kernel_rfl

/-- The built-in append of a row (nil, empty or not) to a row that the call made (or to none). -/
theorem append_row1 (w : World) (base : Nat) (v : Value) (xs ys : List El) (A : Option Addr) (n c : Nat) (hown : Mine one 3 w base v xs) (hn : n = ys.length) (hr : Row1 one w A ys) (hA : A = none → c = 0) (hlen : xs.length + n < 2147483648) (hb : base ≤ w.heap.size) :
    ∃ v' w', (Builtin.append_ #[22, 22] 22 #[v, .slice A n c]).run Try.prog w = .ok v' w' ∧ Mine one 3 w' base v' (xs ++ ys) ∧ w.grownBy w' v.ownBlock := by
  subst hn
  obtain ⟨i0, hi, hz0, hz1, hz2⟩ := info_parts infoInt
  have step : ∀ a : Addr, (∀ j u, (ys.map one)[j]? = some u → w.cell? (a.add j) = some u) → ∃ v' w', (Builtin.append_ #[22, 22] 22 #[v, .slice (some a) ys.length c]).run Try.prog w = .ok v' w' ∧ Mine one 3 w' base v' (xs ++ ys) ∧ w.grownBy w' v.ownBlock := by
    intro a hc
    obtain ⟨v', w', h1, h2, h3, _⟩ := run_append_own_at (P := Try.prog) w base 22 22 3 i0 _ 1 8 Try.underlying22 hi hz0 hz1 hz2 rfl (by omega) v xs.length (xs.map one) hown a ys.length c (ys.map one) (by simp) hc (by intro u hu; simp at hu; obtain ⟨x, -, rfl⟩ := hu; rfl) (by unfold maxLen; omega) (by omega) hb
    refine ⟨v', w', h1, ?_, h3⟩
    unfold Mine
    rw [List.map_append, List.length_append]
    exact h2
  by_cases h0 : 0 < ys.length
  · obtain ⟨b, o, rfl, hc⟩ := hr h0
    refine step _ (fun j u hu => ?_)
    rw [add_flat]
    obtain ⟨hj, e⟩ := List.getElem?_eq_some_iff.1 hu
    simp at hj e
    rw [← e]
    exact hc j hj
  · obtain rfl : ys = [] := List.eq_nil_of_length_eq_zero (by omega)
    cases A with
    | some a => exact step a (fun j u hu => by simp at hu)
    | none =>
      obtain rfl := hA rfl
      have hrun := run_append_owned_none (P := Try.prog) (w := w) base 22 22 3 i0 1 Try.underlying22 hi v xs.length (xs.map one) hown
      exact ⟨v, w, hrun, by rw [List.append_nil]; exact hown, World.grownBy.refl w _⟩

theorem wpList_append_run {P : Program} {w : World} {ops : Array Oper} {rest : List Oper} {o : Oper} {a : Act} {Q : Exit → Act → World → Prop} (hgd : o.guard = Option.none) (s x : Operand) (t : TypeId)
    (ho : o.op = .call { callee := .builtin .append, args := #[s, x], argTypes := #[t, t] }) (v xv v' : Value) (w' : World) (hs : a.eval s = v) (hx : a.eval x = xv)
    (hrun : (Builtin.append_ #[t, t] o.type #[v, xv]).run P w = .ok v' w') (h : wpList P ops Q rest (a.put o.dst v') w') : wpList P ops Q (o :: rest) a w := by
  refine wpList_plain hgd fun K hK => ?_
  unfold Oper.wp
  simp [execOp, ho, resolve, invoke, builtin, hs, hx, hrun, Result.andThen]
  exact hK _ _ h

theorem Mine.tell {m base : Nat} {W : World} {v : Value} {xs : List El} (h : Mine one 3 W base v xs) (h2 : xs.length < 2147483648) : ∃ A, ∃ n c : Nat, v = .slice A n c ∧ SL m W A n c xs := by
  obtain ⟨A, c, rfl, -, hc, hm, hA⟩ := h.form
  exact ⟨A, _, c, rfl, RowT.of_mine h, rfl, hc, hm, hA, h2⟩

theorem mine_one (w : World) (x : El) : Mine one 3 (w.alloc (.cells #[one x] 3)) w.heap.size (.slice (some ⟨w.heap.size, 0, none⟩) 1 1) [x] :=
  ⟨rfl, .inr ⟨w.heap.size, 1, #[one x], rfl, Nat.le_refl _, World.alloc_heap_new w _, Nat.le_refl _, by unfold maxLen; omega, rfl, rfl⟩⟩

set_option maxHeartbeats 1000000 in
theorem refPush_any {m : Nat} {w : World} {A : Option Addr} {n c : Nat} {xs : List El} (x : El) (h : SL m w A n c xs) (h2 : n + 1 < 2147483648) : Calls Try.prog 9 #[.slice A n c, one x] w (Tell m w (x :: xs)) := by
  have hb := below_new w (.cells #[one x] 3)
  obtain ⟨v', w', hrun, hm, hg⟩ := append_row1 (w.alloc (.cells #[one x] 3)) w.heap.size _ [x] xs A n c (mine_one w x) h.len (h.row.stay hb) h.nil (by simp; omega) (by simp)
  obtain ⟨A', n', c', rfl, hs⟩ := hm.tell (m := m) (by have := h.len; simp; omega)
  have HS := Lib.hid hs
  have HB := Lib.hid (below_grown ((Below.refl w.heap.size w).alloc (Nat.le_refl _) _) hg (by simp) (fun g e => (mine_one w x).block g e))
  clear hs hm hg hb h h2
  go_enter Try.func9, Try.ntmps9
  go_wp2_with (refine wpList_append_run rfl _ _ 22 rfl _ _ _ _ rfl rfl hrun ?_)
  go_ret
  exact ⟨_, _, _, rfl, HS.out, HB.out⟩

set_option maxHeartbeats 1000000 in
theorem refJoin_any {m : Nat} {w : World} {A B : Option Addr} {n c k d : Nat} {xs ys : List El} (h : SL m w A n c xs) (h' : SL m w B k d ys) (h2 : n + k < 2147483648) : Calls Try.prog 15 #[.slice A n c, .slice B k d] w (Tell m w (xs ++ ys)) := by
  obtain ⟨v1, w1, hrun1, hm1, hg1⟩ := append_row1 w w.heap.size _ [] xs A n c (Mine.none _ _ _) h.len h.row h.nil (by simp; omega) (Nat.le_refl _)
  have hb1 := below_grown (Below.refl w.heap.size w) hg1 (Nat.le_refl _) (fun g e => by simp [Value.ownBlock] at e)
  obtain ⟨v2, w2, hrun2, hm2, hg2⟩ := append_row1 w1 w.heap.size _ ([] ++ xs) ys B k d hm1 h'.len (h'.row.stay hb1) h'.nil (by have := h.len; simp; omega) hb1.size
  have hb2 := below_grown hb1 hg2 hb1.size (fun g e => hm1.block g e)
  obtain ⟨A', n', c', rfl, hs⟩ := hm2.tell (m := m) (by have := h.len; have := h'.len; simp; omega)
  have HS := Lib.hid (show SL m w2 A' n' c' (xs ++ ys) from by simpa using hs)
  have HB := Lib.hid hb2
  clear hs hm1 hm2 hg1 hg2 hb1 hb2 h h' h2
  go_enter Try.func15, Try.ntmps15
  go_wp2_with (first | (refine wpList_append_run rfl _ _ 22 rfl _ _ _ _ rfl rfl hrun1 ?_) | (refine wpList_append_run rfl _ _ 22 rfl _ _ _ _ rfl rfl hrun2 ?_))
  go_ret
  exact ⟨_, _, _, rfl, HS.out, HB.out⟩

/-- A part of a slice. -/
theorem SL.cut {m : Nat} {W : World} {a : Addr} {n c : Nat} {xs : List El} (h : SL m W (some a) n c xs) (k : Nat) (hk : k ≤ n) : SL m W (if c = k then some a else some (a.add k)) (n - k) (c - k) (xs.drop k) := by
  obtain ⟨hr, hn, hc, hm, -, h2⟩ := h
  refine ⟨?_, by simp; omega, by omega, by omega, fun e => ?_, by omega⟩
  · by_cases e : c = k
    · rw [if_pos e, List.drop_eq_nil_of_le (by omega)]
      exact RowT.nil _ _ _
    · rw [if_neg e]
      exact hr.part k
  · split at e <;> cases e

set_option maxHeartbeats 1000000 in
theorem refRest_any {m : Nat} {w : World} {A : Option Addr} {n c : Nat} {xs : List El} (h : SL m w A n c xs) : Calls Try.prog 11 #[.slice A n c] w (Tell m w xs.tail) := by
  cases n with
  | zero =>
    have e : xs = [] := List.eq_nil_of_length_eq_zero h.len.symm
    subst e
    have H := Lib.hid h
    clear h
    go_enter Try.func11, Try.ntmps11
    go_wp2
    go_ret
    exact ⟨_, _, _, rfl, H.out, Below.refl _ _⟩
  | succ n =>
    cases A with
    | none => have := h.nil rfl; have := h.cap; omega
    | some a =>
      obtain ⟨b, o, ea, -⟩ := h.row (by have := h.len; omega)
      injection ea with ea
      subst ea
      have H := Lib.hid (h.cut 1 (by omega))
      rw [add_flat] at H
      have hc := h.cap
      have h2 := h.lt
      clear h
      by_cases e : c = 1
      · subst e
        obtain rfl : n = 0 := by omega
        go_enter Try.func11, Try.ntmps11
        go_wp2
        go_ret
        exact ⟨_, _, _, rfl, by simpa using H.out, Below.refl _ _⟩
      · go_enter Try.func11, Try.ntmps11
        go_wp2
        go_ret
        exact ⟨_, _, _, rfl, by simpa [e] using H.out, Below.refl _ _⟩

set_option maxHeartbeats 1000000 in
set_option maxRecDepth 100000 in
theorem refDrop_any {m : Nat} {w : World} {A : Option Addr} {n c : Nat} {xs : List El} (z : Int) (h : SL m w A n c xs) (h0 : -9223372036854775808 ≤ z) (h1 : z < 9223372036854775808) : Calls Try.prog 17 #[.slice A n c, .int .i64 z] w (Tell m w (xs.drop z.toNat)) := by
  by_cases hz : z < 0
  · have H := Lib.hid (show SL m w A n c (xs.drop z.toNat) from by rw [show z.toNat = 0 by omega]; exact h)
    clear h
    have g1 : decide (z < 0) = true := by simpa using hz
    go_enter Try.func17, Try.ntmps17
    go_wp2
    go_ret
    exact ⟨_, _, _, rfl, H.out, Below.refl _ _⟩
  · obtain ⟨y, rfl⟩ : ∃ y : Nat, z = y := ⟨z.toNat, by omega⟩
    rw [Int.toNat_natCast]
    have g1 : decide ((y : Int) < 0) = false := by simp
    cases A with
    | none =>
      have hc := h.nil rfl
      have hn := h.cap
      obtain rfl : n = 0 := by omega
      subst hc
      have e : xs = [] := List.eq_nil_of_length_eq_zero h.len.symm
      subst e
      have H := Lib.hid h
      clear h
      rcases Nat.eq_zero_or_pos y with rfl | hy
      all_goals
        go_enter Try.func17, Try.ntmps17
        go_wp2
        go_ret
        exact ⟨_, _, _, rfl, by simpa using H.out, Below.refl _ _⟩
    | some a =>
      have hl := h.len
      have hc := h.cap
      have h2 := h.lt
      by_cases e : n < y
      · have H := Lib.hid (h.cut n (Nat.le_refl _))
        rw [List.drop_eq_nil_of_le (by omega : xs.length ≤ y)]
        rw [List.drop_eq_nil_of_le (by omega : xs.length ≤ n)] at H
        clear h hl
        by_cases e2 : c = n
        · subst e2
          go_enter Try.func17, Try.ntmps17
          go_wp2
          go_ret
          exact ⟨_, _, _, rfl, by simpa using H.out, Below.refl _ _⟩
        · rw [if_neg e2] at H
          go_enter Try.func17, Try.ntmps17
          go_wp2
          go_ret
          exact ⟨_, _, _, rfl, by simpa using H.out, Below.refl _ _⟩
      · have H := Lib.hid (h.cut y (by omega))
        clear h hl
        by_cases e2 : c = y
        · subst e2
          obtain rfl : n = c := by omega
          go_enter Try.func17, Try.ntmps17
          go_wp2
          go_ret
          exact ⟨_, _, _, rfl, by simpa using H.out, Below.refl _ _⟩
        · rw [if_neg e2] at H
          go_enter Try.func17, Try.ntmps17
          go_wp2
          go_ret
          exact ⟨_, _, _, rfl, by simpa using H.out, Below.refl _ _⟩

/-- What stands at the head of each round of Rev: the first k numbers are still to come. -/
def RevRel (w : World) (xs : List El) (v i : Value) (W : World) : Prop :=
  ∃ k : Nat, i = .int .i64 ((k : Int) - 1) ∧ k ≤ xs.length ∧ Mine one 3 W w.heap.size v (xs.drop k).reverse ∧ Below w.heap.size w W

set_option maxHeartbeats 1000000 in
set_option maxRecDepth 100000 in
theorem refRev_any {m : Nat} {w : World} {A : Option Addr} {n c : Nat} {xs : List El} (h : SL m w A n c xs) : Calls Try.prog 13 #[.slice A n c] w (Tell m w xs.reverse) := by
  have HN := Lib.hid h.len
  have HR := Lib.hid h.row
  have h2 := h.lt
  clear h
  go_enter Try.func13, Try.ntmps13
  go_wp2_with fail
  have H0 := Lib.hid (show RevRel w xs (.slice none 0 0) (.int .i64 ((n : Int) - 1)) w from ⟨n, rfl, by rw [HN.out]; exact Nat.le_refl _, by rw [HN.out, List.drop_length]; exact Mine.none _ _ _, Below.refl _ _⟩)
  go_loopw [3, 4] (fun v i wr => RevRel w xs v i wr) (fun _ i _ => (intOf i + 1).toNat)
  case atStart => exact H0.out
  case round =>
    clear H0
    obtain ⟨k, rfl, hk, hm, hb⟩ := hrel
    have HK := Lib.hid hk
    have hkn : k ≤ n := by rw [HN.out]; exact hk
    clear hk
    cases k with
    | zero =>
      rw [List.drop_zero] at hm
      have HB := Lib.hid hb
      obtain ⟨A', n', c', rfl, hs⟩ := hm.tell (m := m) (by have := HN.out; simp; omega)
      have HS := Lib.hid hs
      clear hb hs hm
      go_wp2_with fail
      go_ret
      exact ⟨_, _, _, rfl, HS.out, HB.out⟩
    | succ k =>
      obtain ⟨b, o, rfl, hcell⟩ := HR.out (by have := HK.out; omega)
      have hx := hcell k HK.out
      rw [← hb.cell (p := ⟨b, o + k, none⟩) (lt_of_cell hx)] at hx
      clear hcell
      generalize hxe : xs[k]'HK.out = x at hx
      have HX := Lib.hid (show (xs.drop k).reverse = (xs.drop (k + 1)).reverse ++ [x] from by rw [List.drop_eq_getElem_cons HK.out, hxe, List.reverse_cons])
      clear hxe
      have hb1 := below_new wr (.cells #[one x] 3)
      obtain ⟨v', w', hrun, hm2, hg⟩ := append_row1 (wr.alloc (.cells #[one x] 3)) w.heap.size _ _ [x] (some ⟨wr.heap.size, 0, none⟩) 1 1 (hm.stay hb1) rfl (row_new wr [x] #[one x] 3 rfl) (fun e => by cases e) (by have := HK.out; have := HN.out; simp; omega) (Nat.le_trans hb.size hb1.size)
      have HM := Lib.hid hm2
      have HB := Lib.hid (below_grown (hb.trans (hb1.mono hb.size)) hg (Nat.le_trans hb.size hb1.size) (fun g e => hm.block g e))
      rw [show (((k + 1 : Nat) : Int) - 1) = (k : Int) from by omega]
      clear hm hm2 hb hb1 hg
      go_wp2_with (refine wpList_append_run rfl _ _ 22 rfl _ _ _ _ rfl rfl hrun ?_)
      refine ⟨⟨k, rfl, by have := HK.out; omega, by rw [HX.out]; exact HM.out, HB.out⟩, by simp [intOf]⟩

end Go.Proofs.Ytanhlnhdmkfbfaa
