/-
  Contract of a skew binomial heap's All: all elements, tree by tree, as a slice of the call's own; nothing that was there has changed. Condition: fewer than 2 to the 28th elements.
-/
import Derived.Test.YtlmokendajgbdaaGreatDoorV6b
namespace Go.Proofs.YtlmokendajgbdaaGreatDoor.Hp
open Go.Sort Go.RowKit Go.Proofs.YtlmokendajgbdaaGreatDoor.Gn

theorem lowerT {w : World} {base base' : Nat} {v : Value} {xs : List Thing} (h : OwnT w base v xs) (hb : base' ≤ base) : OwnT w base' v xs :=
  ⟨h.1, h.2.imp id (fun ⟨g, cap, cur, a, b, r⟩ => ⟨g, cap, cur, a, Nat.le_trans hb b, r⟩)⟩
/-- The built-in append of a row of things to a slice of the call's own. -/
theorem append_things (w : World) (base : Nat) (v : Value) (xs ys : List Thing) (A : Option Addr) (c : Nat) (hown : OwnT w base v xs) (hr : Row1 one0 w A ys) (hA : A = Option.none → c = 0) (hlen : xs.length + ys.length < 2147483648) (hb : base ≤ w.heap.size) :
    ∃ v' w', (Builtin.append_ #[134, 134] 134 #[v, .slice A ys.length c]).run Tryz.prog w = .ok v' w' ∧ OwnT w' base v' (xs ++ ys) ∧ w.grownBy w' v.ownBlock := by
  obtain ⟨i0, hi, hz0, hz1, hz2⟩ := info_parts infoH
  have step : ∀ a : Addr, (∀ j u, (ys.map one0)[j]? = some u → w.cell? (a.add j) = some u) → ∃ v' w', (Builtin.append_ #[134, 134] 134 #[v, .slice (some a) ys.length c]).run Tryz.prog w = .ok v' w' ∧ OwnT w' base v' (xs ++ ys) ∧ w.grownBy w' v.ownBlock := by
    intro a hc
    obtain ⟨v', w', h1, h2, h3, _⟩ := run_append_own_at (P := Tryz.prog) w base 134 134 27 i0 _ 1 8 Tryz.underlying134 hi hz0 hz1 hz2 rfl (by omega) v xs.length (xs.map one0) hown a ys.length c (ys.map one0) (by simp) hc (fun u hu => by obtain ⟨x, -, rfl⟩ := List.mem_map.1 hu; rfl) (by unfold maxLen; omega) (by omega) hb
    refine ⟨v', w', h1, ?_, h3⟩
    unfold OwnT Mine
    rw [List.length_append, List.map_append]
    exact h2
  by_cases h0 : 0 < ys.length
  · obtain ⟨b, o, rfl, hc⟩ := hr h0
    refine step _ (fun j u hu => ?_)
    rw [add_flat]
    rw [List.getElem?_map] at hu
    obtain ⟨y, hy, rfl⟩ := Option.map_eq_some_iff.1 hu
    obtain ⟨hlt, rfl⟩ := List.getElem?_eq_some_iff.1 hy
    exact hc j hlt
  · obtain rfl : ys = [] := List.eq_nil_of_length_eq_zero (by omega)
    cases A with
    | some a => exact step a (fun j u hu => by simp at hu)
    | none =>
      obtain rfl := hA rfl
      have hrun := run_append_owned_none (P := Tryz.prog) (w := w) base 134 134 27 i0 1 Tryz.underlying134 hi v xs.length (xs.map one0) hown
      exact ⟨v, w, hrun, by rw [List.append_nil]; exact hown, World.grownBy.refl w _⟩

set_option maxRecDepth 100000 in
set_option maxHeartbeats 2000000 in
theorem allH_any (t : Lh) (p : HP) (w : World) (h : LAt w t p) (hs : t.size < 268435456) : Calls Tryz.prog 84 #[hp p] w fun e w' => ∃ v, e = .returned v ∧ OwnT w' w.heap.size v t.all ∧ Below w.heap.size w w' := by
  obtain ⟨ts⟩ := t
  obtain ⟨ps, n, hn, hnl, hl, ht⟩ := h.list
  obtain ⟨q, pn⟩ := p
  change pn = (n : Int) at hn
  subst hn
  have hb1 : Below w.heap.size w (w.alloc (.cells #[.pointer q, .int .i64 (n : Int)] 85)) := (Below.refl _ w).alloc (Nat.le_refl _) _
  have hlb := len_bSize ts
  have H := Lib.hid (And.intro (hl.stay hb1) (And.intro (ht.kp (Kpt.below hb1)) (And.intro hb1 (And.intro (show n = ts.length from hnl) (And.intro (show bSize ts < 268435456 from hs) hlb)))))
  clear h hl ht hb1 hs hnl hlb
  go_enter Tryz.func84, Tryz.ntmps84
  go_wp2_with fail
  ((with_reducible refine (Lt.all_l H.out.1).mono ?_); rintro e w3 ⟨A, cc, rfl, -, hr, hnc, hb3⟩)
  have X0 := Lib.hid (And.intro hr (And.intro (H.out.2.1.kp (Kpt.below hb3)) (H.out.2.2.1.trans (hb3.mono H.out.2.2.1.size))))
  clear hr hnc hb3
  go_wp2_with fail
  go_loopg [3, 10] n (fun k v iv wr => ∃ i : Nat, iv = .int .i64 (i : Int) ∧ i + k = n ∧ OwnT wr w3.heap.size v (bAll (ts.take i)) ∧ Below w3.heap.size w3 wr)
  case atStart => exact ⟨0, rfl, by omega, Mine.none _ _ _, Below.refl _ _⟩
  case round =>
    obtain ⟨i, rfl, hi, hown, hbe⟩ := hrel
    by_cases hlt : i < n
    · have hil : i < ts.length := by have := H.out.2.2.2.1; omega
      obtain ⟨a, ha, hta⟩ := X0.out.2.1.at (List.getElem?_eq_getElem hil)
      obtain ⟨b, o, rfl⟩ := row_some X0.out.1 (by have := X0.out.2.1.length; omega)
      have htk : bAll (ts.take (i + 1)) = bAll (ts.take i) ++ ts[i].all := by
        rw [List.take_succ_eq_append_getElem hil, bAll_append]; simp [bAll]
      have hz1 := bSize_take hil
      have hz2 := bSize_take_le ts (i + 1)
      have hx := (hbe.cell (block_lt_of_cell (row_ptr X0.out.1 ha))).trans (row_ptr X0.out.1 ha)
      have g1 : decide ((i : Int) < (n : Int)) = true := by simp; omega
      have g2 : (i : Int) < (n : Int) := by omega
      have g3 : (0 : Int) ≤ (i : Int) := by omega
      generalize ts[i] = t at *
      have X := Lib.hid (And.intro hown (And.intro hbe (And.intro hta (And.intro htk (And.intro (show t.size ≤ bSize ts ∧ bSize (ts.take i) + t.size ≤ bSize ts by omega) hi)))))
      clear hown hbe hta htk hz1 hz2 hi hil ha
      go_wp2_with fail
      ((with_reducible refine (Go.Proofs.YtlmokendajgbdaaGreatDoor.all_any a (some t) _ (X.out.2.2.1.stay X.out.2.1) (by have := X.out; have := H.out; simp only [osize]; omega)).mono ?_); rintro e w4 ⟨v4, rfl, hown4, hb4⟩)
      have hown4 : OwnT w4 _ v4 t.all := hown4
      obtain ⟨A4, c4, rfl, hr4, -, -, hA4⟩ := hown4.form
      have hb5 := X.out.2.1.trans (hb4.mono X.out.2.1.size)
      have hl4 : t.all.length = t.size := t.all_length
      obtain ⟨v5, w5, hrun, hown5, hg5⟩ := append_things w4 w3.heap.size _ (bAll (ts.take i)) t.all A4 c4 (Mine.stay X.out.1 hb4) hr4 hA4 (by rw [bAll_length, hl4]; have := X.out; have := H.out; omega) hb5.size
      have HR := Lib.hid hrun
      have Y := Lib.hid (And.intro hown5 (below_grown hb5 hg5 hb5.size (fun g hg => Mine.block X.out.1 g hg)))
      clear hb4 hb5 hl4 hrun hown5 hg5 hown4 hr4 hA4
      go_wp2_with (at_builtin; refine wpList_append_run rfl _ _ _ rfl _ _ _ _ rfl rfl HR.out ?_)
      go_roundg (n - 1 - i)
      case measure => have := X.out.2.2.2.2.2; omega
      case rel => exact ⟨i + 1, by first | rfl | (congr 1; have := H.out; first | (unfold wrap64; omega) | (rw [IntKind.wrap_i64]; omega)), by have := X.out.2.2.2.2.2; omega, X.out.2.2.2.1 ▸ Y.out.1, Y.out.2⟩
    · have hin : i = n := by omega
      have g1 : decide ((i : Int) < (n : Int)) = false := by simp; omega
      have g2 : ¬ (i : Int) < (n : Int) := by omega
      have htk : ts.take i = ts := by rw [hin, H.out.2.2.2.1, List.take_length]
      rw [htk] at hown
      have Y := Lib.hid (And.intro (lowerT hown X0.out.2.2.size) (X0.out.2.2.trans (hbe.mono X0.out.2.2.size)))
      clear hown hbe htk hi
      go_wp2_with fail
      go_ret
      exact ⟨_, rfl, Y.out.1, Y.out.2⟩

end Go.Proofs.YtlmokendajgbdaaGreatDoor.Hp
