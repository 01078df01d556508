/-
  Contract of a skew binomial heap's All: all elements, tree by tree, as a slice of the call's own; nothing that was there has changed. Condition: fewer than 2 to the 28th elements.
-/
import Derived.Test.YtlaohkflnkjamaaDoorSb7
namespace Go.Proofs.YtlaohkflnkjamaaDoor.Hp
open Go.Sort Go.RowKit

set_option maxRecDepth 100000 in
set_option maxHeartbeats 2000000 in
theorem allH_any (t : Lh) (p : HP) (w : World) (h : LAt w t p) (hs : t.size < 268435456) : Calls Tryd.prog 29 #[hp p] w fun e w' => ∃ v, e = .returned v ∧ Own w' w.heap.size v t.all ∧ Below w.heap.size w w' := by
  obtain ⟨ts⟩ := t
  obtain ⟨ps, n, hn, hnl, hl, ht⟩ := h.list
  obtain ⟨q, pn⟩ := p
  change pn = (n : Int) at hn
  subst hn
  have hb1 : Below w.heap.size w (w.alloc (.cells #[.pointer q, .int .i64 (n : Int)] 28)) := (Below.refl _ w).alloc (Nat.le_refl _) _
  have hlb := len_bSize ts
  have H := Lib.hid (And.intro (hl.stay hb1) (And.intro (ht.kp (Kpt.below hb1)) (And.intro hb1 (And.intro (show n = ts.length from hnl) (And.intro (show bSize ts < 268435456 from hs) hlb)))))
  clear h hl ht hb1 hs hnl hlb
  go_enter Tryd.func29, Tryd.ntmps29
  go_wp2_with fail
  ((with_reducible refine (Lt.all_l H.out.1).mono ?_); rintro e w3 ⟨A, cc, rfl, -, hr, hnc, hb3⟩)
  have X0 := Lib.hid (And.intro hr (And.intro (H.out.2.1.kp (Kpt.below hb3)) (H.out.2.2.1.trans (hb3.mono H.out.2.2.1.size))))
  clear hr hnc hb3
  go_wp2_with fail
  go_loopg [3, 10] n (fun k v iv wr => ∃ i : Nat, iv = .int .i64 (i : Int) ∧ i + k = n ∧ Own wr w3.heap.size v (bAll (ts.take i)) ∧ Below w3.heap.size w3 wr)
  case atStart => exact ⟨0, rfl, by omega, Own.none _ _, Below.refl _ _⟩
  case round =>
    obtain ⟨i, rfl, hi, hown, hbe⟩ := hrel
    by_cases hlt : i < n
    · have hil : i < ts.length := by have := H.out.2.2.2.1; omega
      obtain ⟨a, ha, hta⟩ := X0.out.2.1.at (List.getElem?_eq_getElem hil)
      obtain ⟨b, o, rfl⟩ := row_some X0.out.1 (by have := X0.out.2.1.length; omega)
      have htk : bAll (ts.take (i + 1)) = bAll (ts.take i) ++ ts[i].all := by
        rw [List.take_succ_eq_append_getElem hil, bAll_append]; simp [bAll]
      have hz1 := bSize_take hil
      have hz2 := bSize_take_le ts (i + 1)
      have hx := (hbe.cell (block_lt_of_cell (row_ptr X0.out.1 ha))).trans (row_ptr X0.out.1 ha)
      have g1 : decide ((i : Int) < (n : Int)) = true := by simp; omega
      have g2 : (i : Int) < (n : Int) := by omega
      have g3 : (0 : Int) ≤ (i : Int) := by omega
      generalize ts[i] = t at *
      have X := Lib.hid (And.intro hown (And.intro hbe (And.intro hta (And.intro htk (And.intro (show t.size ≤ bSize ts ∧ bSize (ts.take i) + t.size ≤ bSize ts by omega) hi)))))
      clear hown hbe hta htk hz1 hz2 hi hil ha
      go_wp2_with fail
      ((with_reducible refine (Go.Proofs.YtlaohkflnkjamaaDoor.all_any a (some t) _ (X.out.2.2.1.stay X.out.2.1) (by have := X.out; have := H.out; simp only [osize]; omega)).mono ?_); rintro e w4 ⟨v4, rfl, hown4, hb4⟩)
      have hown4 : Own w4 _ v4 t.all := hown4
      obtain ⟨A4, c4, rfl, hr4, -, -, hA4⟩ := hown4.form
      have hb5 := X.out.2.1.trans (hb4.mono X.out.2.1.size)
      have hl4 : t.all.length = t.size := t.all_length
      obtain ⟨v5, w5, hrun, hown5, hg5⟩ := append_row w4 w3.heap.size _ (bAll (ts.take i)) t.all A4 c4 (X.out.1.below hb4) hr4 hA4 (by rw [bAll_length, hl4]; have := X.out; have := H.out; omega) hb5.size
      have HR := Lib.hid hrun
      have Y := Lib.hid (And.intro hown5 (below_grown hb5 hg5 hb5.size (fun g hg => X.out.1.block g hg)))
      clear hb4 hb5 hl4 hrun hown5 hg5 hown4 hr4 hA4
      go_wp2_with (at_builtin; refine wpList_append_run rfl _ _ _ rfl _ _ _ _ rfl rfl HR.out ?_)
      go_roundg (n - 1 - i)
      case measure => have := X.out.2.2.2.2.2; omega
      case rel => exact ⟨i + 1, by first | rfl | (congr 1; have := H.out; first | (unfold wrap64; omega) | (rw [IntKind.wrap_i64]; omega)), by have := X.out.2.2.2.2.2; omega, X.out.2.2.2.1 ▸ Y.out.1, Y.out.2⟩
    · have hin : i = n := by omega
      have g1 : decide ((i : Int) < (n : Int)) = false := by simp; omega
      have g2 : ¬ (i : Int) < (n : Int) := by omega
      have htk : ts.take i = ts := by rw [hin, H.out.2.2.2.1, List.take_length]
      rw [htk] at hown
      have Y := Lib.hid (And.intro (hown.lower X0.out.2.2.size) (X0.out.2.2.trans (hbe.mono X0.out.2.2.size)))
      clear hown hbe htk hi
      go_wp2_with fail
      go_ret
      exact ⟨_, rfl, Y.out.1, Y.out.2⟩

end Go.Proofs.YtlaohkflnkjamaaDoor.Hp
