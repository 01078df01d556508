/-
  Contract of the place of a skew binomial heap's least root: which place, how many comparisons the meter counts, that what was there stays but for the meter's block. Conditions: counts below 2 to the 60th.
-/
import Derived.Test.YtlmokendajgbdaaGreatDoorV5
namespace Go.Proofs.YtlmokendajgbdaaGreatDoor.Hp
open Go.Sort Go.RowKit Go.Proofs.YtlmokendajgbdaaGreatDoor.Gn

set_option maxRecDepth 100000 in
set_option maxHeartbeats 4000000 in
theorem place_any (mo : Option Nat) (c m : Int) (t : Lh) (p : HP) (w : World) (hm : MAt w mo c m) (h0 : 0 ≤ c) (h1 : c < 1152921504606846976) (h : LAt w t p) :
    Calls Tryz.prog 69 #[hp p, mAddr mo] w fun e w' => e = .returned (.int .i64 (leastI t.ts : Nat)) ∧ MAt w' mo (c + t.tellN) m ∧ Bt mo w w' := by
  obtain ⟨ts⟩ := t
  have hlen := h.len
  change ts.length < _ at hlen
  have hb1 : Below w.heap.size w (w.alloc (.cells #[.pointer p.q, .int .i64 p.n] 85)) := (Below.refl _ w).alloc (Nat.le_refl _) _
  have HX := Lib.hid (Box2.new w 85 (.pointer p.q) (.int .i64 p.n))
  have H := Lib.hid (And.intro (h.stay hb1) (And.intro (Bt.ofBelow (mo := mo) hb1) (And.intro (hm.stay hb1) (And.intro h0 (And.intro h1 hlen)))))
  clear h hm hb1 h0 h1 hlen
  go_enter Tryz.func69, Tryz.ntmps69
  go_wp2_with fail
  ((with_reducible refine (seeker_any mo _).mono ?_); rintro e w2 ⟨bm, bl, bs, rfl, hS, hL, hb2⟩)
  have B2 := Lib.hid (HX.out.stay hb2)
  have c0 := B2.out.c0
  have c1 := B2.out.c1
  have H2 := Lib.hid (And.intro (H.out.1.stay hb2) (And.intro (H.out.2.1.trans (Bt.ofBelow hb2)) (And.intro (H.out.2.2.1.stay hb2) hS)))
  have HB := Lib.hid (show w.heap.size ≤ bl ∧ w.heap.size ≤ bs from ⟨Nat.le_trans (by simp) hL.2.1, Nat.le_trans (by simp) hL.2.2⟩)
  have HN0 := Lib.hid H.out.2.2.2
  clear hS hL hb2 HX H
  go_wp2_with fail
  ((with_reducible refine (all_h H2.out.1 H2.out.2.2.1).mono ?_); rintro e w3 ⟨A, n, ca, rfl, hr, hab, hb3⟩)
  have X := Lib.hid (And.intro hr (And.intro (H2.out.2.1.trans (Bt.ofBelow hb3)) (And.intro (H2.out.2.2.1.stay hb3) (H2.out.2.2.2.stay hb3))))
  have hn : n = ts.length := hr.len
  have HN := Lib.hid hn
  have HAB := Lib.hid (show ∀ a, A = some a → a.block ≠ bl ∧ a.block ≠ bs from fun a ea => by have h1 := hab a ea; have h2 := H2.out.2.2.2.l.lt; have h3 := lt_of_heap H2.out.2.2.2.s; omega)
  clear hr hb3 hn hab c0 c1 H2 B2
  go_wp2_with fail
  go_loopg [5, 15] n (fun k s iv wr => ∃ (i pl : Nat) (x : Int × Int), iv = .int .i64 (i : Int) ∧ s = .int .i64 (pl : Int) ∧ i + k = n ∧ Sk mo wr bm bl bs x (decide (0 < i)) ∧ (pl = leastK ts (i - 1)) ∧ (0 < i → x = (rootAt ts pl).key) ∧ Bt mo w wr ∧ TRow mo wr ts A n ca ∧ MAt wr mo (c + ((i - 1 : Nat) : Int)) m)
  case atStart => exact ⟨0, 0, (0, 0), rfl, rfl, by omega, X.out.2.2.2, rfl, fun h => absurd h (by omega), X.out.2.1, X.out.1, by simpa using X.out.2.2.1⟩
  case round =>
    obtain ⟨i, pl, ⟨x1, x2⟩, rfl, rfl, hi, hsk, hpl, hx, hbt, htr, hm⟩ := hrel
    by_cases hlt : i < n
    · obtain ⟨bA, oA, pa, rfl, hcell, hta⟩ := htr.at hlt
      have g1 : decide ((i : Int) < (n : Int)) = true := by simp; omega
      have g2 : (i : Int) < (n : Int) := by omega
      have g3 : (0 : Int) ≤ (i : Int) := by omega
      have hil : i < ts.length := by have := HN.out; omega
      have hroot : rootAt ts i = (ts[i]).x := by unfold rootAt; rw [List.getElem?_eq_getElem hil]
      generalize ts[i] = u at *
      have hw2 : IntKind.i64.wrap ((i : Int) + 1) = ((i + 1 : Nat) : Int) := by have := HN.out; have := HN0.out; rw [IntKind.wrap_i64]; omega
      have hw3 : wrap64 ((i : Int) + 1) = ((i + 1 : Nat) : Int) := by have := HN.out; have := HN0.out; unfold wrap64; omega
      obtain ⟨r, hrr⟩ : ∃ r, r = (!(decide (0 < i)) || ltE u.x.key (x1, x2)) := ⟨_, rfl⟩
      have Y := Lib.hid (And.intro hi (And.intro hsk (And.intro hpl (And.intro hx (And.intro hbt (And.intro htr (And.intro hm (And.intro hta (And.intro hroot hrr)))))))))
      clear hi hsk hpl hx hbt htr hm hta hil hroot hrr
      go_wp2_with fail
      ((with_reducible refine (ask_all mo (c + ((i - 1 : Nat) : Int)) m bm bl bs (x1, x2) (decide (0 < i)) u pa _ Y.out.2.2.2.2.2.2.1 (by have := HN0.out; omega) (by have := HN0.out; have := HN.out; omega) Y.out.2.1 Y.out.2.2.2.2.2.2.2.1).mono ?_); rintro e w5 ⟨rfl, hs5, hm5, ht5⟩)
      rw [← Y.out.2.2.2.2.2.2.2.2.2] at hs5 ⊢
      have hstep : 0 < i → leastK ts i = if r = true then i else pl := fun h0 => by
        rw [leastK_step ts h0, Y.out.2.2.2.2.2.2.2.2.1, ← Y.out.2.2.1, ← Y.out.2.2.2.1 h0, Y.out.2.2.2.2.2.2.2.2.2]
        simp [h0]
      have hzero : ¬ 0 < i → i = 0 ∧ r = true := fun h0 => ⟨by omega, by rw [Y.out.2.2.2.2.2.2.2.2.2]; simp [h0]⟩
      have hmm : MAt w5 mo (c + ((i + 1 - 1 : Nat) : Int)) m := by
        have e : c + ((i + 1 - 1 : Nat) : Int) = c + ((i - 1 : Nat) : Int) + (if decide (0 < i) = true then 1 else 0) := by
          by_cases h0 : 0 < i
          · simp only [h0, decide_true, if_true]; omega
          · simp only [h0, decide_false]; simp; omega
        rw [e]; exact hm5
      have hb5 := ht5.bt Y.out.2.2.2.2.1 HB.out.1 HB.out.2
      have htr5 := Y.out.2.2.2.2.2.1.tn ht5 Y.out.2.2.2.2.2.2.1 Y.out.2.1.l Y.out.2.1.s elemT_ne boolT_ne HAB.out
      have Z := Lib.hid (And.intro hs5 (And.intro hstep (And.intro hzero (And.intro hmm (And.intro hb5 htr5)))))
      clear hs5 hstep hzero hmm hb5 htr5 hm5 ht5 hcell
      cases r with
      | true =>
        go_wp2_with fail
        go_roundg (n - 1 - i)
        case measure => have := Y.out.1; omega
        case rel =>
          refine ⟨i + 1, i, u.x.key, rfl, rfl, by have := Y.out.1; omega, by have := Z.out.1; simpa using this, ?_, fun _ => congrArg Thing.key Y.out.2.2.2.2.2.2.2.2.1.symm, Z.out.2.2.2.2.1, Z.out.2.2.2.2.2, Z.out.2.2.2.1⟩
          rw [show i + 1 - 1 = i from rfl]
          by_cases h0 : 0 < i
          · rw [Z.out.2.1 h0]; rfl
          · obtain ⟨h1, -⟩ := Z.out.2.2.1 h0; subst h1; rfl
      | false =>
        have hpos : 0 < i := by
          by_cases h0 : 0 < i
          · exact h0
          · have h1 := (Z.out.2.2.1 h0).2; cases h1
        go_wp2_with fail
        go_roundg (n - 1 - i)
        case measure => have := Y.out.1; omega
        case rel =>
          refine ⟨i + 1, pl, (x1, x2), rfl, rfl, by have := Y.out.1; omega, by have := Z.out.1; simpa using this, ?_, fun _ => Y.out.2.2.2.1 hpos, Z.out.2.2.2.2.1, Z.out.2.2.2.2.2, Z.out.2.2.2.1⟩
          rw [show i + 1 - 1 = i from rfl, Z.out.2.1 hpos]; rfl
    · have hin : i = n := by omega
      have g1 : decide ((i : Int) < (n : Int)) = false := by simp; omega
      have g2 : ¬ (i : Int) < (n : Int) := by omega
      have hfin : pl = leastI ts := by rw [hpl]; unfold leastI; rw [hin, HN.out]
      have hct : ((i - 1 : Nat) : Int) = ((Lh.mk ts).tellN : Nat) := by show _ = ((ts.length - 1 : Nat) : Int); rw [hin, HN.out]
      have Y := Lib.hid (And.intro hbt (show MAt wr mo (c + (Lh.mk ts).tellN) m from hct ▸ hm))
      clear hi hsk hpl hx hbt htr hm
      go_wp2_with fail
      go_ret
      exact ⟨by first | rfl | rw [hfin], Y.out.2, Y.out.1⟩

end Go.Proofs.YtlmokendajgbdaaGreatDoor.Hp
