/-
  The walk of the statement MeterPlays: for any acts and any number it returns true, and nothing that was there has changed, in any world.
-/
import Derived.Test.YthjhcdlikokgpaaMawake
import Derived.Test.YthjhcdlikokgpaaActs
import Derived.Deep.RegionHeld3
import Derived.Deep.DrawnRows
namespace Go.Proofs.Ythjhcdlikokgpaa
open Go.Sort Go.RowKit

/-- What stands at the head of each round: the meter and the reference hold the same counts, and these are small. -/
def PlaysRel (n : Nat) (W : World) (b g : Nat) (i : Value) (wr : World) : Prop :=
  ∃ (k : Nat) (c m : Int), k ≤ n ∧ i = .int .i64 k ∧ Meted W wr b c m ∧ PairAt wr g c m ∧ (0 ≤ c ∧ c ≤ k) ∧ (0 ≤ m ∧ m ≤ k * 100000)

theorem PairAt.drew {w : World} {b : Nat} {x y : Int} (h : PairAt w b x y) : PairAt w.drew b x y := h
theorem below_drew (w : World) : Below w.heap.size w w.drew := (Below.refl _ _).drew

theorem Meted.aside {W w : World} {b g : Nat} {c m : Int} (h : Meted W w b c m) (hg : g ≠ b) (hw : W.heap.size ≤ g) (off : Nat) (v : Value) : Meted W (w.setCell ⟨g, off, none⟩ v) b c m :=
  ⟨h.pair.other (p := ⟨g, off, none⟩) hg v, h.below.setCell (p := ⟨g, off, none⟩) hw v, h.own⟩

set_option maxHeartbeats 400000 in
/-- The reference's steps. -/
theorem refSteps_any (c m : Int) (w : World) (h0 : -9223372036854775808 ≤ c + m) (h1 : c + m < 9223372036854775808) : Calls Try.prog 13 #[.agg #[.int .i64 c, .int .i64 m]] w fun e w' =>
    e = .returned (.int .i64 (c + m)) ∧ Below w.heap.size w w' := by
  go_enter Try.func13, Try.ntmps13
  go_wp2
  go_ret
  exact ⟨rfl, (Below.refl _ _).alloc (Nat.le_refl _) _⟩

attribute [local go_sem ↓] Go.wp_at_zero Go.wp_at_succ

set_option maxHeartbeats 4000000 in
set_option maxRecDepth 100000 in
theorem plays_some (b0 o n c : Nat) (X : Nat → Act5) (t : Int) (w : World) (hn : 0 < n) (hn60 : n ≤ 60) (hc : n ≤ c) (hcm : c ≤ 9223372036854775807) (ht0 : -1000000 ≤ t) (ht1 : t ≤ 1000000) (hmin : ∀ i, i < n → -9223372036854775808 ≤ (X i).n)
    (hr : ∀ i, i < n → w.cell? ⟨b0, o + i * 5, none⟩ = some (.int .i64 (X i).p) ∧ w.cell? ⟨b0, o + i * 5 + 1, none⟩ = some (.int .i64 (X i).q) ∧
    w.cell? ⟨b0, o + i * 5 + 2, none⟩ = some (.int .i64 (X i).r) ∧ w.cell? ⟨b0, o + i * 5 + 3, none⟩ = some (.int .i64 (X i).s) ∧ w.cell? ⟨b0, o + i * 5 + 4, none⟩ = some (.int .i64 (X i).n)) :
    Calls Try.prog 3 #[.slice (some ⟨b0, o, none⟩) n c, .int .i64 t] w fun e w' => e = .returned (.bool true) ∧ Below w.heap.size w w' := by
  have hbl : b0 < w.heap.size := block_lt_of_cell (hr 0 hn).1
  have HR := Lib.hid hr
  have HMIN := Lib.hid hmin
  clear hr hmin
  have d1 : decide ((60 : Int) < (n : Int)) = false := by simp; omega
  have d2 : decide ((1000000 : Int) < t) = false := by simp; omega
  have d3 : decide (t < -1000000) = false := by simp; omega
  go_enter Try.func3, Try.ntmps3
  go_wp2_with fail
  ((with_reducible refine (awake_any _).mono ?_); rintro e w1 ⟨rfl, hb1⟩)
  have HB1 := Lib.hid hb1
  clear hb1
  go_wp2_with fail
  ((with_reducible refine (new_any _).mono ?_); rintro e w2 ⟨rfl, hw2⟩)
  have M2 := Lib.hid (Meted.fresh HB1.out hw2)
  clear hw2 HB1
  clear d1 d2 d3
  generalize w1.heap.size = b at *
  go_wp2_with fail
  go_loopw [8] (fun i wr => PlaysRel n w b w2.heap.size i wr) (fun i _ => n - (intOf i).toNat)
  case atStart =>
    exact ⟨0, 0, 0, Nat.zero_le _, rfl, M2.out.stay ((Below.refl _ _).alloc (Nat.le_refl _) _), PairAt.new w2 0 0 _, ⟨by omega, by omega⟩, by omega, by omega⟩
  case round =>
    have HG := Lib.hid (show b ≠ w2.heap.size from by have := M2.out.pair.lt; omega)
    have HG2 := Lib.hid (show w.heap.size ≤ w2.heap.size from M2.out.below.size)
    clear M2
    generalize w2.heap.size = g at *
    obtain ⟨k, cc, mm, hk, rfl, hm, hp, hcc, hmm⟩ := hrel
    by_cases hlt : k < n
    · have e := HR.out k hlt
      rw [← hm.below.cell (p := ⟨b0, o + k * 5, none⟩) hbl, ← hm.below.cell (p := ⟨b0, o + k * 5 + 1, none⟩) hbl, ← hm.below.cell (p := ⟨b0, o + k * 5 + 2, none⟩) hbl, ← hm.below.cell (p := ⟨b0, o + k * 5 + 3, none⟩) hbl, ← hm.below.cell (p := ⟨b0, o + k * 5 + 4, none⟩) hbl] at e
      obtain ⟨e0, e1, e2, e3, e4⟩ := e
      have hmin := HMIN.out k hlt
      generalize X k = y at *
      obtain ⟨p, q, r, s, z⟩ := y
      simp only at e0 e1 e2 e3 e4 hmin
      clear HR HMIN
      have HM := Lib.hid hm
      have HP := Lib.hid hp
      clear hm hp
      by_cases hz : 100000 < z
      · have HZ := Lib.hid hz
        have d1 : decide (100000 < z) = true := by simpa using hz
        go_wp2_with fail
        go_ret
        exact ⟨rfl, HM.out.below⟩
      · have d1 : decide (100000 < z) = false := by simpa using hz
        by_cases h0 : z = 0
        · subst h0
          have A2 := Lib.hid (fun w h => mless_any b cc mm p q r s w h (by omega) (by omega))
          have A3 := Lib.hid (fun w => refLess_below p q r s w)
          have hbr : b0 < wr.heap.size := Nat.lt_of_lt_of_le hbl HM.out.below.size
          have hbb : b0 ≠ b := by have := HM.out.own; omega
          have hgb : g ≠ b := fun h => HG.out h.symm
          generalize ltI p q r s = v at A2 A3
          cases v
          all_goals
            go_wp2_with fail
            go_region_held3 (fun w' => w'.cell? ⟨b0, o + k * 5, none⟩ = some (.int .i64 p) ∧ w'.cell? ⟨b0, o + k * 5 + 1, none⟩ = some (.int .i64 q) ∧ w'.cell? ⟨b0, o + k * 5 + 2, none⟩ = some (.int .i64 r) ∧ w'.cell? ⟨b0, o + k * 5 + 3, none⟩ = some (.int .i64 s)) (go_keep)
              (first | (go_at_call 8; ((with_reducible refine (A2.out _ (PairAt.drew HM.out.pair)).mono ?_); rintro e w3 ⟨rfl, hp3, hb3⟩; have M3 := Lib.hid ((HM.out.stay (below_drew _)).turn hp3 hb3); have G3 := Lib.hid (hb3.pair (PairAt.drew HP.out) hgb); have f0 := (hb3.cell (p := ⟨b0, o + k * 5, none⟩) hbr hbb).trans e0; have f1 := (hb3.cell (p := ⟨b0, o + k * 5 + 1, none⟩) hbr hbb).trans e1; have f2 := (hb3.cell (p := ⟨b0, o + k * 5 + 2, none⟩) hbr hbb).trans e2; have f3 := (hb3.cell (p := ⟨b0, o + k * 5 + 3, none⟩) hbr hbb).trans e3; have hbs := Nat.lt_of_lt_of_le hbr hb3.size; clear hp3 hb3)) | (go_at_call 9; ((with_reducible refine (A3.out _).mono ?_); rintro e w4 ⟨rfl, hb4⟩; have M4 := Lib.hid (M3.out.stay hb4); have G4 := Lib.hid (G3.out.below hb4 G3.out.lt); have g0 := (hb4.cell (p := ⟨b0, o + k * 5, none⟩) hbs).trans f0; have g1 := (hb4.cell (p := ⟨b0, o + k * 5 + 1, none⟩) hbs).trans f1; have g2 := (hb4.cell (p := ⟨b0, o + k * 5 + 2, none⟩) hbs).trans f2; have g3 := (hb4.cell (p := ⟨b0, o + k * 5 + 3, none⟩) hbs).trans f3; clear hb4)))
            clear e0 e1 e2 e3 e4 f0 f1 f2 f3 g0 g1 g2 g3 A2 A3 M3 G3 HM HP hbs hbr
            have j0 := G4.out.c0
            have jz := G4.out.z0
            go_wp2_with fail
            clear j0 jz
            have G4a := Lib.hid (G4.out.set0 (cc + 1))
            have M4a := Lib.hid (M4.out.aside hgb (by have := HG2.out; omega) 0 (.int .i64 (cc + 1)))
            ((with_reducible refine (split_any _ _ _ _ M4a.out.pair).mono ?_); rintro e w5 ⟨rfl, hb5⟩)
            have M5 := Lib.hid (M4a.out.stay hb5)
            have G5 := Lib.hid (G4a.out.below hb5 G4a.out.lt)
            clear hb5 M4a G4a M4 G4
            have k0 := fun d os => cell_regrown G5.out.c0 d os
            have k1 := fun d os => cell_regrown G5.out.c1 d os
            have H1 := Lib.hid (fun d os => Calls.regrown_of (steps_any b _ _ (grow (redrawn w5 d) os) (M5.out.pair.regrown d os) (by omega) (by omega)))
            have H2 := Lib.hid (fun d os => Calls.regrown_of (refSteps_any (cc + 1) mm (grow (redrawn w5 d) os) (by omega) (by omega)))
            have H3 := Lib.hid (fun d os => Calls.regrown_of (since_any b _ _ t (grow (redrawn w5 d) os) (M5.out.pair.regrown d os) (by omega) (by omega) (by omega) (by omega)))
            go_wp2_with fail
            rw [world_self w5]
            generalize w5.drawn = dd0
            generalize (#[] : Array Obj) = os0
            refine wp_region_class (by kernel_rfl) (by kernel_rfl) ?_
            repeat (go_big_quiet_step (first | (with_reducible exact H1.out _ _) | (with_reducible exact H2.out _ _) | (with_reducible exact H3.out _ _)))
            refine wpQuiet_nil ?_
            intro _ hw'
            obtain ⟨⟨dq, osq⟩, hw''⟩ := hw'
            subst hw''
            go_wp2_with fail
            go_roundw
            case rel => exact ⟨k + 1, (cc + 1), mm, by omega, by go_num, M5.out.stay (below_regrown w5 _ _), G5.out.regrown _ _, ⟨by omega, by omega⟩, by omega, by omega⟩
            case measure => simp [intOf]; omega
        · have d2 : (z == 0) = false := by simpa using h0
          have hbr : b0 < wr.heap.size := Nat.lt_of_lt_of_le hbl HM.out.below.size
          have hbb : b0 ≠ b := by have := HM.out.own; omega
          have hgb : g ≠ b := fun h => HG.out h.symm
          go_wp2_with fail
          ((with_reducible refine (made_any _ _ _ z _ HM.out.pair (by omega) (by omega)).mono ?_); rintro e w3 ⟨rfl, hp3, hb3⟩)
          have f4 := (hb3.cell (p := ⟨b0, o + k * 5 + 4, none⟩) hbr hbb).trans e4
          have M3 := Lib.hid (HM.out.turn hp3 hb3)
          have G3 := Lib.hid (hb3.pair HP.out hgb)
          clear hp3 hb3 HM HP e0 e1 e2 e3 e4
          have j0 := G3.out.c1
          have jz := G3.out.z1
          go_wp2_with fail
          go_region
          clear j0 jz f4
          have hmx : (if z < 0 then (0 : Int) else z) = max z 0 := by split <;> omega
          rw [hmx]
          clear hmx
          have hm2 : 0 ≤ mm + max z 0 ∧ mm + max z 0 ≤ (k + 1) * 100000 := ⟨by omega, by omega⟩
          generalize mm + max z 0 = m2 at *
          go_wp2_with fail
          have G4a := Lib.hid ((PairAt.drew (G3.out.set1 m2)))
          have M4a := Lib.hid ((M3.out.aside hgb (by have := HG2.out; omega) 1 (.int .i64 m2)).stay (below_drew _))
          ((with_reducible refine (split_any _ _ _ _ M4a.out.pair).mono ?_); rintro e w5 ⟨rfl, hb5⟩)
          have M5 := Lib.hid (M4a.out.stay hb5)
          have G5 := Lib.hid (G4a.out.below hb5 G4a.out.lt)
          clear hb5 M4a G4a M3 G3
          have k0 := fun d os => cell_regrown G5.out.c0 d os
          have k1 := fun d os => cell_regrown G5.out.c1 d os
          have H1 := Lib.hid (fun d os => Calls.regrown_of (steps_any b _ _ (grow (redrawn w5 d) os) (M5.out.pair.regrown d os) (by omega) (by omega)))
          have H2 := Lib.hid (fun d os => Calls.regrown_of (refSteps_any cc m2 (grow (redrawn w5 d) os) (by omega) (by omega)))
          have H3 := Lib.hid (fun d os => Calls.regrown_of (since_any b _ _ t (grow (redrawn w5 d) os) (M5.out.pair.regrown d os) (by omega) (by omega) (by omega) (by omega)))
          go_wp2_with fail
          rw [world_self w5]
          generalize w5.drawn = dd0
          generalize (#[] : Array Obj) = os0
          refine wp_region_class (by kernel_rfl) (by kernel_rfl) ?_
          repeat (go_big_quiet_step (first | (with_reducible exact H1.out _ _) | (with_reducible exact H2.out _ _) | (with_reducible exact H3.out _ _)))
          refine wpQuiet_nil ?_
          intro _ hw'
          obtain ⟨⟨dq, osq⟩, hw''⟩ := hw'
          subst hw''
          go_wp2_with fail
          go_roundw
          case rel => exact ⟨k + 1, cc, m2, by omega, by go_num, M5.out.stay (below_regrown w5 _ _), G5.out.regrown _ _, ⟨by omega, by omega⟩, by omega, by omega⟩
          case measure => simp [intOf]; omega
    · obtain rfl : k = n := by omega
      have HM := Lib.hid hm
      clear hm hp hcc hmm
      go_wp2_with fail
      go_ret
      exact ⟨rfl, HM.out.below⟩

set_option maxHeartbeats 2000000 in
set_option maxRecDepth 100000 in
/-- No act at all. -/
theorem plays_none (A : Option Addr) (c : Nat) (t : Int) (w : World) (ht0 : -1000000 ≤ t) (ht1 : t ≤ 1000000) :
    Calls Try.prog 3 #[.slice A 0 c, .int .i64 t] w fun e w' => e = .returned (.bool true) ∧ Below w.heap.size w w' := by
  have d2 : decide ((1000000 : Int) < t) = false := by simp; omega
  have d3 : decide (t < -1000000) = false := by simp; omega
  go_enter Try.func3, Try.ntmps3
  go_wp2_with fail
  ((with_reducible refine (awake_any _).mono ?_); rintro e w1 ⟨rfl, hb1⟩)
  have HB1 := Lib.hid hb1
  clear hb1
  go_wp2_with fail
  ((with_reducible refine (new_any _).mono ?_); rintro e w2 ⟨rfl, hw2⟩)
  have M2 := Lib.hid (Meted.fresh HB1.out hw2)
  clear hw2 HB1
  go_wp2_with fail
  refine wp_loop_rounds 1 ?_
  rw [rounds_succ]
  go_wp2_with fail
  go_ret
  exact ⟨rfl, M2.out.below.alloc M2.out.below.size _⟩

set_option maxHeartbeats 2000000 in
set_option maxRecDepth 100000 in
/-- More than is looked at. -/
theorem plays_far (A : Option Addr) (n c : Nat) (t : Int) (w : World) (h : 60 < n ∨ 1000000 < t ∨ t < -1000000) :
    Calls Try.prog 3 #[.slice A n c, .int .i64 t] w fun e w' => e = .returned (.bool true) ∧ Below w.heap.size w w' := by
  have h' : (decide ((60 : Int) < (n : Int)) = true) ∨ (decide ((60 : Int) < (n : Int)) = false ∧ decide ((1000000 : Int) < t) = true) ∨ (decide ((60 : Int) < (n : Int)) = false ∧ decide ((1000000 : Int) < t) = false ∧ decide (t < -1000000) = true) := by
    simp only [decide_eq_true_eq, decide_eq_false_iff_not]; omega
  clear h
  rcases h' with d1 | ⟨d1, d2⟩ | ⟨d1, d2, d3⟩
  all_goals
    go_enter Try.func3, Try.ntmps3
    go_wp2_with fail
    ((with_reducible refine (awake_any _).mono ?_); rintro e w1 ⟨rfl, hb1⟩)
    have HB1 := Lib.hid hb1
    clear hb1
    go_wp2_with fail
    go_ret
    exact ⟨rfl, HB1.out⟩

theorem plays_any (A : Option Addr) (n c : Nat) (X : Nat → Act5) (t : Int) (w : World) (hr : ActRow w A n X) (hc : n ≤ c) (hcm : c ≤ 9223372036854775807) (hmin : ∀ i, i < n → -9223372036854775808 ≤ (X i).n) :
    Calls Try.prog 3 #[.slice A n c, .int .i64 t] w fun e w' => e = .returned (.bool true) ∧ Below w.heap.size w w' := by
  by_cases hf : 60 < n ∨ 1000000 < t ∨ t < -1000000
  · exact plays_far A n c t w hf
  · rcases Nat.eq_zero_or_pos n with rfl | hn
    · exact plays_none A c t w (by omega) (by omega)
    · obtain ⟨b, o, rfl, hcell⟩ := hr hn
      exact plays_some b o n c X t w hn (by omega) hc hcm (by omega) (by omega) hmin hcell

end Go.Proofs.Ythjhcdlikokgpaa
