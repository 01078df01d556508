/-
  The document's example of layer 5 holds: awake returns true, and nothing that was there has changed, in any world where the library's table is as it is laid.
-/
import Derived.Test.YtlkpmafgokoaiaaDoorTr5b
import Derived.Test.YtlkpmafgokoaiaaDoorTr8
import Derived.Test.YtlkpmafgokoaiaaDoorTr9b
import Derived.Test.YtlkpmafgokoaiaaDoorTr10
namespace Go.Proofs.YtlkpmafgokoaiaaDoor
open Go.Sort Go.RowKit

/-- A meter that the call itself made, with its counts; what was there ahead of the call stays. -/
structure Own1 (w : World) (mb : Nat) (c m : Int) (w' : World) : Prop where
  below : Below w.heap.size w w'
  own : w.heap.size ≤ mb
  mt : MAt w' (some mb) c m
section
variable {w w' w'' : World} {mb : Nat} {c m c' m' : Int}
theorem Own1.turn (h : Own1 w mb c m w') (hm : MAt w'' (some mb) c' m') (hb : Bt (some mb) w' w'') : Own1 w mb c' m' w'' :=
  ⟨hb.below h.below (fun b e => by cases e; exact h.own) h.below.size, h.own, hm⟩
theorem Own1.stay (h : Own1 w mb c m w') (hb : Below w'.heap.size w' w'') : Own1 w mb c m w'' := ⟨h.below.trans (hb.mono h.below.size), h.own, h.mt.stay hb⟩
end

theorem text_1 : textOf 1 0 = [49, 58, 48] := by
  unfold textOf Lib.itoa
  rw [if_neg (by omega), if_neg (by omega)]
  rw [show (1 : Int).toNat = 1 from rfl, show (0 : Int).toNat = 0 from rfl, Lib.decDigits_one (by omega), Lib.decDigits_one (by omega)]
  rfl
theorem text_2 : textOf 2 0 = [50, 58, 48] := by
  unfold textOf Lib.itoa
  rw [if_neg (by omega), if_neg (by omega)]
  rw [show (2 : Int).toNat = 2 from rfl, show (0 : Int).toNat = 0 from rfl, Lib.decDigits_one (by omega), Lib.decDigits_one (by omega)]
  rfl
theorem text_3 : textOf 3 0 = [51, 58, 48] := by
  unfold textOf Lib.itoa
  rw [if_neg (by omega), if_neg (by omega)]
  rw [show (3 : Int).toNat = 3 from rfl, show (0 : Int).toNat = 0 from rfl, Lib.decDigits_one (by omega), Lib.decDigits_one (by omega)]
  rfl
/-- The example's two trees. -/
def exT : Tre := ⟨(1, 0), [], .cons (2, 0) [] .nil .nil⟩
def exS : Tre := ⟨(1, 0), [(3, 0)], .cons (2, 0) [] .nil .nil⟩
theorem exT_link : olnk (some (leafT (2, 0))) (some (leafT (1, 0))) = some exT := by
  show some (lnk (leafT (2, 0)) (leafT (1, 0))) = some exT
  rw [lnk_lt (show ltE (1, 0) (2, 0) = true by rw [ltE_iff]; simp)]
  rfl
theorem exS_skew : oskw (3, 0) (some (leafT (2, 0))) (some (leafT (1, 0))) = some exS := by
  unfold oskw
  rw [exT_link]
  show some (skw (3, 0) exT) = some exS
  rw [skw_lt (show ltE (1, 0) (3, 0) = true by rw [ltE_iff]; simp)]
  rfl
theorem exT_show : oshow (some exT) = [40, 49, 58, 48, 32, 40, 50, 58, 48, 41, 41] := by
  simp only [oshow, Tre.show, exT, Wood.show, besideText, List.flatMap_nil, text_1, text_2]
  rfl
theorem exS_show : oshow (some exS) = [40, 49, 58, 48, 32, 43, 51, 58, 48, 32, 40, 50, 58, 48, 41, 41] := by
  simp only [oshow, Tre.show, exS, Wood.show, besideText, List.flatMap_nil, List.flatMap_cons, text_1, text_2, text_3]
  rfl
theorem exT_right : oright (some exT) = true := by
  have h1 : ltE (2, 0) (1, 0) = false := by rw [ltE_not]; simp
  simp [oright, Tre.right, exT, Wood.right, besideOk, Wood.len, h1]
theorem exT_fits : fits (oall (some exT)) := by
  intro e he
  simp [oall, Tre.all, exT, Wood.all] at he
  rcases he with rfl | rfl <;> simp [in64]
theorem exS_fits : fits (oall (some exS)) := by
  intro e he
  simp [oall, Tre.all, exS, Wood.all] at he
  rcases he with rfl | rfl | rfl <;> simp [in64]

set_option maxRecDepth 100000 in
set_option maxHeartbeats 4000000 in
theorem awake_any (w : World) (he : Env w) : Calls Tryd.prog 8 #[] w fun e w' => e = .returned (.bool true) ∧ Below w.heap.size w w' := by
  have HE := Lib.hid he
  clear he
  go_enter Tryd.func8, Tryd.ntmps8
  go_wp2_with fail
  ((with_reducible refine (mNew _).mono ?_); rintro e w1 ⟨rfl, hm1, hb1⟩)
  have O1 := Lib.hid (Own1.mk hb1 (Nat.le_refl _) hm1)
  clear hm1 hb1
  obtain ⟨mb, hmb⟩ : ∃ mb, mb = w.heap.size := ⟨_, rfl⟩
  rw [← hmb] at O1
  rw [← hmb]
  clear hmb
  go_wp2_with fail
  ((with_reducible refine (leaf_any (some mb) 0 0 (2, 0) _ O1.out.mt (by omega) (by omega)).mono ?_); rintro e w2 ⟨pa, rfl, hta, hm2, hb2⟩)
  have O2 := Lib.hid (O1.out.turn hm2 hb2)
  have TA2 := Lib.hid hta
  clear hm2 hb2 hta O1
  go_wp2_with fail
  ((with_reducible refine (leaf_any (some mb) 0 (0 + 1) (1, 0) _ O2.out.mt (by omega) (by omega)).mono ?_); rintro e w3 ⟨pb, rfl, htb, hm3, hb3⟩)
  have O3 := Lib.hid (O2.out.turn hm3 hb3)
  have TA3 := Lib.hid (And.intro (TA2.out.kp (hb3.kp O2.out.mt)) htb)
  clear hm3 hb3 htb O2 TA2
  go_wp2_with fail
  ((with_reducible refine (link_any (some mb) 0 (0 + 1 + 1) pa pb _ _ _ O3.out.mt (by omega) (by omega) (by omega) (by omega) TA3.out.1 TA3.out.2 (by decide) (by decide)).mono ?_); rintro e w4 ⟨pt, rfl, htt, hm4, hb4⟩)
  have O4 := Lib.hid (O3.out.turn hm4 hb4)
  have TA4 := Lib.hid (And.intro (TA3.out.1.kp (hb4.kp O3.out.mt)) (And.intro (TA3.out.2.kp (hb4.kp O3.out.mt)) (exT_link ▸ htt)))
  clear hm4 hb4 htt O3 TA3
  go_wp2_with fail
  ((with_reducible refine (skew_any (some mb) _ _ (3, 0) pa pb _ _ _ O4.out.mt (by decide) (by decide) (by decide) (by decide) TA4.out.1 TA4.out.2.1 (by decide) (by decide)).mono ?_); rintro e w5 ⟨ps, rfl, hts, hm5, hb5⟩)
  have O5 := Lib.hid (show Own1 w mb 3 5 w5 from O4.out.turn hm5 hb5)
  have TA5 := Lib.hid (And.intro (TA4.out.2.2.kp (hb5.kp O4.out.mt)) (exS_skew ▸ hts))
  clear hm5 hb5 hts O4 TA4
  go_wp2_with fail
  ((with_reducible refine (root_any pt _ _ TA5.out.1).mono ?_); rintro e w6 ⟨rfl, hb6⟩)
  rw [show rootV (some exT) = .tuple #[.agg #[.int .i64 1, .int .i64 0], .bool true] from rfl]
  have HR := Lib.hid (fun W (hb : Below w5.heap.size w5 W) => And.intro (TA5.out.1.stay hb) (And.intro (TA5.out.2.stay hb) (And.intro (O5.out.mt.stay hb) (And.intro (HE.out.below (O5.out.below.trans (hb.mono O5.out.below.size))) (O5.out.below.trans (hb.mono O5.out.below.size))))))
  have B6 := Lib.hid hb6
  clear hb6 O5 TA5 HE
  go_wp2_with fail
  have P7 := PairAt.new w6 1 0 28
  have B7 := Lib.hid (B6.out.trans (((Below.refl w6.heap.size w6).alloc (Nat.le_refl _) (.cells #[.int .i64 1, .int .i64 0] 28)).mono B6.out.size))
  generalize w6.alloc (.cells #[.int .i64 1, .int .i64 0] 28) = w7 at *
  ((with_reducible refine (show_any pt (some exT) _ (HR.out _ B7.out).2.2.2.1 (HR.out _ B7.out).1 exT_fits (by decide)).mono ?_); rintro e w8 ⟨rfl, hb8⟩)
  rw [exT_show]
  have P8 := P7.below hb8 P7.lt
  have B8 := Lib.hid (B7.out.trans (hb8.mono B7.out.size))
  clear hb8 P7 B7
  go_wp2_with fail
  ((with_reducible refine (show_any ps (some exS) _ (HR.out _ B8.out).2.2.2.1 (HR.out _ B8.out).2.1 exS_fits (by decide)).mono ?_); rintro e w9 ⟨rfl, hb9⟩)
  rw [exS_show]
  have P9 := P8.below hb9 P8.lt
  have c0 := P9.c0
  have B9 := Lib.hid (B8.out.trans (hb9.mono B8.out.size))
  clear hb9 P8 B8 P9
  go_wp2_with fail
  ((with_reducible refine (rank_any pt (some exT) _ (HR.out _ B9.out).1).mono ?_); rintro e w10 ⟨rfl, rfl⟩)
  rw [show orank (some exT) = 1 from rfl]
  go_wp2_with fail
  ((with_reducible refine (size_any ps (some exS) _ (HR.out _ B9.out).2.1 (by decide)).mono ?_); rintro e w10 ⟨rfl, rfl⟩)
  rw [show ((osize (some exS) : Nat) : Int) = 3 from rfl]
  go_wp2_with fail
  ((with_reducible refine (mSteps mb 3 5 _ (HR.out _ B9.out).2.2.1 (by decide) (by decide) (by decide) (by decide)).mono ?_); rintro e w11 ⟨rfl, hb11⟩)
  have B11 := Lib.hid (B9.out.trans (hb11.mono B9.out.size))
  clear hb11 B9 c0
  go_wp2_with fail
  ((with_reducible refine (right_any pt (some exT) _ (HR.out _ B11.out).1 (by decide)).mono ?_); rintro e w12 ⟨rfl, hb12⟩)
  rw [exT_right]
  have B12 := Lib.hid (B11.out.trans (hb12.mono B11.out.size))
  clear hb12 B11
  go_wp2_with fail
  ((with_reducible refine (all_any ps (some exS) _ (HR.out _ B12.out).2.1 (by decide)).mono ?_); rintro e w13 ⟨v, rfl, hown, hb13⟩)
  obtain ⟨A, k, rfl, -⟩ := hown.form
  rw [show (oall (some exS)).length = 3 from rfl]
  have B13 := Lib.hid (HR.out _ (B12.out.trans (hb13.mono B12.out.size))).2.2.2.2
  clear hb13 B12 HR hown
  go_wp2_with fail
  go_ret
  exact ⟨rfl, B13.out⟩

end Go.Proofs.YtlkpmafgokoaiaaDoor
