/-
  The walk of the statement OpcodeArgs: for every code and every two bytes it returns true, and nothing that was there has changed, in any world where the program's table holds what its text lays.
-/
import Derived.Test.YtfjjfljkdflpcaaDoorOp11
import Derived.Deep.OwnRows
namespace Go.Proofs.YtfjjfljkdflpcaaDoor
open Go.Sort Go.RowKit

/-- The cells of so many zeros. -/
def zeros (k : Nat) : Array Value := ((List.replicate k (0 : Int)).map nm).toArray
theorem made_zeros (k : Nat) : madeCells #[.int .i64 0] k = zeros k := by
  unfold madeCells zeros
  apply Array.ext
  · simp
  · intro i h1 h2
    simp only [Array.getElem_map, Array.getElem_range, List.getElem_toArray, List.getElem_map, List.getElem_replicate]
    simp [Nat.mod_one, nm]

theorem rd_zeros (w : World) (k : Nat) (h : k < 1000) : RdN (w.alloc (.cells (zeros k) 2)) (some ⟨w.heap.size, 0, none⟩) k k (List.replicate k 0) :=
  ⟨by simp, row_new w _ _, Nat.le_refl _, by omega, fun e => by cases e⟩

/-- What the law's own numbers are read as. -/
theorem parse_law (r c : Int) (k : Nat) (hr : 0 ≤ r ∧ r ≤ 64) (hk : k ≤ 4) : parse ([r, c, (k : Int)] ++ List.replicate k 0) = ⟨0, r, [⟨c, List.replicate k 0⟩]⟩ := by
  have h := parse_of_build r [⟨c, List.replicate k 0⟩] hr (by simp) (by simpa using hk)
  simpa [build, flat, OpD.flat] using h
theorem parse_law5 (r c : Int) (k : Nat) (hr : 0 ≤ r ∧ r ≤ 64) (hk : 4 < k) : parse ([r, c, (k : Int)] ++ List.replicate k 0) = ⟨10, 0, []⟩ := by
  show parse (r :: (c :: (k : Int) :: List.replicate k 0)) = _
  rw [parse_cons, if_neg (by omega)]
  exact scTail_form r [] c k _ (by simp) (by omega)

/-- What is known of an operation's code, beside a number of arguments. -/
inductive Known (c : Int) (k : Nat) : Prop
  | low (a : toldV c = 0) (b : decide (0 ≤ toldN c) = false) (d : rightN c k = 20) (e : decide (1 ≤ c) = false)
  | high (a : toldV c = 0) (b : decide (0 ≤ toldN c) = false) (d : rightN c k = 20) (e : decide (1 ≤ c) = true) (f : decide (c ≤ 22) = false)
  | other (t : Nat) (h3 : t ≤ 3) (a : toldV c = (t : Int)) (b : decide (0 ≤ toldN c) = true) (d : rightN c k = 10) (e : decide (1 ≤ c) = true) (f : decide (c ≤ 22) = true) (g : ((t : Int) != (k : Int)) = true)
  | same (h3 : k ≤ 3) (a : toldV c = (k : Int)) (b : decide (0 ≤ toldN c) = true) (d : rightN c k = 0) (e : decide (1 ≤ c) = true) (f : decide (c ≤ 22) = true)
theorem known (c : Int) (k : Nat) : Known c k := by
  by_cases h1 : c < 1
  · have h := toldN_out c (.inl h1)
    exact .low (by unfold toldV; rw [if_pos (by omega)]) (by rw [h]; rfl) (rightN_op (by omega)) (by simp; omega)
  · by_cases h2 : 22 < c
    · have h := toldN_out c (.inr h2)
      exact .high (by unfold toldV; rw [if_pos (by omega)]) (by rw [h]; rfl) (rightN_op (by omega)) (by simp; omega) (by simp; omega)
    · have h := toldN_in c (by omega)
      have h3 := toldN_lt c
      have hv : toldV c = toldN c := by unfold toldV; rw [if_neg (by omega)]
      by_cases h4 : toldN c = k
      · exact .same (by omega) (hv.trans h4) (by simpa using h) (rightN_ok h4) (by simp; omega) (by simp; omega)
      · exact .other (toldN c).toNat (by omega) (by rw [hv]; omega) (by simpa using h) (rightN_form h h4) (by simp; omega) (by simp; omega) (by rw [bne_iff_ne]; omega)

set_option maxRecDepth 100000 in
set_option maxHeartbeats 2000000 in
theorem args_law (c : Int) (n m : Nat) (hn : n < 256) (hm : m < 256) (w : World) (he : Env w) :
    Calls Tryd.prog 5 #[.int .i64 c, .int .u8 n, .int .u8 m] w fun e w' => e = .returned (.bool true) ∧ Below w.heap.size w w' := by
  have HE := Lib.hid he
  obtain ⟨k, hk⟩ : ∃ k : Nat, (n : Int) % 7 = (k : Int) := ⟨n % 7, by omega⟩
  obtain ⟨r, hr⟩ : ∃ r : Nat, (m : Int) % 65 = (r : Int) := ⟨m % 65, by omega⟩
  have hk6 : k ≤ 6 := by omega
  have hr64 : r ≤ 64 := by omega
  have hmk := run_make_row' (P := Tryd.prog) 22 2 (.int .i64 0) 8 Tryd.underlying22 infoN rfl .i64 .i64 k (by omega) (by omega)
  rw [made_zeros] at hmk
  clear he
  go_enter Tryd.func5, Tryd.ntmps5
  go_wp2_with fail
  ((with_reducible refine (awake_any _ HE.out).mono ?_); rintro e w1 ⟨rfl, hb1⟩)
  have b2 := hb1.alloc hb1.size (.cells (zeros k) 2)
  have b3 := b2.alloc b2.size (.cells #[.int .i64 c, .slice (some ⟨w1.heap.size, 0, none⟩) k k] 27)
  have B3 := Lib.hid b3
  have T3 := Two.new 27 (w1.alloc (.cells (zeros k) 2)) (.int .i64 c) (.slice (some ⟨w1.heap.size, 0, none⟩) k k)
  rw [show (w1.alloc (.cells (zeros k) 2)).heap.size = w1.heap.size + 1 by simp] at T3
  have T4 := Lib.hid (T3.alloc (.cells #[.int .i64 r, .int .i64 c, .int .i64 k] 2))
  have Z3 := Lib.hid ((rd_zeros w1 k (by omega)).stay ((Below.refl _ _).alloc (Nat.le_refl _) (.cells #[.int .i64 c, .slice (some ⟨w1.heap.size, 0, none⟩) k k] 27)))
  clear hb1 b2 b3 T3
  have E3 := Lib.hid (HE.out.below B3.out)
  go_wp2_with fail
  ((with_reducible refine (args_any c _ E3.out).mono ?_); rintro e w4 ⟨rfl, rfl⟩)
  have t0 := T4.out.c0
  have t1 := T4.out.c1
  have hsz : ((w1.alloc (.cells (zeros k) 2)).alloc (.cells #[.int .i64 c, .slice (some ⟨w1.heap.size, 0, none⟩) k k] 27)).heap.size = w1.heap.size + 1 + 1 := by simp
  have hmine : MineN (((w1.alloc (.cells (zeros k) 2)).alloc (.cells #[.int .i64 c, .slice (some ⟨w1.heap.size, 0, none⟩) k k] 27)).alloc (.cells #[.int .i64 r, .int .i64 c, .int .i64 k] 2)) (w1.heap.size + 1 + 1) (.slice (some ⟨w1.heap.size + 1 + 1, 0, none⟩) 3 3) [(r : Int), c, (k : Int)] := by
    have hnew := heap_alloc_new ((w1.alloc (.cells (zeros k) 2)).alloc (.cells #[.int .i64 c, .slice (some ⟨w1.heap.size, 0, none⟩) k k] 27)) (.cells #[.int .i64 r, .int .i64 c, .int .i64 k] 2)
    rw [hsz] at hnew
    exact ⟨rfl, .inr ⟨w1.heap.size + 1 + 1, 3, #[.int .i64 r, .int .i64 c, .int .i64 k], rfl, Nat.le_refl _, hnew, Nat.le_refl _, by unfold maxLen; omega, rfl, rfl⟩⟩
  have hz4 := Z3.out.stay ((Below.refl _ _).alloc (Nat.le_refl _) (.cells #[.int .i64 r, .int .i64 c, .int .i64 k] 2))
  have hrun := append_num _ _ _ _ _ _ k k hz4.1 hmine hz4.2.1 (fun e => by cases e) (by simp; omega) (by simp)
  have B4 := Lib.hid (B3.out.alloc B3.out.size (.cells #[.int .i64 r, .int .i64 c, .int .i64 k] 2))
  obtain ⟨v5, w5, hrun, hm5, hg5, -⟩ := hrun
  obtain ⟨A5, n5, c5, rfl, hr5, -⟩ := MineN.rd hm5
  have R5 := Lib.hid hr5
  have B5 := Lib.hid (below_grown B4.out hg5 B4.out.size (fun g e => by simp [Value.ownBlock] at e; have := B3.out.size; rw [hsz] at this; omega))
  have T5 := Lib.hid (Two.far T4.out (w' := w5) (fun q e => hg5.block q (by rw [e]; exact T4.out.lt) (by rw [e]; intro e2; simp [Value.ownBlock] at e2)))
  have N5 := Lib.hid (show n5 < 1000 by have := hr5.1; simp at this; omega)
  clear hsz hmine hz4 hm5 hg5 hr5
  by_cases h4 : 4 < k
  · have PP := Lib.hid (parse_law5 (r : Int) c k (by omega) h4)
    rcases known c k with ⟨ka, kb, kd, ke⟩ | ⟨ka, kb, kd, ke, kf⟩ | ⟨t, kh, ka, kb, kd, ke, kf, kg⟩ | ⟨kh, ka, kb, kd, ke, kf⟩
    all_goals try (exact absurd kh (by omega))
    all_goals
      rw [ka, kb]
      clear ka kb
      have KD := Lib.hid kd
      clear kd
      go_wp2_with (at_builtin; refine wpList_append_ex rfl _ _ _ rfl _ _ rfl rfl (R := fun v u => v = .slice A5 n5 c5 ∧ u = w5) ⟨_, _, hrun, rfl, rfl⟩ ?_; rintro v u ⟨rfl, rfl⟩)
      with_reducible refine (parse_any R5.out (by have := N5.out; omega)).mono ?_
      rintro e w6 ⟨B6, k6, c6, ps6, rfl, ho6, hb6⟩
      rw [PP.out] at ho6 ⊢
      have bb6 := B5.out.trans (hb6.mono B5.out.size)
      have B7 := Lib.hid (bb6.alloc bb6.size (.cells #[.int .i64 0, .slice B6 k6 c6] 25))
      have T7 := (T5.out.stay hb6).alloc (.cells #[.int .i64 0, .slice B6 k6 c6] 25)
      have t2 := T7.c0
      have t3 := T7.c1
      have E7 := Lib.hid (HE.out.below B7.out)
      clear ho6 hb6 bb6 T7
      go_wp2_with fail
      with_reducible refine (right_any c _ k k _ E7.out).mono ?_
      rintro e w8 ⟨rfl, hb8⟩
      rw [KD.out]
      have B8 := Lib.hid (B7.out.trans (hb8.mono B7.out.size))
      clear hb8
      go_wp2_with fail
      go_ret
      exact ⟨rfl, B8.out⟩
  · have PP := Lib.hid (parse_law (r : Int) c k (by omega) (by omega))
    rcases known c k with ⟨ka, kb, kd, ke⟩ | ⟨ka, kb, kd, ke, kf⟩ | ⟨t, kh, ka, kb, kd, ke, kf, kg⟩ | ⟨kh, ka, kb, kd, ke, kf⟩
    all_goals
      rw [ka, kb]
      clear ka kb
      have KD := Lib.hid kd
      clear kd
      go_wp2_with (at_builtin; refine wpList_append_ex rfl _ _ _ rfl _ _ rfl rfl (R := fun v u => v = .slice A5 n5 c5 ∧ u = w5) ⟨_, _, hrun, rfl, rfl⟩ ?_; rintro v u ⟨rfl, rfl⟩)
      with_reducible refine (parse_any R5.out (by have := N5.out; omega)).mono ?_
      rintro e w6 ⟨B6, k6, c6, ps6, rfl, ho6, hb6⟩
      rw [PP.out] at ho6 ⊢
      have bb6 := B5.out.trans (hb6.mono B5.out.size)
      have B7 := Lib.hid (bb6.alloc bb6.size (.cells #[.int .i64 r, .slice B6 k6 c6] 25))
      have T7 := (T5.out.stay hb6).alloc (.cells #[.int .i64 r, .slice B6 k6 c6] 25)
      have t2 := T7.c0
      have t3 := T7.c1
      have E7 := Lib.hid (HE.out.below B7.out)
      have O7 := Lib.hid (ho6.stay ((Below.refl _ _).alloc (Nat.le_refl _) (.cells #[.int .i64 r, .slice B6 k6 c6] 25)))
      have V7 := Lib.hid (Two.new 25 w6 (.int .i64 r) (.slice B6 k6 c6))
      clear ho6 hb6 bb6 T7
      go_wp2_with fail
      with_reducible refine (right_any c _ k k _ E7.out).mono ?_
      rintro e w8 ⟨rfl, hb8⟩
      rw [KD.out]
      have B8 := Lib.hid (B7.out.trans (hb8.mono B7.out.size))
      have O8 := O7.out.stay hb8
      have V8 := V7.out.stay hb8
      obtain ⟨hk8, b8, o8, A8, m8, hB8, q0, q1, -⟩ := ops_one O8
      subst hk8
      subst hB8
      simp only [List.length_replicate] at q0 q1
      have v0 := V8.c0
      have v1 := V8.c1
      clear hb8 O8 V8
      go_wp2_with fail
      go_ret
      exact ⟨rfl, B8.out⟩

end Go.Proofs.YtfjjfljkdflpcaaDoor
