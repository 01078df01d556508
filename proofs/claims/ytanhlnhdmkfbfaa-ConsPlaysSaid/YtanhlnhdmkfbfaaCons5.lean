/-
  Contract of package cons at ints: All. Which row it returns, in memory of its own, and that nothing that was there has changed. Condition: fewer than 2 to the 31st things.
-/
import Derived.Test.YtanhlnhdmkfbfaaCons2
import Derived.Test.YtanhlnhdmkfbfaaRow1
namespace Go.Proofs.Ytanhlnhdmkfbfaa
open Go.Sort Go.RowKit Go.Shelf

attribute [local go_sem] Oper.semAt_some

theorem infoOne : (Try.prog.info? 3).map (fun i => (i.zero, i.size, i.bytes)) = some (some (one zero), 1, 8) := by kernel_rfl

/-- What stands between two rounds of All: the variable holds a row of its own with what has come. -/
def AllRel (w : World) (B m : Nat) (pre : List El) (W : World) : Prop :=
  (∃ v, Boxed W B 22 v ∧ W.ownsRow m 3 1 v pre.length (pre.map one) ∧ True) ∧ Below w.heap.size w W

set_option maxRecDepth 100000 in
set_option maxHeartbeats 2000000 in
theorem all_any (p : Option Addr) (xs : List El) (w : World) (hp : Ch one 57 w p xs) (h2 : xs.length < 2147483648) :
    Calls Try.prog 20 #[lst p xs.length] w fun e w' =>
      ∃ v, e = .returned v ∧ Mine one 3 w' w.heap.size v xs ∧ Below w.heap.size w w' := by
  obtain ⟨i0, hi, hz0, hz1, hz2⟩ := info_parts infoOne
  refine (callsIn_wide (n := 3)).1 ?_
  refine callsIn_of_wp_marks Try.func20 rfl trivial ?_ rfl
  simp only [Try.ntmps20, List.size_toArray, List.length_cons, List.length_nil, Nat.reduceAdd, Nat.reduceSub, Array.replicate_succ, Array.replicate_zero, List.push_toArray, List.append_toArray, List.nil_append, List.cons_append]
  have HP := Lib.hid hp
  clear hp
  gi_wp2_with (refine wpListIn_make_own _ rfl _ _ 22 rfl w.heap.size 3 i0 (one zero) 1 Try.underlying22 hi hz0 hz1 .i64 .i64 (xs.length : Int) xs.length rfl rfl rfl (by rw [hz2]; omega) (by unfold maxLen; omega) (by simp) ?_; intro w1 hown hgrow; have hb1 : Below (w.alloc (.cells #[.pointer p, .int .i64 xs.length] 27)).heap.size (w.alloc (.cells #[.pointer p, .int .i64 xs.length] 27)) w1 := ⟨hgrow.os, hgrow.tape, hgrow.output, hgrow.size, fun k hk => hgrow.block k hk (by simp)⟩; have bL := ((Box2.new w 27 (.pointer p) (.int .i64 xs.length)).stay hb1).alloc (.cells #[.slice (some ⟨w.heap.size + 1, 0, none⟩) 0 xs.length] 22); have c0 := bL.c0; have c1 := bL.c1)
  have hs1 := hb1.size
  simp only [World.size_alloc] at hs1 hown
  have hB0 : Below w.heap.size w (w1.alloc (.cells #[.slice (some ⟨w.heap.size + 1, 0, none⟩) 0 xs.length] 22)) := (((Below.refl w.heap.size w).alloc (Nat.le_refl _) _).trans (hb1.mono (by simp))).alloc (by omega) _
  have bV := Boxed.new w1 22 (.slice (some ⟨w.heap.size + 1, 0, none⟩) 0 xs.length)
  have HO := Lib.hid (hown.alloc (.cells #[.slice (some ⟨w.heap.size + 1, 0, none⟩) 0 xs.length] 22))
  have HT := each_tells p xs xs.length (3 - 1) (by omega) w.heap.size _ hB0.size (Chain.below hB0 HP.out)
  have HS := Lib.hid (show w.heap.size + 1 ≤ w1.heap.size from hs1)
  clear hown hgrow hb1 bL c0 c1 hs1
  refine range_bound rfl (by omega) (gf := 29) (fs := #[lst p xs.length]) rfl trivial (enters_of Try.func29 (by kernel_rfl) rfl) HT hB0.size (AllRel w w1.heap.size w.heap.size)
    (OwnFrom.and (Own.from (holdsRow_own w.heap.size w1.heap.size 22 3 1 (fun pre : List El => pre.length) (fun pre => pre.map one) (fun _ _ => True)) _) (ownFrom_below (Nat.le_refl _) hB0.size))
    ⟨⟨_, bV, HO.out, trivial⟩, hB0⟩
    (fun x => { tmps := #[lst p xs.length, .pointer (some ⟨w.heap.size, 0, none⟩), .slice none 0 0, .pointer (some ⟨w1.heap.size, 0, none⟩), one x, .pointer (some ⟨w.heap.size, 1, none⟩), .int .i64 xs.length, .slice (some ⟨w.heap.size + 1, 0, none⟩) 0 xs.length, lst p xs.length, .func (.func 29) #[lst p xs.length] #[], one x, undef, undef, undef, undef, undef], defers := [] }) ?assign ?body ?done
  case assign =>
    intro l x W K hK
    gi_wp2
    exact hK
  case body =>
    rintro l pre x W ⟨⟨v, hv, hrow, -⟩, hB⟩ hlt
    have hc := hv.cell
    clear HT hB0 bV HO HP
    gi_wp2_with (gi_at_builtin; refine wpListIn_append_own _ rfl _ _ 22 rfl w.heap.size 3 i0 (one zero) 1 8 Try.underlying22 hi hz0 hz1 hz2 rfl (by decide) _ _ _ rfl (hrow.alloc _) ⟨W.heap.size, 0, none⟩ 1 1 [one x] rfl rfl (cell_one_new _ _ _) (by simp [Value.oneCell']) (by unfold maxLen; omega) (by omega) (by have := hB.size; simp; omega) ?_; intro v' w2 hown' hgrow _; obtain ⟨g', cap', rfl⟩ := ownsRow_succ hown'; obtain ⟨hv1, hv2, hr2, hk2, hb2⟩ := hv.appended (by decide) hrow hB.size (by have := HS.out; omega) hown' hgrow; have hc1 := hv1.cell; have hf1 := hv1.frozen)
    exact ⟨hk2.from _, hb2, ⟨_, hv2, by simpa using hr2, trivial⟩, hB.trans hb2⟩
  case done =>
    rintro D W hD ⟨⟨v, hv, hrow, -⟩, hB⟩ hK
    have hc := hv.cell
    clear HT bV HO HP
    gi_wp2
    refine ⟨by simp, .inl ⟨_, _, rfl, run_takeDeferred hK, ?_⟩⟩
    exact ⟨_, results_tmp rfl _ _ _, v, rfl, ownsRow_putObj hrow _ hK rfl, hB.trans (belowK_b (w := w) (Nat.le_refl _) W D _ _ (Nat.le_trans hB0.size hD) hK rfl rfl)⟩

end Go.Proofs.Ytanhlnhdmkfbfaa
