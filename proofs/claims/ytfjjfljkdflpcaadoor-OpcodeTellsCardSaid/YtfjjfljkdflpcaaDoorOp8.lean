/-
  The contract of the program's Build: of any script that is told in fewer than a million numbers: what it returns is a row of these numbers, of its own; nothing that was there has changed.
-/
import Derived.Test.YtfjjfljkdflpcaaDoorOp6
namespace Go.Proofs.YtfjjfljkdflpcaaDoor
open Go.Sort Go.RowKit

/-- What Build hands back. -/
def BuildPost (r : Int) (xs : List OpD) (w : World) (e : Ending) (w' : World) : Prop :=
  ∃ A n c, e = .returned (.slice A n c) ∧ RdN w' A n c (build r xs) ∧ Below w.heap.size w w'

/-- What stands at the head of each round of Build. -/
structure BuildAt (w : World) (base : Nat) (r : Int) (xs : List OpD) (v i : Value) (wr : World) (j : Nat) : Prop where
  i : i = .int .i64 j
  le : j ≤ xs.length
  mine : MineN wr base v (r :: flat (xs.take j))
  below : Below w.heap.size w wr
  base : w.heap.size ≤ base ∧ base ≤ wr.heap.size
def BuildRel (w : World) (base : Nat) (r : Int) (xs : List OpD) (v i : Value) (wr : World) : Prop := ∃ j, BuildAt w base r xs v i wr j

theorem flat_take (xs : List OpD) (j : Nat) (h : j < xs.length) : flat (xs.take (j + 1)) = flat (xs.take j) ++ (xs[j].code :: (xs[j].args.length : Int) :: xs[j].args) := by
  rw [List.take_succ_eq_append_getElem h, flat_append, flat_one]
  rfl
theorem flat_le (xs : List OpD) (j : Nat) : (flat (xs.take j)).length ≤ (flat xs).length := by
  conv => rhs; rw [← List.take_append_drop j xs, flat_append, List.length_append]
  omega

theorem MineN.new (w : World) (r : Int) : MineN (w.alloc (.cells #[.int .i64 r] 2)) w.heap.size (.slice (some ⟨w.heap.size, 0, none⟩) 1 1) [r] :=
  ⟨rfl, .inr ⟨w.heap.size, 1, #[.int .i64 r], rfl, Nat.le_refl _, heap_alloc_new w _, Nat.le_refl _, by unfold maxLen; omega, rfl, rfl⟩⟩
theorem MineN.stay {w w' : World} {base : Nat} {v : Value} {xs : List Int} (h : MineN w base v xs) (hb : Below w.heap.size w w') : MineN w' base v xs := Mine.stay h hb
theorem MineN.base {w : World} {base base' : Nat} {v : Value} {xs : List Int} (h : MineN w base v xs) (hb : base' ≤ base) : MineN w base' v xs := by
  rcases h with ⟨h1, h2⟩
  refine ⟨h1, ?_⟩
  rcases h2 with h2 | ⟨g, cap, cur, a, b, c⟩
  · exact .inl h2
  · exact .inr ⟨g, cap, cur, a, Nat.le_trans hb b, c⟩

set_option maxRecDepth 100000 in
set_option maxHeartbeats 4000000 in
theorem build_any {r : Int} {B : Option Addr} {k c : Nat} {ps : List OpV} {xs : List OpD} {w : World} (ho : OpsAt w B k c ps xs) (hs : (flat xs).length < 1000000) (hk : k < 1000000) :
    Calls Tryd.prog 14 #[.agg #[.int .i64 r, .slice B k c]] w (BuildPost r xs w) := by
  have hlen : k = xs.length := ho.n.trans ho.tells.length
  have HO := Lib.hid ho
  have HL := Lib.hid hlen
  have HS := Lib.hid hs
  have s1 := (Two.new 25 w (.int .i64 r) (.slice B k c)).alloc (.cells #[.int .i64 r] 2)
  have c1 := s1.c1
  have HB := Lib.hid (((Below.refl w.heap.size w).alloc (Nat.le_refl _) (.cells #[.int .i64 r, .slice B k c] 25)).alloc (by simp) (.cells #[.int .i64 r] 2))
  have HM := Lib.hid (MineN.new (w.alloc (.cells #[.int .i64 r, .slice B k c] 25)) r)
  clear ho hlen hs s1
  go_enter Tryd.func14, Tryd.ntmps14
  go_wp2_with fail
  go_loopw [3, 12] (fun v i wr => BuildRel w (w.heap.size + 1) r xs v i wr) (fun _ i _ => k - (intOf i).toNat)
  case atStart => exact ⟨0, rfl, Nat.zero_le _, by have h1 := HM.out; rw [List.take_zero, flat_nil]; simpa using h1, HB.out, by omega, by simp⟩
  case round =>
    obtain ⟨j, hrel⟩ := hrel
    obtain rfl := hrel.i
    have H := Lib.hid hrel
    by_cases hjk : j = k
    · clear hrel
      subst hjk
      go_wp2_with fail
      go_ret
      have hm := H.out.mine
      rw [List.take_of_length_le (by have := HL.out; omega)] at hm
      obtain ⟨A, n, c, e, hr, -⟩ := MineN.rd hm
      exact ⟨A, n, c, by rw [← e]; rfl, hr, H.out.below⟩
    · have hj : j < k := by have := hrel.le; have := HL.out; omega
      have hjp : j < ps.length := by have := HO.out.n; omega
      have hjx : j < xs.length := by have := HL.out; omega
      obtain ⟨b, o, rfl, hcell⟩ := HO.out.row (by omega)
      have h0 := hcell j hjp
      have ht := HO.out.tells.at j hjp hjx
      have hft := flat_take xs j hjx
      have hle : (flat (xs.take (j + 1))).length < 1000000 := Nat.lt_of_le_of_lt (flat_le xs (j + 1)) HS.out
      generalize ps[j] = p at *
      generalize xs[j] = x at *
      obtain ⟨pc, pA, pn, pcap⟩ := p
      obtain ⟨xc, xa⟩ := x
      obtain ⟨e1, e2, hrow, hle1, hmax, hnil⟩ := ht
      simp only at h0 e1 e2 hrow hle1 hmax hnil hft
      subst e1
      have hb := lt_of_cell h0.1
      have q0 := (hrel.below.cell (p := ⟨b, o + j * 2, none⟩) hb).trans h0.1
      have q1 := (hrel.below.cell (p := ⟨b, o + j * 2 + 1, none⟩) hb).trans h0.2
      have T1 := (Two.new 27 wr (.int .i64 pc) (.slice pA pn pcap)).alloc (.cells #[.int .i64 pc, .int .i64 pn] 2)
      have RB := hrel.below.alloc hrel.below.size (.cells #[.int .i64 pc, .slice pA pn pcap] 27)
      have RB2 := RB.alloc RB.size (.cells #[.int .i64 pc, .int .i64 pn] 2)
      have hba := hrel.base
      have hm2 : MineN ((wr.alloc (.cells #[.int .i64 pc, .slice pA pn pcap] 27)).alloc (.cells #[.int .i64 pc, .int .i64 pn] 2)) (w.heap.size + 1) u3 (r :: flat (xs.take j)) :=
        (hrel.mine.stay ((Below.refl _ _).alloc (Nat.le_refl _) _)).stay ((Below.refl _ _).alloc (Nat.le_refl _) _)
      have hrow2 : Row1 nm ((wr.alloc (.cells #[.int .i64 pc, .slice pA pn pcap] 27)).alloc (.cells #[.int .i64 pc, .int .i64 pn] 2)) (some ⟨wr.heap.size + 1, 0, none⟩) [pc, (pn : Int)] := by
        have h1 := row_new (wr.alloc (.cells #[.int .i64 pc, .slice pA pn pcap] 27)) [pc, (pn : Int)] 2
        rw [show (wr.alloc (.cells #[.int .i64 pc, .slice pA pn pcap] 27)).heap.size = wr.heap.size + 1 by simp] at h1
        exact h1
      have hl1 := congrArg List.length hft
      simp only [List.length_append, List.length_cons] at hl1
      have hrun1 := append_num _ (w.heap.size + 1) u3 _ [pc, (pn : Int)] _ 2 2 rfl hm2 hrow2 (fun e => by cases e) (by simp only [List.length_cons, List.length_nil]; omega) (by simp; omega)
      have HA := Lib.hid (And.intro T1 (And.intro RB2 (And.intro hm2 (And.intro hrow (And.intro hnil (And.intro e2 (And.intro hft (And.intro hl1 hle))))))))
      have HRUN := Lib.hid hrun1
      have n1 : (j : Int) < (k : Int) := by omega
      clear hrel hcell h0 hft hrow hnil hle1 hmax T1 RB RB2 hm2 hrow2 hl1 hle hrun1 hjp hjx hba e2
      go_wp2_with (first
        | (at_builtin; refine wpList_append_ex rfl _ _ _ rfl _ _ rfl rfl HRUN.out ?_; rintro v1 w1 ⟨hm1, hg1, -⟩; have M1 := Lib.hid hm1; have hba := H.out.base; have B1 := Lib.hid (below_grown HA.out.2.1 hg1 HA.out.2.1.size (fun g e => by have := (World.ownsRow.lt H.out.mine g e).1; omega)); have T1 := Lib.hid (Two.far HA.out.1 (w' := w1) (fun q e => hg1.block q (by rw [e]; exact HA.out.1.lt) (by rw [e]; intro e2; have := (World.ownsRow.lt H.out.mine _ e2.symm).2; omega))); have t0 := T1.out.c0; have t1 := T1.out.c1; have S1 := Lib.hid (hg1.size); clear hm1 hg1 hba)
        | (at_builtin; refine wpList_append_ex rfl _ _ _ rfl _ _ rfl rfl (append_num w1 (w.heap.size + 1) v1 _ xa pA pn pcap HA.out.2.2.2.2.2.1 M1.out (HA.out.2.2.2.1.stay B1.out) HA.out.2.2.2.2.1 ?_ ?_) ?_; (have := HA.out.2.2.2.2.2.2.2; simp only [List.length_append, List.length_cons, List.length_nil]; omega); (have hs1 := S1.out; have hs2 := H.out.base; simp at hs1; omega); rintro v2 w2 ⟨hm2, hg2, -⟩; have M2 := Lib.hid hm2; have B2 := Lib.hid (below_grown B1.out hg2 B1.out.size (fun g e => by have := (World.ownsRow.lt M1.out g e).1; omega)); have S2 := Lib.hid hg2.size; clear hm2 hg2))
      have hm := M2.out
      have hft := HA.out.2.2.2.2.2.2.1
      rw [← HA.out.2.2.2.2.2.1] at hft
      have e3 : r :: flat (xs.take j) ++ [pc, (pn : Int)] ++ xa = r :: flat (xs.take (j + 1)) := by rw [hft]; simp
      rw [e3] at hm
      have hs1 := S1.out
      have hs2 := S2.out
      have hs3 := H.out.base
      simp at hs1
      exact ⟨⟨j + 1, by go_num, by have := HL.out; omega, hm, B2.out, by omega, by omega⟩, by simp [intOf]; omega⟩

end Go.Proofs.YtfjjfljkdflpcaaDoor
