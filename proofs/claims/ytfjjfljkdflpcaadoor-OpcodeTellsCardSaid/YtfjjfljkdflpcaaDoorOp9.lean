/-
  The contract of the reference's Build: of any script that is told in fewer than a million numbers: what it returns is a row of these numbers, of its own; nothing that was there has changed.
-/
import Derived.Test.YtfjjfljkdflpcaaDoorOp8
namespace Go.Proofs.YtfjjfljkdflpcaaDoor
open Go.Sort Go.RowKit

/-- What stands at the head of each round of the reference's Build: the script's own variable stays. -/
structure RBuildAt (w : World) (base : Nat) (r : Int) (s : Value) (xs : List OpD) (v i : Value) (wr : World) (j : Nat) : Prop where
  at_ : BuildAt w base r xs v i wr j
  var : Two 34 wr w.heap.size (.int .i64 r) s
  lt : w.heap.size < base
def RBuildRel (w : World) (base : Nat) (r : Int) (s : Value) (xs : List OpD) (v i : Value) (wr : World) : Prop := ∃ j, RBuildAt w base r s xs v i wr j

set_option maxRecDepth 100000 in
set_option maxHeartbeats 4000000 in
theorem rbuild_any {r : Int} {B : Option Addr} {k c : Nat} {ps : List OpV} {xs : List OpD} {w : World} (ho : OpsAt w B k c ps xs) (hs : (flat xs).length < 1000000) (hk : k < 1000000) :
    Calls Tryd.prog 12 #[.agg #[.int .i64 r, .slice B k c]] w (BuildPost r xs w) := by
  have hlen : k = xs.length := ho.n.trans ho.tells.length
  have HO := Lib.hid ho
  have HL := Lib.hid hlen
  have HS := Lib.hid hs
  have s1 := (Two.new 34 w (.int .i64 r) (.slice B k c)).alloc (.cells #[.int .i64 r] 2)
  have HV := Lib.hid s1
  have HB := Lib.hid (((Below.refl w.heap.size w).alloc (Nat.le_refl _) (.cells #[.int .i64 r, .slice B k c] 34)).alloc (by simp) (.cells #[.int .i64 r] 2))
  have HM := Lib.hid (MineN.new (w.alloc (.cells #[.int .i64 r, .slice B k c] 34)) r)
  clear ho hlen hs s1
  go_enter Tryd.func12, Tryd.ntmps12
  go_wp2_with fail
  go_loopw [3, 4] (fun v i wr => RBuildRel w (w.heap.size + 1) r (.slice B k c) xs v i wr) (fun _ i _ => k - (intOf i).toNat)
  case atStart => exact ⟨0, ⟨rfl, Nat.zero_le _, by have h1 := HM.out; rw [List.take_zero, flat_nil]; simpa using h1, HB.out, by omega, by simp⟩, HV.out, by omega⟩
  case round =>
    obtain ⟨j, hrel, hvar, hltb⟩ := hrel
    obtain rfl := hrel.i
    have H := Lib.hid hrel
    have V := Lib.hid hvar
    have v1 := hvar.c1
    clear hvar hltb
    by_cases hjk : j = k
    · clear hrel
      subst hjk
      go_wp2_with fail
      go_ret
      have hm := H.out.mine
      rw [List.take_of_length_le (by have := HL.out; omega)] at hm
      obtain ⟨A, n, c, e, hr, -⟩ := MineN.rd hm
      exact ⟨A, n, c, by rw [← e]; rfl, hr, H.out.below⟩
    · have hj : j < k := by have := hrel.le; have := HL.out; omega
      have hjp : j < ps.length := by have := HO.out.n; omega
      have hjx : j < xs.length := by have := HL.out; omega
      obtain ⟨b, o, rfl, hcell⟩ := HO.out.row (by omega)
      have h0 := hcell j hjp
      have ht := HO.out.tells.at j hjp hjx
      have hft := flat_take xs j hjx
      have hle : (flat (xs.take (j + 1))).length < 1000000 := Nat.lt_of_le_of_lt (flat_le xs (j + 1)) HS.out
      generalize ps[j] = p at *
      generalize xs[j] = x at *
      obtain ⟨pc, pA, pn, pcap⟩ := p
      obtain ⟨xc, xa⟩ := x
      obtain ⟨e1, e2, hrow, hle1, hmax, hnil⟩ := ht
      simp only at h0 e1 e2 hrow hle1 hmax hnil hft
      subst e1
      have hb := lt_of_cell h0.1
      simp only at hb
      have q0 := (hrel.below.cell (p := ⟨b, o + j * 2, none⟩) hb).trans h0.1
      have q1 := (hrel.below.cell (p := ⟨b, o + j * 2 + 1, none⟩) hb).trans h0.2
      have RB := hrel.below.alloc hrel.below.size (.cells #[.int .i64 pc] 2)
      have hba := hrel.base
      have hm2 : MineN (wr.alloc (.cells #[.int .i64 pc] 2)) (w.heap.size + 1) u3 (r :: flat (xs.take j)) := hrel.mine.stay ((Below.refl _ _).alloc (Nat.le_refl _) _)
      have hrow2 : Row1 nm (wr.alloc (.cells #[.int .i64 pc] 2)) (some ⟨wr.heap.size, 0, none⟩) [pc] := row_new wr [pc] 2
      have hl1 := congrArg List.length hft
      simp only [List.length_append, List.length_cons] at hl1
      have hrun1 := append_num _ (w.heap.size + 1) u3 _ [pc] _ 1 1 rfl hm2 hrow2 (fun e => by cases e) (by simp only [List.length_cons, List.length_nil]; omega) (by simp; omega)
      have HA := Lib.hid (And.intro RB (And.intro hm2 (And.intro hrow (And.intro hnil (And.intro e2 (And.intro hft (And.intro hl1 hle)))))))
      have HRUN := Lib.hid hrun1
      have HQ := Lib.hid (And.intro hb (And.intro h0 hba))
      have n1 : (j : Int) < (k : Int) := by omega
      have n2 : (0 : Int) ≤ (j : Int) := by omega
      clear hrel hcell hft hrow hnil hle1 hmax RB hm2 hrow2 hl1 hle hrun1 hjp hjx hba e2 h0 hb
      go_wp2_with (first
        | (at_builtin; refine wpList_append_ex rfl _ _ _ rfl _ _ rfl rfl HRUN.out ?_; rintro v5 w1 ⟨hm1, hg1, -⟩; have M1 := Lib.hid hm1; have hba := HQ.out.2.2; have hb1 := below_grown HA.out.1 hg1 HA.out.1.size (fun g e => by have := (World.ownsRow.lt H.out.mine g e).1; omega); have B1 := Lib.hid hb1; have T1 := Lib.hid (Two.far (V.out.alloc (.cells #[.int .i64 pc] 2)) (w' := w1) (fun q e => hg1.block q (by rw [e]; simp; omega) (by rw [e]; intro e2; have := (World.ownsRow.lt H.out.mine _ e2.symm).1; omega))); have t1 := T1.out.c1; have S1 := Lib.hid (hg1.size); have q2 := (hb1.cell (p := ⟨b, o + j * 2 + 1, none⟩) HQ.out.1).trans HQ.out.2.1.2; clear hm1 hg1 hba hb1)
        | (at_builtin; refine wpList_append_ex rfl _ _ _ rfl _ _ rfl rfl (append_num (w1.alloc (.cells #[.int .i64 pn] 2)) (w.heap.size + 1) v5 _ [(pn : Int)] (some ⟨w1.heap.size, 0, none⟩) 1 1 rfl (M1.out.stay ((Below.refl _ _).alloc (Nat.le_refl _) _)) (row_new w1 [(pn : Int)] 2) (fun e => by cases e) ?_ ?_) ?_; (have := HA.out.2.2.2.2.2.2; simp only [List.length_append, List.length_cons, List.length_nil]; omega); (have hs1 := S1.out; have hs2 := HQ.out.2.2; simp at hs1; simp; omega); rintro v6 w2 ⟨hm2, hg2, -⟩; have M2 := Lib.hid hm2; have hs1 := S1.out; have hba := HQ.out.2.2; have hb2 := below_grown (B1.out.alloc B1.out.size (.cells #[.int .i64 pn] 2)) hg2 (Nat.le_trans B1.out.size (by simp)) (fun g e => by have := (World.ownsRow.lt M1.out g e).1; omega); have B2 := Lib.hid hb2; have T2 := Lib.hid (Two.far (T1.out.alloc (.cells #[.int .i64 pn] 2)) (w' := w2) (fun q e => hg2.block q (by rw [e]; simp; simp at hs1; omega) (by rw [e]; intro e2; have := (World.ownsRow.lt M1.out _ e2.symm).1; omega))); have t2 := T2.out.c1; have S2 := Lib.hid hg2.size; have q3 := (hb2.cell (p := ⟨b, o + j * 2 + 1, none⟩) HQ.out.1).trans HQ.out.2.1.2; clear hm2 hg2 hba hb2 hs1)
        | (at_builtin; refine wpList_append_ex rfl _ _ _ rfl _ _ rfl rfl (append_num w2 (w.heap.size + 1) v6 _ xa pA pn pcap HA.out.2.2.2.2.1 M2.out (HA.out.2.2.1.stay B2.out) HA.out.2.2.2.1 ?_ ?_) ?_; (have := HA.out.2.2.2.2.2.2; simp only [List.length_append, List.length_cons, List.length_nil]; omega); (have hs1 := S1.out; have hs2 := S2.out; have hs3 := HQ.out.2.2; simp at hs1 hs2; omega); rintro v7 w3 ⟨hm3, hg3, -⟩; have M3 := Lib.hid hm3; have hs1 := S1.out; have hs2 := S2.out; have hba := HQ.out.2.2; have B3 := Lib.hid (below_grown B2.out hg3 B2.out.size (fun g e => by have := (World.ownsRow.lt M2.out g e).1; omega)); have T3 := Lib.hid (Two.far T2.out (w' := w3) (fun q e => hg3.block q (by rw [e]; simp at hs1 hs2; omega) (by rw [e]; intro e2; have := (World.ownsRow.lt M2.out _ e2.symm).1; omega))); have S3 := Lib.hid hg3.size; clear hm3 hg3 hba hs1 hs2))
      have hm := M3.out
      have hft := HA.out.2.2.2.2.2.1
      rw [← HA.out.2.2.2.2.1] at hft
      have e3 : r :: flat (xs.take j) ++ [pc] ++ [(pn : Int)] ++ xa = r :: flat (xs.take (j + 1)) := by rw [hft]; simp
      rw [e3] at hm
      have hs1 := S1.out
      have hs2 := S2.out
      have hs3 := S3.out
      have hs4 := HQ.out.2.2
      simp at hs1 hs2
      exact ⟨⟨j + 1, ⟨by go_num, by have := HL.out; omega, hm, B3.out, by omega, by omega⟩, T3.out, by omega⟩, by simp [intOf]; omega⟩

end Go.Proofs.YtfjjfljkdflpcaaDoor
