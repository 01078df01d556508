/-
  The contract of the law's own plain: a script of the program's as one of the reference's: it reads as the same operations; nothing that was there has changed. Condition: fewer than a million operations.
-/
import Derived.Test.YtfjjfljkdflpcaaDoorOp6
import Derived.Deep.RegionLaw
namespace Go.Proofs.YtfjjfljkdflpcaaDoor
open Go.Sort Go.RowKit

/-- What plain hands back. -/
def PlainPost (r : Int) (k : Nat) (xs : List OpD) (w : World) (e : Ending) (w' : World) : Prop :=
  ∃ B c ps, e = .returned (.agg #[.int .i64 r, .slice B k c]) ∧ OpsAt w' B k c ps xs ∧ Below w.heap.size w w'

/-- What stands at the head of each round of plain. -/
structure PlainAt (w : World) (r : Int) (s : Value) (ps : List OpV) (i : Value) (wr : World) (j : Nat) (B : Option Addr) (c : Nat) : Prop where
  i : i = .int .i64 j
  le : j ≤ ps.length
  src : Two 25 wr w.heap.size (.int .i64 r) s
  res : Two 34 wr (w.heap.size + 1) (.int .i64 0) (.slice none 0 0)
  var : Two 34 wr (w.heap.size + 2) (.int .i64 r) (.slice B j c)
  own : OwnO 46 wr (w.heap.size + 3) (.slice B j c) (ps.take j)
  below : Below w.heap.size w wr
def PlainRel (w : World) (r : Int) (s : Value) (ps : List OpV) (i : Value) (wr : World) : Prop := ∃ j B c, PlainAt w r s ps i wr j B c

theorem plain_next {w wr w2 : World} {r : Int} {s : Value} {ps : List OpV} {i : Value} {j g2 c2 c3 : Nat} {B2 : Option Addr} {p : OpV} (H : PlainAt w r s ps i wr j B2 c2) (hj : j < ps.length) (e : ps.take (j + 1) = ps.take j ++ [p]) (hl : (ps.take j).length = j)
    (own : OwnO 46 w2 (w.heap.size + 3) (.slice (some ⟨g2, 0, none⟩) ((ps.take j).length + 1) c3) (ps.take j ++ [p])) (hy3 : Below (w.heap.size + 3) wr.drew w2)
    (V2 : Two 34 w2 (w.heap.size + 2) (.int .i64 r) (.slice B2 j c2)) : PlainRel w r s ps (.int .i64 ((j : Int) + 1)) (w2.setCell ⟨w.heap.size + 2, 1, none⟩ (.slice (some ⟨g2, 0, none⟩) (j + 1) c3)) := by
  rw [hl, ← e] at own
  have st : ∀ {t : TypeId} {b : Nat} {x v : Value}, Two t wr b x v → b < w.heap.size + 2 → Two t (w2.setCell ⟨w.heap.size + 2, 1, none⟩ (.slice (some ⟨g2, 0, none⟩) (j + 1) c3)) b x v := fun h hb =>
    (Two.far (h.drew) (w' := w2) (fun k ek => hy3.block k (by omega))).other (by simp only; omega) _
  exact ⟨j + 1, some ⟨g2, 0, none⟩, c3, by go_num, hj, st H.src (by omega), st H.res (by omega), V2.set1 _, own.set (by simp only; omega) _, (H.below.drew.trans (hy3.mono (by omega))).setCell (by simp only; omega) _⟩

set_option maxRecDepth 100000 in
set_option maxHeartbeats 8000000 in
theorem plain_any {r : Int} {B : Option Addr} {k c : Nat} {ps : List OpV} {xs : List OpD} {w : World} (ho : OpsAt w B k c ps xs) (hk : k < 1000000) :
    Calls Tryd.prog 13 #[.agg #[.int .i64 r, .slice B k c]] w (PlainPost r k xs w) := by
  have HO := Lib.hid ho
  have HL := Lib.hid ho.n
  have q0 := ((Two.new 25 w (.int .i64 r) (.slice B k c)).alloc (.cells #[.int .i64 0, .slice none 0 0] 34))
  have HV := Lib.hid (q0.alloc (.cells #[.int .i64 r, .slice none 0 0] 34))
  have c0 := q0.c0
  have HW := Lib.hid ((Two.new 34 (w.alloc (.cells #[.int .i64 r, .slice B k c] 25)) (.int .i64 0) (.slice none 0 0)).alloc (.cells #[.int .i64 r, .slice none 0 0] 34))
  have HX := Lib.hid (Two.new 34 ((w.alloc (.cells #[.int .i64 r, .slice B k c] 25)).alloc (.cells #[.int .i64 0, .slice none 0 0] 34)) (.int .i64 r) (.slice none 0 0))
  have HB := Lib.hid ((((Below.refl w.heap.size w).alloc (Nat.le_refl _) (.cells #[.int .i64 r, .slice B k c] 25)).alloc (by simp) (.cells #[.int .i64 0, .slice none 0 0] 34)).alloc (by simp; omega) (.cells #[.int .i64 r, .slice none 0 0] 34))
  clear ho q0
  go_enter Tryd.func13, Tryd.ntmps13
  go_wp2_with fail
  go_loopw [4] (fun i wr => PlainRel w r (.slice B k c) ps i wr) (fun i _ => k - (intOf i).toNat)
  case atStart => exact ⟨0, none, 0, rfl, Nat.zero_le _, HV.out, by have := HW.out; simpa using this, by have := HX.out; simpa using this, OwnO.none _ _ _, HB.out⟩
  case round =>
    obtain ⟨j, B2, c2, hrel⟩ := hrel
    obtain rfl := hrel.i
    have H := Lib.hid hrel
    have s1 := hrel.src.c1
    have v0 := hrel.var.c0
    have v1 := hrel.var.c1
    have v3 := hrel.var.z1
    have r2 := hrel.res.z0
    have r3 := hrel.res.z1
    have r0 := hrel.res.c0
    have r1 := hrel.res.c1
    by_cases hjk : j = k
    · clear hrel
      subst hjk
      go_wp2_with fail
      have q := H.out.res.set (.int .i64 r) (.slice B2 j c2)
      have c0 := q.c0
      have c1 := q.c1
      refine bodyPost_ret (v := .agg #[.int .i64 r, .slice B2 j c2]) (by simp [results, Tryd.results13, go_sem, c0, c1]) rfl ?_
      have hown := (H.out.own.set (a := ⟨w.heap.size + 1, 0, none⟩) (by simp only; omega) (.int .i64 r)).set (a := ⟨w.heap.size + 1, 1, none⟩) (by simp only; omega) (.slice B2 j c2)
      rw [List.take_of_length_le (by have := HL.out; omega)] at hown
      have hbl := (H.out.below.setCell (p := ⟨w.heap.size + 1, 0, none⟩) (by simp only; omega) (.int .i64 r)).setCell (p := ⟨w.heap.size + 1, 1, none⟩) (by simp only; omega) (.slice B2 j c2)
      exact ⟨B2, c2, ps, rfl, OwnO.ops hown (HO.out.tells.stay hbl), hbl⟩
    · have hj : j < k := by have := hrel.le; have := HL.out; omega
      have hjp : j < ps.length := by have := HL.out; omega
      obtain ⟨b, o, rfl, hcell⟩ := HO.out.row (by omega)
      have h0 := hcell j hjp
      have hft := List.take_succ_eq_append_getElem hjp
      generalize ps[j] = p at *
      obtain ⟨pc, pA, pn, pcap⟩ := p
      simp only at h0
      have hb := lt_of_cell h0.1
      simp only at hb
      have q0 := (hrel.below.cell (p := ⟨b, o + j * 2, none⟩) hb).trans h0.1
      have q1 := (hrel.below.cell (p := ⟨b, o + j * 2 + 1, none⟩) hb).trans h0.2
      have v1a := (hrel.var.alloc (.cells #[.int .i64 pc, .slice pA pn pcap] 46)).c1
      have hlen : (ps.take j).length = j := by rw [List.length_take]; omega
      have RUN := Lib.hid (fun W (hO : OwnO 46 W (w.heap.size + 3) (.slice B2 j c2) (ps.take j)) (hs : w.heap.size + 3 ≤ W.heap.size) => append_op_at Tryd.underlying32 infoO2 W (w.heap.size + 3) (.slice B2 j c2) (ps.take j) ⟨pc, pA, pn, pcap⟩ W.heap.size rfl hO (by omega) hs)
      have HF := Lib.hid (And.intro hft hlen)
      have n1 : (j : Int) < (k : Int) := by omega
      have n2 : (0 : Int) ≤ (j : Int) := by omega
      clear hrel hcell h0 hft hjp hlen
      go_wp2_with fail
      go_region_law
        (first | (refine step_append_ex rfl _ _ _ rfl _ _ rfl rfl (RUN.out wr.drew (H.out.own.stay (Below.refl _ _).drew) H.out.var.lt) ?_; rintro v' w2 ⟨g2, c3, rfl, hy2, hy3, hy4, hy5, hy6, hy7, hy8⟩; have V2 := Lib.hid (Two.far H.out.var.drew (w' := w2) (fun k e => hy4 k (by rw [e]; exact H.out.var.lt) (by rw [e]; intro e2; have := (World.ownsRow.lt H.out.own _ e2.symm).1; omega))); have H2 := Lib.hid (And.intro hy2 (And.intro hy3 (And.intro hy4 (And.intro hy5 (And.intro hy6 (And.intro hy7 hy8)))))); have u0 := V2.out.c0; have u1 := V2.out.c1; have u2 := V2.out.z1; clear hy2 hy3 hy4 hy5 hy6 hy7 hy8))
      all_goals go_wp2_with fail
      all_goals
        have hN := plain_next H.out (by have := HL.out; omega) HF.out.1 HF.out.2 H2.out.1 H2.out.2.1 V2.out
        rw [show min j ps.length = j by have := HL.out; omega]
        exact ⟨hN, by simp [intOf]; omega⟩

end Go.Proofs.YtfjjfljkdflpcaaDoor
