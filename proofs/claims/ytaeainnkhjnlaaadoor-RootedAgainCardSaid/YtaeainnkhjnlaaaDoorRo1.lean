/-
  Plain facts, of no program: heaps with their least element apart: what is least with an element more, what is left without the least one; the document's example. No conditions beyond what each theorem says.
-/
import Derived.Test.YtaeainnkhjnlaaaDoorRo0
namespace Go.Proofs.YtaeainnkhjnlaaaDoor.Ro
open Go.Sort Go.RowKit

theorem size_0 {t : Lh} (h : t.min.2 = false) : t.all = [] := by
  have h1 := min_two t
  rw [h] at h1
  have h2 : t.size = 0 := by simpa using h1.symm
  exact List.eq_nil_of_length_eq_zero (by rw [Lh.all_length]; exact h2)
theorem one_pop (x : Int × Int) : Lh.pop (.one x) = .nil := pop_none rfl
theorem min_le {t : Lh} (h : t.ok) : ∀ e ∈ t.all, ltE e t.min.1 = false := by
  intro e he
  cases hm : t.min.2 with
  | false => rw [size_0 hm] at he; cases he
  | true =>
    have h1 := ok_srt h hm
    have h2 := (srt_spec t.all).1
    have h3 := srt_mem.2 he
    rw [h1] at h2 h3
    rcases List.mem_cons.1 h3 with rfl | h4
    · exact swoE.irrefl _
    · have := (List.pairwise_cons.1 h2).1 e h4
      simpa using this
theorem below_all {t : Lh} (h : t.ok) {x : Int × Int} (hx : t.min.2 = false ∨ ltE x t.min.1 = true) : ∀ e ∈ t.all, ltE e x = false := by
  intro e he
  rcases hx with hx | hx
  · rw [size_0 hx] at he; cases he
  · have h1 := min_le h e he
    rw [ltE_not] at h1 ⊢
    rw [ltE_iff] at hx
    omega
theorem ins_some (t : Lh) (x : Int × Int) : (t.insert x).min.2 = true := by rw [min_two, insert_size]; simp
/-- With an element more the least one is that, if it stands ahead of the least one or there is none. -/
theorem min_first {t : Lh} (h : t.ok) {x : Int × Int} (hx : t.min.2 = false ∨ ltE x t.min.1 = true) : (t.insert x).min = (x, true) := by
  have h1 := ok_srt (insert_ok x h) (ins_some t x)
  rw [srt_insert, srt_cons (below_all h hx)] at h1
  have h2 : x = (t.insert x).min.1 := (List.cons.inj h1).1
  exact Prod.ext h2.symm (ins_some t x)
/-- A heap's elements: the least one, and the others. -/
theorem srt_more {t : Lh} (h : t.ok) {x : Int × Int} (h1 : t.min.2 = true) (h2 : ltE x t.min.1 = false) : srt (x :: t.all) = t.min.1 :: srt (x :: t.pop.all) := by
  have e1 : (x :: t.all).Perm (t.min.1 :: x :: t.pop.all) := by
    have e2 : t.all.Perm (t.min.1 :: t.pop.all) := by
      have h3 := ok_srt h h1
      exact ((srt_spec t.all).2.symm.trans (h3 ▸ List.Perm.refl _)).trans ((srt_spec t.pop.all).2.cons _)
    exact (e2.cons x).trans (List.Perm.swap _ _ _)
  rw [srt_perm e1]
  refine srt_cons (fun e he => ?_)
  rcases List.mem_cons.1 he with rfl | he
  · exact h2
  · refine min_le h e ?_
    have h3 := ok_srt h h1
    exact srt_mem.1 (h3 ▸ List.mem_cons_of_mem _ (srt_mem.2 he))
/-- .. else the least one. -/
theorem min_other {t : Lh} (h : t.ok) {x : Int × Int} (h1 : t.min.2 = true) (h2 : ltE x t.min.1 = false) : (t.insert x).min = (t.min.1, true) := by
  have h3 := ok_srt (insert_ok x h) (ins_some t x)
  rw [srt_insert, srt_more h h1 h2] at h3
  exact Prod.ext (List.cons.inj h3).1.symm (ins_some t x)
/-- What is left without the least one. -/
theorem left_first {t : Lh} (h : t.ok) {x : Int × Int} (hx : t.min.2 = false ∨ ltE x t.min.1 = true) : srt (t.insert x).pop.all = srt t.all := by
  rw [srt_pop (insert_ok x h), srt_insert, srt_cons (below_all h hx)]
  rfl
theorem left_other {t : Lh} (h : t.ok) {x : Int × Int} (h1 : t.min.2 = true) (h2 : ltE x t.min.1 = false) : srt (t.insert x).pop.all = putL (srt t.all).tail x := by
  rw [srt_pop (insert_ok x h), srt_insert, srt_more h h1 h2, ok_srt h h1, List.tail_cons, List.tail_cons, putL_srt]


theorem text_d (d : Nat) (h : d < 10) : textOf (d : Int) 0 = [UInt8.ofNat (48 + d), 58, 48] := by
  unfold textOf Lib.itoa
  rw [if_neg (by omega), if_neg (by omega)]
  rw [show (d : Int).toNat = d from by omega, show (0 : Int).toNat = 0 from rfl, Lib.decDigits_one h, Lib.decDigits_one (by omega)]
  rfl
/-- The example's heap. -/
def exO : Sk := ⟨[leafT (3, 0), leafT (2, 0)]⟩
def exH : Lh := .node (1, 0) exO
theorem ex_of : ofL [(2, 0), (1, 0), (3, 0)] = exH := by
  show (((Lh.one (2, 0)).insert (1, 0)).insert (3, 0)) = exH
  have h1 : ltE (1, 0) (2, 0) = true := by rw [ltE_iff]; simp
  have h2 : ltE (3, 0) (1, 0) = false := by rw [ltE_not]; simp
  unfold Lh.one
  rw [insert_lt h1, insert_ge h2]
  rfl
theorem ex_put : putC .nil [(2, 0), (1, 0), (3, 0)] = 2 ∧ putM .nil [(2, 0), (1, 0), (3, 0)] = 5 := by
  have h1 : ltE (1, 0) (2, 0) = true := by rw [ltE_iff]; simp
  have h3 : (Lh.one (2, 0)).insert (1, 0) = .node (1, 0) ⟨[leafT (2, 0)]⟩ := by unfold Lh.one; rw [insert_lt h1]; rfl
  refine ⟨?_, ?_⟩
  · show 0 + ((Lh.one (2, 0)).insC + (((Lh.one (2, 0)).insert (1, 0)).insC + 0)) = 2
    rw [h3]; rfl
  · show 1 + ((Lh.one (2, 0)).insM + (((Lh.one (2, 0)).insert (1, 0)).insM + 0)) = 5
    rw [h3]; rfl
theorem ex_min : exH.min = ((1, 0), true) := rfl
theorem ex_olt : ltE (rootAt [leafT (3, 0), leafT (2, 0)] 1) (rootAt [leafT (3, 0), leafT (2, 0)] 0) = true := by
  show ltE (2, 0) (3, 0) = true
  rw [ltE_iff]; simp
theorem ex_oat : leastI [leafT (3, 0), leafT (2, 0)] = 1 := by
  show leastK _ 1 = 1
  unfold leastK leastK
  rw [if_pos ex_olt]
theorem ex_omin : exO.min = ((2, 0), true) := by
  show (rootAt [leafT (3, 0), leafT (2, 0)] (leastI [leafT (3, 0), leafT (2, 0)]), true) = _
  rw [ex_oat]; rfl
/-- .. without its least element. -/
def exG : Lh := .node (2, 0) ⟨[leafT (3, 0)]⟩
theorem ex_opop : exO.pop = ⟨[leafT (3, 0)]⟩ := by
  have h : exO.pop.ts = [leafT (3, 0)] := by
    show ((besAt [leafT (3, 0), leafT (2, 0)] (leastI [leafT (3, 0), leafT (2, 0)])).foldl sIns (sBase [leafT (3, 0), leafT (2, 0)] (leastI [leafT (3, 0), leafT (2, 0)]))) = _
    rw [ex_oat]
    show bmeld [] (levT [leafT (3, 0)]) = _
    rw [bmeld_nil]; rfl
  exact congrArg Go.Proofs.YtaeainnkhjnlaaaDoor.Lh.mk h
theorem ex_pop : exH.pop = exG := by
  show (Lh.node (1, 0) exO).pop = _
  rw [pop_some (by show exO.min.2 = true; rw [ex_omin]), ex_omin, ex_opop]
  rfl
theorem ex_gmin : exG.min = ((2, 0), true) := rfl
theorem ex_popN : exH.popC = 2 ∧ exH.popM = 1 := by
  have hs : exO.some = true := by show exO.min.2 = true; rw [ex_omin]
  have h1 : exO.popC = 0 := by
    show sBaseN [leafT (3, 0), leafT (2, 0)] (leastI [leafT (3, 0), leafT (2, 0)]) + sPutN (sBase [leafT (3, 0), leafT (2, 0)] (leastI [leafT (3, 0), leafT (2, 0)])) (besAt [leafT (3, 0), leafT (2, 0)] (leastI [leafT (3, 0), leafT (2, 0)])) = 0
    rw [ex_oat]
    show levN [leafT (3, 0)] + bmeldN [] (levT [leafT (3, 0)]) + 0 = 0
    rw [bmeldN_nil]; rfl
  have h2 : exO.popM = 0 := by
    show sBaseN [leafT (3, 0), leafT (2, 0)] (leastI [leafT (3, 0), leafT (2, 0)]) + sPutM (sBase [leafT (3, 0), leafT (2, 0)] (leastI [leafT (3, 0), leafT (2, 0)])) (besAt [leafT (3, 0), leafT (2, 0)] (leastI [leafT (3, 0), leafT (2, 0)])) = 0
    rw [ex_oat]
    show levN [leafT (3, 0)] + bmeldN [] (levT [leafT (3, 0)]) + 0 = 0
    rw [bmeldN_nil]; rfl
  refine ⟨?_, ?_⟩
  · show (if exO.some = true then exO.tellN + (exO.popC + exO.tellN) else 0) = 2
    rw [if_pos hs, h1]; rfl
  · show (if exO.some = true then exO.popM + 1 else 0) = 1
    rw [if_pos hs, h2]
theorem ex_show : exH.show = [49, 58, 48, 32, 40, 51, 58, 48, 41, 32, 40, 50, 58, 48, 41] := by
  have h1 := text_d 1 (by omega)
  have h2 := text_d 2 (by omega)
  have h3 := text_d 3 (by omega)
  simp only [exH, exO, Lh.show, Go.Proofs.YtaeainnkhjnlaaaDoor.Lh.show, bShow, bTail, leafT, Tre.show, Wood.show, besideText, List.flatMap_nil, List.nil_append, List.append_nil]
  rw [show ((1 : Nat) : Int) = 1 from rfl] at h1
  rw [show ((2 : Nat) : Int) = 2 from rfl] at h2
  rw [show ((3 : Nat) : Int) = 3 from rfl] at h3
  rw [h1, h2, h3]
  rfl
theorem ex_fits : fits exH.all := by
  intro e he
  simp [exH, exO, Lh.all, Go.Proofs.YtaeainnkhjnlaaaDoor.Lh.all, bAll, leafT, Tre.all, Wood.all] at he
  rcases he with rfl | rfl | rfl <;> simp [in64]

end Go.Proofs.YtaeainnkhjnlaaaDoor.Ro
