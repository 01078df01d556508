/-
  Contract of leftist.part.show: a part's text up to its left heap, and what waits behind it; nothing below the call's own memory has changed. Conditions: elements of 64-bit numbers, fewer than 2 to the 30th parts, the library's table as it is laid.
-/
import Derived.Test.YtliehednnhilkaaDoorLh2
import Derived.Test.YtliehednnhilkaaDoorBld
import Derived.Test.YtliehednnhilkaaDoorAppend
namespace Go.Proofs.YtliehednnhilkaaDoor
open Go.Sort Go.RowKit

/-- A part: a heap's address, and how many nodes end where it ends. -/
abbrev partV (p : Option Addr × Nat) : Value := .agg #[.pointer p.1, .int .i64 (p.2 : Int)]
def cellsQ (ps : List (Option Addr × Nat)) : List Value := ps.flatMap fun p => [.pointer p.1, .int .i64 (p.2 : Int)]
theorem cellsQ_length (ps : List (Option Addr × Nat)) : (cellsQ ps).length = ps.length * 2 := by
  induction ps with
  | nil => rfl
  | cons x r ih => simp only [cellsQ, List.flatMap_cons, List.length_append, List.length_cons, List.length_nil] at *; omega
theorem cellsQ_append (xs ys : List (Option Addr × Nat)) : cellsQ (xs ++ ys) = cellsQ xs ++ cellsQ ys := by simp [cellsQ]
theorem cellsQ_one (ps : List (Option Addr × Nat)) : ∀ v ∈ cellsQ ps, v.oneCell' = true := by
  intro v hv
  simp only [cellsQ, List.mem_flatMap] at hv
  obtain ⟨x, _, hx⟩ := hv
  simp at hx
  rcases hx with rfl | rfl <;> rfl
theorem infoQ : (Tryd.prog.info? 89).map (fun i => (i.zero, i.size, i.bytes)) = some (some (.agg #[.pointer none, .int .i64 0]), 2, 16) := by kernel_rfl

/-- A row of parts of the call's own. -/
def OwnQ (w : World) (base : Nat) (v : Value) (ps : List (Option Addr × Nat)) : Prop := w.ownsRow base 89 2 v ps.length (cellsQ ps)
theorem OwnQ.below {w w' : World} {base : Nat} {v : Value} {ps : List (Option Addr × Nat)} (h : OwnQ w base v ps) (hb : Below w.heap.size w w') : OwnQ w' base v ps := by
  refine World.ownsRow.kept h (row := none) ⟨hb.os, hb.tape, hb.output, hb.size, fun k hk _ => hb.block k hk⟩ ?_
  cases v.ownBlock <;> simp
theorem OwnQ.kind {w : World} {base : Nat} {v : Value} {ps : List (Option Addr × Nat)} (h : OwnQ w base v ps) : ∀ k, v.ownBlock = some k → base ≤ k ∧ k < w.heap.size ∧ ∃ cs, w.heap[k]? = some (.cells cs 89 (0, 0)) := by
  intro k hk
  rcases h.2 with ⟨rfl, -⟩ | ⟨g, cap, cur, rfl, hb, hg, -⟩
  · cases hk
  · cases hk
    exact ⟨hb, lt_of_heap hg, cur, hg⟩
theorem OwnQ.wrote {w w' : World} {base g : Nat} {l : List UInt8} {v : Value} {ps : List (Option Addr × Nat)} (h : OwnQ w base v ps) (hB : Bld base g l w) (hw : Wrote base g w w') : OwnQ w' base v ps := by
  refine ⟨h.1, ?_⟩
  rcases h.2 with hn | ⟨k, cap, cur, rfl, hb, hg, rest⟩
  · exact .inl hn
  · refine .inr ⟨k, cap, cur, rfl, hb, hw.heap hg (fun e => ?_) (by decide), rest⟩
    obtain ⟨-, cs, h1⟩ := hB.block
    rw [← e, hg] at h1
    cases h1
/-- The last one, and those before it. -/
theorem OwnQ.last {w : World} {base : Nat} {v : Value} {ps : List (Option Addr × Nat)} {x : Option Addr × Nat} (h : OwnQ w base v (ps ++ [x])) : ∃ g cap, v = .slice (some ⟨g, 0, none⟩) (ps.length + 1) cap ∧ ps.length + 1 ≤ cap ∧ cap ≤ 9223372036854775807 ∧
    w.cell? ⟨g, ps.length * 2, none⟩ = some (.pointer x.1) ∧ w.cell? ⟨g, ps.length * 2 + 1, none⟩ = some (.int .i64 (x.2 : Int)) ∧ OwnQ w base (.slice (some ⟨g, 0, none⟩) ps.length cap) ps := by
  have h0 := h
  have hl : (ps ++ [x]).length = ps.length + 1 := by simp
  rcases h.2 with ⟨-, hn⟩ | ⟨g, cap, cur, rfl, hb, hg, hc, hm, hs, ht⟩
  · rw [hl] at hn; omega
  · rw [hl] at hc ht ⊢
    unfold OwnQ at h0
    rw [hl] at h0
    have hcell : ∀ j u, (cellsQ (ps ++ [x]))[j]? = some u → w.cell? ⟨g, j, none⟩ = some u := fun j u hu => by
      have hj : j < (ps.length + 1) * 2 := by
        have := (List.getElem?_eq_some_iff.1 hu).1
        rw [cellsQ_length, hl] at this
        exact this
      rw [World.ownsRow.cellAt h0 j hj]; exact hu
    have e0 : (cellsQ (ps ++ [x]))[ps.length * 2]? = some (.pointer x.1) := by
      rw [cellsQ_append, List.getElem?_append_right (by rw [cellsQ_length]; omega), cellsQ_length, Nat.sub_self]; rfl
    have e1 : (cellsQ (ps ++ [x]))[ps.length * 2 + 1]? = some (.int .i64 (x.2 : Int)) := by
      rw [cellsQ_append, List.getElem?_append_right (by rw [cellsQ_length]; omega), cellsQ_length, show ps.length * 2 + 1 - ps.length * 2 = 1 by omega]; rfl
    refine ⟨g, cap, rfl, hc, by unfold maxLen at hm; omega, hcell _ _ e0, hcell _ _ e1, cellsQ_length ps, .inr ⟨g, cap, cur, rfl, hb, hg, by omega, hm, hs, ?_⟩⟩
    rw [show cur.toList.take (ps.length * 2) = (cur.toList.take ((ps.length + 1) * 2)).take (ps.length * 2) by rw [List.take_take]; congr 1; omega, ht, cellsQ_append, List.take_append_of_le_length (by rw [cellsQ_length]; omega), List.take_of_length_le (by rw [cellsQ_length]; omega)]
theorem OwnQ.one (w : World) (p : Option Addr) (e : Nat) : OwnQ (w.alloc (.cells #[.pointer p, .int .i64 (e : Int)] 89)) w.heap.size (.slice (some ⟨w.heap.size, 0, none⟩) 1 1) [(p, e)] :=
  ⟨rfl, .inr ⟨w.heap.size, 1, #[.pointer p, .int .i64 (e : Int)], rfl, Nat.le_refl _, heap_alloc_new w _, Nat.le_refl _, by unfold maxLen; omega, rfl, rfl⟩⟩
theorem OwnQ.empty {w : World} {base : Nat} {v : Value} {ps : List (Option Addr × Nat)} (h : OwnQ w base v ps) : ∃ A c, v = .slice A ps.length c := by
  rcases h.2 with ⟨rfl, hn⟩ | ⟨g, cap, cur, rfl, -⟩
  · exact ⟨none, 0, by rw [hn]⟩
  · exact ⟨_, cap, rfl⟩

/-- Two parts more. -/
theorem append_two (w : World) (base : Nat) (v : Value) (ps : List (Option Addr × Nat)) (q1 q2 : Option Addr) (e : Nat) (hown : OwnQ w base v ps) (hlen : ps.length < 1073741824) (hb : base ≤ w.heap.size) :
    ∃ v' w', (Builtin.append_ #[90, 90] 90 #[v, .slice (some ⟨w.heap.size, 0, none⟩) 2 2]).run Tryd.prog (w.alloc (.cells #[.pointer q1, .int .i64 ((e : Int) + 1), .pointer q2, .int .i64 0] 89)) = .ok v' w' ∧
      OwnQ w' base v' (ps ++ [(q1, e + 1), (q2, 0)]) ∧ (w.alloc (.cells #[.pointer q1, .int .i64 ((e : Int) + 1), .pointer q2, .int .i64 0] 89)).grownBy w' v.ownBlock := by
  obtain ⟨i0, hi, hz0, hz1, hz2⟩ := info_parts infoQ
  have hown1 := hown.below ((Below.refl w.heap.size w).alloc (Nat.le_refl _) (.cells #[.pointer q1, .int .i64 ((e : Int) + 1), .pointer q2, .int .i64 0] 89))
  have hc : ∀ j u, (cellsQ [(q1, e + 1), (q2, 0)])[j]? = some u → (w.alloc (.cells #[.pointer q1, .int .i64 ((e : Int) + 1), .pointer q2, .int .i64 0] 89)).cell? ((⟨w.heap.size, 0, none⟩ : Addr).add j) = some u := by
    intro j u hu
    have ha : (⟨w.heap.size, 0, none⟩ : Addr).add j = ⟨w.heap.size, j, none⟩ := by rw [add_plain, Nat.zero_add]
    rw [ha]
    have h1 := heap_alloc_new w (.cells #[.pointer q1, .int .i64 ((e : Int) + 1), .pointer q2, .int .i64 0] 89)
    have h2 : cellsQ [(q1, e + 1), (q2, 0)] = [.pointer q1, .int .i64 ((e : Int) + 1), .pointer q2, .int .i64 0] := rfl
    rw [h2] at hu
    simp only [World.cell?, h1]
    simpa using hu
  obtain ⟨v', w', h1, h2, h3, _⟩ := run_append_own_at (P := Tryd.prog) (w.alloc (.cells #[.pointer q1, .int .i64 ((e : Int) + 1), .pointer q2, .int .i64 0] 89)) base 90 90 89 i0 _ 2 16 Tryd.underlying90 hi hz0 hz1 hz2 rfl (by omega) v ps.length (cellsQ ps) hown1 ⟨w.heap.size, 0, none⟩ 2 2 (cellsQ [(q1, e + 1), (q2, 0)]) rfl hc (cellsQ_one _) (by unfold maxLen; omega) (by omega) (by simp only [World.size_alloc]; omega)
  refine ⟨v', w', h1, ?_, h3⟩
  unfold OwnQ
  rw [cellsQ_append, List.length_append]
  exact h2

theorem three_bytes (c d : UInt8) (t : List UInt8) : ((⟨#[c]⟩ : ByteArray) ++ ⟨t.toArray⟩) ++ ⟨#[d]⟩ = ⟨(c :: (t ++ [d])).toArray⟩ := by
  rw [one_bytes]
  exact append_bytes (c :: t) [d]

/-- The built-in append at its operation in a region that draws its order. -/
theorem step_append_run {P : Program} {w : World} {ops : Array Oper} {o : Oper} {a : Act} {K : Act → World → Prop} {Q : Exit → Act → World → Prop} {E : Prop} (hgd : o.guard = none) (s x : Operand) (t : TypeId)
    (ho : o.op = .call { callee := .builtin .append, args := #[s, x], argTypes := #[t, t] }) (v xv v' : Value) (w' : World) (hs : a.eval s = v) (hx : a.eval x = xv)
    (hrun : (Builtin.append_ #[t, t] o.type #[v, xv]).run P w = .ok v' w') (h : K (a.put o.dst v') w') : if Region.wanted o (yielded ops a.tmps) = true then Oper.wp P o a w K Q else E := by
  have hw : Region.wanted o (yielded ops a.tmps) = true := by simp [Region.wanted, hgd]
  rw [if_pos hw]
  unfold Oper.wp
  simp [execOp, ho, resolve, invoke, builtin, hs, hx, hrun, Result.andThen]
  exact h

/-- Every block stays that holds no bytes and is neither the builder nor the slice's own. -/
def Stay (g : Nat) (v : Value) (w w' : World) : Prop := ∀ (k : Nat) (cs : Array Value) (t : TypeId) (z : Nat × Nat), w.heap[k]? = some (.cells cs t z) → k ≠ g → t ≠ 5 → v.ownBlock ≠ some k → w'.heap[k]? = some (.cells cs t z)
section
variable {g base : Nat} {v : Value} {u w w' : World}
theorem Stay.trans (h : Stay g v u w) (k : Stay g v w w') : Stay g v u w' := fun i cs t z hi hg ht hv => k i cs t z (h i cs t z hi hg ht hv) hg ht hv
theorem Stay.below (h : Stay g v u w) (k : Below w.heap.size w w') : Stay g v u w' := h.trans (fun i _ _ _ hi _ _ _ => (k.block i (lt_of_heap hi)).trans hi)
theorem Stay.refl (g : Nat) (v : Value) (w : World) : Stay g v w w := fun _ _ _ _ h _ _ _ => h
theorem Stay.wrote (h : Stay g v u w) (k : Wrote base g w w') : Stay g v u w' := h.trans (fun _ _ _ _ hi hg ht _ => k.heap hi hg ht)
theorem Stay.grown (h : Stay g v u w) (k : w.grownBy w' v.ownBlock) : Stay g v u w' := h.trans (fun i _ _ _ hi _ _ hv => (k.block i (lt_of_heap hi) (fun e => hv e.symm)).trans hi)
end

set_option maxRecDepth 100000 in
set_option maxHeartbeats 4000000 in
theorem part_node (base g : Nat) (l : List UInt8) (v : Value) (ps : List (Option Addr × Nat)) (x1 x2 : Int) (lp rp : Option Addr) (rk sz b e : Nat) (w : World) (hE : ∀ W, Below base w W → Env W) (hh : w.heap[b]? = some (nodeObj (x1, x2) lp rp rk sz)) (hlt : b < base)
    (hx : in64 x1 ∧ in64 x2) (hB : Bld base g l w) (hbw : base ≤ w.heap.size) (hv : OwnQ w base v ps) (hn : ps.length < 1073741824) (hl : l.length + 45 ≤ 140737488355328) (he : e < 1073741824) :
    Calls Tryd.prog 42 #[partV (some ⟨b, 0, none⟩, e), .pointer (some ⟨g, 0, none⟩), v] w fun r w' => ∃ v', r = .returned v' ∧ OwnQ w' base v' (ps ++ [(rp, e + 1), (lp, 0)]) ∧ Bld base g (l ++ 40 :: (textOf x1 x2 ++ [32])) w' ∧ Below base w w' ∧ Stay g v w w' := by
  have hxl := textOf_length x1 x2 hx.1 hx.2
  have n1 : ¬ 9223372036854775807 < 1 + (textOf x1 x2).length := by omega
  have n2 : ¬ 9223372036854775807 < 1 + (textOf x1 x2).length + 1 := by omega
  have hb1 : Below base w (w.alloc (.cells #[.pointer (some ⟨b, 0, none⟩), .int .i64 (e : Int)] 89)) := (Below.refl _ _).alloc hbw _
  have hbox : (w.alloc (.cells #[.pointer (some ⟨b, 0, none⟩), .int .i64 (e : Int)] 89)).heap[w.heap.size]? = some (.cells #[.pointer (some ⟨b, 0, none⟩), .int .i64 (e : Int)] 89 (0, 0)) := new_at rfl
  have hB1 := hB.stay ((Below.refl w.heap.size w).alloc (Nat.le_refl _) (.cells #[.pointer (some ⟨b, 0, none⟩), .int .i64 (e : Int)] 89))
  have hv1 := hv.below ((Below.refl w.heap.size w).alloc (Nat.le_refl _) (.cells #[.pointer (some ⟨b, 0, none⟩), .int .i64 (e : Int)] 89))
  have HS1 := Lib.hid ((Stay.refl g v w).below ((Below.refl w.heap.size w).alloc (Nat.le_refl _) (.cells #[.pointer (some ⟨b, 0, none⟩), .int .i64 (e : Int)] 89)))
  have hne : ∀ k, v.ownBlock = some k → k ≠ w.heap.size := fun k hk => by have := (hv.kind k hk).2.1; omega
  have hgne : g < w.heap.size := by obtain ⟨-, cs, h1⟩ := hB.block; exact lt_of_heap h1
  have HD := Lib.hid (fun W (h : Below base w W) => And.intro (hE W h) (And.intro (six ((h.block b hlt).trans hh)) (Nat.le_trans hbw h.size)))
  have HX := Lib.hid hx
  have HN := Lib.hid (And.intro hn (And.intro hl (And.intro hxl he)))
  have H1 := Lib.hid (And.intro hb1 (And.intro hB1 (And.intro hv1 hbox)))
  have HW := Lib.hid (And.intro hne (And.intro hgne hbw))
  have c0 := (HD.out _ hb1).2.1.c0
  have c1 := (HD.out _ hb1).2.1.c1
  clear hE hh hx hB hv hn hl hxl hb1 hB1 hv1 hbox hne hgne hlt
  go_enter Tryd.func42, Tryd.ntmps42
  go_wp2_with fail
  clear c0 c1
  generalize w.alloc (.cells #[.pointer (some ⟨b, 0, none⟩), .int .i64 (e : Int)] 89) = w1 at *
  obtain ⟨a, ha⟩ : ∃ a, a = w.heap.size := ⟨_, rfl⟩
  rw [← ha] at H1 HW ⊢
  have HA := Lib.hid ha
  clear ha
  ((with_reducible refine (textE_any (x1, x2) HX.out _ (HD.out _ H1.out.1).1).mono ?_); rintro r w2 ⟨rfl, hb2⟩)
  have H2 := Lib.hid (And.intro (H1.out.1.trans (hb2.mono (HD.out _ H1.out.1).2.2)) (And.intro (H1.out.2.1.stay hb2) (And.intro (H1.out.2.2.1.below hb2) ((hb2.block a (lt_of_heap H1.out.2.2.2)).trans H1.out.2.2.2))))
  have HS2 := Lib.hid (HS1.out.below hb2)
  clear hb2 H1
  go_wp2_with fail
  ((with_reducible refine (writeB base g l (40 :: (textOf x1 x2 ++ [32])) _ _ (three_bytes _ _ _) H2.out.2.1 (by have := HN.out; simp only [List.length_append, List.length_cons, List.length_nil]; omega) (HD.out _ H2.out.1).2.2).mono ?_); rintro r w3 ⟨v3, rfl, hB3, hw3⟩)
  have hbe3 := H2.out.1.trans hw3.below
  have hv3 := H2.out.2.2.1.wrote H2.out.2.1 hw3
  have hx3 := hw3.heap H2.out.2.2.2 (Nat.ne_of_gt HW.out.2.1) (by decide)
  obtain ⟨v4, w4, hrun, hown4, hg4⟩ := append_two w3.drew base v ps rp lp e (hv3.below ((Below.refl _ _).drew)) HN.out.1 (show base ≤ w3.heap.size from (HD.out _ hbe3).2.2)
  have hgr : ∀ k, v.ownBlock = some k → ∃ cs t fz, (w3.drew.alloc (.cells #[.pointer rp, .int .i64 ((e : Int) + 1), .pointer lp, .int .i64 0] 89)).heap[k]? = some (.cells cs t fz) ∧ t ≠ 87 ∧ t ≠ 5 := fun k hk => by
    obtain ⟨-, h2, cs, h3⟩ := hv3.kind k hk
    exact ⟨cs, 89, (0, 0), (alloc_old _ h2).trans h3, by decide, by decide⟩
  have hB4 : Bld base g (l ++ 40 :: (textOf x1 x2 ++ [32])) w4 := (hB3.stay (((Below.refl w3.heap.size w3).drew).alloc (Nat.le_refl _) _)).grown hg4 hgr
  have hbe4 : Below base w w4 := below_grown (hbe3.drew.alloc (show base ≤ w3.heap.size from (HD.out _ hbe3).2.2) _) hg4 (by have := (HD.out _ hbe3).2.2; simp only [World.size_alloc]; exact Nat.le_trans this (Nat.le_succ _)) (fun k hk => (hv3.kind k hk).1)
  have HS4 := Lib.hid ((((HS2.out.wrote hw3).below ((Below.refl w3.heap.size w3).drew)).below ((Below.refl w3.drew.heap.size w3.drew).alloc (Nat.le_refl _) _)).grown hg4)
  have hwr : IntKind.i64.wrap ((e : Int) + 1) = (e : Int) + 1 := by rw [IntKind.wrap_i64]; have := HN.out; omega
  have s3 := (HD.out _ hbe3).2.1
  have s4 := (HD.out _ hbe4).2.1
  have c2 := s3.c2
  have c3 := s3.c3
  have d2 := s4.c2
  have d3 := s4.c3
  have b3 : w3.cell? ⟨a, 1, none⟩ = some (.int .i64 (e : Int)) := by simp [World.cell?, hx3]
  have b4 : w4.cell? ⟨a, 1, none⟩ = some (.int .i64 (e : Int)) := by
    have h4 := (hg4.block a (by have := lt_of_heap hx3; simp only [World.size_alloc]; exact Nat.lt_succ_of_lt this) (fun ek => HW.out.1 a ek.symm rfl)).trans ((alloc_old _ (show a < w3.drew.heap.size from lt_of_heap hx3)).trans hx3)
    simp [World.cell?, h4]
  have H4 := Lib.hid (And.intro hown4 (And.intro hB4 hbe4))
  have HR := Lib.hid hrun
  clear hbe3 hv3 hx3 hrun hown4 hg4 hgr hB4 hbe4 s3 s4 hB3 hw3 H2 n1 n2
  go_wp2_with fail
  go_region_held3 (fun w' => w'.cell? ⟨b, 2, none⟩ = some (.pointer lp) ∧ w'.cell? ⟨b, 3, none⟩ = some (.pointer rp) ∧ w'.cell? ⟨a, 1, none⟩ = some (.int .i64 (e : Int))) (go_keep)
    (first | (refine step_append_run rfl _ _ _ rfl _ _ _ _ rfl rfl HR.out ?_))
  go_wp2_with fail
  go_ret
  exact ⟨_, rfl, H4.out.1, H4.out.2.1, H4.out.2.2, HS4.out⟩

end Go.Proofs.YtliehednnhilkaaDoor
