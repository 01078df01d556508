/-
  Contract of the statement's own drain: all elements of a heap, in order, as a slice of the call's own; nothing that was there has changed. Conditions: no more elements than are asked for, fewer than 2 to the 24th.
-/
import Derived.Test.YtlaohkflnkjamaaDoorSb7
namespace Go.Proofs.YtlaohkflnkjamaaDoor.Hp
open Go.Sort Go.RowKit

/-- The variables of drain: a heap, an element. -/
structure Fd (w0 W : World) (a b : Nat) (p : HP) (x : Int × Int) : Prop where
  h : Box2 W a 28 (.pointer p.q) (.int .i64 p.n)
  e : Box2 W b 31 (.int .i64 x.1) (.int .i64 x.2)
  bl : Below w0.heap.size w0 W
  ab : a < b
  wa : w0.heap.size ≤ a
section
variable {w0 W W' : World} {a b : Nat} {p : HP} {x : Int × Int}
theorem Fd.stay (h : Fd w0 W a b p x) {B : Nat} (hb : Below B W W') (hB : b + 1 ≤ B) : Fd w0 W' a b p x :=
  ⟨h.h.below hb (by have := h.ab; omega), h.e.below hb (by omega), h.bl.trans (hb.mono (by have := h.ab; have := h.wa; omega)), h.ab, h.wa⟩
theorem Fd.lt (h : Fd w0 W a b p x) : b + 1 ≤ W.heap.size := h.e.lt
theorem Fd.put (h : Fd w0 W a b p x) (q : HP) : Fd w0 ((W.setCell ⟨a, 0, none⟩ (.pointer q.q)).setCell ⟨a, 1, none⟩ (.int .i64 q.n)) a b q x :=
  ⟨h.h.set _ _, h.e.aside (by have := h.ab; omega) _ _, below_set2 h.bl h.wa _ _, h.ab, h.wa⟩
theorem Fd.puts (h : Fd w0 W a b p x) (y : Int × Int) : Fd w0 ((W.setCell ⟨b, 0, none⟩ (.int .i64 y.1)).setCell ⟨b, 1, none⟩ (.int .i64 y.2)) a b p y :=
  ⟨h.h.aside (by have := h.ab; omega) _ _, h.e.set _ _, below_set2 h.bl (by have := h.ab; have := h.wa; omega) _ _, h.ab, h.wa⟩
end

set_option maxRecDepth 100000 in
set_option maxHeartbeats 4000000 in
theorem drain_any (t0 : Lh) (p0 : HP) (N : Int) (w : World) (h : LAt w t0 p0) (hn : (t0.size : Int) ≤ N) (hN : N < 1073741824) (hs : t0.size < 16777216) :
    Calls Tryd.prog 17 #[hp p0, .int .i64 N] w fun e w' => ∃ v, e = .returned v ∧ Own w' w.heap.size v (srt t0.all) ∧ Below w.heap.size w w' := by
  have hb1 : Below w.heap.size w (w.alloc (.cells #[.pointer p0.q, .int .i64 p0.n] 28)) := (Below.refl _ _).alloc (Nat.le_refl _) _
  have e1 : Box2 (w.alloc (.cells #[.pointer p0.q, .int .i64 p0.n] 28)) w.heap.size 28 (.pointer p0.q) (.int .i64 p0.n) := Box2.new w 28 _ _
  have H0 := Lib.hid (And.intro (h.stay hb1) (And.intro h.right (And.intro hn (And.intro hN hs))))
  have HE := Lib.hid (And.intro hb1 e1)
  clear h hn hN hs hb1 e1
  go_enter Tryd.func17, Tryd.ntmps17
  go_wp2_with fail
  ((with_reducible refine (minN t0 p0 _ H0.out.1).mono ?_); rintro e w2 ⟨rfl, hb2⟩)
  obtain ⟨⟨⟨m1, m2⟩, mb⟩, hmm⟩ : ∃ mm, t0.min = mm := ⟨_, rfl⟩
  rw [show minV t0 = .tuple #[el (m1, m2), .bool mb] by simp only [minV, hmm]]
  have hrow2 := HE.out.2.stay hb2
  have hF2 : Fd w (w2.alloc (.cells #[.int .i64 m1, .int .i64 m2] 31)) w.heap.size w2.heap.size p0 (m1, m2) :=
    ⟨hrow2.alloc _, Box2.new w2 31 _ _, (HE.out.1.trans (hb2.mono HE.out.1.size)).alloc (Nat.le_of_lt hrow2.lt) _, hrow2.lt, Nat.le_refl _⟩
  have F2 := Lib.hid hF2
  have L2 := Lib.hid ((H0.out.1.stay hb2).stay ((Below.refl _ _).alloc (Nat.le_refl _) (.cells #[.int .i64 m1, .int .i64 m2] 31)))
  have HM := Lib.hid hmm
  clear hrow2 hb2 HE hF2 hmm
  go_wp2_with fail
  generalize w2.alloc (.cells #[.int .i64 m1, .int .i64 m2] 31) = w3 at *
  obtain ⟨b, hb⟩ : ∃ b, b = w2.heap.size := ⟨_, rfl⟩
  obtain ⟨a, ha⟩ : ∃ a, a = w.heap.size := ⟨_, rfl⟩
  rw [← hb, ← ha] at F2
  rw [← hb, ← ha]
  have HA := Lib.hid ha
  clear hb ha
  go_loopg [5, 7, 8] t0.size (fun k v is i wr => ∃ (t : Lh) (p : HP) (pre : List (Int × Int)), Own wr (b + 1) v pre ∧ is = .bool t.min.2 ∧ i = .int .i64 (pre.length : Nat) ∧ k = t.size ∧ Fd w wr a b p t.min.1 ∧ LAt wr t p ∧ t.ok ∧ pre ++ srt t.all = srt t0.all ∧ pre.length + t.size = t0.size)
  case atStart => exact ⟨t0, p0, [], Own.none _ _, by rw [HM.out], rfl, rfl, by rw [HM.out]; exact F2.out, L2.out, H0.out.2.1, rfl, by simp⟩
  case round =>
    obtain ⟨t, p, pre, hown, rfl, rfl, hk, hF, hL, hok, hall, hsz⟩ := hrel
    obtain ⟨⟨⟨x1, x2⟩, mb⟩, hmt⟩ : ∃ mm, t.min = mm := ⟨_, rfl⟩
    rw [hmt] at hF ⊢
    cases mb with
    | false =>
      obtain ⟨A, c, rfl, -⟩ := hown.form
      have htn : srt t.all = [] := by
        have h1 := min_two t
        rw [hmt] at h1
        have h2 : t.size = 0 := by simp at h1; omega
        have h3 := t.all_length
        rw [h2] at h3
        rw [List.eq_nil_of_length_eq_zero h3, srt_nil]
      have X := Lib.hid (And.intro hown (And.intro hF (And.intro hall (And.intro hsz htn))))
      clear hown hk hF hL hok hall hsz htn hmt
      have hfin : ∀ v W, Own W (b + 1) v pre → Fd w W a b p (x1, x2) → Own W w.heap.size v (srt t0.all) ∧ Below w.heap.size w W := fun v W ho hf => by
        have h1 := X.out.2.2.1
        rw [X.out.2.2.2.2, List.append_nil] at h1
        rw [← h1]
        exact ⟨ho.lower (by have := hf.ab; have := hf.wa; omega), hf.bl⟩
      have HF := Lib.hid hfin
      clear hfin
      by_cases hlt : (pre.length : Int) < N
      · have g1 : decide ((pre.length : Int) < N) = true := by simpa using hlt
        go_wp2_with fail
        go_ret
        exact ⟨_, rfl, HF.out _ _ X.out.1 X.out.2.1⟩
      · have g1 : decide ((pre.length : Int) < N) = false := by simpa using hlt
        go_wp2_with fail
        go_ret
        exact ⟨_, rfl, HF.out _ _ X.out.1 X.out.2.1⟩
    | true =>
      have hpos : 0 < t.size := by
        have h1 := min_two t
        rw [hmt] at h1
        simpa using h1
      have hlt : (pre.length : Int) < N := by have := H0.out.2.2.1; omega
      have g1 : decide ((pre.length : Int) < N) = true := by simpa using hlt
      have hsm : pre.length < 16777216 := by have := H0.out.2.2.2.2; omega
      have hB : b + 1 ≤ wr.heap.size := hF.lt
      obtain ⟨v4, w4, hrun, hown4, hb4, hkp4⟩ := append_one wr (b + 1) _ pre (x1, x2) hown (by omega) hB
      have hF4 := hF.stay hb4 (Nat.le_refl _)
      have hL4 := hL.kps hkp4 hb4.size
      have e0 := hF.e.c0
      have e1 := hF.e.c1
      have c4 := hF4.h.c0
      have d4 := hF4.h.c1
      have X := Lib.hid (And.intro hown4 (And.intro hF4 (And.intro hL4 (And.intro hok (And.intro hall (And.intro hsz hk))))))
      have HR := Lib.hid hrun
      have HS := Lib.hid (And.intro hsm (And.intro hpos hmt))
      clear hown hk hF hL hok hall hsz hB hown4 hb4 hF4 hL4 hrun hsm hkp4 hpos hmt
      obtain ⟨np, hnp⟩ : ∃ np, np = pre.length := ⟨_, rfl⟩
      rw [← hnp] at g1 hlt ⊢
      have HNP := Lib.hid hnp
      clear hnp
      go_wp2_with (at_builtin; refine wpList_append_run rfl _ _ _ rfl _ _ _ _ rfl rfl HR.out ?_)
      clear e0 e1 c4 d4
      ((with_reducible refine (popN t p _ X.out.2.2.1 (by have := X.out.2.2.2.2.2.1; have := H0.out.2.2.2.2; omega)).mono ?_); rintro e w5 ⟨p5, rfl, ht5, hb5⟩)
      have F5 := X.out.2.1.stay hb5 X.out.2.1.lt
      have O5 := X.out.1.below hb5
      have z5 := F5.h.z0
      have y5 := F5.h.z1
      have c5 := F5.h.c0
      have d5 := F5.h.c1
      have F6 := F5.put p5
      have L6 := ht5.set2 F5.h heapT_ne (.pointer p5.q) (.int .i64 p5.n)
      have O6 := (O5.other (b := a) (by have := F5.ab; omega) 0 (.pointer p5.q)).other (b := a) (by have := F5.ab; omega) 1 (.int .i64 p5.n)
      have c6 := F6.h.c0
      have d6 := F6.h.c1
      have Y := Lib.hid (And.intro F6 (And.intro L6 O6))
      clear hb5 ht5 F5 O5 F6 L6 O6
      go_wp2_with fail
      clear z5 c5 c6 y5 d5 d6
      generalize (w5.setCell ⟨a, 0, none⟩ (.pointer p5.q)).setCell ⟨a, 1, none⟩ (.int .i64 p5.n) = w6 at *
      ((with_reducible refine (minN t.pop p5 _ Y.out.2.1).mono ?_); rintro e w7 ⟨rfl, hb7⟩)
      have F7 := Y.out.1.stay hb7 Y.out.1.lt
      have O7 := Y.out.2.2.below hb7
      have L7 := Y.out.2.1.stay hb7
      obtain ⟨⟨⟨k1, k2⟩, kb⟩, hkk⟩ : ∃ mm, t.pop.min = mm := ⟨_, rfl⟩
      rw [show minV t.pop = .tuple #[el (k1, k2), .bool kb] by simp only [minV, hkk]]
      have y0 := F7.e.c0
      have y1 := F7.e.c1
      have y2 := F7.e.z0
      have y3 := F7.e.z1
      have F8 := F7.puts (k1, k2)
      have L8 := L7.set2 F7.e elemT_ne (.int .i64 k1) (.int .i64 k2)
      have O8 := (O7.other (b := b) (by omega) 0 (.int .i64 k1)).other (b := b) (by omega) 1 (.int .i64 k2)
      have Z := Lib.hid (And.intro F8 (And.intro L8 O8))
      have HK := Lib.hid hkk
      clear hb7 F7 O7 L7 F8 L8 O8 hkk
      go_wp2_with fail
      obtain ⟨-, -, -, hok, hall, hsz, hk⟩ := X.out
      have hps := pop_size t
      have hpos := HS.out.2.1
      have hmt := HS.out.2.2
      go_roundg t.pop.size
      case measure => omega
      case rel => exact ⟨t.pop, p5, pre ++ [(x1, x2)], Z.out.2.2, by rw [HK.out], by congr 1; have h1 := HNP.out; have h2 := HS.out.1; rw [List.length_append, ← h1]; simp only [List.length_cons, List.length_nil]; unfold wrap64; omega, rfl, by rw [HK.out]; exact Z.out.1, Z.out.2.1, pop_ok hok, by rw [← hall, ok_srt hok (by rw [hmt]), hmt]; simp, by rw [List.length_append]; simp only [List.length_cons, List.length_nil]; omega⟩

end Go.Proofs.YtlaohkflnkjamaaDoor.Hp
