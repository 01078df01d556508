/-
  Contract of the statement's own drain: all elements of a heap, in order, as a slice of the call's own; nothing that was there has changed. Conditions: a heap in order, of no more elements than are asked for, fewer than 2 to the 24th.
-/
import Derived.Test.YtlmokendajgbdaaGreatDoorWb4
import Derived.Test.YtlmokendajgbdaaGreatDoorMb
namespace Go.Proofs.YtlmokendajgbdaaGreatDoor.Bo
open Go.Sort Go.RowKit

theorem _root_.Go.Proofs.YtlmokendajgbdaaGreatDoor.Own.kind {w : World} {base : Nat} {v : Value} {xs : List (Int × Int)} (h : Own w base v xs) : ∀ k, v.ownBlock = some k → base ≤ k ∧ k < w.heap.size ∧ ∃ cs, w.heap[k]? = some (.cells cs 32 (0, 0)) := by
  intro k hk
  rcases h.2 with ⟨rfl, -⟩ | ⟨g, cap, cur, rfl, hb, hg, -⟩
  · cases hk
  · cases hk
    exact ⟨hb, lt_of_heap hg, cur, hg⟩
theorem _root_.Go.Proofs.YtlmokendajgbdaaGreatDoor.Own.lower {w : World} {base base' : Nat} {v : Value} {xs : List (Int × Int)} (h : Own w base v xs) (hb : base' ≤ base) : Own w base' v xs :=
  ⟨h.1, h.2.imp id (fun ⟨g, cap, cur, a, b, r⟩ => ⟨g, cap, cur, a, Nat.le_trans hb b, r⟩)⟩
/-- A row of the call's own, where another block is written. -/
theorem _root_.Go.Proofs.YtlmokendajgbdaaGreatDoor.Own.other {w : World} {base : Nat} {v : Value} {xs : List (Int × Int)} (h : Own w base v xs) {b : Nat} (hb : b < base) (j : Nat) (u : Value) : Own (w.setCell ⟨b, j, Option.none⟩ u) base v xs := by
  refine ⟨h.1, ?_⟩
  rcases h.2 with hn | ⟨g, cap, cur, rfl, hg1, hg, rest⟩
  · exact .inl hn
  · exact .inr ⟨g, cap, cur, rfl, hg1, (heap_other _ _ (by omega)).trans hg, rest⟩

/-- One thing more behind a slice of the call's own. -/
theorem append_one (w : World) (base : Nat) (v : Value) (xs : List (Int × Int)) (x : Int × Int) (hown : Own w base v xs) (hlen : xs.length < 1073741824) (hb : base ≤ w.heap.size) :
    ∃ v' w', (Builtin.append_ #[37, 37] 37 #[v, .slice (some ⟨w.heap.size, 0, none⟩) 1 1]).run Tryz.prog (w.alloc (.cells #[.int .i64 x.1, .int .i64 x.2] 32)) = .ok v' w' ∧ Own w' base v' (xs ++ [x]) ∧ Below base w w' ∧ Kp w w' ∧ w.heap.size ≤ w'.heap.size := by
  have hb1 := (Below.refl w.heap.size w).alloc (Nat.le_refl _) (.cells #[.int .i64 x.1, .int .i64 x.2] 32)
  obtain ⟨v', w', h1, h2, h3⟩ := append_row (w.alloc (.cells #[.int .i64 x.1, .int .i64 x.2] 32)) base v xs [x] (some ⟨w.heap.size, 0, none⟩) 1 (hown.below hb1) (row_new w [x] _) (fun e => by cases e) (by simp; omega) (by simp; omega)
  have hsz9 : w.heap.size ≤ w'.heap.size := Nat.le_trans (by simp) h3.size
  refine ⟨v', w', h1, h2, below_grown ((Below.refl _ _).alloc hb _) h3 (by simp; omega) (fun g hg => hown.block g hg), (Kpt.below hb1).trans (Kpt.grown h3 (fun g hg cs t ht => ?_)), hsz9⟩
  obtain ⟨-, -, cs', hk⟩ := (hown.below hb1).kind g hg
  rw [hk] at ht
  cases ht
  exact elemT_ne
/-- The variables of drain: a heap, an element. -/
structure Fd (w0 W : World) (a b : Nat) (p : Option Addr) (x : Int × Int) : Prop where
  h : W.heap[a]? = some (.cells #[.pointer p] 29 (0, 0))
  e : W.heap[b]? = some (.cells #[.int .i64 x.1, .int .i64 x.2] 32 (0, 0))
  bl : Below w0.heap.size w0 W
  ab : a < b
  wa : w0.heap.size ≤ a
section
variable {w0 W W' : World} {a b : Nat} {p : Option Addr} {x : Int × Int}
theorem Fd.stay (h : Fd w0 W a b p x) {B : Nat} (hb : Below B W W') (hB : b + 1 ≤ B) : Fd w0 W' a b p x :=
  ⟨(hb.block _ (by have := h.ab; omega)).trans h.h, (hb.block _ (by omega)).trans h.e, h.bl.trans (hb.mono (by have := h.ab; have := h.wa; omega)), h.ab, h.wa⟩
theorem Fd.lt (h : Fd w0 W a b p x) : b + 1 ≤ W.heap.size := lt_of_heap h.e
theorem Fd.c0 (h : Fd w0 W a b p x) : W.cell? ⟨a, 0, none⟩ = some (.pointer p) := by simp [World.cell?, h.h]
theorem Fd.z0 (h : Fd w0 W a b p x) : W.frozen? ⟨a, 0, none⟩ = false := by simp [World.frozen?, h.h]
theorem Fd.e0 (h : Fd w0 W a b p x) : W.cell? ⟨b, 0, none⟩ = some (.int .i64 x.1) := by simp [World.cell?, h.e]
theorem Fd.e1 (h : Fd w0 W a b p x) : W.cell? ⟨b, 1, none⟩ = some (.int .i64 x.2) := by simp [World.cell?, h.e]
theorem Fd.f0 (h : Fd w0 W a b p x) : W.frozen? ⟨b, 0, none⟩ = false := by simp [World.frozen?, h.e]
theorem Fd.f1 (h : Fd w0 W a b p x) : W.frozen? ⟨b, 1, none⟩ = false := by simp [World.frozen?, h.e]
theorem Fd.put (h : Fd w0 W a b p x) (q : Option Addr) : Fd w0 (W.setCell ⟨a, 0, none⟩ (.pointer q)) a b q x :=
  ⟨heap_put (j := 0) h.h _, (heap_other _ _ (by have := h.ab; omega)).trans h.e, h.bl.setCell (p := ⟨a, 0, none⟩) h.wa _, h.ab, h.wa⟩
theorem Fd.puts (h : Fd w0 W a b p x) (y : Int × Int) : Fd w0 ((W.setCell ⟨b, 0, none⟩ (.int .i64 y.1)).setCell ⟨b, 1, none⟩ (.int .i64 y.2)) a b p y :=
  ⟨(heap_other _ _ (by have := h.ab; omega)).trans ((heap_other _ _ (by have := h.ab; omega)).trans h.h), heap_put (j := 1) (heap_put (j := 0) h.e _) _, (h.bl.setCell (p := ⟨b, 0, none⟩) (by have := h.ab; have := h.wa; show w0.heap.size ≤ b; omega) _).setCell (p := ⟨b, 1, none⟩) (by have := h.ab; have := h.wa; show w0.heap.size ≤ b; omega) _, h.ab, h.wa⟩
end

set_option maxRecDepth 100000 in
set_option maxHeartbeats 4000000 in
theorem drain_any (t0 : Lh) (p0 : Option Addr) (N : Int) (w : World) (h : LAt w t0 p0) (hok : t0.ok) (hn : (t0.size : Int) ≤ N) (hN : N < 1073741824) (hs : t0.size < 16777216) :
    Calls Tryz.prog 32 #[hp p0, .int .i64 N] w fun e w' => ∃ v, e = .returned v ∧ Own w' w.heap.size v (srt t0.all) ∧ Below w.heap.size w w' := by
  have hb1 : Below w.heap.size w (w.alloc (.cells #[.pointer p0] 29)) := (Below.refl _ _).alloc (Nat.le_refl _) _
  have e1 : (w.alloc (.cells #[.pointer p0] 29)).heap[w.heap.size]? = some (.cells #[.pointer p0] 29 (0, 0)) := new_at rfl
  have H0 := Lib.hid (And.intro (h.stay hb1) (And.intro hok (And.intro hn (And.intro hN hs))))
  have HE := Lib.hid (And.intro hb1 e1)
  clear h hok hn hN hs hb1 e1
  go_enter Tryz.func32, Tryz.ntmps32
  go_wp2_with fail
  ((with_reducible refine (min_any t0 p0 _ _ H0.out.1).mono ?_); rintro e w2 ⟨rfl, hb2⟩)
  obtain ⟨⟨⟨m1, m2⟩, mb⟩, hmm⟩ : ∃ mm, t0.min = mm := ⟨_, rfl⟩
  rw [show minV t0 = .tuple #[el (m1, m2), .bool mb] by simp only [minV, hmm]]
  have hrow2 := (hb2.block _ (lt_of_heap HE.out.2)).trans HE.out.2
  have hF2 : Fd w (w2.alloc (.cells #[.int .i64 m1, .int .i64 m2] 32)) w.heap.size w2.heap.size p0 (m1, m2) :=
    ⟨(alloc_old _ (lt_of_heap hrow2)).trans hrow2, new_at rfl, (HE.out.1.trans (hb2.mono HE.out.1.size)).alloc (Nat.le_of_lt (lt_of_heap hrow2)) _, lt_of_heap hrow2, Nat.le_refl _⟩
  have F2 := Lib.hid hF2
  have L2 := Lib.hid ((H0.out.1.stay hb2).stay ((Below.refl _ _).alloc (Nat.le_refl _) (.cells #[.int .i64 m1, .int .i64 m2] 32)))
  have HM := Lib.hid hmm
  clear hrow2 hb2 HE hF2 hmm
  go_wp2_with fail
  generalize w2.alloc (.cells #[.int .i64 m1, .int .i64 m2] 32) = w3 at *
  obtain ⟨b, hb⟩ : ∃ b, b = w2.heap.size := ⟨_, rfl⟩
  obtain ⟨a, ha⟩ : ∃ a, a = w.heap.size := ⟨_, rfl⟩
  rw [← hb, ← ha] at F2
  rw [← hb, ← ha]
  have HA := Lib.hid ha
  clear hb ha
  go_loopg [5, 7, 8] t0.size (fun k v is i wr => ∃ (t : Lh) (p : Option Addr) (pre : List (Int × Int)), Own wr (b + 1) v pre ∧ is = .bool t.min.2 ∧ i = .int .i64 (pre.length : Nat) ∧ k = t.size ∧ Fd w wr a b p t.min.1 ∧ LAt wr t p ∧ t.ok ∧ pre ++ srt t.all = srt t0.all ∧ pre.length + t.size = t0.size)
  case atStart => exact ⟨t0, p0, [], Own.none _ _, by rw [HM.out], rfl, rfl, by rw [HM.out]; exact F2.out, L2.out, H0.out.2.1, rfl, by simp⟩
  case round =>
    obtain ⟨t, p, pre, hown, rfl, rfl, hk, hF, hL, hok, hall, hsz⟩ := hrel
    cases t with
    | nil =>
      obtain ⟨A, c, rfl, -⟩ := hown.form
      have X := Lib.hid (And.intro hown (And.intro hF (And.intro hall hsz)))
      simp only [Lh.min]
      clear hown hk hF hL hok hall hsz
      have hfin : ∀ v W, Own W (b + 1) v pre → Fd w W a b p (0, 0) → Own W w.heap.size v (srt t0.all) ∧ Below w.heap.size w W := fun v W ho hf => by
        have h1 := X.out.2.2.1
        rw [show Lh.nil.all = [] from rfl, srt_nil, List.append_nil] at h1
        rw [← h1]
        exact ⟨ho.lower (by have := hf.ab; have := hf.wa; omega), hf.bl⟩
      have HF := Lib.hid hfin
      clear hfin
      by_cases hlt : (pre.length : Int) < N
      · have g1 : decide ((pre.length : Int) < N) = true := by simpa using hlt
        go_wp2_with fail
        go_ret
        exact ⟨_, rfl, HF.out _ _ X.out.1 X.out.2.1⟩
      · have g1 : decide ((pre.length : Int) < N) = false := by simpa using hlt
        go_wp2_with fail
        go_ret
        exact ⟨_, rfl, HF.out _ _ X.out.1 X.out.2.1⟩
    | node x o =>
      obtain ⟨x1, x2⟩ := x
      simp only [Lh.min] at hF ⊢
      rw [show (Lh.node (x1, x2) o).size = ((Gn.bAll o).flatMap Lh.els).length + 1 from rfl] at hsz hk
      have hlt : (pre.length : Int) < N := by have := H0.out.2.2.1; omega
      have g1 : decide ((pre.length : Int) < N) = true := by simpa using hlt
      have hsm : pre.length < 16777216 := by have := H0.out.2.2.2.2; omega
      have hB : b + 1 ≤ wr.heap.size := hF.lt
      obtain ⟨v4, w4, hrun, hown4, hb4, hkp4, hsz4⟩ := append_one wr (b + 1) _ pre (x1, x2) hown (by omega) hB
      have hF4 := hF.stay hb4 (Nat.le_refl _)
      have hL4 := hL.kps hkp4 hsz4
      have e0 := hF.e0
      have e1 := hF.e1
      have c4 := hF4.c0
      have z4 := hF4.z0
      have X := Lib.hid (And.intro hown4 (And.intro hF4 (And.intro hL4 (And.intro hok (And.intro hall (And.intro hsz hk))))))
      have HR := Lib.hid hrun
      have HS := Lib.hid hsm
      clear hown hk hF hL hok hall hsz hB hown4 hb4 hF4 hL4 hrun hsm hkp4 hsz4
      obtain ⟨np, hnp⟩ : ∃ np, np = pre.length := ⟨_, rfl⟩
      rw [← hnp] at g1 hlt ⊢
      have HNP := Lib.hid hnp
      clear hnp
      go_wp2_with (at_builtin; refine wpList_append_run rfl _ _ _ rfl _ _ _ _ rfl rfl HR.out ?_)
      clear e0 e1 c4
      ((with_reducible refine (popN (.node (x1, x2) o) p _ X.out.2.2.1 (by have := X.out.2.2.2.2.2.1; have := H0.out.2.2.2.2; rw [show (Lh.node (x1, x2) o).size = ((Gn.bAll o).flatMap Lh.els).length + 1 from rfl]; omega)).mono ?_); rintro e w5 ⟨p5, rfl, ht5, hb5⟩)
      have F5 := X.out.2.1.stay hb5 X.out.2.1.lt
      have O5 := X.out.1.below hb5
      have z5 := F5.z0
      have c5 := F5.c0
      have F6 := F5.put p5
      have L6 := ht5.wrote F5.h heapT_ne 0 (.pointer p5)
      have O6 := O5.other (b := a) (by have := F5.ab; omega) 0 (.pointer p5)
      have c6 := F6.c0
      have Y := Lib.hid (And.intro F6 (And.intro L6 O6))
      clear hb5 ht5 F5 O5 F6 L6 O6 z4
      go_wp2_with fail
      clear z5 c5 c6
      generalize w5.setCell ⟨a, 0, none⟩ (.pointer p5) = w6 at *
      ((with_reducible refine (min_any ((Lh.node (x1, x2) o).pop) p5 _ _ Y.out.2.1).mono ?_); rintro e w7 ⟨rfl, hb7⟩)
      have F7 := Y.out.1.stay hb7 Y.out.1.lt
      have O7 := Y.out.2.2.below hb7
      have L7 := Y.out.2.1.stay hb7
      obtain ⟨⟨⟨k1, k2⟩, kb⟩, hkk⟩ : ∃ mm, ((Lh.node (x1, x2) o).pop).min = mm := ⟨_, rfl⟩
      rw [show minV ((Lh.node (x1, x2) o).pop) = .tuple #[el (k1, k2), .bool kb] by simp only [minV, hkk]]
      have y0 := F7.e0
      have y1 := F7.e1
      have y2 := F7.f0
      have y3 := F7.f1
      have F8 := F7.puts (k1, k2)
      have L8 := (L7.wrote F7.e elemT_ne 0 (.int .i64 k1)).wrote (heap_put (j := 0) F7.e (.int .i64 k1)) elemT_ne 1 (.int .i64 k2)
      have O8 := (O7.other (b := b) (by omega) 0 (.int .i64 k1)).other (b := b) (by omega) 1 (.int .i64 k2)
      have Z := Lib.hid (And.intro F8 (And.intro L8 O8))
      have HK := Lib.hid hkk
      clear hb7 F7 O7 L7 F8 L8 O8 hkk
      go_wp2_with fail
      obtain ⟨-, -, -, hok, hall, hsz, hk⟩ := X.out
      go_roundg ((Lh.node (x1, x2) o).pop).size
      case measure => rw [pop_size hok, show (Lh.node (x1, x2) o).size = ((Gn.bAll o).flatMap Lh.els).length + 1 from rfl]; omega
      case rel => exact ⟨((Lh.node (x1, x2) o).pop), p5, pre ++ [(x1, x2)], Z.out.2.2, by rw [HK.out], by congr 1; have h1 := HNP.out; have h2 := HS.out; rw [List.length_append, ← h1]; simp only [List.length_cons, List.length_nil]; unfold wrap64; omega, rfl, by rw [HK.out]; exact Z.out.1, Z.out.2.1, pop_ok hok, by rw [← hall, ok_srt hok rfl]; simp [Lh.pop, Lh.min], by rw [pop_size hok, show (Lh.node (x1, x2) o).size = ((Gn.bAll o).flatMap Lh.els).length + 1 from rfl, List.length_append]; simp only [List.length_cons, List.length_nil]; omega⟩

end Go.Proofs.YtlmokendajgbdaaGreatDoor.Bo
