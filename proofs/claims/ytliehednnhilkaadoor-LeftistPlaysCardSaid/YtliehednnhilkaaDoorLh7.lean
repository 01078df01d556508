/-
  Contract of a leftist heap's Show: its text; nothing that was there has changed. Conditions: elements of 64-bit numbers, fewer than 2 to the 24th elements, the library's table as it is laid.
-/
import Derived.Test.YtliehednnhilkaaDoorLh6
import Derived.Deep.LoopGhost
namespace Go.Proofs.YtliehednnhilkaaDoor
open Go.Sort Go.RowKit

theorem repeat_any (e : Nat) (he : e < 1073741824) (w : World) : Calls Tryd.prog 53 #[.string ⟨#[41]⟩, .int .i64 (e : Int)] w fun r w' => r = .returned (.string ⟨(List.replicate e (41 : UInt8)).toArray⟩) ∧ Below w.heap.size w w' :=
  (Tryd.strings_Repeat ⟨#[41]⟩ e w (by omega) (by show 1 * e ≤ _; omega)).mono fun _ _ ⟨hr, hb⟩ => ⟨by
    rw [hr, show (⟨#[41]⟩ : ByteArray).data.toList = List.replicate 1 41 from rfl, Lib.repeatL_replicate, Nat.mul_one], hb⟩

/-- What stands ahead of the next part. -/
def sep (ps : List (Option Addr × Nat)) : List UInt8 := if ps.length = 0 then [] else [32]

set_option maxRecDepth 100000 in
set_option maxHeartbeats 4000000 in
theorem part_more (base g : Nat) (l : List UInt8) (v : Value) (ps : List (Option Addr × Nat)) (e : Nat) (w : World) (hp : 0 < ps.length) (hE : ∀ W, Below base w W → base ≤ W.heap.size)
    (hB : Bld base g l w) (hv : OwnQ w base v ps) (hl : l.length + e + 45 ≤ 140737488355328) (he : e < 1073741824) :
    Calls Tryd.prog 42 #[partV (none, e), .pointer (some ⟨g, 0, none⟩), v] w fun r w' => ∃ v', r = .returned v' ∧ OwnQ w' base v' ps ∧ Bld base g (l ++ 46 :: (List.replicate e 41 ++ sep ps)) w' ∧ Below base w w' ∧ Stay g v w w' := by
  have hbw : base ≤ w.heap.size := hE w (Below.refl _ _)
  obtain ⟨A, k, rfl⟩ := hv.empty
  have HS1 := Lib.hid ((Stay.refl g (.slice A ps.length k) w).below ((Below.refl w.heap.size w).alloc (Nat.le_refl _) (.cells #[.pointer none, .int .i64 (e : Int)] 89)))
  have hb1 : Below base w (w.alloc (.cells #[.pointer none, .int .i64 (e : Int)] 89)) := (Below.refl _ _).alloc hbw _
  have hB1 := hB.stay ((Below.refl w.heap.size w).alloc (Nat.le_refl _) (.cells #[.pointer none, .int .i64 (e : Int)] 89))
  have hv1 := hv.below ((Below.refl w.heap.size w).alloc (Nat.le_refl _) (.cells #[.pointer none, .int .i64 (e : Int)] 89))
  have hlen : (List.replicate e (41 : UInt8)).length = e := List.length_replicate
  have HC := Lib.hid (fun W => repeat_any e he W)
  have HZ := Lib.hid (show (l ++ 46 :: List.replicate e 41) ++ [32] = l ++ 46 :: (List.replicate e 41 ++ sep ps) by unfold sep; rw [if_neg (by omega)]; simp)
  generalize List.replicate e (41 : UInt8) = R at *
  have n1 : ¬ 9223372036854775807 < 1 + R.length := by omega
  have q1 : decide ((0 : Int) < (ps.length : Int)) = true := by simp; omega
  have q2 : (0 : Int) < (ps.length : Int) := by omega
  have q3 : 0 < ps.length := hp
  have HN := Lib.hid (And.intro hl (And.intro hlen he))
  have H1 := Lib.hid (And.intro hb1 (And.intro hB1 hv1))
  have HD := Lib.hid hE
  generalize ps.length = n at *
  clear hE hB hv hl he hlen hb1 hB1 hv1 hbw
  go_enter Tryd.func42, Tryd.ntmps42
  go_wp2_with fail
  ((with_reducible refine (HC.out _).mono ?_); rintro r w2 ⟨rfl, hb2⟩)
  have H2 := Lib.hid (And.intro (H1.out.1.trans (hb2.mono (HD.out _ H1.out.1))) (And.intro (H1.out.2.1.stay hb2) (H1.out.2.2.below hb2)))
  have HS2 := Lib.hid (HS1.out.below hb2)
  clear hb2 H1
  go_wp2_with fail
  ((with_reducible refine (writeB base g l (46 :: R) _ _ (one_bytes _ _) H2.out.2.1 (by have := HN.out; simp only [List.length_cons]; omega) (HD.out _ H2.out.1)).mono ?_); rintro r w3 ⟨v3, rfl, hB3, hw3⟩)
  have H3 := Lib.hid (And.intro (H2.out.1.trans hw3.below) (And.intro hB3 (H2.out.2.2.wrote H2.out.2.1 hw3)))
  have HS3 := Lib.hid (HS2.out.wrote hw3)
  clear hB3 hw3 H2 n1
  go_wp2_with fail
  ((with_reducible refine (writeB base g (l ++ 46 :: R) [32] _ _ rfl H3.out.2.1 (by have := HN.out; simp only [List.length_append, List.length_cons, List.length_nil]; omega) (HD.out _ H3.out.1)).mono ?_); rintro r w4 ⟨v4, rfl, hB4, hw4⟩)
  have H4 := Lib.hid (And.intro (H3.out.1.trans hw4.below) (And.intro hB4 (H3.out.2.2.wrote H3.out.2.1 hw4)))
  have HS4 := Lib.hid (HS3.out.wrote hw4)
  clear hB4 hw4 H3
  go_wp2_with fail
  go_ret
  exact ⟨_, rfl, H4.out.2.2, by rw [← HZ.out]; exact H4.out.2.1, H4.out.1, HS4.out⟩
set_option maxRecDepth 100000 in
set_option maxHeartbeats 4000000 in
theorem part_last (base g : Nat) (l : List UInt8) (v : Value) (ps : List (Option Addr × Nat)) (e : Nat) (w : World) (hp : ps = []) (hE : ∀ W, Below base w W → base ≤ W.heap.size)
    (hB : Bld base g l w) (hv : OwnQ w base v ps) (hl : l.length + e + 45 ≤ 140737488355328) (he : e < 1073741824) :
    Calls Tryd.prog 42 #[partV (none, e), .pointer (some ⟨g, 0, none⟩), v] w fun r w' => ∃ v', r = .returned v' ∧ OwnQ w' base v' ps ∧ Bld base g (l ++ 46 :: (List.replicate e 41 ++ sep ps)) w' ∧ Below base w w' ∧ Stay g v w w' := by
  subst hp
  have hbw : base ≤ w.heap.size := hE w (Below.refl _ _)
  obtain ⟨A, k, rfl⟩ := hv.empty
  have HS1 := Lib.hid ((Stay.refl g (.slice A 0 k) w).below ((Below.refl w.heap.size w).alloc (Nat.le_refl _) (.cells #[.pointer none, .int .i64 (e : Int)] 89)))
  have hb1 : Below base w (w.alloc (.cells #[.pointer none, .int .i64 (e : Int)] 89)) := (Below.refl _ _).alloc hbw _
  have hB1 := hB.stay ((Below.refl w.heap.size w).alloc (Nat.le_refl _) (.cells #[.pointer none, .int .i64 (e : Int)] 89))
  have hv1 := hv.below ((Below.refl w.heap.size w).alloc (Nat.le_refl _) (.cells #[.pointer none, .int .i64 (e : Int)] 89))
  have hlen : (List.replicate e (41 : UInt8)).length = e := List.length_replicate
  have HC := Lib.hid (fun W => repeat_any e he W)
  have HZ := Lib.hid (show (l ++ 46 :: List.replicate e 41) ++ [] = l ++ 46 :: (List.replicate e 41 ++ sep []) by unfold sep; rw [if_pos (by rfl)]; simp)
  generalize List.replicate e (41 : UInt8) = R at *
  have n1 : ¬ 9223372036854775807 < 1 + R.length := by omega
  have HN := Lib.hid (And.intro hl (And.intro hlen he))
  have H1 := Lib.hid (And.intro hb1 (And.intro hB1 hv1))
  have HD := Lib.hid hE
  clear hE hB hv hl he hlen hb1 hB1 hv1 hbw
  go_enter Tryd.func42, Tryd.ntmps42
  go_wp2_with fail
  ((with_reducible refine (HC.out _).mono ?_); rintro r w2 ⟨rfl, hb2⟩)
  have H2 := Lib.hid (And.intro (H1.out.1.trans (hb2.mono (HD.out _ H1.out.1))) (And.intro (H1.out.2.1.stay hb2) (H1.out.2.2.below hb2)))
  have HS2 := Lib.hid (HS1.out.below hb2)
  clear hb2 H1
  go_wp2_with fail
  ((with_reducible refine (writeB base g l (46 :: R) _ _ (one_bytes _ _) H2.out.2.1 (by have := HN.out; simp only [List.length_cons]; omega) (HD.out _ H2.out.1)).mono ?_); rintro r w3 ⟨v3, rfl, hB3, hw3⟩)
  have H3 := Lib.hid (And.intro (H2.out.1.trans hw3.below) (And.intro hB3 (H2.out.2.2.wrote H2.out.2.1 hw3)))
  have HS3 := Lib.hid (HS2.out.wrote hw3)
  clear hB3 hw3 H2 n1
  go_wp2_with fail
  go_ret
  exact ⟨_, rfl, H3.out.2.2, by rw [← HZ.out, List.append_nil]; exact H3.out.2.1, H3.out.1, HS3.out⟩
theorem OwnQ.lower {w : World} {base base' : Nat} {v : Value} {ps : List (Option Addr × Nat)} (h : OwnQ w base v ps) (hb : base' ≤ base) : OwnQ w base' v ps :=
  ⟨h.1, h.2.imp id (fun ⟨g, cap, cur, a, b, r⟩ => ⟨g, cap, cur, a, Nat.le_trans hb b, r⟩)⟩
/-- What waits, in memory. -/
def WaitAt (W : World) : List (Lh × Nat) → List (Option Addr × Nat) → Prop
  | [], [] => True
  | (t, e) :: ts, (p, e') :: ps => LAt W t p ∧ e = e' ∧ fits t.all ∧ WaitAt W ts ps
  | _, _ => False
theorem WaitAt.cons {W : World} {ts : List (Lh × Nat)} {q : Option Addr × Nat} {qs : List (Option Addr × Nat)} (h : WaitAt W ts (q :: qs)) : ∃ t e r, ts = (t, e) :: r ∧ LAt W t q.1 ∧ e = q.2 ∧ fits t.all ∧ WaitAt W r qs := by
  match ts, h with
  | (t, e) :: r, h => exact ⟨t, e, r, rfl, h⟩
theorem WaitAt.nil {W : World} {ts : List (Lh × Nat)} (h : WaitAt W ts []) : ts = [] := by
  match ts, h with
  | [], _ => rfl
theorem wait_length {W : World} : ∀ {ts : List (Lh × Nat)} {qs : List (Option Addr × Nat)}, WaitAt W ts qs → qs.length ≤ waitN ts
  | [], [], _ => Nat.le_refl _
  | (t, e) :: ts, (p, e') :: ps, h => by have := wait_length h.2.2.2; simp only [List.length_cons, waitN]; omega
  | [], _ :: _, h => h.elim
  | _ :: _, [], h => h.elim
theorem wait_ends (t : Lh) (e : Nat) (ts : List (Lh × Nat)) : e ≤ (waitText ((t, e) :: ts)).length := by
  cases ts <;> simp [waitText] <;> omega

/-- One part, whatever it is. -/
theorem part_any (w0 : World) (he : Env w0) (u : Lh) (e : Nat) (r : List (Lh × Nat)) (q1 : Option Addr) (qs : List (Option Addr × Nat)) (g : Nat) (pre : List UInt8) (v : Value) (W : World) (hl : LAt w0 u q1) (hf : fits u.all) (hwr : WaitAt w0 r qs) (hg : w0.heap.size ≤ g)
    (hbe : Below w0.heap.size w0 W) (hgs : g ≤ W.heap.size) (hB : Bld g g pre W) (hq : OwnQ W g v qs.reverse) (hn : qs.length < 33554433) (hp : pre.length + (waitText ((u, e) :: r)).length < 1073741000) :
    Calls Tryd.prog 42 #[partV (q1, e), .pointer (some ⟨g, 0, none⟩), v] W fun x w' => ∃ v' ts' qs' pre', x = .returned v' ∧ OwnQ w' g v' qs'.reverse ∧ WaitAt w0 ts' qs' ∧ pre' ++ waitText ts' = pre ++ waitText ((u, e) :: r) ∧ waitN ts' < waitN ((u, e) :: r) ∧ Bld g g pre' w' ∧ Below g W w' ∧ Stay g v W w' := by
  have hee := wait_ends u e r
  cases u with
  | nil =>
    obtain rfl := hl
    cases qs with
    | nil =>
      obtain rfl := hwr.nil
      refine (part_last g g pre v [] e W rfl (fun w' h => Nat.le_trans hgs h.size) hB hq (by omega) (by omega)).mono fun x w' ⟨v', hx, h1, h2, h3, h4⟩ => ⟨v', [], [], _, hx, h1, trivial, ?_, by simp [waitN], h2, h3, h4⟩
      rw [wait_nil_last]
      simp [waitText, sep]
    | cons q qs =>
      obtain ⟨t', e', r', rfl, hl', he', hf', hwr'⟩ := hwr.cons
      refine (part_more g g pre v (q :: qs).reverse e W (by simp) (fun w' h => Nat.le_trans hgs h.size) hB hq (by omega) (by omega)).mono fun x w' ⟨v', hx, h1, h2, h3, h4⟩ => ⟨v', (t', e') :: r', q :: qs, _, hx, h1, ⟨hl', he', hf', hwr'⟩, ?_, by simp [waitN], h2, h3, h4⟩
      rw [wait_nil]
      simp [sep]
  | node x l r' =>
    obtain ⟨b, lp, rp, rfl, hb, h1, h2⟩ := hl
    obtain ⟨x1, x2⟩ := x
    have hrev : ((lp, 0) :: (rp, e + 1) :: qs).reverse = qs.reverse ++ [(rp, e + 1), (lp, 0)] := by simp
    have hlt := lt_of_heap hb
    refine (part_node g g pre v qs.reverse x1 x2 lp rp _ _ b e W (fun w' h => he.below (hbe.trans (h.mono hg))) ((hbe.block b hlt).trans hb) (by omega) hf.cons.1 hB hgs hq (by rw [List.length_reverse]; omega) (by omega) (by omega)).mono fun x w' ⟨v', hx, k1, k2, k3, k4⟩ => ⟨v', (l, 0) :: (r', e + 1) :: r, (lp, 0) :: (rp, e + 1) :: qs, _, hx, by rw [hrev]; exact k1, ⟨h1, rfl, hf.cons.2.append.1, h2, rfl, hf.cons.2.append.2, hwr⟩, ?_, by simp only [waitN, Lh.size]; omega, k2, k3, k4⟩
    rw [wait_node]
    simp

set_option maxRecDepth 100000 in
set_option maxHeartbeats 4000000 in
theorem show_any (t : Lh) (p : Option Addr) (w : World) (he : Env w) (h : LAt w t p) (hf : fits t.all) (h1 : t.size < 16777216) :
    Calls Tryd.prog 28 #[hp p] w fun e w' => e = .returned (.string ⟨t.show.toArray⟩) ∧ Below w.heap.size w w' := by
  have hs := t.show_length hf
  have hb1 : Below w.heap.size w (((w.alloc (.cells #[.pointer p] 29)).alloc (.cells #[.pointer none, .slice none 0 0] 87)).alloc (.cells #[.pointer p, .int .i64 0] 89)) :=
    (((Below.refl _ _).alloc (Nat.le_refl _) _).alloc (by simp) _).alloc (by simp only [World.size_alloc]; omega) _
  have hB1 : Bld (w.heap.size + 1) (w.heap.size + 1) [] (((w.alloc (.cells #[.pointer p] 29)).alloc (.cells #[.pointer none, .slice none 0 0] 87)).alloc (.cells #[.pointer p, .int .i64 0] 89)) := by
    have hz := (newBuilder (w.alloc (.cells #[.pointer p] 29))).stay ((Below.refl _ _).alloc (Nat.le_refl _) (.cells #[.pointer p, .int .i64 0] 89))
    rw [World.size_alloc] at hz
    exact hz
  have hq1 : OwnQ (((w.alloc (.cells #[.pointer p] 29)).alloc (.cells #[.pointer none, .slice none 0 0] 87)).alloc (.cells #[.pointer p, .int .i64 0] 89)) (w.heap.size + 1) (.slice (some ⟨w.heap.size + 1 + 1, 0, none⟩) 1 1) [(p, 0)] := by
    have hz := OwnQ.one ((w.alloc (.cells #[.pointer p] 29)).alloc (.cells #[.pointer none, .slice none 0 0] 87)) p 0
    simp only [World.size_alloc] at hz
    exact OwnQ.lower hz (by omega)
  have HT := Lib.hid (And.intro he (And.intro h (And.intro hf (And.intro h1 hs))))
  have H1 := Lib.hid (And.intro hb1 (And.intro hB1 hq1))
  clear he h hf h1 hs hb1 hB1 hq1
  go_enter Tryd.func28, Tryd.ntmps28
  go_wp2_with fail
  generalize ((w.alloc (.cells #[.pointer p] 29)).alloc (.cells #[.pointer none, .slice none 0 0] 87)).alloc (.cells #[.pointer p, .int .i64 0] 89) = w1 at *
  obtain ⟨g, hg⟩ : ∃ g, g = w.heap.size + 1 := ⟨_, rfl⟩
  rw [← hg] at H1 ⊢
  have HG := Lib.hid (show w.heap.size ≤ g by omega)
  clear hg
  go_loopg [4] (waitN [(t, 0)]) (fun k v wr => ∃ (ts : List (Lh × Nat)) (qs : List (Option Addr × Nat)) (pre : List UInt8), OwnQ wr g v qs.reverse ∧ WaitAt w ts qs ∧ pre ++ waitText ts = t.show ∧ k = waitN ts ∧ waitN ts ≤ waitN [(t, 0)] ∧ Bld g g pre wr ∧ Below w.heap.size w wr ∧ g ≤ wr.heap.size)
  case atStart => exact ⟨[(t, 0)], [(p, 0)], [], H1.out.2.2, ⟨HT.out.2.1, rfl, HT.out.2.2.1, trivial⟩, by simp [waitText], rfl, Nat.le_refl _, H1.out.2.1, H1.out.1, by obtain ⟨-, cs, hz⟩ := H1.out.2.1.block; exact Nat.le_of_lt (lt_of_heap hz)⟩
  case round =>
    obtain ⟨ts, qs, pre, hq, hw, ht, hk, hle, hB, hbe, hgs⟩ := hrel
    cases qs with
    | nil =>
      obtain rfl := hw.nil
      obtain ⟨A, c, rfl⟩ := hq.empty
      have X := Lib.hid (And.intro ht (And.intro hB (And.intro hbe hgs)))
      clear hq hw ht hk hle hB hbe hgs
      go_wp2_with fail
      ((with_reducible refine (string_any g g pre _ X.out.2.1 X.out.2.2.2).mono ?_); rintro e w2 ⟨rfl, hb2⟩)
      have B2 := Lib.hid (X.out.2.2.1.trans (hb2.mono HG.out))
      clear hb2
      go_wp2_with fail
      go_ret
      obtain ⟨ht, -⟩ := X.out
      simp only [waitText, List.append_nil] at ht
      exact ⟨by rw [← ht]; rfl, B2.out⟩
    | cons q qs =>
      rw [List.reverse_cons] at hq
      obtain ⟨b, cap, rfl, hc1, hc2, hx0, hx1, hq'⟩ := hq.last
      obtain ⟨u, e, r, rfl, hl, he, hf, hwr⟩ := hw.cons
      obtain ⟨q1, q2⟩ := q
      simp only at hx0 hx1 hl he
      subst he
      have hn1 : qs.reverse.length = qs.length := List.length_reverse
      rw [hn1] at hc1 hx0 hx1 hq' ⊢
      have hlen := wait_length hwr
      have hsz : waitN [(t, 0)] < 33554433 := by have := HT.out.2.2.2.1; simp only [waitN]; omega
      have hwN : waitN ((u, e) :: r) = 2 * u.size + 1 + waitN r := rfl
      have hnl : qs.length < 33554433 := by omega
      obtain ⟨L, hL⟩ : ∃ L, L = qs.length + 1 := ⟨_, rfl⟩
      obtain ⟨n, hnn⟩ : ∃ n, n = qs.length := ⟨_, rfl⟩
      rw [← hnn] at hx0 hx1 hq' hnl
      rw [← hL] at hc1
      rw [← hL]
      have g1 : decide ((0 : Int) < (L : Int)) = true := by simp; omega
      have g2 : (0 : Int) < (L : Int) := by omega
      have g3 : 0 < L := by omega
      have g4 : IntKind.i64.wrap ((L : Int) - 1) = (n : Int) := by rw [IntKind.wrap_i64]; omega
      have g5 : (0 : Int) ≤ (n : Int) := by omega
      have g6 : (n : Int) < (L : Int) := by omega
      have g7 : n < L := by omega
      have g8 : n ≤ cap := by omega
      have X := Lib.hid (And.intro ht (And.intro hB (And.intro hbe (And.intro hgs (And.intro hl (And.intro hf (And.intro hwr (And.intro hk (And.intro hle (And.intro hq' (And.intro hL hnn)))))))))))
      clear hq hw ht hk hle hB hbe hgs hl hf hwr hlen hsz hwN hn1 hq' hL hnn
      go_wp2_with fail
      have hrow := X.out.2.2.2.2.2.2.2.2.2.1
      have hblt : ∃ cs, wr.heap[b]? = some (.cells cs 89 (0, 0)) := (hrow.kind b rfl).2.2
      have hglt : ∃ cs, wr.heap[g]? = some (.cells cs 87 (0, 0)) := X.out.2.1.block.2
      have hb0 : Below wr.heap.size wr (wr.alloc (.cells #[.pointer q1, .int .i64 (e : Int)] 89)).drew := ((Below.refl _ _).alloc (Nat.le_refl _) _).drew
      have hbox : (wr.alloc (.cells #[.pointer q1, .int .i64 (e : Int)] 89)).drew.heap[wr.heap.size]? = some (.cells #[.pointer q1, .int .i64 (e : Int)] 89 (0, 0)) := new_at (W := wr) (n := wr.heap.size) rfl
      have HC := part_any w HT.out.1 u e r q1 qs g pre (.slice (some ⟨b, 0, none⟩) n cap) (wr.alloc (.cells #[.pointer q1, .int .i64 (e : Int)] 89)).drew X.out.2.2.2.2.1 X.out.2.2.2.2.2.1 X.out.2.2.2.2.2.2.1 HG.out (X.out.2.2.1.trans (hb0.mono X.out.2.2.1.size)) (Nat.le_trans X.out.2.2.2.1 hb0.size) (X.out.2.1.stay hb0) (hrow.below hb0) (by have := X.out; omega)
        (by have h5 := congrArg List.length X.out.1; have h6 := HT.out.2.2.2; simp only [List.length_append] at h5; omega)
      have HCC := Lib.hid HC
      have HBX := Lib.hid (And.intro hb0 (And.intro hbox (And.intro hblt hglt)))
      obtain ⟨a, ha⟩ : ∃ a, a = wr.heap.size := ⟨_, rfl⟩
      rw [← ha] at HBX ⊢
      have HA := Lib.hid ha
      generalize wr.alloc (.cells #[.pointer q1, .int .i64 (e : Int)] 89) = w2 at *
      have x0 : w2.cell? ⟨a, 0, none⟩ = some (.pointer q1) := by have := HBX.out.2.1; simp only [World.cell?]; rw [show w2.heap[a]? = _ from this]; rfl
      have x1 : w2.cell? ⟨a, 1, none⟩ = some (.int .i64 (e : Int)) := by have := HBX.out.2.1; simp only [World.cell?]; rw [show w2.heap[a]? = _ from this]; rfl
      clear hrow hblt hglt hb0 hbox HC ha hx0 hx1
      go_region_held3 (fun w' => w'.cell? ⟨a, 0, none⟩ = some (.pointer q1) ∧ w'.cell? ⟨a, 1, none⟩ = some (.int .i64 (e : Int))) (go_keep)
        (first | (go_at_call 42; ((with_reducible refine HCC.out.mono ?_); rintro y w3 ⟨v3, ts3, qs3, pre3, rfl, h31, h32, h33, h34, h35, h36, h37⟩; have hbox3 := (h37 a _ _ _ HBX.out.2.1 (by have := HBX.out.2.2.2; obtain ⟨_, h5⟩ := this; have := lt_of_heap h5; have := HA.out; omega) (by decide) (by have := HBX.out.2.2.1; obtain ⟨_, h5⟩ := this; have := lt_of_heap h5; have := HA.out; simp [Value.ownBlock]; omega)); have y0 : w3.cell? ⟨a, 0, none⟩ = some (.pointer q1) := (by simp [World.cell?, hbox3]); have y1 : w3.cell? ⟨a, 1, none⟩ = some (.int .i64 (e : Int)) := (by simp [World.cell?, hbox3]); have Z := Lib.hid (And.intro h31 (And.intro h32 (And.intro h33 (And.intro h34 (And.intro h35 h36))))); clear h31 h32 h33 h34 h35 h36 h37 hbox3)))
      go_wp2_with fail
      obtain ⟨h31, h32, h33, h34, h35, h36⟩ := Z.out
      have hbz := X.out.2.2.1.trans (HBX.out.1.mono (by have := X.out.2.2.1.size; have := HA.out; omega))
      go_roundg (waitN ts3)
      case measure => have := X.out.2.2.2.2.2.2.2.1; omega
      case rel => exact ⟨ts3, qs3, pre3, h31, h32, h33.trans X.out.1, rfl, by have := X.out.2.2.2.2.2.2.2.2.1; omega, h35, hbz.trans (h36.mono HG.out), by have := X.out.2.2.2.1; have := HBX.out.1.size; have := HA.out; have := h36.size; exact Nat.le_trans (Nat.le_trans X.out.2.2.2.1 (by omega)) h36.size⟩

end Go.Proofs.YtliehednnhilkaaDoor
