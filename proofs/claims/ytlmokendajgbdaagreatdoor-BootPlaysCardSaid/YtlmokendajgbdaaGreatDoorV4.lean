/-
  Contracts of a skew binomial heap's melded: of two rows whose ranks all rise: the heap, how many links there were, that what was there stays but for the meter's block. Conditions: fewer than 2 to the 28th elements, counts below 2 to the 59th.
-/
import Derived.Test.YtlmokendajgbdaaGreatDoorV3
import Derived.Deep.DrawnRows
namespace Go.Proofs.YtlmokendajgbdaaGreatDoor.Hp
open Go.Sort Go.RowKit Go.Proofs.YtlmokendajgbdaaGreatDoor.Gn

/-- A region's ends, whatever its order, told at once: what follows is walked from there. -/
theorem wp_after {P : Program} {c : Code} {a : Act} {w : World} {Q : Exit → Act → World → Prop} (R : Act → Act → World → Prop) (h1 : c.wp P (fun e a' w' => e = .normal ∧ R a a' w') a w) (h2 : ∀ a' w', R a a' w' → Q .normal a' w') : c.wp P Q a w :=
  Code.wp_mono (fun e a' w' h => by obtain ⟨rfl, hr⟩ := h; exact h2 a' w' hr) h1
/-- The variables of Meld: two heaps, what it hands back. -/
structure Fm (W : World) (a : Nat) (p q : HP) : Prop where
  h : Box2 W a 85 (.pointer p.q) (.int .i64 p.n)
  o : Box2 W (a + 1) 85 (.pointer q.q) (.int .i64 q.n)
  r : Box2 W (a + 2) 85 (.pointer none) (.int .i64 0)
section
variable {W W' : World} {a : Nat} {p q : HP} {mo : Option Nat} {c m : Int}
theorem Fm.new (w : World) (p q : HP) : Fm (((w.alloc (.cells #[.pointer p.q, .int .i64 p.n] 85)).alloc (.cells #[.pointer q.q, .int .i64 q.n] 85)).alloc (.cells #[.pointer none, .int .i64 0] 85)) w.heap.size p q := by
  refine ⟨((Box2.new w 85 _ _).alloc _).alloc _, ?_, ?_⟩
  · have := (Box2.new (w.alloc (.cells #[.pointer p.q, .int .i64 p.n] 85)) 85 (.pointer q.q) (.int .i64 q.n)).alloc (.cells #[.pointer none, .int .i64 0] 85)
    simpa only [World.size_alloc] using this
  · have := Box2.new ((w.alloc (.cells #[.pointer p.q, .int .i64 p.n] 85)).alloc (.cells #[.pointer q.q, .int .i64 q.n] 85)) 85 (.pointer none) (.int .i64 0)
    simpa only [World.size_alloc] using this
theorem Fm.stay (h : Fm W a p q) (hb : Below W.heap.size W W') : Fm W' a p q := ⟨h.h.stay hb, h.o.stay hb, h.r.stay hb⟩
theorem Fm.bt (h : Fm W a p q) (hb : Bt mo W W') (hm : MAt W mo c m) : Fm W' a p q := ⟨h.h.bt hb hm (by decide), h.o.bt hb hm (by decide), h.r.bt hb hm (by decide)⟩
end
theorem new3_below (w : World) (x y z : Obj) : Below w.heap.size w (((w.alloc x).alloc y).alloc z) := (((Below.refl _ w).alloc (Nat.le_refl _) _).alloc (by simp) _).alloc (by simp; omega) _

/-- What Meld hands back. -/
def MeldsTo (mo : Option Nat) (la bs : List Tre) : Prop := ∀ (c m : Int) (p q : HP) (w : World), bSize la + bSize bs < 268435456 → MAt w mo c m → 0 ≤ c → c < 576460752303423488 → 0 ≤ m → m < 576460752303423488 → LAt w ⟨la⟩ p → LAt w ⟨bs⟩ q → rises la → rises bs →
  Calls Tryz.prog 79 #[hp p, mAddr mo, hp q] w (Gave mo (c + bmeldN la bs) (m + bmeldN la bs) ⟨bmeld la bs⟩ w)

set_option maxRecDepth 100000 in
set_option maxHeartbeats 4000000 in
theorem meld_first (mo : Option Nat) (bs : List Tre) : MeldsTo mo ([]) (bs) := by
  intro c m p q w hs hm h0 h1 h2 h3 ha hb ra rb
  have HL := Lib.hid (And.intro ha hb)
  have HRS := Lib.hid (And.intro ra rb)
  have HF := Lib.hid (Fm.new w p q)
  have KK := Lib.hid ((Trk.refl (N := NodeT) hm).stay (new3_below w (.cells #[.pointer p.q, .int .i64 p.n] 85) (.cells #[.pointer q.q, .int .i64 q.n] 85) (.cells #[.pointer none, .int .i64 0] 85)))
  have HN := Lib.hid (And.intro hs (And.intro h0 (And.intro h1 (And.intro h2 h3))))
  clear hs h0 h1 h2 h3 hm ha hb ra rb
  go_enter Tryz.func79, Tryz.ntmps79
  go_wp2_with fail
  generalize ((w.alloc (.cells #[.pointer p.q, .int .i64 p.n] 85)).alloc (.cells #[.pointer q.q, .int .i64 q.n] 85)).alloc (.cells #[.pointer none, .int .i64 0] 85) = w1 at *
  obtain ⟨a, ha⟩ : ∃ a, a = w.heap.size := ⟨_, rfl⟩
  rw [← ha] at HF ⊢
  have HA := Lib.hid ha
  clear ha
  ((with_reducible refine (first_0 (HL.out.1.kps KK.out.kp KK.out.bt.size)).mono ?_); rintro e w2 ⟨rfl, hb2⟩)
  have F2 := Lib.hid (HF.out.stay hb2)
  have K2 := Lib.hid (KK.out.stay hb2)
  have c0 := F2.out.o.c0
  have c1 := F2.out.o.c1
  have z0 := F2.out.r.z0
  have z1 := F2.out.r.z1
  have r0 := F2.out.r.c0
  have r1 := F2.out.r.c1
  have s0 := (F2.out.r.set (.pointer q.q) (.int .i64 q.n)).c0
  have s1 := (F2.out.r.set (.pointer q.q) (.int .i64 q.n)).c1
  clear hb2 HF KK
  go_wp2_with fail
  have k := K2.out.put2 F2.out.r heapT_ne (by decide) (by have := HA.out; omega) (.pointer q.q) (.int .i64 q.n)
  exact bodyPost_ret (v := hp q) (by simp [results, Tryz.results79, go_sem, s0, s1]) rfl ⟨q, rfl, by rw [bmeld_nil]; exact HL.out.2.kps k.kp k.bt.size, by rw [bmeldN_nil]; simpa using k.mt, k.bt⟩

set_option maxRecDepth 100000 in
set_option maxHeartbeats 4000000 in
theorem meld_second (mo : Option Nat) (f : Tre) (la : List Tre) : MeldsTo mo (f :: la) ([]) := by
  intro c m p q w hs hm h0 h1 h2 h3 ha hb ra rb
  have HL := Lib.hid (And.intro ha hb)
  have HRS := Lib.hid (And.intro ra rb)
  have HF := Lib.hid (Fm.new w p q)
  have KK := Lib.hid ((Trk.refl (N := NodeT) hm).stay (new3_below w (.cells #[.pointer p.q, .int .i64 p.n] 85) (.cells #[.pointer q.q, .int .i64 q.n] 85) (.cells #[.pointer none, .int .i64 0] 85)))
  have HN := Lib.hid (And.intro hs (And.intro h0 (And.intro h1 (And.intro h2 h3))))
  clear hs h0 h1 h2 h3 hm ha hb ra rb
  go_enter Tryz.func79, Tryz.ntmps79
  go_wp2_with fail
  generalize ((w.alloc (.cells #[.pointer p.q, .int .i64 p.n] 85)).alloc (.cells #[.pointer q.q, .int .i64 q.n] 85)).alloc (.cells #[.pointer none, .int .i64 0] 85) = w1 at *
  obtain ⟨a, ha⟩ : ∃ a, a = w.heap.size := ⟨_, rfl⟩
  rw [← ha] at HF ⊢
  have HA := Lib.hid ha
  clear ha
  obtain ⟨fa, hfa, hc⟩ := first_h (HL.out.1.kps KK.out.kp KK.out.bt.size)
  have HC := Lib.hid hc
  have TF := Lib.hid hfa
  clear hc hfa
  ((with_reducible refine HC.out.mono ?_); rintro e w2 ⟨rfl, hb2⟩)
  have F2 := Lib.hid (HF.out.stay hb2)
  have K2 := Lib.hid (KK.out.stay hb2)
  have T2 := Lib.hid (TF.out.stay hb2)
  have c0 := F2.out.o.c0
  have c1 := F2.out.o.c1
  clear hb2 HF KK HC TF
  go_wp2_with fail
  clear c0 c1
  ((with_reducible refine (first_0 (HL.out.2.kps K2.out.kp K2.out.bt.size)).mono ?_); rintro e w3 ⟨rfl, hb3⟩)
  have F3 := Lib.hid (F2.out.stay hb3)
  have K3 := Lib.hid (K2.out.stay hb3)
  have c0 := F3.out.h.c0
  have c1 := F3.out.h.c1
  have z0 := F3.out.r.z0
  have z1 := F3.out.r.z1
  have r0 := F3.out.r.c0
  have r1 := F3.out.r.c1
  have s0 := (F3.out.r.set (.pointer p.q) (.int .i64 p.n)).c0
  have s1 := (F3.out.r.set (.pointer p.q) (.int .i64 p.n)).c1
  clear hb3 F2 K2 T2
  go_wp2_with fail
  have k := K3.out.put2 F3.out.r heapT_ne (by decide) (by have := HA.out; omega) (.pointer p.q) (.int .i64 p.n)
  exact bodyPost_ret (v := hp p) (by simp [results, Tryz.results79, go_sem, s0, s1]) rfl ⟨p, rfl, by rw [bmeld_right]; exact HL.out.1.kps k.kp k.bt.size, by rw [bmeldN_right]; simpa using k.mt, k.bt⟩

set_option maxRecDepth 100000 in
set_option maxHeartbeats 4000000 in
theorem meld_lt (mo : Option Nat) (f g : Tre) (la bs : List Tre) (hlt : f.rank < g.rank) (IH : MeldsTo mo la (g :: bs)) : MeldsTo mo (f :: la) (g :: bs) := by
  intro c m p q w hs hm h0 h1 h2 h3 ha hb ra rb
  have HL := Lib.hid (And.intro ha hb)
  have HRS := Lib.hid (And.intro ra rb)
  have HF := Lib.hid (Fm.new w p q)
  have KK := Lib.hid ((Trk.refl (N := NodeT) hm).stay (new3_below w (.cells #[.pointer p.q, .int .i64 p.n] 85) (.cells #[.pointer q.q, .int .i64 q.n] 85) (.cells #[.pointer none, .int .i64 0] 85)))
  unfold MeldsTo at IH
  have HI := Lib.hid IH
  have HB1 := Lib.hid (bmeld_sgood (f :: la) (g :: bs) ha.right.hok hb.right.hok ha.right.sk hb.right.sk ra rb)
  have HE := Lib.hid (And.intro (bmeld_lt hlt : bmeld (f :: la) (g :: bs) = _) (bmeldN_lt hlt : bmeldN (f :: la) (g :: bs) = _))
  have hsz := bmeld_size (f :: la) (g :: bs)
  rw [HE.out.1] at hsz
  simp only [bSize] at hs hsz
  have HZ := Lib.hid hsz
  clear hsz IH
  have HN := Lib.hid (And.intro hs (And.intro h0 (And.intro h1 (And.intro h2 h3))))
  clear hs h0 h1 h2 h3 hm ha hb ra rb
  go_enter Tryz.func79, Tryz.ntmps79
  go_wp2_with fail
  generalize ((w.alloc (.cells #[.pointer p.q, .int .i64 p.n] 85)).alloc (.cells #[.pointer q.q, .int .i64 q.n] 85)).alloc (.cells #[.pointer none, .int .i64 0] 85) = w1 at *
  obtain ⟨a, ha⟩ : ∃ a, a = w.heap.size := ⟨_, rfl⟩
  rw [← ha] at HF ⊢
  have HA := Lib.hid ha
  clear ha
  obtain ⟨fa, hfa, hc⟩ := first_h (HL.out.1.kps KK.out.kp KK.out.bt.size)
  have HC := Lib.hid hc
  have TF := Lib.hid hfa
  clear hc hfa
  ((with_reducible refine HC.out.mono ?_); rintro e w2 ⟨rfl, hb2⟩)
  have F2 := Lib.hid (HF.out.stay hb2)
  have K2 := Lib.hid (KK.out.stay hb2)
  have T2 := Lib.hid (TF.out.stay hb2)
  have c0 := F2.out.o.c0
  have c1 := F2.out.o.c1
  clear hb2 HF KK HC TF
  go_wp2_with fail
  clear c0 c1
  obtain ⟨ga, hga, hc⟩ := first_h (HL.out.2.kps K2.out.kp K2.out.bt.size)
  have HC := Lib.hid hc
  have TG := Lib.hid hga
  clear hc hga
  ((with_reducible refine HC.out.mono ?_); rintro e w3 ⟨rfl, hb3⟩)
  have F3 := Lib.hid (F2.out.stay hb3)
  have K3 := Lib.hid (K2.out.stay hb3)
  have T3 := Lib.hid (And.intro (T2.out.stay hb3) (TG.out.stay hb3))
  clear hb3 F2 K2 T2 HC TG
  obtain ⟨rf, hrf⟩ : ∃ r, r = f.rank := ⟨_, rfl⟩
  obtain ⟨rg, hrg⟩ : ∃ r, r = g.rank := ⟨_, rfl⟩
  have HRK := Lib.hid (And.intro hrf hrg)
  rw [← hrf, ← hrg] at hlt
  clear hrf hrg
  go_wp2_with fail
  ((with_reducible refine (rank_at T3.out.1 rf HRK.out.1).mono ?_); rintro e w4 ⟨rfl, hw4⟩)
  subst hw4
  go_wp2_with fail
  have d0 : decide ((rf : Int) < (rg : Int)) = true := by first | omega | (simp; omega) | rfl
  have d1 : decide (rf < rg) = true := by first | omega | (simp; omega) | rfl
  have d2 : (rf : Int) < (rg : Int) := by first | omega | (simp; omega) | rfl
  have d3 : rf < rg := by first | omega | (simp; omega) | rfl
  ((with_reducible refine (rank_at T3.out.2 rg HRK.out.2).mono ?_); rintro e w4 ⟨rfl, hw4⟩)
  subst hw4
  go_wp2_with fail
  have s3_0 := F3.out.h.c0; have s3_1 := F3.out.h.c1; have s3_2 := F3.out.o.c0; have s3_3 := F3.out.o.c1
  have TT := Lib.hid (T3.out.1)
  have hfd := field_h
  have n5 : ¬ a = a + 1 + 1 := by omega
  have n6 : ¬ a + 1 + 1 = a := by omega
  go_region_held3 (fun w' => w'.cell? ⟨a, 0, none⟩ = some (.pointer p.q) ∧ w'.cell? ⟨a, 1, none⟩ = some (.int .i64 p.n) ∧ w'.cell? ⟨a + 1, 0, none⟩ = some (.pointer q.q) ∧ w'.cell? ⟨a + 1, 1, none⟩ = some (.int .i64 q.n)) (go_keep)
    (first | (go_at_call 65; ((with_reducible refine (push_h L5.out (TK.out) (by have := HN.out; have := HZ.out; omega) (HE.out.1 ▸ ⟨HB1.out.1, HB1.out.2.1, upto_of HB1.out.2.2.1⟩)).mono ?_); rintro e w6 ⟨p6, rfl, ht6, hb6⟩; have F6 := Lib.hid (F5.out.stay hb6); have K6 := Lib.hid (K5.out.stay hb6); have L6 := Lib.hid ht6; have s6_0 := F6.out.h.c0; have s6_1 := F6.out.h.c1; have s6_2 := F6.out.o.c0; have s6_3 := F6.out.o.c1; have z0 := F6.out.r.z0; have z1 := F6.out.r.z1; have r0 := F6.out.r.c0; have r1 := F6.out.r.c1; clear ht6 hb6)) | (go_at_call 101; ((with_reducible refine (rest_any f la p _ ((HL.out.1.kps K3.out.drew.kp K3.out.drew.bt.size))).mono ?_); rintro e w4 ⟨p4, rfl, ht4, hb4⟩; have F4 := Lib.hid ((F3.out.stay ((Below.refl _ _).drew)).stay hb4); have K4 := Lib.hid (K3.out.drew.stay hb4); have L4 := Lib.hid ht4; have TT4 := Lib.hid ((TT.out.stay ((Below.refl _ _).drew)).stay hb4); have s4_0 := F4.out.h.c0; have s4_1 := F4.out.h.c1; have s4_2 := F4.out.o.c0; have s4_3 := F4.out.o.c1; clear ht4 hb4)) | (go_at_call 79; ((with_reducible refine (HI.out c m p4 q _ (by have := HN.out; (try simp only [bSize]); omega) K4.out.mt HN.out.2.1 HN.out.2.2.1 HN.out.2.2.2.1 HN.out.2.2.2.2 L4.out (HL.out.2.kps K4.out.kp K4.out.bt.size) (List.pairwise_cons.1 HRS.out.1).2 HRS.out.2).mono ?_); rintro e w5 ⟨p5, rfl, ht5, hm5, hb5⟩; have F5 := Lib.hid (F4.out.bt hb5 K4.out.mt); have K5 := Lib.hid (K4.out.turn hm5 hb5 node_ne); have L5 := Lib.hid ht5; have TK := Lib.hid ((TT4.out).kp (Kp.tree (Kp.bt hb5 K4.out.mt))); have s5_0 := F5.out.h.c0; have s5_1 := F5.out.h.c1; have s5_2 := F5.out.o.c0; have s5_3 := F5.out.o.c1; clear ht5 hm5 hb5)))
  go_wp2_with fail
  have s0 := (F6.out.r.set (.pointer p6.q) (.int .i64 p6.n)).c0
  have s1 := (F6.out.r.set (.pointer p6.q) (.int .i64 p6.n)).c1
  have k := K6.out.put2 F6.out.r heapT_ne (by decide) (by have := HA.out; omega) (.pointer p6.q) (.int .i64 p6.n)
  exact bodyPost_ret (v := hp p6) (by simp [results, Tryz.results79, go_sem, s0, s1]) rfl ⟨p6, rfl, by rw [HE.out.1]; exact L6.out.set2 F6.out.r heapT_ne _ _, by rw [HE.out.2]; exact k.mt, k.bt⟩

set_option maxRecDepth 100000 in
set_option maxHeartbeats 4000000 in
theorem meld_gt (mo : Option Nat) (f g : Tre) (la bs : List Tre) (hlt : g.rank < f.rank) (IH : MeldsTo mo (f :: la) bs) : MeldsTo mo (f :: la) (g :: bs) := by
  intro c m p q w hs hm h0 h1 h2 h3 ha hb ra rb
  have HL := Lib.hid (And.intro ha hb)
  have HRS := Lib.hid (And.intro ra rb)
  have HF := Lib.hid (Fm.new w p q)
  have KK := Lib.hid ((Trk.refl (N := NodeT) hm).stay (new3_below w (.cells #[.pointer p.q, .int .i64 p.n] 85) (.cells #[.pointer q.q, .int .i64 q.n] 85) (.cells #[.pointer none, .int .i64 0] 85)))
  unfold MeldsTo at IH
  have HI := Lib.hid IH
  have HB1 := Lib.hid (bmeld_sgood (f :: la) (g :: bs) ha.right.hok hb.right.hok ha.right.sk hb.right.sk ra rb)
  have HE := Lib.hid (And.intro (bmeld_gt hlt : bmeld (f :: la) (g :: bs) = _) (bmeldN_gt hlt : bmeldN (f :: la) (g :: bs) = _))
  have hsz := bmeld_size (f :: la) (g :: bs)
  rw [HE.out.1] at hsz
  simp only [bSize] at hs hsz
  have HZ := Lib.hid hsz
  clear hsz IH
  have HN := Lib.hid (And.intro hs (And.intro h0 (And.intro h1 (And.intro h2 h3))))
  clear hs h0 h1 h2 h3 hm ha hb ra rb
  go_enter Tryz.func79, Tryz.ntmps79
  go_wp2_with fail
  generalize ((w.alloc (.cells #[.pointer p.q, .int .i64 p.n] 85)).alloc (.cells #[.pointer q.q, .int .i64 q.n] 85)).alloc (.cells #[.pointer none, .int .i64 0] 85) = w1 at *
  obtain ⟨a, ha⟩ : ∃ a, a = w.heap.size := ⟨_, rfl⟩
  rw [← ha] at HF ⊢
  have HA := Lib.hid ha
  clear ha
  obtain ⟨fa, hfa, hc⟩ := first_h (HL.out.1.kps KK.out.kp KK.out.bt.size)
  have HC := Lib.hid hc
  have TF := Lib.hid hfa
  clear hc hfa
  ((with_reducible refine HC.out.mono ?_); rintro e w2 ⟨rfl, hb2⟩)
  have F2 := Lib.hid (HF.out.stay hb2)
  have K2 := Lib.hid (KK.out.stay hb2)
  have T2 := Lib.hid (TF.out.stay hb2)
  have c0 := F2.out.o.c0
  have c1 := F2.out.o.c1
  clear hb2 HF KK HC TF
  go_wp2_with fail
  clear c0 c1
  obtain ⟨ga, hga, hc⟩ := first_h (HL.out.2.kps K2.out.kp K2.out.bt.size)
  have HC := Lib.hid hc
  have TG := Lib.hid hga
  clear hc hga
  ((with_reducible refine HC.out.mono ?_); rintro e w3 ⟨rfl, hb3⟩)
  have F3 := Lib.hid (F2.out.stay hb3)
  have K3 := Lib.hid (K2.out.stay hb3)
  have T3 := Lib.hid (And.intro (T2.out.stay hb3) (TG.out.stay hb3))
  clear hb3 F2 K2 T2 HC TG
  obtain ⟨rf, hrf⟩ : ∃ r, r = f.rank := ⟨_, rfl⟩
  obtain ⟨rg, hrg⟩ : ∃ r, r = g.rank := ⟨_, rfl⟩
  have HRK := Lib.hid (And.intro hrf hrg)
  rw [← hrf, ← hrg] at hlt
  clear hrf hrg
  go_wp2_with fail
  ((with_reducible refine (rank_at T3.out.1 rf HRK.out.1).mono ?_); rintro e w4 ⟨rfl, hw4⟩)
  subst hw4
  go_wp2_with fail
  have d0 : decide ((rf : Int) < (rg : Int)) = false := by first | omega | (simp; omega) | rfl
  have d1 : decide (rf < rg) = false := by first | omega | (simp; omega) | rfl
  have d2 : ¬ (rf : Int) < (rg : Int) := by first | omega | (simp; omega) | rfl
  have d3 : ¬ rf < rg := by first | omega | (simp; omega) | rfl
  ((with_reducible refine (rank_at T3.out.2 rg HRK.out.2).mono ?_); rintro e w4 ⟨rfl, hw4⟩)
  subst hw4
  go_wp2_with fail
  clear d0 d1 d2 d3
  ((with_reducible refine (rank_at T3.out.2 rg HRK.out.2).mono ?_); rintro e w4 ⟨rfl, hw4⟩)
  subst hw4
  go_wp2_with fail
  have d0 : decide ((rg : Int) < (rf : Int)) = true := by first | omega | (simp; omega) | rfl
  have d1 : decide (rg < rf) = true := by first | omega | (simp; omega) | rfl
  have d2 : (rg : Int) < (rf : Int) := by first | omega | (simp; omega) | rfl
  have d3 : rg < rf := by first | omega | (simp; omega) | rfl
  ((with_reducible refine (rank_at T3.out.1 rf HRK.out.1).mono ?_); rintro e w4 ⟨rfl, hw4⟩)
  subst hw4
  go_wp2_with fail
  have s3_0 := F3.out.h.c0; have s3_1 := F3.out.h.c1; have s3_2 := F3.out.o.c0; have s3_3 := F3.out.o.c1
  have TT := Lib.hid (T3.out.2)
  have hfd := field_h
  have n5 : ¬ a = a + 1 + 1 := by omega
  have n6 : ¬ a + 1 + 1 = a := by omega
  go_region_held3 (fun w' => w'.cell? ⟨a, 0, none⟩ = some (.pointer p.q) ∧ w'.cell? ⟨a, 1, none⟩ = some (.int .i64 p.n) ∧ w'.cell? ⟨a + 1, 0, none⟩ = some (.pointer q.q) ∧ w'.cell? ⟨a + 1, 1, none⟩ = some (.int .i64 q.n)) (go_keep)
    (first | (go_at_call 65; ((with_reducible refine (push_h L5.out (TK.out) (by have := HN.out; have := HZ.out; omega) (HE.out.1 ▸ ⟨HB1.out.1, HB1.out.2.1, upto_of HB1.out.2.2.1⟩)).mono ?_); rintro e w6 ⟨p6, rfl, ht6, hb6⟩; have F6 := Lib.hid (F5.out.stay hb6); have K6 := Lib.hid (K5.out.stay hb6); have L6 := Lib.hid ht6; have s6_0 := F6.out.h.c0; have s6_1 := F6.out.h.c1; have s6_2 := F6.out.o.c0; have s6_3 := F6.out.o.c1; have z0 := F6.out.r.z0; have z1 := F6.out.r.z1; have r0 := F6.out.r.c0; have r1 := F6.out.r.c1; clear ht6 hb6)) | (go_at_call 101; ((with_reducible refine (rest_any g bs q _ ((HL.out.2.kps K3.out.drew.kp K3.out.drew.bt.size))).mono ?_); rintro e w4 ⟨p4, rfl, ht4, hb4⟩; have F4 := Lib.hid ((F3.out.stay ((Below.refl _ _).drew)).stay hb4); have K4 := Lib.hid (K3.out.drew.stay hb4); have L4 := Lib.hid ht4; have TT4 := Lib.hid ((TT.out.stay ((Below.refl _ _).drew)).stay hb4); have s4_0 := F4.out.h.c0; have s4_1 := F4.out.h.c1; have s4_2 := F4.out.o.c0; have s4_3 := F4.out.o.c1; clear ht4 hb4)) | (go_at_call 79; ((with_reducible refine (HI.out c m p p4 _ (by have := HN.out; (try simp only [bSize]); omega) K4.out.mt HN.out.2.1 HN.out.2.2.1 HN.out.2.2.2.1 HN.out.2.2.2.2 (HL.out.1.kps K4.out.kp K4.out.bt.size) L4.out HRS.out.1 (List.pairwise_cons.1 HRS.out.2).2).mono ?_); rintro e w5 ⟨p5, rfl, ht5, hm5, hb5⟩; have F5 := Lib.hid (F4.out.bt hb5 K4.out.mt); have K5 := Lib.hid (K4.out.turn hm5 hb5 node_ne); have L5 := Lib.hid ht5; have TK := Lib.hid ((TT4.out).kp (Kp.tree (Kp.bt hb5 K4.out.mt))); have s5_0 := F5.out.h.c0; have s5_1 := F5.out.h.c1; have s5_2 := F5.out.o.c0; have s5_3 := F5.out.o.c1; clear ht5 hm5 hb5)))
  go_wp2_with fail
  have s0 := (F6.out.r.set (.pointer p6.q) (.int .i64 p6.n)).c0
  have s1 := (F6.out.r.set (.pointer p6.q) (.int .i64 p6.n)).c1
  have k := K6.out.put2 F6.out.r heapT_ne (by decide) (by have := HA.out; omega) (.pointer p6.q) (.int .i64 p6.n)
  exact bodyPost_ret (v := hp p6) (by simp [results, Tryz.results79, go_sem, s0, s1]) rfl ⟨p6, rfl, by rw [HE.out.1]; exact L6.out.set2 F6.out.r heapT_ne _ _, by rw [HE.out.2]; exact k.mt, k.bt⟩

set_option maxRecDepth 100000 in
set_option maxHeartbeats 4000000 in
theorem meld_eq (mo : Option Nat) (f g : Tre) (la bs : List Tre) (hlt : f.rank = g.rank) (IH : MeldsTo mo la bs) : MeldsTo mo (f :: la) (g :: bs) := by
  intro c m p q w hs hm h0 h1 h2 h3 ha hb ra rb
  have HL := Lib.hid (And.intro ha hb)
  have HRS := Lib.hid (And.intro ra rb)
  have HF := Lib.hid (Fm.new w p q)
  have KK := Lib.hid ((Trk.refl (N := NodeT) hm).stay (new3_below w (.cells #[.pointer p.q, .int .i64 p.n] 85) (.cells #[.pointer q.q, .int .i64 q.n] 85) (.cells #[.pointer none, .int .i64 0] 85)))
  unfold MeldsTo at IH
  have HI := Lib.hid IH
  have HEQ := Lib.hid hlt
  have HB1 := Lib.hid (And.intro (show sOk (f :: la) from ha.right) (show sOk (g :: bs) from hb.right))
  have HE := Lib.hid (And.intro (bmeld_eq hlt : bmeld (f :: la) (g :: bs) = _) (bmeldN_eq hlt : bmeldN (f :: la) (g :: bs) = _))
  have hsz := bmeld_size la bs
  have hln := bmeld_len la bs
  have hl1 := len_bSize la
  have hl2 := len_bSize bs
  simp only [bSize] at hs
  have HZ := Lib.hid (show bSize (bmeld la bs) = bSize la + bSize bs ∧ bmeldN la bs < 268435456 from ⟨hsz, by simp only [Gn.Tre.size] at hs; omega⟩)
  clear hsz IH hln hl1 hl2
  have HN := Lib.hid (And.intro hs (And.intro h0 (And.intro h1 (And.intro h2 h3))))
  clear hs h0 h1 h2 h3 hm ha hb ra rb
  go_enter Tryz.func79, Tryz.ntmps79
  go_wp2_with fail
  generalize ((w.alloc (.cells #[.pointer p.q, .int .i64 p.n] 85)).alloc (.cells #[.pointer q.q, .int .i64 q.n] 85)).alloc (.cells #[.pointer none, .int .i64 0] 85) = w1 at *
  obtain ⟨a, ha⟩ : ∃ a, a = w.heap.size := ⟨_, rfl⟩
  rw [← ha] at HF ⊢
  have HA := Lib.hid ha
  clear ha
  obtain ⟨fa, hfa, hc⟩ := first_h (HL.out.1.kps KK.out.kp KK.out.bt.size)
  have HC := Lib.hid hc
  have TF := Lib.hid hfa
  clear hc hfa
  ((with_reducible refine HC.out.mono ?_); rintro e w2 ⟨rfl, hb2⟩)
  have F2 := Lib.hid (HF.out.stay hb2)
  have K2 := Lib.hid (KK.out.stay hb2)
  have T2 := Lib.hid (TF.out.stay hb2)
  have c0 := F2.out.o.c0
  have c1 := F2.out.o.c1
  clear hb2 HF KK HC TF
  go_wp2_with fail
  clear c0 c1
  obtain ⟨ga, hga, hc⟩ := first_h (HL.out.2.kps K2.out.kp K2.out.bt.size)
  have HC := Lib.hid hc
  have TG := Lib.hid hga
  clear hc hga
  ((with_reducible refine HC.out.mono ?_); rintro e w3 ⟨rfl, hb3⟩)
  have F3 := Lib.hid (F2.out.stay hb3)
  have K3 := Lib.hid (K2.out.stay hb3)
  have T3 := Lib.hid (And.intro (T2.out.stay hb3) (TG.out.stay hb3))
  clear hb3 F2 K2 T2 HC TG
  obtain ⟨rf, hrf⟩ : ∃ r, r = f.rank := ⟨_, rfl⟩
  obtain ⟨rg, hrg⟩ : ∃ r, r = g.rank := ⟨_, rfl⟩
  have HRK := Lib.hid (And.intro hrf hrg)
  rw [← hrf, ← hrg] at hlt
  clear hrf hrg
  go_wp2_with fail
  ((with_reducible refine (rank_at T3.out.1 rf HRK.out.1).mono ?_); rintro e w4 ⟨rfl, hw4⟩)
  subst hw4
  go_wp2_with fail
  have d0 : decide ((rf : Int) < (rg : Int)) = false := by first | omega | (simp; omega) | rfl
  have d1 : decide (rf < rg) = false := by first | omega | (simp; omega) | rfl
  have d2 : ¬ (rf : Int) < (rg : Int) := by first | omega | (simp; omega) | rfl
  have d3 : ¬ rf < rg := by first | omega | (simp; omega) | rfl
  ((with_reducible refine (rank_at T3.out.2 rg HRK.out.2).mono ?_); rintro e w4 ⟨rfl, hw4⟩)
  subst hw4
  go_wp2_with fail
  clear d0 d1 d2 d3
  ((with_reducible refine (rank_at T3.out.2 rg HRK.out.2).mono ?_); rintro e w4 ⟨rfl, hw4⟩)
  subst hw4
  go_wp2_with fail
  have d0 : decide ((rg : Int) < (rf : Int)) = false := by first | omega | (simp; omega) | rfl
  have d1 : decide (rg < rf) = false := by first | omega | (simp; omega) | rfl
  have d2 : ¬ (rg : Int) < (rf : Int) := by first | omega | (simp; omega) | rfl
  have d3 : ¬ rg < rf := by first | omega | (simp; omega) | rfl
  ((with_reducible refine (rank_at T3.out.1 rf HRK.out.1).mono ?_); rintro e w4 ⟨rfl, hw4⟩)
  subst hw4
  go_wp2_with fail
  clear d0 d1 d2 d3 hlt
  refine wp_after (R := fun x x' w' => ∃ (u59 u60 u61 u62 u63 u64 : Value) (v : Nat) (p5 : HP), x' = (((((((x.put (some 59) u59).put (some 60) u60).put (some 61) u61).put (some 62) u62).put (some 63) u63).put (some 64) u64).put (some 10) (.pointer (some ⟨v, 0, none⟩))) ∧ Bt mo w4 w' ∧ MAt w' mo (c + (bmeldN la bs : Nat)) (m + (bmeldN la bs : Nat)) ∧ w4.heap.size ≤ v ∧ Box2 w' v 85 (.pointer p5.q) (.int .i64 p5.n) ∧ LAt w' ⟨bmeld la bs⟩ p5) ?_ ?_
  · have HS := Lib.hid (fun (w' : World) (hz : Bt mo w4 w') => (show w'.cell? ⟨a, 0, none⟩ = some (.pointer p.q) ∧ w'.cell? ⟨a, 1, none⟩ = some (.int .i64 p.n) ∧ w'.cell? ⟨a + 1, 0, none⟩ = some (.pointer q.q) ∧ w'.cell? ⟨a + 1, 1, none⟩ = some (.int .i64 q.n) from ⟨(F3.out.bt hz K3.out.mt).h.c0, (F3.out.bt hz K3.out.mt).h.c1, (F3.out.bt hz K3.out.mt).o.c0, (F3.out.bt hz K3.out.mt).o.c1⟩))
    have hB := (Bt.refl mo w4).drew
    have hM := K3.out.mt.drew
    have hLa := HL.out.1.kps K3.out.drew.kp K3.out.drew.bt.size
    have hLb := HL.out.2.kps K3.out.drew.kp K3.out.drew.bt.size
    refine wp_region_noPanic ?_
    refine wp_region_held_drew (S := fun w' => w'.cell? ⟨a, 0, none⟩ = some (.pointer p.q) ∧ w'.cell? ⟨a, 1, none⟩ = some (.int .i64 p.n) ∧ w'.cell? ⟨a + 1, 0, none⟩ = some (.pointer q.q) ∧ w'.cell? ⟨a + 1, 1, none⟩ = some (.int .i64 q.n)) (by kernel_rfl) (HS.out _ hB) (fun hH => ?_)
    generalize w4.drew = wd at *
    refine wpAnyH_take (i := 0) (oi := { dst := some 59, op := Go.Op.load 85 (Go.Operand.tmp 3), type := 85, pos := "skew.go:124", after := #[], guard := none }) (v := ?v1_0_0) rfl (by as_aux_lemma => kernel_rfl) (by as_aux_lemma => kernel_rfl) (by as_aux_lemma => kernel_rfl) (fun _ _ _ h => h) (Or.inl ⟨(by as_aux_lemma => kernel_rfl), ?hy1_0_0⟩) hH ?rest1_0_0
    case hy1_0_0 => (intro w hSw; (try dsimp only at hSw); go_simp; try with_reducible rfl)
    try simp only [Act.put, List.setIfInBounds_toArray, List.set_cons_zero, List.set_cons_succ]
    refine wpAnyH_take (i := 2) (oi := { dst := some 61, op := Go.Op.move (Go.Operand.tmp 1), type := 25, pos := "skew.go:124", after := #[], guard := none }) (v := ?v1_0_2) rfl (by as_aux_lemma => kernel_rfl) (by as_aux_lemma => kernel_rfl) (by as_aux_lemma => kernel_rfl) (fun _ _ _ h => h) (Or.inl ⟨(by as_aux_lemma => kernel_rfl), ?hy1_0_2⟩) hH ?rest1_0_2
    case hy1_0_2 => (intro w hSw; (try dsimp only at hSw); go_simp; try with_reducible rfl)
    try simp only [Act.put, List.setIfInBounds_toArray, List.set_cons_zero, List.set_cons_succ]
    refine wpAnyH_take (i := 3) (oi := { dst := some 62, op := Go.Op.load 85 (Go.Operand.tmp 5), type := 85, pos := "skew.go:124", after := #[], guard := none }) (v := ?v1_0_3) rfl (by as_aux_lemma => kernel_rfl) (by as_aux_lemma => kernel_rfl) (by as_aux_lemma => kernel_rfl) (fun _ _ _ h => h) (Or.inl ⟨(by as_aux_lemma => kernel_rfl), ?hy1_0_3⟩) hH ?rest1_0_3
    case hy1_0_3 => (intro w hSw; (try dsimp only at hSw); go_simp; try with_reducible rfl)
    try simp only [Act.put, List.setIfInBounds_toArray, List.set_cons_zero, List.set_cons_succ]
    refine wpAnyH_ready (rs := [1, 6]) (by as_aux_lemma => kernel_rfl) (by simp) ?_
    refine AllReadyH.cons (o := { dst := some 60, op := Go.Op.call { callee := Go.Callee.value (Go.Operand.func 101), args := #[Go.Operand.tmp 59], argTypes := #[85] }, type := 85, pos := "skew.go:124", after := #[{ on := 0, ground := Go.Ground.data }], guard := none }) rfl (fun K hK => ?_) (AllReadyH.cons (o := { dst := some 10, op := Go.Op.alloc 85, type := 0, pos := "skew.go:124", after := #[], guard := none }) rfl (fun K hK => ?_) AllReadyH.nil)
    · go_simp
      go_at_call 101
      (with_reducible refine (rest_any f la p _ hLa).mono ?_)
      rintro e w5 ⟨p1, rfl, ht1, hb⟩
      replace hLb := hLb.stay hb
      replace hB := hB.trans (Bt.ofBelow hb)
      replace hM := hM.stay hb
      clear hb hLa
      refine hK.out _ _ ?_ (fun hH2 => ?_)
      · exact HS.out _ hB
      clear hK K hH
      have hH := hH2
      clear hH2
      try simp only [Act.put, List.setIfInBounds_toArray, List.set_cons_zero, List.set_cons_succ]
      refine wpAnyH_ready (rs := [4, 6]) (by as_aux_lemma => kernel_rfl) (by simp) ?_
      refine AllReadyH.cons (o := { dst := some 63, op := Go.Op.call { callee := Go.Callee.value (Go.Operand.func 101), args := #[Go.Operand.tmp 62], argTypes := #[85] }, type := 85, pos := "skew.go:124", after := #[{ on := 3, ground := Go.Ground.data }, { on := 1, ground := Go.Ground.chain }], guard := none }) rfl (fun K hK => ?_) (AllReadyH.cons (o := { dst := some 10, op := Go.Op.alloc 85, type := 0, pos := "skew.go:124", after := #[], guard := none }) rfl (fun K hK => ?_) AllReadyH.nil)
      · go_simp
        go_at_call 101
        (with_reducible refine (rest_any g bs q _ hLb).mono ?_)
        rintro e w6 ⟨p2, rfl, ht2, hb⟩
        replace ht1 := ht1.stay hb
        replace hB := hB.trans (Bt.ofBelow hb)
        replace hM := hM.stay hb
        clear hb hLb
        refine hK.out _ _ ?_ (fun hH2 => ?_)
        · exact HS.out _ hB
        clear hK K hH
        have hH := hH2
        clear hH2
        try simp only [Act.put, List.setIfInBounds_toArray, List.set_cons_zero, List.set_cons_succ]
        refine wpAnyH_ready (rs := [5, 6]) (by as_aux_lemma => kernel_rfl) (by simp) ?_
        refine AllReadyH.cons (o := { dst := some 64, op := Go.Op.call { callee := Go.Callee.value (Go.Operand.func 79), args := #[Go.Operand.tmp 60, Go.Operand.tmp 61, Go.Operand.tmp 63], argTypes := #[85, 25, 85] }, type := 85, pos := "skew.go:124", after := #[{ on := 1, ground := Go.Ground.data }, { on := 2, ground := Go.Ground.data }, { on := 4, ground := Go.Ground.data }, { on := 4, ground := Go.Ground.chain }], guard := none }) rfl (fun K hK => ?_) (AllReadyH.cons (o := { dst := some 10, op := Go.Op.alloc 85, type := 0, pos := "skew.go:124", after := #[], guard := none }) rfl (fun K hK => ?_) AllReadyH.nil)
        · go_simp
          go_at_call 79
          (with_reducible refine (HI.out c m p1 p2 _ (by have := HN.out; omega) hM HN.out.2.1 HN.out.2.2.1 HN.out.2.2.2.1 HN.out.2.2.2.2 ht1 ht2 (List.pairwise_cons.1 HRS.out.1).2 (List.pairwise_cons.1 HRS.out.2).2).mono ?_)
          rintro e w7 ⟨p5, rfl, ht5, hm5, hb⟩
          replace hB := hB.trans hb
          replace hM := hm5
          clear hb hm5 ht1 ht2
          refine hK.out _ _ ?_ (fun hH2 => ?_)
          · exact HS.out _ hB
          clear hK K hH
          have hH := hH2
          clear hH2
          try simp only [Act.put, List.setIfInBounds_toArray, List.set_cons_zero, List.set_cons_succ]
          refine wpAnyH_ready (rs := [6]) (by as_aux_lemma => kernel_rfl) (by simp) ?_
          refine AllReadyH.cons (o := { dst := some 10, op := Go.Op.alloc 85, type := 0, pos := "skew.go:124", after := #[], guard := none }) rfl (fun K hK => ?_) AllReadyH.nil
          go_simp
          refine hK.out _ _ ?_ (fun hH2 => ?_)
          · exact HS.out _ (hB.alloc _)
          clear hK K hH
          have hH := hH2
          clear hH2
          have hv := Box2.new w7 85 (.pointer none) (.int .i64 0)
          have hV : w4.heap.size ≤ w7.heap.size := hB.size
          replace ht5 := ht5.stay ((Below.refl _ _).alloc (Nat.le_refl _) (.cells #[.pointer none, .int .i64 0] 85))
          replace hB := hB.alloc (.cells #[.pointer none, .int .i64 0] 85)
          replace hM := hM.alloc (.cells #[.pointer none, .int .i64 0] 85)
          obtain ⟨v, hve⟩ : ∃ b, b = w7.heap.size := ⟨_, rfl⟩
          rw [← hve] at hv hV ⊢
          clear hve
          generalize w7.alloc (.cells #[.pointer none, .int .i64 0] 85) = wA at *
          try simp only [Act.put, List.setIfInBounds_toArray, List.set_cons_zero, List.set_cons_succ]
          have vc0 := hv.c0
          have vc1 := hv.c1
          have vz0 := hv.z0
          have vz1 := hv.z1
          refine wpAnyH_ready (rs := [7]) (by as_aux_lemma => kernel_rfl) (by simp) ?_
          refine AllReadyH.cons (o := { dst := none, op := Go.Op.store 85 (Go.Operand.tmp 10) (Go.Operand.tmp 64), type := 0, pos := "skew.go:124", after := #[{ on := 6, ground := Go.Ground.data }, { on := 5, ground := Go.Ground.data }, { on := 5, ground := Go.Ground.chain }, { on := 0, ground := Go.Ground.phase }, { on := 1, ground := Go.Ground.phase }, { on := 2, ground := Go.Ground.phase }, { on := 3, ground := Go.Ground.phase }, { on := 4, ground := Go.Ground.phase }, { on := 5, ground := Go.Ground.phase }, { on := 6, ground := Go.Ground.phase }], guard := none }) rfl (fun K hK => ?_) AllReadyH.nil
          go_simp
          refine hK.out _ _ ?_ (fun hH2 => ?_)
          · exact HS.out _ ((hB.own hV 0 _).own hV 1 _)
          clear hK K hH
          have hH := hH2
          clear hH2
          have hv2 := hv.set (.pointer p5.q) (.int .i64 p5.n)
          have ht6 := ht5.set2 hv heapT_ne (.pointer p5.q) (.int .i64 p5.n)
          have hB2 := (hB.own hV 0 (.pointer p5.q)).own hV 1 (.int .i64 p5.n)
          have hM2 := (hM.other hv (by decide) 0 (.pointer p5.q)).other (hv.set0 (.pointer p5.q)) (by decide) 1 (.int .i64 p5.n)
          clear vc0 vc1 vz0 vz1
          try simp only [Act.put, List.setIfInBounds_toArray, List.set_cons_zero, List.set_cons_succ]
          refine wpAnyH_done (by as_aux_lemma => kernel_rfl) ?_ _
          refine NoPanic.normal ?_
          clear hH
          exact ⟨rfl, _, _, _, _, _, _, v, p5, by (try simp only [Act.put, List.setIfInBounds_toArray, List.set_cons_zero, List.set_cons_succ]); rfl, hB2, hM2, hV, hv2, ht6⟩
        · go_simp
          refine hK.out _ _ ?_ (fun hH2 => ?_)
          · exact HS.out _ (hB.alloc _)
          clear hK K hH
          have hH := hH2
          clear hH2
          have hv := Box2.new w6 85 (.pointer none) (.int .i64 0)
          have hV : w4.heap.size ≤ w6.heap.size := hB.size
          replace ht1 := ht1.stay ((Below.refl _ _).alloc (Nat.le_refl _) (.cells #[.pointer none, .int .i64 0] 85))
          replace ht2 := ht2.stay ((Below.refl _ _).alloc (Nat.le_refl _) (.cells #[.pointer none, .int .i64 0] 85))
          replace hB := hB.alloc (.cells #[.pointer none, .int .i64 0] 85)
          replace hM := hM.alloc (.cells #[.pointer none, .int .i64 0] 85)
          obtain ⟨v, hve⟩ : ∃ b, b = w6.heap.size := ⟨_, rfl⟩
          rw [← hve] at hv hV ⊢
          clear hve
          generalize w6.alloc (.cells #[.pointer none, .int .i64 0] 85) = wA at *
          try simp only [Act.put, List.setIfInBounds_toArray, List.set_cons_zero, List.set_cons_succ]
          refine wpAnyH_ready (rs := [5]) (by as_aux_lemma => kernel_rfl) (by simp) ?_
          refine AllReadyH.cons (o := { dst := some 64, op := Go.Op.call { callee := Go.Callee.value (Go.Operand.func 79), args := #[Go.Operand.tmp 60, Go.Operand.tmp 61, Go.Operand.tmp 63], argTypes := #[85, 25, 85] }, type := 85, pos := "skew.go:124", after := #[{ on := 1, ground := Go.Ground.data }, { on := 2, ground := Go.Ground.data }, { on := 4, ground := Go.Ground.data }, { on := 4, ground := Go.Ground.chain }], guard := none }) rfl (fun K hK => ?_) AllReadyH.nil
          go_simp
          go_at_call 79
          (with_reducible refine (HI.out c m p1 p2 _ (by have := HN.out; omega) hM HN.out.2.1 HN.out.2.2.1 HN.out.2.2.2.1 HN.out.2.2.2.2 ht1 ht2 (List.pairwise_cons.1 HRS.out.1).2 (List.pairwise_cons.1 HRS.out.2).2).mono ?_)
          rintro e w7 ⟨p5, rfl, ht5, hm5, hb⟩
          replace hv := hv.bt hb hM (by decide)
          replace hB := hB.trans hb
          replace hM := hm5
          clear hb hm5 ht1 ht2
          refine hK.out _ _ ?_ (fun hH2 => ?_)
          · exact HS.out _ hB
          clear hK K hH
          have hH := hH2
          clear hH2
          try simp only [Act.put, List.setIfInBounds_toArray, List.set_cons_zero, List.set_cons_succ]
          have vc0 := hv.c0
          have vc1 := hv.c1
          have vz0 := hv.z0
          have vz1 := hv.z1
          refine wpAnyH_ready (rs := [7]) (by as_aux_lemma => kernel_rfl) (by simp) ?_
          refine AllReadyH.cons (o := { dst := none, op := Go.Op.store 85 (Go.Operand.tmp 10) (Go.Operand.tmp 64), type := 0, pos := "skew.go:124", after := #[{ on := 6, ground := Go.Ground.data }, { on := 5, ground := Go.Ground.data }, { on := 5, ground := Go.Ground.chain }, { on := 0, ground := Go.Ground.phase }, { on := 1, ground := Go.Ground.phase }, { on := 2, ground := Go.Ground.phase }, { on := 3, ground := Go.Ground.phase }, { on := 4, ground := Go.Ground.phase }, { on := 5, ground := Go.Ground.phase }, { on := 6, ground := Go.Ground.phase }], guard := none }) rfl (fun K hK => ?_) AllReadyH.nil
          go_simp
          refine hK.out _ _ ?_ (fun hH2 => ?_)
          · exact HS.out _ ((hB.own hV 0 _).own hV 1 _)
          clear hK K hH
          have hH := hH2
          clear hH2
          have hv2 := hv.set (.pointer p5.q) (.int .i64 p5.n)
          have ht6 := ht5.set2 hv heapT_ne (.pointer p5.q) (.int .i64 p5.n)
          have hB2 := (hB.own hV 0 (.pointer p5.q)).own hV 1 (.int .i64 p5.n)
          have hM2 := (hM.other hv (by decide) 0 (.pointer p5.q)).other (hv.set0 (.pointer p5.q)) (by decide) 1 (.int .i64 p5.n)
          clear vc0 vc1 vz0 vz1
          try simp only [Act.put, List.setIfInBounds_toArray, List.set_cons_zero, List.set_cons_succ]
          refine wpAnyH_done (by as_aux_lemma => kernel_rfl) ?_ _
          refine NoPanic.normal ?_
          clear hH
          exact ⟨rfl, _, _, _, _, _, _, v, p5, by (try simp only [Act.put, List.setIfInBounds_toArray, List.set_cons_zero, List.set_cons_succ]); rfl, hB2, hM2, hV, hv2, ht6⟩
      · go_simp
        refine hK.out _ _ ?_ (fun hH2 => ?_)
        · exact HS.out _ (hB.alloc _)
        clear hK K hH
        have hH := hH2
        clear hH2
        have hv := Box2.new w5 85 (.pointer none) (.int .i64 0)
        have hV : w4.heap.size ≤ w5.heap.size := hB.size
        replace ht1 := ht1.stay ((Below.refl _ _).alloc (Nat.le_refl _) (.cells #[.pointer none, .int .i64 0] 85))
        replace hLb := hLb.stay ((Below.refl _ _).alloc (Nat.le_refl _) (.cells #[.pointer none, .int .i64 0] 85))
        replace hB := hB.alloc (.cells #[.pointer none, .int .i64 0] 85)
        replace hM := hM.alloc (.cells #[.pointer none, .int .i64 0] 85)
        obtain ⟨v, hve⟩ : ∃ b, b = w5.heap.size := ⟨_, rfl⟩
        rw [← hve] at hv hV ⊢
        clear hve
        generalize w5.alloc (.cells #[.pointer none, .int .i64 0] 85) = wA at *
        try simp only [Act.put, List.setIfInBounds_toArray, List.set_cons_zero, List.set_cons_succ]
        refine wpAnyH_ready (rs := [4]) (by as_aux_lemma => kernel_rfl) (by simp) ?_
        refine AllReadyH.cons (o := { dst := some 63, op := Go.Op.call { callee := Go.Callee.value (Go.Operand.func 101), args := #[Go.Operand.tmp 62], argTypes := #[85] }, type := 85, pos := "skew.go:124", after := #[{ on := 3, ground := Go.Ground.data }, { on := 1, ground := Go.Ground.chain }], guard := none }) rfl (fun K hK => ?_) AllReadyH.nil
        go_simp
        go_at_call 101
        (with_reducible refine (rest_any g bs q _ hLb).mono ?_)
        rintro e w6 ⟨p2, rfl, ht2, hb⟩
        replace ht1 := ht1.stay hb
        replace hB := hB.trans (Bt.ofBelow hb)
        replace hM := hM.stay hb
        replace hv := hv.stay hb
        clear hb hLb
        refine hK.out _ _ ?_ (fun hH2 => ?_)
        · exact HS.out _ hB
        clear hK K hH
        have hH := hH2
        clear hH2
        try simp only [Act.put, List.setIfInBounds_toArray, List.set_cons_zero, List.set_cons_succ]
        refine wpAnyH_ready (rs := [5]) (by as_aux_lemma => kernel_rfl) (by simp) ?_
        refine AllReadyH.cons (o := { dst := some 64, op := Go.Op.call { callee := Go.Callee.value (Go.Operand.func 79), args := #[Go.Operand.tmp 60, Go.Operand.tmp 61, Go.Operand.tmp 63], argTypes := #[85, 25, 85] }, type := 85, pos := "skew.go:124", after := #[{ on := 1, ground := Go.Ground.data }, { on := 2, ground := Go.Ground.data }, { on := 4, ground := Go.Ground.data }, { on := 4, ground := Go.Ground.chain }], guard := none }) rfl (fun K hK => ?_) AllReadyH.nil
        go_simp
        go_at_call 79
        (with_reducible refine (HI.out c m p1 p2 _ (by have := HN.out; omega) hM HN.out.2.1 HN.out.2.2.1 HN.out.2.2.2.1 HN.out.2.2.2.2 ht1 ht2 (List.pairwise_cons.1 HRS.out.1).2 (List.pairwise_cons.1 HRS.out.2).2).mono ?_)
        rintro e w7 ⟨p5, rfl, ht5, hm5, hb⟩
        replace hv := hv.bt hb hM (by decide)
        replace hB := hB.trans hb
        replace hM := hm5
        clear hb hm5 ht1 ht2
        refine hK.out _ _ ?_ (fun hH2 => ?_)
        · exact HS.out _ hB
        clear hK K hH
        have hH := hH2
        clear hH2
        try simp only [Act.put, List.setIfInBounds_toArray, List.set_cons_zero, List.set_cons_succ]
        have vc0 := hv.c0
        have vc1 := hv.c1
        have vz0 := hv.z0
        have vz1 := hv.z1
        refine wpAnyH_ready (rs := [7]) (by as_aux_lemma => kernel_rfl) (by simp) ?_
        refine AllReadyH.cons (o := { dst := none, op := Go.Op.store 85 (Go.Operand.tmp 10) (Go.Operand.tmp 64), type := 0, pos := "skew.go:124", after := #[{ on := 6, ground := Go.Ground.data }, { on := 5, ground := Go.Ground.data }, { on := 5, ground := Go.Ground.chain }, { on := 0, ground := Go.Ground.phase }, { on := 1, ground := Go.Ground.phase }, { on := 2, ground := Go.Ground.phase }, { on := 3, ground := Go.Ground.phase }, { on := 4, ground := Go.Ground.phase }, { on := 5, ground := Go.Ground.phase }, { on := 6, ground := Go.Ground.phase }], guard := none }) rfl (fun K hK => ?_) AllReadyH.nil
        go_simp
        refine hK.out _ _ ?_ (fun hH2 => ?_)
        · exact HS.out _ ((hB.own hV 0 _).own hV 1 _)
        clear hK K hH
        have hH := hH2
        clear hH2
        have hv2 := hv.set (.pointer p5.q) (.int .i64 p5.n)
        have ht6 := ht5.set2 hv heapT_ne (.pointer p5.q) (.int .i64 p5.n)
        have hB2 := (hB.own hV 0 (.pointer p5.q)).own hV 1 (.int .i64 p5.n)
        have hM2 := (hM.other hv (by decide) 0 (.pointer p5.q)).other (hv.set0 (.pointer p5.q)) (by decide) 1 (.int .i64 p5.n)
        clear vc0 vc1 vz0 vz1
        try simp only [Act.put, List.setIfInBounds_toArray, List.set_cons_zero, List.set_cons_succ]
        refine wpAnyH_done (by as_aux_lemma => kernel_rfl) ?_ _
        refine NoPanic.normal ?_
        clear hH
        exact ⟨rfl, _, _, _, _, _, _, v, p5, by (try simp only [Act.put, List.setIfInBounds_toArray, List.set_cons_zero, List.set_cons_succ]); rfl, hB2, hM2, hV, hv2, ht6⟩
    · go_simp
      refine hK.out _ _ ?_ (fun hH2 => ?_)
      · exact HS.out _ (hB.alloc _)
      clear hK K hH
      have hH := hH2
      clear hH2
      have hv := Box2.new wd 85 (.pointer none) (.int .i64 0)
      have hV : w4.heap.size ≤ wd.heap.size := hB.size
      replace hLa := hLa.stay ((Below.refl _ _).alloc (Nat.le_refl _) (.cells #[.pointer none, .int .i64 0] 85))
      replace hLb := hLb.stay ((Below.refl _ _).alloc (Nat.le_refl _) (.cells #[.pointer none, .int .i64 0] 85))
      replace hB := hB.alloc (.cells #[.pointer none, .int .i64 0] 85)
      replace hM := hM.alloc (.cells #[.pointer none, .int .i64 0] 85)
      obtain ⟨v, hve⟩ : ∃ b, b = wd.heap.size := ⟨_, rfl⟩
      rw [← hve] at hv hV ⊢
      clear hve
      generalize wd.alloc (.cells #[.pointer none, .int .i64 0] 85) = wA at *
      try simp only [Act.put, List.setIfInBounds_toArray, List.set_cons_zero, List.set_cons_succ]
      refine wpAnyH_ready (rs := [1]) (by as_aux_lemma => kernel_rfl) (by simp) ?_
      refine AllReadyH.cons (o := { dst := some 60, op := Go.Op.call { callee := Go.Callee.value (Go.Operand.func 101), args := #[Go.Operand.tmp 59], argTypes := #[85] }, type := 85, pos := "skew.go:124", after := #[{ on := 0, ground := Go.Ground.data }], guard := none }) rfl (fun K hK => ?_) AllReadyH.nil
      go_simp
      go_at_call 101
      (with_reducible refine (rest_any f la p _ hLa).mono ?_)
      rintro e w5 ⟨p1, rfl, ht1, hb⟩
      replace hLb := hLb.stay hb
      replace hB := hB.trans (Bt.ofBelow hb)
      replace hM := hM.stay hb
      replace hv := hv.stay hb
      clear hb hLa
      refine hK.out _ _ ?_ (fun hH2 => ?_)
      · exact HS.out _ hB
      clear hK K hH
      have hH := hH2
      clear hH2
      try simp only [Act.put, List.setIfInBounds_toArray, List.set_cons_zero, List.set_cons_succ]
      refine wpAnyH_ready (rs := [4]) (by as_aux_lemma => kernel_rfl) (by simp) ?_
      refine AllReadyH.cons (o := { dst := some 63, op := Go.Op.call { callee := Go.Callee.value (Go.Operand.func 101), args := #[Go.Operand.tmp 62], argTypes := #[85] }, type := 85, pos := "skew.go:124", after := #[{ on := 3, ground := Go.Ground.data }, { on := 1, ground := Go.Ground.chain }], guard := none }) rfl (fun K hK => ?_) AllReadyH.nil
      go_simp
      go_at_call 101
      (with_reducible refine (rest_any g bs q _ hLb).mono ?_)
      rintro e w6 ⟨p2, rfl, ht2, hb⟩
      replace ht1 := ht1.stay hb
      replace hB := hB.trans (Bt.ofBelow hb)
      replace hM := hM.stay hb
      replace hv := hv.stay hb
      clear hb hLb
      refine hK.out _ _ ?_ (fun hH2 => ?_)
      · exact HS.out _ hB
      clear hK K hH
      have hH := hH2
      clear hH2
      try simp only [Act.put, List.setIfInBounds_toArray, List.set_cons_zero, List.set_cons_succ]
      refine wpAnyH_ready (rs := [5]) (by as_aux_lemma => kernel_rfl) (by simp) ?_
      refine AllReadyH.cons (o := { dst := some 64, op := Go.Op.call { callee := Go.Callee.value (Go.Operand.func 79), args := #[Go.Operand.tmp 60, Go.Operand.tmp 61, Go.Operand.tmp 63], argTypes := #[85, 25, 85] }, type := 85, pos := "skew.go:124", after := #[{ on := 1, ground := Go.Ground.data }, { on := 2, ground := Go.Ground.data }, { on := 4, ground := Go.Ground.data }, { on := 4, ground := Go.Ground.chain }], guard := none }) rfl (fun K hK => ?_) AllReadyH.nil
      go_simp
      go_at_call 79
      (with_reducible refine (HI.out c m p1 p2 _ (by have := HN.out; omega) hM HN.out.2.1 HN.out.2.2.1 HN.out.2.2.2.1 HN.out.2.2.2.2 ht1 ht2 (List.pairwise_cons.1 HRS.out.1).2 (List.pairwise_cons.1 HRS.out.2).2).mono ?_)
      rintro e w7 ⟨p5, rfl, ht5, hm5, hb⟩
      replace hv := hv.bt hb hM (by decide)
      replace hB := hB.trans hb
      replace hM := hm5
      clear hb hm5 ht1 ht2
      refine hK.out _ _ ?_ (fun hH2 => ?_)
      · exact HS.out _ hB
      clear hK K hH
      have hH := hH2
      clear hH2
      try simp only [Act.put, List.setIfInBounds_toArray, List.set_cons_zero, List.set_cons_succ]
      have vc0 := hv.c0
      have vc1 := hv.c1
      have vz0 := hv.z0
      have vz1 := hv.z1
      refine wpAnyH_ready (rs := [7]) (by as_aux_lemma => kernel_rfl) (by simp) ?_
      refine AllReadyH.cons (o := { dst := none, op := Go.Op.store 85 (Go.Operand.tmp 10) (Go.Operand.tmp 64), type := 0, pos := "skew.go:124", after := #[{ on := 6, ground := Go.Ground.data }, { on := 5, ground := Go.Ground.data }, { on := 5, ground := Go.Ground.chain }, { on := 0, ground := Go.Ground.phase }, { on := 1, ground := Go.Ground.phase }, { on := 2, ground := Go.Ground.phase }, { on := 3, ground := Go.Ground.phase }, { on := 4, ground := Go.Ground.phase }, { on := 5, ground := Go.Ground.phase }, { on := 6, ground := Go.Ground.phase }], guard := none }) rfl (fun K hK => ?_) AllReadyH.nil
      go_simp
      refine hK.out _ _ ?_ (fun hH2 => ?_)
      · exact HS.out _ ((hB.own hV 0 _).own hV 1 _)
      clear hK K hH
      have hH := hH2
      clear hH2
      have hv2 := hv.set (.pointer p5.q) (.int .i64 p5.n)
      have ht6 := ht5.set2 hv heapT_ne (.pointer p5.q) (.int .i64 p5.n)
      have hB2 := (hB.own hV 0 (.pointer p5.q)).own hV 1 (.int .i64 p5.n)
      have hM2 := (hM.other hv (by decide) 0 (.pointer p5.q)).other (hv.set0 (.pointer p5.q)) (by decide) 1 (.int .i64 p5.n)
      clear vc0 vc1 vz0 vz1
      try simp only [Act.put, List.setIfInBounds_toArray, List.set_cons_zero, List.set_cons_succ]
      refine wpAnyH_done (by as_aux_lemma => kernel_rfl) ?_ _
      refine NoPanic.normal ?_
      clear hH
      exact ⟨rfl, _, _, _, _, _, _, v, p5, by (try simp only [Act.put, List.setIfInBounds_toArray, List.set_cons_zero, List.set_cons_succ]); rfl, hB2, hM2, hV, hv2, ht6⟩
  rintro x' w' ⟨u59, u60, u61, u62, u63, u64, v, p5, rfl, hB, hM, hV, hv, ht⟩
  try simp only [Act.put, List.setIfInBounds_toArray, List.set_cons_zero, List.set_cons_succ]
  have nv1 : ¬ v = a + 1 + 1 := by have := F3.out.r.lt; omega
  have nv2 : ¬ a + 1 + 1 = v := by have := F3.out.r.lt; omega
  have F5 := Lib.hid (F3.out.bt hB K3.out.mt)
  have K5 := Lib.hid (K3.out.turn hM hB node_ne)
  have T5 := Lib.hid (And.intro (T3.out.1.kp (Kp.tree (Kp.bt hB K3.out.mt))) (T3.out.2.kp (Kp.tree (Kp.bt hB K3.out.mt))))
  have V5 := Lib.hid (And.intro hv (And.intro ht hV))
  have v0 := hv.c0
  have v1 := hv.c1
  clear hB hM hV hv ht F3 K3 T3
  go_wp2_with fail
  have HQ := Lib.hid HEQ.out
  have HBR := Lib.hid (bmeld_sgood la bs (tail_ok HB1.out.1).hok (tail_ok HB1.out.2).hok (tail_ok HB1.out.1).sk (tail_ok HB1.out.2).sk (List.pairwise_cons.1 HRS.out.1).2 (List.pairwise_cons.1 HRS.out.2).2).2.2.1
  have HLOW := Lib.hid (show ∀ x ∈ bmeld la bs, (lnk f g).rank ≤ x.rank from by
    rw [lnk_rank HQ.out]
    have h1 := List.pairwise_cons.1 HRS.out.1
    have h2 := List.pairwise_cons.1 HRS.out.2
    have h3 := (bmeld_sgood la bs (tail_ok HB1.out.1).hok (tail_ok HB1.out.2).hok (tail_ok HB1.out.1).sk (tail_ok HB1.out.2).sk h1.2 h2.2).2.2.2 (f.rank + 1) (fun u hu => h1.1 u hu) (fun u hu => by have := h2.1 u hu; have := HQ.out; omega)
    exact h3)
  go_region_held3 (fun w' => w'.cell? ⟨v, 0, none⟩ = some (.pointer p5.q) ∧ w'.cell? ⟨v, 1, none⟩ = some (.int .i64 p5.n)) (go_keep)
    (first | (go_at_call 93; ((with_reducible refine (link_any mo (c + (bmeldN la bs : Nat)) (m + (bmeldN la bs : Nat)) fa ga (some f) (some g) _ K5.out.drew.mt (by have := HN.out; omega) (by have := HN.out; have := HZ.out; omega) (by have := HN.out; omega) (by have := HN.out; have := HZ.out; omega) (T5.out.1.stay ((Below.refl _ _).drew)) (T5.out.2.stay ((Below.refl _ _).drew)) (by have := HN.out; simp only [osize]; omega) (by have := HN.out; simp only [osize]; omega)).mono ?_); rintro e w6 ⟨p6, rfl, ht6, hm6, hb6⟩; have F6 := Lib.hid ((F5.out.stay ((Below.refl _ _).drew)).bt hb6 K5.out.drew.mt); have K6 := Lib.hid (K5.out.drew.turn hm6 hb6 node_ne); have T6 := Lib.hid (show TAt w6 p6 (some (lnk f g)) from ht6); have V6 := Lib.hid (And.intro ((V5.out.1.stay ((Below.refl _ _).drew)).bt hb6 K5.out.drew.mt (by decide)) ((V5.out.2.1.stay ((Below.refl _ _).drew)).bt hb6 K5.out.drew.mt)); have v60 := V6.out.1.c0; have v61 := V6.out.1.c1; clear ht6 hm6 hb6)) | (go_at_call 102; ((with_reducible refine (ahead_any mo (c + (bmeldN la bs : Nat) + (lnkN (some f) (some g) : Nat)) (m + (bmeldN la bs : Nat) + (lnkN (some f) (some g) : Nat)) (lnk f g) (bmeld la bs) p6 p5 _ (by rw [lnk_size]; have := HN.out; have := HZ.out; omega) K6.out.mt (by have := HN.out; omega) (by have := HN.out; have := HZ.out; simp only [lnkN]; omega) (by have := HN.out; omega) (by have := HN.out; have := HZ.out; simp only [lnkN]; omega) V6.out.2 HBR.out T6.out (lnk_hok (HB1.out.1.hok f (List.mem_cons_self ..)) (HB1.out.2.hok g (List.mem_cons_self ..))) (lnk_sk HQ.out (HB1.out.1.sk f (List.mem_cons_self ..)) (HB1.out.2.sk g (List.mem_cons_self ..))) HLOW.out).mono ?_); rintro e w7 ⟨p7, rfl, ht7, hm7, hb7⟩; have F7 := Lib.hid (F6.out.bt hb7 K6.out.mt); have K7 := Lib.hid (K6.out.turn hm7 hb7 node_ne); have L7 := Lib.hid ht7; have V7 := Lib.hid (V6.out.1.bt hb7 K6.out.mt (by decide)); have v70 := V7.out.c0; have v71 := V7.out.c1; have z0 := F7.out.r.z0; have z1 := F7.out.r.z1; have r0 := F7.out.r.c0; have r1 := F7.out.r.c1; clear ht7 hm7 hb7)))
  go_wp2_with fail
  have s0 := (F7.out.r.set (.pointer p7.q) (.int .i64 p7.n)).c0
  have s1 := (F7.out.r.set (.pointer p7.q) (.int .i64 p7.n)).c1
  have k := K7.out.put2 F7.out.r heapT_ne (by decide) (by have := HA.out; omega) (.pointer p7.q) (.int .i64 p7.n)
  have e1 : c + ((1 + bmeldN la bs + putTN (bmeld la bs) (lnk f g) : Nat) : Int) = c + (bmeldN la bs : Nat) + (lnkN (some f) (some g) : Nat) + (putTN (bmeld la bs) (lnk f g) : Nat) := by simp only [lnkN]; omega
  have e2 : m + ((1 + bmeldN la bs + putTN (bmeld la bs) (lnk f g) : Nat) : Int) = m + (bmeldN la bs : Nat) + (lnkN (some f) (some g) : Nat) + (putTN (bmeld la bs) (lnk f g) : Nat) := by simp only [lnkN]; omega
  exact bodyPost_ret (v := hp p7) (by simp [results, Tryz.results79, go_sem, s0, s1]) rfl ⟨p7, rfl, by rw [HE.out.1]; exact L7.out.set2 F7.out.r heapT_ne _ _, by rw [HE.out.2, e1, e2]; exact k.mt, k.bt⟩

theorem melded_all (mo : Option Nat) : ∀ la bs : List Tre, MeldsTo mo la bs := by
  refine bmeld_ind ?_ ?_ ?_ ?_ ?_
  · exact fun b => meld_first mo b
  · exact fun f a => meld_second mo f a
  · exact fun f a g b h ih => meld_lt mo f g a b h ih
  · exact fun f a g b h ih => meld_gt mo f g a b h ih
  · exact fun f a g b h ih => meld_eq mo f g a b h ih

end Go.Proofs.YtlmokendajgbdaaGreatDoor.Hp
