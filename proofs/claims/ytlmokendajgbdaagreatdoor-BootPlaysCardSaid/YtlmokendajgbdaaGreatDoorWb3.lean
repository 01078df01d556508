/-
  Contracts of a boot heap's Size, Meld, Insert and Pop, by a meter or none: which heap each makes, how many comparisons and things the meter counts, that what was there stays but for the meter's block. Conditions: fewer than 2 to the 27th elements, counts below 2 to the 56th.
-/
import Derived.Test.YtlmokendajgbdaaGreatDoorWb2
import Derived.Test.YtlmokendajgbdaaGreatDoorBo2
namespace Go.Proofs.YtlmokendajgbdaaGreatDoor.Bo
open Go.Sort Go.RowKit Go.Proofs.YtlmokendajgbdaaGreatDoor.Gn

set_option maxHeartbeats 1000000 in
theorem size_any (t : Lh) (p : Option Addr) (w : World) (h : LAt w t p) : Calls Tryz.prog 29 #[hp p] w fun e w' => e = .returned (.int .i64 (t.size : Nat)) ∧ Below w.heap.size w w' := by
  have hb1 : Below w.heap.size w (w.alloc (.cells #[.pointer p] 29)) := (Below.refl _ _).alloc (Nat.le_refl _) _
  cases t with
  | nil =>
    obtain rfl := h.no
    go_enter Tryz.func29, Tryz.ntmps29
    go_wp2_with fail
    go_ret
    exact ⟨rfl, hb1⟩
  | node x q =>
    obtain ⟨b, s, o, rfl, hb, -, -, rfl⟩ := h.parts
    obtain ⟨n, hn⟩ : ∃ n, n = (Lh.node x (heaps o)).size := ⟨_, rfl⟩
    rw [← hn] at hb ⊢
    have hk := four_kp (W' := w.alloc (.cells #[.pointer (some ⟨b, 0, none⟩)] 29)) hb (Kpt.below hb1)
    have c4 := hk.c4
    have HB := Lib.hid hb1
    clear hk hb hn hb1 h
    go_enter Tryz.func29, Tryz.ntmps29
    go_wp2_with fail
    go_ret
    exact ⟨rfl, HB.out⟩

theorem ty_ne {W : World} {g b : Nat} {cur cur' : Array Value} {e e' : TypeId} {z z' : Nat × Nat} (hg : W.heap[g]? = some (.cells cur e z)) (hb : W.heap[b]? = some (.cells cur' e' z')) (hne : e ≠ e') : ¬ g = b := by
  rintro rfl
  rw [hg] at hb
  cases hb
  exact hne rfl
/-- Three variables: two heaps', and what is handed back. -/
structure Fm (W : World) (a : Nat) (p q : Option Addr) : Prop where
  h : HVar W a p
  o : HVar W (a + 1) q
  r : HVar W (a + 2) none
theorem Fm.new (w : World) (p q : Option Addr) : Fm (((w.alloc (.cells #[.pointer p] 29)).alloc (.cells #[.pointer q] 29)).alloc (.cells #[.pointer none] 29)) w.heap.size p q := by
  refine ⟨?_, ?_, ?_⟩
  · show _ = _
    rw [alloc_old _ (by simp only [World.size_alloc]; omega), alloc_old _ (by simp only [World.size_alloc]; omega)]; exact new_at rfl
  · show _ = _
    rw [alloc_old _ (by simp only [World.size_alloc]; omega)]; exact new_at (by simp)
  · exact new_at (by simp)
theorem new3 (w : World) (o1 o2 o3 : Obj) : Below w.heap.size w (((w.alloc o1).alloc o2).alloc o3) := (((Below.refl _ _).alloc (Nat.le_refl _) _).alloc (by simp) _).alloc (by simp only [World.size_alloc]; omega) _

set_option maxHeartbeats 1000000 in
theorem meld_left (mo : Option Nat) (tb : Lh) (c m : Int) (pd : Option Addr) (w : World) (hm : MAt w mo c m) (hb : LAt w tb pd) : Calls Tryz.prog 19 #[hp none, mAddr mo, hp pd] w (Gave mo c m tb w) := by
  have hbe := new3 w (.cells #[.pointer none] 29) (.cells #[.pointer pd] 29) (.cells #[.pointer pd] 29)
  have F := Fm.new w none pd
  have c0 := F.o.c0
  have r0 := F.r.c0
  have z0 := F.r.z0
  have X := Lib.hid (And.intro (hb.stay hbe) (And.intro (hm.stay hbe) hbe))
  clear F hm hb hbe
  go_enter Tryz.func19, Tryz.ntmps19
  go_wp2_with fail
  exact bodyPost_ret (v := hp pd) (by simp [results, Tryz.results19, go_sem]) rfl ⟨_, rfl, X.out.1, X.out.2.1, Bt.ofBelow X.out.2.2⟩
set_option maxHeartbeats 1000000 in
theorem meld_rightM (mo : Option Nat) (ta : Lh) (c m : Int) (b : Nat) (w : World) (hm : MAt w mo c m) (hb : LAt w ta (some ⟨b, 0, none⟩)) : Calls Tryz.prog 19 #[hp (some ⟨b, 0, none⟩), mAddr mo, hp none] w (Gave mo c m ta w) := by
  have hbe := new3 w (.cells #[.pointer (some ⟨b, 0, none⟩)] 29) (.cells #[.pointer none] 29) (.cells #[.pointer (some ⟨b, 0, none⟩)] 29)
  have F := Fm.new w (some ⟨b, 0, none⟩) none
  have c0 := F.h.c0
  have r0 := F.r.c0
  have z0 := F.r.z0
  have X := Lib.hid (And.intro (hb.stay hbe) (And.intro (hm.stay hbe) hbe))
  clear F hm hb hbe
  go_enter Tryz.func19, Tryz.ntmps19
  go_wp2_with fail
  exact bodyPost_ret (v := hp (some ⟨b, 0, none⟩)) (by simp [results, Tryz.results19, go_sem]) rfl ⟨_, rfl, X.out.1, X.out.2.1, Bt.ofBelow X.out.2.2⟩

/-- What is known of a heap with a root: its node's block, its queue, all heaps of that. -/
structure Nod (W : World) (x : Int × Int) (o : Qh) (b : Nat) (s : Hp.HP) (n : Nat) : Prop where
  blk : W.heap[b]? = some (nodeObj x s (n : Int))
  q : Hp.LAt W o s
  all : ∀ e ∈ o.all, LAt0 W e.h (some ⟨e.a, 0, none⟩)
  size : n = (Lh.node x (heaps o)).size
  ok : (Lh.node x (heaps o)).ok
theorem Nod.of {W : World} {x : Int × Int} {q : List (Gn.Tre Lh)} {p : Option Addr} (h : LAt W (.node x q) p) : ∃ (o : Qh) (b : Nat) (s : Hp.HP) (n : Nat), q = heaps o ∧ p = some ⟨b, 0, none⟩ ∧ Nod W x o b s n := by
  obtain ⟨b, s, o, hp, hb, hq, hs, rfl⟩ := h.parts
  exact ⟨o, b, s, _, rfl, hp, ⟨hb, hq, hs, rfl, h.right⟩⟩
section
variable {W W' : World} {x : Int × Int} {o : Qh} {b : Nat} {s : Hp.HP} {n : Nat} {mo : Option Nat} {c m : Int}
theorem Nod.kps (h : Nod W x o b s n) (hk : Kp W W') (hs : W.heap.size ≤ W'.heap.size) : Nod W' x o b s n := ⟨hk _ _ _ (.inl (.inr (.inr (.inr rfl)))) h.blk, h.q.kps hk hs, fun e he => (h.all e he).kps hk hs, h.size, h.ok⟩
theorem Nod.stay (h : Nod W x o b s n) (hb : Below W.heap.size W W') : Nod W' x o b s n := h.kps (Kpt.below hb) hb.size
theorem Nod.bt (h : Nod W x o b s n) (hb : Bt mo W W') (hm : MAt W mo c m) : Nod W' x o b s n := h.kps (hb.kpt hm node_ne) hb.size
theorem Nod.four (h : Nod W x o b s n) : Four W b x s (n : Int) := Bo.four h.blk
theorem Nod.lies (h : Nod W x o b s n) : LAt0 W (.node x (heaps o)) (some ⟨b, 0, none⟩) := .node (h.size ▸ h.blk) h.q h.all
theorem Nod.key (h : Nod W x o b s n) : KeyC W ⟨.node x (heaps o), b⟩ := thing_key h.lies
theorem Nod.qs (h : Nod W x o b s n) : o.size + 1 ≤ n := by have := queue_small_of h.ok; rw [h.size]; exact this
end
theorem meld_ltQ {x y : Int × Int} {ox oy : Qh} (b : Nat) (hv : ltE y x = true) : meld (.node x (heaps ox)) (.node y (heaps oy)) = .node y (heaps (oy.insert ⟨.node x (heaps ox), b⟩)) ∧ meldC (.node x (heaps ox)) (.node y (heaps oy)) = oy.insC + 1 ∧ meldM (.node x (heaps ox)) (.node y (heaps oy)) = oy.insM + 1 := by
  refine ⟨by rw [meld_lt hv, heaps_insert], ?_, ?_⟩
  · show (if ltE y x = true then _ else _) = _
    rw [if_pos hv, (insert_counts oy).1]
  · show (if ltE y x = true then _ else _) = _
    rw [if_pos hv, (insert_counts oy).2]
theorem meld_geQ {x y : Int × Int} {ox oy : Qh} (b : Nat) (hv : ltE y x = false) : meld (.node x (heaps ox)) (.node y (heaps oy)) = .node x (heaps (ox.insert ⟨.node y (heaps oy), b⟩)) ∧ meldC (.node x (heaps ox)) (.node y (heaps oy)) = ox.insC + 1 ∧ meldM (.node x (heaps ox)) (.node y (heaps oy)) = ox.insM + 1 := by
  have hn : ¬ ltE y x = true := by simp [hv]
  refine ⟨by rw [meld_ge hv, heaps_insert], ?_, ?_⟩
  · show (if ltE y x = true then _ else _) = _
    rw [if_neg hn, (insert_counts ox).1]
  · show (if ltE y x = true then _ else _) = _
    rw [if_neg hn, (insert_counts ox).2]

set_option maxRecDepth 100000 in
set_option maxHeartbeats 8000000 in
theorem meld_lt_any (mo : Option Nat) (c m : Int) (x1 x2 y1 y2 : Int) (ox oy : Qh) (p1 p2 : Nat) (sx sy : Hp.HP) (nx ny : Nat) (w : World) (hs : nx + ny < 134217728) (hm : MAt w mo c m) (h0 : 0 ≤ c) (h1 : c < 144115188075855872) (h2 : 0 ≤ m) (h3 : m < 144115188075855872)
    (hx : Nod w (x1, x2) ox p1 sx nx) (hy : Nod w (y1, y2) oy p2 sy ny) (hv : ltE (y1, y2) (x1, x2) = true) :
    Calls Tryz.prog 19 #[hp (some ⟨p1, 0, none⟩), mAddr mo, hp (some ⟨p2, 0, none⟩)] w (Gave mo (c + meldC (.node (x1, x2) (heaps ox)) (.node (y1, y2) (heaps oy))) (m + meldM (.node (x1, x2) (heaps ox)) (.node (y1, y2) (heaps oy))) (meld (.node (x1, x2) (heaps ox)) (.node (y1, y2) (heaps oy))) w) := by
  obtain ⟨w1, hw1⟩ : ∃ u, u = ((w.alloc (.cells #[.pointer (some ⟨p1, 0, none⟩)] 29)).alloc (.cells #[.pointer (some ⟨p2, 0, none⟩)] 29)).alloc (.cells #[.pointer none] 29) := ⟨_, rfl⟩
  have hb1 : Below w.heap.size w w1 := by rw [hw1]; exact new3 w _ _ _
  have F1 : Fm w1 w.heap.size (some ⟨p1, 0, none⟩) (some ⟨p2, 0, none⟩) := by rw [hw1]; exact Fm.new w _ _
  have HF := Lib.hid F1
  have X := Lib.hid (And.intro ((Trk.refl (N := NodeT) hm).stay hb1) (Bt.refl mo w1))
  have HX := Lib.hid (hx.stay hb1)
  have HY := Lib.hid (hy.stay hb1)
  obtain ⟨iC, hiC⟩ : ∃ k, k = oy.insC := ⟨_, rfl⟩
  obtain ⟨iM, hiM⟩ : ∃ k, k = oy.insM := ⟨_, rfl⟩
  have HI := Lib.hid (show iC = oy.insC ∧ iM = oy.insM ∧ iC ≤ 2 ∧ iM ≤ 2 from ⟨hiC, hiM, hiC ▸ Go.Proofs.YtlmokendajgbdaaGreatDoor.insC_le _, hiM ▸ Go.Proofs.YtlmokendajgbdaaGreatDoor.insM_le _⟩)
  have eq := meld_ltQ (x := (x1, x2)) (y := (y1, y2)) (ox := ox) (oy := oy) p1 hv
  rw [← hiC, ← hiM] at eq
  rw [eq.1, eq.2.1, eq.2.2]
  have hok : (Lh.node (y1, y2) (heaps (oy.insert ⟨.node (x1, x2) (heaps ox), p1⟩))).ok := eq.1 ▸ meld_ok _ _ hx.ok hy.ok
  have hsz : (Lh.node (y1, y2) (heaps (oy.insert ⟨.node (x1, x2) (heaps ox), p1⟩))).size = nx + ny := by rw [← eq.1, meld_size, hx.size, hy.size]
  obtain ⟨o5, ho5⟩ : ∃ u, u = oy.insert ⟨.node (x1, x2) (heaps ox), p1⟩ := ⟨_, rfl⟩
  rw [← ho5] at hok hsz ⊢
  have HR := Lib.hid (And.intro hok (And.intro hsz ho5))
  have HN := Lib.hid (And.intro hs (And.intro h0 (And.intro h1 (And.intro h2 h3))))
  have HV := Lib.hid hv
  have HW := Lib.hid hw1
  clear hs h0 h1 h2 h3 F1 hb1 hm hw1 hx hy hv hiC hiM eq hok hsz ho5
  go_enter Tryz.func19, Tryz.ntmps19
  go_wp2_with fail
  rw [← HW.out]
  obtain ⟨a, ha⟩ : ∃ a, a = w.heap.size := ⟨_, rfl⟩
  rw [← ha] at HF ⊢
  have HA := Lib.hid ha
  clear ha HW
  have HS := Lib.hid (fun W (hz : Bt mo w1 W) => (show W.cell? ⟨a, 0, none⟩ = some (.pointer (some ⟨p1, 0, none⟩)) ∧ W.cell? ⟨a + 1, 0, none⟩ = some (.pointer (some ⟨p2, 0, none⟩)) ∧ Four W p1 (x1, x2) sx (nx : Int) ∧ Four W p2 (y1, y2) sy (ny : Int) ∧ HVar W (a + 2) none from
    ⟨(HF.out.h.bt hz X.out.1.mt).c0, (HF.out.o.bt hz X.out.1.mt).c0, (HX.out.bt hz X.out.1.mt).four, (HY.out.bt hz X.out.1.mt).four, HF.out.r.bt hz X.out.1.mt⟩))
  have HQ := Lib.hid (fun W (hz : Bt mo w1 W) => And.intro (HX.out.bt hz X.out.1.mt) (HY.out.bt hz X.out.1.mt))
  have d1 : ¬ p1 = a + 1 + 1 := ty_ne HX.out.blk HF.out.r (by decide)
  have d2 : ¬ p2 = a + 1 + 1 := ty_ne HY.out.blk HF.out.r (by decide)
  have d3 : ¬ a + 1 + 1 = p1 := fun e => d1 e.symm
  have d4 : ¬ a + 1 + 1 = p2 := fun e => d2 e.symm
  clear HX HY HF
  obtain ⟨f0, f1, -⟩ := HS.out _ X.out.2
  go_region_held3 (fun w' => w'.cell? ⟨a, 0, none⟩ = some (.pointer (some ⟨p1, 0, none⟩)) ∧ w'.cell? ⟨a + 1, 0, none⟩ = some (.pointer (some ⟨p2, 0, none⟩))) (go_keep) (fail)
  have X2 := Lib.hid (And.intro X.out.1.drew X.out.2.drew)
  clear X f0 f1
  obtain ⟨w2, hw2⟩ : ∃ u, u = w1.drew := ⟨_, rfl⟩
  rw [← hw2] at X2 ⊢
  clear hw2
  obtain ⟨f0, f1, k1, k2, -⟩ := HS.out _ X2.out.2
  have x0 := k1.c0
  have x1' := k1.c1
  have y0 := k2.c0
  have y1' := k2.c1
  clear k1 k2
  go_wp2_with fail
  go_region_held3 (fun w' => w'.cell? ⟨a, 0, none⟩ = some (.pointer (some ⟨p1, 0, none⟩)) ∧ w'.cell? ⟨a + 1, 0, none⟩ = some (.pointer (some ⟨p2, 0, none⟩)) ∧ w'.cell? ⟨p1, 0, none⟩ = some (.int .i64 x1) ∧ w'.cell? ⟨p1, 1, none⟩ = some (.int .i64 x2) ∧ w'.cell? ⟨p2, 0, none⟩ = some (.int .i64 y1) ∧ w'.cell? ⟨p2, 1, none⟩ = some (.int .i64 y2)) (go_keep)
    (first | (go_at_call 39; ((with_reducible refine (mLess mo c m (y1, y2) (x1, x2) _ X2.out.1.drew.mt HN.out.2.1 (by have := HN.out; omega)).mono ?_); rintro e w3 ⟨rfl, hm3, hb3⟩; rw [HV.out]; have X3 := Lib.hid (And.intro (X2.out.1.drew.turn hm3 hb3 node_ne) (X2.out.2.drew.trans hb3)); obtain ⟨g0, g1, k1, k2, -⟩ := HS.out _ X3.out.2; have u0 := k1.c0; have u1 := k1.c1; have v0 := k2.c0; have v1 := k2.c1; clear hm3 hb3 k1 k2)))
  clear X2 f0 f1 x0 x1' y0 y1' u0 u1 v0 v1
  go_wp2_with fail
  go_region_held3 (fun w' => w'.cell? ⟨a, 0, none⟩ = some (.pointer (some ⟨p1, 0, none⟩)) ∧ w'.cell? ⟨a + 1, 0, none⟩ = some (.pointer (some ⟨p2, 0, none⟩))) (go_keep) (fail)
  have X4 := Lib.hid (And.intro X3.out.1.drew X3.out.2.drew)
  clear X3
  generalize w3.drew = w4 at *
  obtain ⟨-, -, k1, k2, -⟩ := HS.out _ X4.out.2
  have v0 := k2.c0
  have v1 := k2.c1
  have v2 := k2.c2
  have v3 := k2.c3
  have v4 := k2.c4
  have l4 := k1.c4
  have ws : IntKind.i64.wrap ((ny : Int) + (nx : Int)) = (ny : Int) + (nx : Int) := by have := HN.out.1; rw [IntKind.wrap_i64]; omega
  clear k1 k2
  go_wp2_with fail
  go_region_held3 (fun w' => w'.cell? ⟨p2, 0, none⟩ = some (.int .i64 y1) ∧ w'.cell? ⟨p2, 1, none⟩ = some (.int .i64 y2) ∧ w'.cell? ⟨p2, 2, none⟩ = some (.pointer sy.q) ∧ w'.cell? ⟨p2, 3, none⟩ = some (.int .i64 sy.n) ∧ w'.cell? ⟨p2, 4, none⟩ = some (.int .i64 (ny : Int)) ∧ w'.cell? ⟨p1, 4, none⟩ = some (.int .i64 (nx : Int))) (go_keep)
    (first | (go_at_call 40; ((with_reducible refine (Hp.insert_any mo (c + 1) m oy ⟨.node (x1, x2) (heaps ox), p1⟩ sy _ (HQ.out _ X4.out.2.drew).1.key (by have := (HQ.out _ X4.out.2.drew).2.qs; have := HN.out.1; omega) X4.out.1.drew.mt (by have := HN.out; omega) (by have := HN.out; omega) HN.out.2.2.2.1 (by have := HN.out; omega) (HQ.out _ X4.out.2.drew).2.q).mono ?_); rintro e w5 ⟨q5, rfl, ht5, hm5, hb5⟩; have X5 := Lib.hid (And.intro (X4.out.1.drew.turn hm5 hb5 node_ne) (X4.out.2.drew.trans hb5)); have T5 := Lib.hid (show Hp.LAt w5 o5 q5 from HR.out.2.2.symm ▸ ht5); obtain ⟨-, -, k1, k2, -⟩ := HS.out _ X5.out.2; have i0 := k2.c0; have i1 := k2.c1; have i2 := k2.c2; have i3 := k2.c3; have i4 := k2.c4; have j4 := k1.c4; clear ht5 hm5 hb5 k1 k2)) | (go_at_call 38; ((with_reducible refine (build_any mo _ _ y1 y2 o5 q5 ((ny : Int) + (nx : Int)) _ (by rw [HR.out.2.1]; omega) X5.out.1.mt (by have := HI.out; have := HN.out; omega) (by have := HI.out; have := HN.out; omega) T5.out (HR.out.2.2.symm ▸ insert_lies (HQ.out _ X5.out.2).2.all (HQ.out _ X5.out.2).1.lies) HR.out.1 (by rw [HR.out.2.1]; have := HN.out.1; omega)).mono ?_); rintro e w6 ⟨p6, rfl, ht6, hm6, hb6⟩; have X6 := Lib.hid (And.intro (X5.out.1.turn hm6 hb6 node_ne) (X5.out.2.trans hb6)); have T6 := Lib.hid ht6; obtain ⟨-, -, k1, k2, R6⟩ := HS.out _ X6.out.2; have m0 := k2.c0; have m1 := k2.c1; have m2 := k2.c2; have m3 := k2.c3; have m4 := k2.c4; have n4 := k1.c4; have r6 := R6.c0; have z6 := R6.z0; have RR := Lib.hid R6; clear ht6 hm6 hb6 k1 k2 R6)))
  go_wp2_with fail
  have hk := X6.out.1.put RR.out heapT_ne (by decide) (by rw [← HA.out]; omega) 0 (.pointer p6)
  have s0 := (RR.out.put p6).c0
  exact bodyPost_ret (v := hp p6) (by simp [results, Tryz.results19, go_sem, s0]) rfl ⟨p6, rfl, T6.out.wrote RR.out heapT_ne 0 _, by have := HI.out; simpa [HI.out.1, HI.out.2.1, Int.add_assoc, Int.add_comm, Int.add_left_comm] using hk.mt, hk.bt⟩

set_option maxRecDepth 100000 in
set_option maxHeartbeats 8000000 in
theorem meld_ge_any (mo : Option Nat) (c m : Int) (x1 x2 y1 y2 : Int) (ox oy : Qh) (p1 p2 : Nat) (sx sy : Hp.HP) (nx ny : Nat) (w : World) (hs : nx + ny < 134217728) (hm : MAt w mo c m) (h0 : 0 ≤ c) (h1 : c < 144115188075855872) (h2 : 0 ≤ m) (h3 : m < 144115188075855872)
    (hx : Nod w (x1, x2) ox p1 sx nx) (hy : Nod w (y1, y2) oy p2 sy ny) (hv : ltE (y1, y2) (x1, x2) = false) :
    Calls Tryz.prog 19 #[hp (some ⟨p1, 0, none⟩), mAddr mo, hp (some ⟨p2, 0, none⟩)] w (Gave mo (c + meldC (.node (x1, x2) (heaps ox)) (.node (y1, y2) (heaps oy))) (m + meldM (.node (x1, x2) (heaps ox)) (.node (y1, y2) (heaps oy))) (meld (.node (x1, x2) (heaps ox)) (.node (y1, y2) (heaps oy))) w) := by
  obtain ⟨w1, hw1⟩ : ∃ u, u = ((w.alloc (.cells #[.pointer (some ⟨p1, 0, none⟩)] 29)).alloc (.cells #[.pointer (some ⟨p2, 0, none⟩)] 29)).alloc (.cells #[.pointer none] 29) := ⟨_, rfl⟩
  have hb1 : Below w.heap.size w w1 := by rw [hw1]; exact new3 w _ _ _
  have F1 : Fm w1 w.heap.size (some ⟨p1, 0, none⟩) (some ⟨p2, 0, none⟩) := by rw [hw1]; exact Fm.new w _ _
  have HF := Lib.hid F1
  have X := Lib.hid (And.intro ((Trk.refl (N := NodeT) hm).stay hb1) (Bt.refl mo w1))
  have HX := Lib.hid (hx.stay hb1)
  have HY := Lib.hid (hy.stay hb1)
  obtain ⟨iC, hiC⟩ : ∃ k, k = ox.insC := ⟨_, rfl⟩
  obtain ⟨iM, hiM⟩ : ∃ k, k = ox.insM := ⟨_, rfl⟩
  have HI := Lib.hid (show iC = ox.insC ∧ iM = ox.insM ∧ iC ≤ 2 ∧ iM ≤ 2 from ⟨hiC, hiM, hiC ▸ Go.Proofs.YtlmokendajgbdaaGreatDoor.insC_le _, hiM ▸ Go.Proofs.YtlmokendajgbdaaGreatDoor.insM_le _⟩)
  have eq := meld_geQ (x := (x1, x2)) (y := (y1, y2)) (ox := ox) (oy := oy) p2 hv
  rw [← hiC, ← hiM] at eq
  rw [eq.1, eq.2.1, eq.2.2]
  have hok : (Lh.node (x1, x2) (heaps (ox.insert ⟨.node (y1, y2) (heaps oy), p2⟩))).ok := eq.1 ▸ meld_ok _ _ hx.ok hy.ok
  have hsz : (Lh.node (x1, x2) (heaps (ox.insert ⟨.node (y1, y2) (heaps oy), p2⟩))).size = nx + ny := by rw [← eq.1, meld_size, hx.size, hy.size]
  obtain ⟨o5, ho5⟩ : ∃ u, u = ox.insert ⟨.node (y1, y2) (heaps oy), p2⟩ := ⟨_, rfl⟩
  rw [← ho5] at hok hsz ⊢
  have HR := Lib.hid (And.intro hok (And.intro hsz ho5))
  have HN := Lib.hid (And.intro hs (And.intro h0 (And.intro h1 (And.intro h2 h3))))
  have HV := Lib.hid hv
  have HW := Lib.hid hw1
  clear hs h0 h1 h2 h3 F1 hb1 hm hw1 hx hy hv hiC hiM eq hok hsz ho5
  go_enter Tryz.func19, Tryz.ntmps19
  go_wp2_with fail
  rw [← HW.out]
  obtain ⟨a, ha⟩ : ∃ a, a = w.heap.size := ⟨_, rfl⟩
  rw [← ha] at HF ⊢
  have HA := Lib.hid ha
  clear ha HW
  have HS := Lib.hid (fun W (hz : Bt mo w1 W) => (show W.cell? ⟨a, 0, none⟩ = some (.pointer (some ⟨p1, 0, none⟩)) ∧ W.cell? ⟨a + 1, 0, none⟩ = some (.pointer (some ⟨p2, 0, none⟩)) ∧ Four W p1 (x1, x2) sx (nx : Int) ∧ Four W p2 (y1, y2) sy (ny : Int) ∧ HVar W (a + 2) none from
    ⟨(HF.out.h.bt hz X.out.1.mt).c0, (HF.out.o.bt hz X.out.1.mt).c0, (HX.out.bt hz X.out.1.mt).four, (HY.out.bt hz X.out.1.mt).four, HF.out.r.bt hz X.out.1.mt⟩))
  have HQ := Lib.hid (fun W (hz : Bt mo w1 W) => And.intro (HX.out.bt hz X.out.1.mt) (HY.out.bt hz X.out.1.mt))
  have d1 : ¬ p1 = a + 1 + 1 := ty_ne HX.out.blk HF.out.r (by decide)
  have d2 : ¬ p2 = a + 1 + 1 := ty_ne HY.out.blk HF.out.r (by decide)
  have d3 : ¬ a + 1 + 1 = p1 := fun e => d1 e.symm
  have d4 : ¬ a + 1 + 1 = p2 := fun e => d2 e.symm
  clear HX HY HF
  obtain ⟨f0, f1, -⟩ := HS.out _ X.out.2
  go_region_held3 (fun w' => w'.cell? ⟨a, 0, none⟩ = some (.pointer (some ⟨p1, 0, none⟩)) ∧ w'.cell? ⟨a + 1, 0, none⟩ = some (.pointer (some ⟨p2, 0, none⟩))) (go_keep) (fail)
  have X2 := Lib.hid (And.intro X.out.1.drew X.out.2.drew)
  clear X f0 f1
  obtain ⟨w2, hw2⟩ : ∃ u, u = w1.drew := ⟨_, rfl⟩
  rw [← hw2] at X2 ⊢
  clear hw2
  obtain ⟨f0, f1, k1, k2, -⟩ := HS.out _ X2.out.2
  have x0 := k1.c0
  have x1' := k1.c1
  have y0 := k2.c0
  have y1' := k2.c1
  clear k1 k2
  go_wp2_with fail
  go_region_held3 (fun w' => w'.cell? ⟨a, 0, none⟩ = some (.pointer (some ⟨p1, 0, none⟩)) ∧ w'.cell? ⟨a + 1, 0, none⟩ = some (.pointer (some ⟨p2, 0, none⟩)) ∧ w'.cell? ⟨p1, 0, none⟩ = some (.int .i64 x1) ∧ w'.cell? ⟨p1, 1, none⟩ = some (.int .i64 x2) ∧ w'.cell? ⟨p2, 0, none⟩ = some (.int .i64 y1) ∧ w'.cell? ⟨p2, 1, none⟩ = some (.int .i64 y2)) (go_keep)
    (first | (go_at_call 39; ((with_reducible refine (mLess mo c m (y1, y2) (x1, x2) _ X2.out.1.drew.mt HN.out.2.1 (by have := HN.out; omega)).mono ?_); rintro e w3 ⟨rfl, hm3, hb3⟩; rw [HV.out]; have X3 := Lib.hid (And.intro (X2.out.1.drew.turn hm3 hb3 node_ne) (X2.out.2.drew.trans hb3)); obtain ⟨g0, g1, k1, k2, -⟩ := HS.out _ X3.out.2; have u0 := k1.c0; have u1 := k1.c1; have v0 := k2.c0; have v1 := k2.c1; clear hm3 hb3 k1 k2)))
  clear X2 f0 f1 x0 x1' y0 y1' u0 u1 v0 v1
  go_wp2_with fail
  have X4 := X3
  clear X3
  obtain ⟨-, -, k1, k2, -⟩ := HS.out _ X4.out.2
  have v0 := k1.c0
  have v1 := k1.c1
  have v2 := k1.c2
  have v3 := k1.c3
  have v4 := k1.c4
  have l4 := k2.c4
  have ws : IntKind.i64.wrap ((nx : Int) + (ny : Int)) = (nx : Int) + (ny : Int) := by have := HN.out.1; rw [IntKind.wrap_i64]; omega
  clear k1 k2
  go_wp2_with fail
  go_region_held3 (fun w' => w'.cell? ⟨p1, 0, none⟩ = some (.int .i64 x1) ∧ w'.cell? ⟨p1, 1, none⟩ = some (.int .i64 x2) ∧ w'.cell? ⟨p1, 2, none⟩ = some (.pointer sx.q) ∧ w'.cell? ⟨p1, 3, none⟩ = some (.int .i64 sx.n) ∧ w'.cell? ⟨p1, 4, none⟩ = some (.int .i64 (nx : Int)) ∧ w'.cell? ⟨p2, 4, none⟩ = some (.int .i64 (ny : Int))) (go_keep)
    (first | (go_at_call 40; ((with_reducible refine (Hp.insert_any mo (c + 1) m ox ⟨.node (y1, y2) (heaps oy), p2⟩ sx _ (HQ.out _ X4.out.2.drew).2.key (by have := (HQ.out _ X4.out.2.drew).1.qs; have := HN.out.1; omega) X4.out.1.drew.mt (by have := HN.out; omega) (by have := HN.out; omega) HN.out.2.2.2.1 (by have := HN.out; omega) (HQ.out _ X4.out.2.drew).1.q).mono ?_); rintro e w5 ⟨q5, rfl, ht5, hm5, hb5⟩; have X5 := Lib.hid (And.intro (X4.out.1.drew.turn hm5 hb5 node_ne) (X4.out.2.drew.trans hb5)); have T5 := Lib.hid (show Hp.LAt w5 o5 q5 from HR.out.2.2.symm ▸ ht5); obtain ⟨-, -, k1, k2, -⟩ := HS.out _ X5.out.2; have i0 := k1.c0; have i1 := k1.c1; have i2 := k1.c2; have i3 := k1.c3; have i4 := k1.c4; have j4 := k2.c4; clear ht5 hm5 hb5 k1 k2)) | (go_at_call 38; ((with_reducible refine (build_any mo _ _ x1 x2 o5 q5 ((nx : Int) + (ny : Int)) _ (by rw [HR.out.2.1]; omega) X5.out.1.mt (by have := HI.out; have := HN.out; omega) (by have := HI.out; have := HN.out; omega) T5.out (HR.out.2.2.symm ▸ insert_lies (HQ.out _ X5.out.2).1.all (HQ.out _ X5.out.2).2.lies) HR.out.1 (by rw [HR.out.2.1]; have := HN.out.1; omega)).mono ?_); rintro e w6 ⟨p6, rfl, ht6, hm6, hb6⟩; have X6 := Lib.hid (And.intro (X5.out.1.turn hm6 hb6 node_ne) (X5.out.2.trans hb6)); have T6 := Lib.hid ht6; obtain ⟨-, -, k1, k2, R6⟩ := HS.out _ X6.out.2; have m0 := k1.c0; have m1 := k1.c1; have m2 := k1.c2; have m3 := k1.c3; have m4 := k1.c4; have n4 := k2.c4; have r6 := R6.c0; have z6 := R6.z0; have RR := Lib.hid R6; clear ht6 hm6 hb6 k1 k2 R6)))
  go_wp2_with fail
  have hk := X6.out.1.put RR.out heapT_ne (by decide) (by rw [← HA.out]; omega) 0 (.pointer p6)
  have s0 := (RR.out.put p6).c0
  exact bodyPost_ret (v := hp p6) (by simp [results, Tryz.results19, go_sem, s0]) rfl ⟨p6, rfl, T6.out.wrote RR.out heapT_ne 0 _, by have := HI.out; simpa [HI.out.1, HI.out.2.1, Int.add_assoc, Int.add_comm, Int.add_left_comm] using hk.mt, hk.bt⟩

theorem meld_any (mo : Option Nat) (ta tb : Lh) (c m : Int) (p pd : Option Addr) (w : World) (hs : ta.size + tb.size < 134217728) (hm : MAt w mo c m) (h0 : 0 ≤ c) (h1 : c < 144115188075855872) (h2 : 0 ≤ m) (h3 : m < 144115188075855872)
    (ha : LAt w ta p) (hb : LAt w tb pd) : Calls Tryz.prog 19 #[hp p, mAddr mo, hp pd] w (Gave mo (c + meldC ta tb) (m + meldM ta tb) (meld ta tb) w) := by
  cases ta with
  | nil =>
    obtain rfl := ha.no
    have := meld_left mo tb c m pd w hm hb
    simpa [meldC, meldM, meld_nil] using this
  | node x qx =>
    obtain ⟨x1, x2⟩ := x
    obtain ⟨ox, p1, sx, nx, rfl, rfl, hx⟩ := Nod.of ha
    cases tb with
    | nil =>
      obtain rfl := hb.no
      have := meld_rightM mo _ c m p1 w hm ha
      rw [meld_right]
      simpa [meldC, meldM] using this
    | node y qy =>
      obtain ⟨y1, y2⟩ := y
      obtain ⟨oy, p2, sy, ny, rfl, rfl, hy⟩ := Nod.of hb
      rw [← hx.size, ← hy.size] at hs
      cases hv : ltE (y1, y2) (x1, x2) with
      | true => exact meld_lt_any mo c m x1 x2 y1 y2 ox oy p1 p2 sx sy nx ny w hs hm h0 h1 h2 h3 hx hy hv
      | false => exact meld_ge_any mo c m x1 x2 y1 y2 ox oy p1 p2 sx sy nx ny w hs hm h0 h1 h2 h3 hx hy hv

/-- The variables of Insert: a heap, an element, what it hands back. -/
structure Fi (W : World) (a : Nat) (p : Option Addr) (x : Int × Int) : Prop where
  h : HVar W a p
  e : EVar W (a + 1) x
  r : HVar W (a + 2) none
theorem Fi.new (w : World) (p : Option Addr) (x1 x2 : Int) : Fi (((w.alloc (.cells #[.pointer p] 29)).alloc (.cells #[.int .i64 x1, .int .i64 x2] 32)).alloc (.cells #[.pointer none] 29)) w.heap.size p (x1, x2) := by
  refine ⟨?_, ?_, ?_⟩
  · show _ = _
    rw [alloc_old _ (by simp only [World.size_alloc]; omega), alloc_old _ (by simp only [World.size_alloc]; omega)]; exact new_at rfl
  · show _ = _
    rw [alloc_old _ (by simp only [World.size_alloc]; omega)]; exact new_at (by simp)
  · exact new_at (by simp)

set_option maxRecDepth 100000 in
set_option maxHeartbeats 8000000 in
theorem insert_any (mo : Option Nat) (c m : Int) (h : Lh) (x : Int × Int) (p : Option Addr) (w : World) (hs : h.size < 134217727) (hm : MAt w mo c m) (h0 : 0 ≤ c) (h1 : c < 144115188075855871) (h2 : 0 ≤ m) (h3 : m < 144115188075855871)
    (hh : LAt w h p) : Calls Tryz.prog 17 #[hp p, mAddr mo, el x] w (Gave mo (c + h.insC x) (m + h.insM x) (h.insert x) w) := by
  obtain ⟨x1, x2⟩ := x
  obtain ⟨w1, hw1⟩ : ∃ u, u = ((w.alloc (.cells #[.pointer p] 29)).alloc (.cells #[.int .i64 x1, .int .i64 x2] 32)).alloc (.cells #[.pointer none] 29) := ⟨_, rfl⟩
  have hb1 : Below w.heap.size w w1 := by rw [hw1]; exact new3 w _ _ _
  have F1 : Fi w1 w.heap.size p (x1, x2) := by rw [hw1]; exact Fi.new w p x1 x2
  have HF := Lib.hid F1
  have X := Lib.hid (And.intro ((Trk.refl (N := NodeT) hm).stay hb1) (Bt.refl mo w1))
  have HH := Lib.hid (hh.stay hb1)
  have HN := Lib.hid (And.intro hs (And.intro h0 (And.intro h1 (And.intro h2 h3))))
  obtain ⟨iC, hiC⟩ : ∃ k, k = meldC (.one (x1, x2)) h := ⟨_, rfl⟩
  obtain ⟨iM, hiM⟩ : ∃ k, k = meldM (.one (x1, x2)) h := ⟨_, rfl⟩
  have HI := Lib.hid (show h.insC (x1, x2) = iC ∧ h.insM (x1, x2) = iM + 1 from ⟨hiC.symm, by rw [hiM]; rfl⟩)
  have HB := Lib.hid (fun W (k : MAt W mo c m) => show Calls Tryz.prog 38 #[mAddr mo, .agg #[.int .i64 x1, .int .i64 x2, .pointer none, .int .i64 0, .int .i64 1]] W (Gave mo c (m + 1) (.one (x1, x2)) W) from
    build_any mo c m x1 x2 .nil ⟨none, 0⟩ 1 W (show (1 : Int) = ((Lh.one (x1, x2)).size : Nat) by rw [one_size]; rfl) k h2 (by omega) (Hp.LAt.nil _) (fun b hb => absurd (show b ∈ ([] : List Thing) from hb) (by simp)) (one_ok (x1, x2)) (show (Lh.one (x1, x2)).size ≤ 268435456 by rw [one_size]; omega))
  have HM := Lib.hid (fun pa W (k1 : MAt W mo c (m + 1)) (k2 : LAt W (.one (x1, x2)) pa) (k3 : LAt W h p) => hiM ▸ hiC ▸ meld_any mo (.one (x1, x2)) h c (m + 1) pa p W (by rw [one_size]; omega) k1 h0 (by omega) (by omega) (by omega) k2 k3)
  have HW := Lib.hid hw1
  clear hs h0 h1 h2 h3 F1 hb1 hm hw1 hh hiC hiM
  go_enter Tryz.func17, Tryz.ntmps17
  go_wp2_with fail
  rw [← HW.out]
  obtain ⟨a, ha⟩ : ∃ a, a = w.heap.size := ⟨_, rfl⟩
  rw [← ha] at HF ⊢
  have HA := Lib.hid ha
  clear ha HW
  have HS := Lib.hid (fun W (hz : Bt mo w1 W) => (show W.cell? ⟨a, 0, none⟩ = some (.pointer p) ∧ W.cell? ⟨a + 1, 0, none⟩ = some (.int .i64 x1) ∧ W.cell? ⟨a + 1, 1, none⟩ = some (.int .i64 x2) ∧ HVar W (a + 2) none ∧ LAt W h p from
    ⟨(HF.out.h.bt hz X.out.1.mt).c0, (HF.out.e.bt hz X.out.1.mt).c0, (HF.out.e.bt hz X.out.1.mt).c1, HF.out.r.bt hz X.out.1.mt, HH.out.bt hz X.out.1.mt⟩))
  have d1 : ¬ a = a + 1 + 1 := by omega
  have d2 : ¬ a + 1 + 1 = a := by omega
  have d3 : ¬ a + 1 = a + 1 + 1 := by omega
  have d4 : ¬ a + 1 + 1 = a + 1 := by omega
  clear HF HH
  obtain ⟨f0, f1, f2, -⟩ := HS.out _ X.out.2
  go_region_held3 (fun w' => w'.cell? ⟨a, 0, none⟩ = some (.pointer p) ∧ w'.cell? ⟨a + 1, 0, none⟩ = some (.int .i64 x1) ∧ w'.cell? ⟨a + 1, 1, none⟩ = some (.int .i64 x2)) (go_keep)
    (first | (go_at_call 38; ((with_reducible refine (HB.out _ X.out.1.drew.mt).mono ?_); rintro e w2 ⟨p2, rfl, ht2, hm2, hb2⟩; have X2 := Lib.hid (And.intro (X.out.1.drew.turn hm2 hb2 node_ne) (X.out.2.drew.trans hb2)); have T2 := Lib.hid (show LAt w2 (.one (x1, x2)) p2 from ht2); obtain ⟨i0, i1, i2, -⟩ := HS.out _ X2.out.2; clear ht2 hm2 hb2)) | (go_at_call 19; ((with_reducible refine (HM.out p2 _ X2.out.1.mt T2.out (HS.out _ X2.out.2).2.2.2.2).mono ?_); rintro e w3 ⟨p3, rfl, ht3, hm3, hb3⟩; have X3 := Lib.hid (And.intro (X2.out.1.turn hm3 hb3 node_ne) (X2.out.2.trans hb3)); have T3 := Lib.hid ht3; obtain ⟨j0, j1, j2, R3, -⟩ := HS.out _ X3.out.2; have r6 := R3.c0; have z6 := R3.z0; have RR := Lib.hid R3; clear ht3 hm3 hb3 R3)))
  go_wp2_with fail
  have hk := X3.out.1.put RR.out heapT_ne (by decide) (by rw [← HA.out]; omega) 0 (.pointer p3)
  have s0 := (RR.out.put p3).c0
  exact bodyPost_ret (v := hp p3) (by simp [results, Tryz.results17, go_sem, s0]) rfl ⟨p3, rfl, T3.out.wrote RR.out heapT_ne 0 _, by rw [HI.out.1, HI.out.2]; simpa [Int.add_assoc, Int.add_comm, Int.add_left_comm] using hk.mt, hk.bt⟩

theorem size_in : ∀ {l : List Lh} {b : Lh}, b ∈ l → b.size ≤ sizes l
  | [], _, h => by cases h
  | d :: l, b, h => by
    rw [sizes_cons]
    rcases List.mem_cons.1 h with rfl | h
    · omega
    · have := size_in h; omega
/-- The least heap of a queue. -/
theorem Nod.least {W : World} {x : Int × Int} {o : Qh} {b : Nat} {s : Hp.HP} {n : Nat} (h : Nod W x o b s n) (hs : n ≤ 268435456) (hne : o.ts ≠ []) : ∃ (f : Int × Int) (fo : Qh) (fs : Hp.HP) (fn : Nat), o.min.1.h = .node f (heaps fo) ∧ Nod W f fo o.min.1.a fs fn ∧ fn + 1 ≤ n := by
  have hl := (pop_lies h.all hne).1
  have hmem : o.min.1 ∈ o.all := (Gn.spop_all hne).symm.subset (List.mem_cons_self ..)
  have hin : o.min.1.h ∈ Gn.bAll (heaps o) := by rw [heaps_all]; exact List.mem_map_of_mem hmem
  have hok := h.ok
  cases hok with | node hq hb hn => ?_
  have hsm := size_in hin
  have hsz := node_size x (heaps o)
  rw [← h.size] at hsz
  have e := some_node (hn _ hin).1
  rw [e] at hl hsm
  obtain ⟨fo, fb, fs, fn, hq2, ha, hN⟩ := Nod.of (W := W) (x := o.min.1.h.key) (q := o.min.1.h.queue) ⟨hl, e ▸ hb _ hin, by omega⟩
  refine ⟨o.min.1.h.key, fo, fs, fn, by rw [← hq2]; exact e, ?_, by have := hN.size; rw [← hq2] at this; omega⟩
  cases ha
  exact hN
theorem pop_nodeQ {x f : Int × Int} {o fo : Qh} (hne : o.ts ≠ []) (hf : o.min.1.h = .node f (heaps fo)) : (Lh.node x (heaps o)).pop = .node f (heaps (Go.Proofs.YtlmokendajgbdaaGreatDoor.meld fo o.pop)) ∧ (Lh.node x (heaps o)).popC = o.tellN + (o.popC + o.tellN) + Go.Proofs.YtlmokendajgbdaaGreatDoor.meldN fo o.pop ∧ (Lh.node x (heaps o)).popM = o.popM + Go.Proofs.YtlmokendajgbdaaGreatDoor.meldN fo o.pop + 1 := by
  have hl := heaps_least hne
  rw [hf] at hl
  obtain ⟨p1, p2, p3⟩ := heaps_pop o
  obtain ⟨m1, m2⟩ := heaps_meld fo o.pop
  have hlen := heaps_len o
  obtain ⟨ts⟩ := o
  cases ts with
  | nil => exact (hne rfl).elim
  | cons t r =>
    refine ⟨?_, ?_, ?_⟩
    · show Lh.node (least (heaps ⟨t :: r⟩)).key (Gn.smeld (least (heaps ⟨t :: r⟩)).queue (Gn.sPop (heaps ⟨t :: r⟩))) = _
      rw [hl, m1, p1]; rfl
    · show (r.map (Gn.Tre.map Thing.h)).length + (Gn.sPopN (heaps ⟨t :: r⟩) + (r.map (Gn.Tre.map Thing.h)).length) + Gn.smeldN (least (heaps ⟨t :: r⟩)).queue (Gn.sPop (heaps ⟨t :: r⟩)) = _
      rw [hl, m2, p2, p1, List.length_map]; rfl
    · show Gn.sPopM (heaps ⟨t :: r⟩) + Gn.smeldN (least (heaps ⟨t :: r⟩)).queue (Gn.sPop (heaps ⟨t :: r⟩)) + 1 = _
      rw [hl, m2, p3, p1]; rfl

/-- What Pop hands back. -/
def Popped (mo : Option Nat) (c m : Int) (t : Lh) (is : Bool) (w : World) (e : Ending) (w' : World) : Prop := ∃ p, e = .returned (.tuple #[hp p, .bool is]) ∧ LAt w' t p ∧ MAt w' mo c m ∧ Bt mo w w'
theorem new2 (w : World) (o1 o2 : Obj) : Below w.heap.size w ((w.alloc o1).alloc o2) := ((Below.refl _ _).alloc (Nat.le_refl _) _).alloc (by simp) _
/-- The variables of Pop: a heap, what is handed back. -/
structure Fp (W : World) (a : Nat) (p : Option Addr) : Prop where
  h : HVar W a p
  r : HVar W (a + 1) none
theorem Fp.new (w : World) (p : Option Addr) : Fp ((w.alloc (.cells #[.pointer p] 29)).alloc (.cells #[.pointer none] 29)) w.heap.size p := by
  refine ⟨?_, new_at (by simp)⟩
  show _ = _
  rw [alloc_old _ (by simp only [World.size_alloc]; omega)]; exact new_at rfl
/-- A variable that holds a queue. -/
def SVar (W : World) (b : Nat) (q : Hp.HP) : Prop := W.heap[b]? = some (.cells #[.pointer q.q, .int .i64 q.n] 85 (0, 0))
section
variable {W W' : World} {b : Nat} {q : Hp.HP} {mo : Option Nat} {c m : Int}
theorem SVar.bt (h : SVar W b q) (hb : Bt mo W W') (hm : MAt W mo c m) : SVar W' b q := hb.row hm h (by decide)
theorem SVar.c0 (h : SVar W b q) : W.cell? ⟨b, 0, none⟩ = some (.pointer q.q) := by unfold SVar at h; simp [World.cell?, h]
theorem SVar.c1 (h : SVar W b q) : W.cell? ⟨b, 1, none⟩ = some (.int .i64 q.n) := by unfold SVar at h; simp [World.cell?, h]
end

set_option maxHeartbeats 1000000 in
theorem pop_nil (mo : Option Nat) (c m : Int) (w : World) (hm : MAt w mo c m) : Calls Tryz.prog 21 #[hp none, mAddr mo] w (Popped mo c m .nil false w) := by
  have hbe := new2 w (.cells #[.pointer none] 29) (.cells #[.pointer none] 29)
  have F := Fp.new w none
  have c0 := F.h.c0
  have r0 := F.r.c0
  have z0 := F.r.z0
  have X := Lib.hid (And.intro (hm.stay hbe) hbe)
  clear F hm hbe
  go_enter Tryz.func21, Tryz.ntmps21
  go_wp2_with fail
  exact bodyPost_ret (v := .tuple #[hp none, .bool false]) (by simp [results, Tryz.results21, go_sem]) rfl ⟨_, rfl, LAt.none _, X.out.1, Bt.ofBelow X.out.2⟩

set_option maxRecDepth 100000 in
set_option maxHeartbeats 8000000 in
theorem pop_one (mo : Option Nat) (c m : Int) (x1 x2 : Int) (b : Nat) (s : Hp.HP) (n : Nat) (w : World) (hm : MAt w mo c m) (h0 : 0 ≤ c) (h1 : c < 72057594037927936) (hx : Nod w (x1, x2) ⟨[]⟩ b s n) :
    Calls Tryz.prog 21 #[hp (some ⟨b, 0, none⟩), mAddr mo] w (Popped mo c m .nil true w) := by
  have hb1 := new2 w (.cells #[.pointer (some ⟨b, 0, none⟩)] 29) (.cells #[.pointer none] 29)
  have F := Fp.new w (some ⟨b, 0, none⟩)
  have HF := Lib.hid F
  have X := Lib.hid ((Trk.refl (N := NodeT) hm).stay hb1)
  have HX := Lib.hid (hx.stay hb1)
  have k := HX.out.four
  have f0 := F.h.c0
  have g2 := k.c2
  have g3 := k.c3
  have HN := Lib.hid (And.intro h0 h1)
  clear F k hm h0 h1 hx hb1
  go_enter Tryz.func21, Tryz.ntmps21
  go_wp2_with fail
  generalize (w.alloc (.cells #[.pointer (some ⟨b, 0, none⟩)] 29)).alloc (.cells #[.pointer none] 29) = w1 at *
  obtain ⟨a, ha⟩ : ∃ a, a = w.heap.size := ⟨_, rfl⟩
  rw [← ha] at HF f0 ⊢
  have HA := Lib.hid ha
  clear ha
  ((with_reducible refine (Hp.min_any mo c m ⟨[]⟩ s w1 X.out.mt HN.out.1 (by have := HN.out; omega) HX.out.q).mono ?_); rintro e w2 ⟨rfl, hm2, hb2⟩)
  rw [show Hp.minV ⟨[]⟩ = .tuple #[.pointer none, .bool false] from rfl]
  have R2 := Lib.hid (HF.out.r.bt hb2 X.out.mt)
  have X2 := Lib.hid (X.out.turn hm2 hb2 node_ne)
  have r6 := R2.out.c0
  have z6 := R2.out.z0
  clear f0 g2 g3 hm2 hb2
  go_wp2_with fail
  have hk := X2.out.put R2.out heapT_ne (by decide) (by rw [← HA.out]; omega) 0 (.pointer none)
  have s0 := (R2.out.put none).c0
  exact bodyPost_ret (v := .tuple #[hp none, .bool true]) (by simp [results, Tryz.results21, go_sem, s0]) rfl ⟨none, rfl, LAt.none _, by simpa [Lh.tellN] using hk.mt, hk.bt⟩

set_option maxRecDepth 100000 in
set_option maxHeartbeats 8000000 in
theorem pop_more (mo : Option Nat) (c m : Int) (x1 x2 f1 f2 : Int) (o fo : Qh) (b fa : Nat) (s fs : Hp.HP) (n fn : Nat) (w : World) (hs : n < 134217728) (hfn : fn + 1 ≤ n) (hm : MAt w mo c m) (h0 : 0 ≤ c) (h1 : c < 72057594037927936) (h2 : 0 ≤ m) (h3 : m < 72057594037927936)
    (hx : Nod w (x1, x2) o b s n) (hne : o.ts ≠ []) (hmin : Hp.minV o = .tuple #[.pointer (some ⟨fa, 0, none⟩), .bool true]) (hf : o.min.1.h = .node (f1, f2) (heaps fo)) (hF : Nod w (f1, f2) fo fa fs fn) (hlies : ∀ e ∈ o.pop.all, LAt0 w e.h (some ⟨e.a, 0, none⟩)) :
    Calls Tryz.prog 21 #[hp (some ⟨b, 0, none⟩), mAddr mo] w (Popped mo (c + (Lh.node (x1, x2) (heaps o)).popC) (m + (Lh.node (x1, x2) (heaps o)).popM) (Lh.node (x1, x2) (heaps o)).pop true w) := by
  have hb1 := new2 w (.cells #[.pointer (some ⟨b, 0, none⟩)] 29) (.cells #[.pointer none] 29)
  have F := Fp.new w (some ⟨b, 0, none⟩)
  have HF := Lib.hid F
  have X := Lib.hid ((Trk.refl (N := NodeT) hm).stay hb1)
  have HX := Lib.hid (hx.stay hb1)
  have HG := Lib.hid (And.intro (hF.stay hb1) (fun e he => (hlies e he).stay hb1))
  have k := HX.out.four
  have f0 := F.h.c0
  have g2 := k.c2
  have g3 := k.c3
  obtain ⟨t, ht⟩ : ∃ k, k = o.tellN := ⟨_, rfl⟩
  obtain ⟨pC, hpC⟩ : ∃ k, k = o.popC + o.tellN := ⟨_, rfl⟩
  obtain ⟨pM, hpM⟩ : ∃ k, k = o.popM := ⟨_, rfl⟩
  obtain ⟨mN, hmN⟩ : ∃ k, k = Go.Proofs.YtlmokendajgbdaaGreatDoor.meldN fo o.pop := ⟨_, rfl⟩
  obtain ⟨is, his⟩ : ∃ k, k = o.some := ⟨_, rfl⟩
  obtain ⟨e1, e2, e3⟩ := pop_nodeQ (x := (x1, x2)) hne hf
  have hq := hx.qs
  have hqf := hF.qs
  have hps := Go.Proofs.YtlmokendajgbdaaGreatDoor.pop_size o
  have hpc := Go.Proofs.YtlmokendajgbdaaGreatDoor.pop_counts o
  have hts := Go.Proofs.YtlmokendajgbdaaGreatDoor.tellN_size o
  have hms := Go.Proofs.YtlmokendajgbdaaGreatDoor.meldN_size fo o.pop
  have HI := Lib.hid (show t = o.tellN ∧ pC = o.popC + o.tellN ∧ pM = o.popM ∧ mN = Go.Proofs.YtlmokendajgbdaaGreatDoor.meldN fo o.pop ∧ is = o.some ∧ t < 134217728 ∧ pC < 536870912 ∧ pM < 536870912 ∧ mN < 536870912 ∧ o.size < 134217728 ∧ fo.size + o.pop.size < 268435456 from ⟨ht, hpC, hpM, hmN, his, by omega, by omega, by omega, by omega, by omega, by omega⟩)
  have hok := pop_ok hx.ok
  have hsz := Bo.pop_size hx.ok
  rw [← hx.size] at hsz
  rw [e1] at hok hsz
  rw [e1, e2, e3, ← ht, ← hpM, ← hmN, show o.popC + t = pC from by rw [hpC, ht]]
  have HR := Lib.hid (And.intro hok (And.intro hsz hmin))
  have HN := Lib.hid (And.intro hs (And.intro h0 (And.intro h1 (And.intro h2 h3))))
  clear F k hm hs h0 h1 h2 h3 hx hb1 hF hlies e1 e2 e3 ht hpC hpM hmN his hq hqf hps hpc hts hms hok hsz hmin hf hne hfn
  go_enter Tryz.func21, Tryz.ntmps21
  go_wp2_with fail
  generalize (w.alloc (.cells #[.pointer (some ⟨b, 0, none⟩)] 29)).alloc (.cells #[.pointer none] 29) = w1 at *
  obtain ⟨a, ha⟩ : ∃ a, a = w.heap.size := ⟨_, rfl⟩
  rw [← ha] at HF f0 ⊢
  have HA := Lib.hid ha
  clear ha
  have HS := Lib.hid (fun W (hz : Bt mo w1 W) => (show W.cell? ⟨a, 0, none⟩ = some (.pointer (some ⟨b, 0, none⟩)) ∧ Nod W (x1, x2) o b s n ∧ Nod W (f1, f2) fo fa fs fn ∧ HVar W (a + 1) none ∧ ∀ e ∈ o.pop.all, LAt0 W e.h (some ⟨e.a, 0, none⟩) from
    ⟨(HF.out.h.bt hz X.out.mt).c0, HX.out.bt hz X.out.mt, HG.out.1.bt hz X.out.mt, HF.out.r.bt hz X.out.mt, fun e he => (HG.out.2 e he).kps (hz.kpt X.out.mt node_ne) hz.size⟩))
  have d1 : ¬ a = a + 1 := by omega
  have d2 : ¬ a + 1 = a := by omega
  have d3 : ¬ b = a + 1 := ty_ne HX.out.blk HF.out.r (by decide)
  have d4 : ¬ a + 1 = b := fun e => d3 e.symm
  have d5 : ¬ fa = a + 1 := ty_ne HG.out.1.blk HF.out.r (by decide)
  have d6 : ¬ a + 1 = fa := fun e => d5 e.symm
  have HAL := Lib.hid (show a + 1 < w1.heap.size from lt_of_heap HF.out.r)
  clear HF HG
  ((with_reducible refine (Hp.min_any mo c m o s w1 X.out.mt HN.out.2.1 (by have := HN.out; omega) HX.out.q).mono ?_); rintro e w2 ⟨rfl, hm2, hb2⟩)
  rw [HR.out.2.2]
  have X2 := Lib.hid (And.intro (X.out.turn (HI.out.1.symm ▸ hm2) hb2 node_ne) hb2)
  clear f0 g2 g3 hm2 hb2 HX X
  obtain ⟨f0, k1, -⟩ := HS.out _ X2.out.2
  have g2 := k1.four.c2
  have g3 := k1.four.c3
  clear k1
  go_wp2_with fail
  ((with_reducible refine (Hp.pop_any mo (c + t) m o s w2 HI.out.2.2.2.2.2.2.2.2.2.1 X2.out.1.mt (by have := HN.out; omega) (by have := HN.out; have := HI.out; omega) HN.out.2.2.2.1 (by have := HN.out; omega) (HS.out _ X2.out.2).2.1.q).mono ?_); rintro e w3 ⟨p3, rfl, ht3, hm3, hb3⟩)
  rw [← HI.out.2.2.2.2.1]
  have X3 := Lib.hid (And.intro (X2.out.1.turn (HI.out.2.1.symm ▸ HI.out.2.2.1.symm ▸ hm3) hb3 node_ne) (X2.out.2.trans hb3))
  have T3 := Lib.hid ht3
  clear f0 g2 g3 ht3 hm3 hb3 X2
  go_wp2_with fail
  have hal : Below w3.heap.size w3 (w3.alloc (.cells #[.pointer p3.q, .int .i64 p3.n] 85)) := (Below.refl _ _).alloc (Nat.le_refl _) _
  have X4 := Lib.hid (And.intro (X3.out.1.stay hal) (X3.out.2.trans (Bt.ofBelow hal)))
  have T4 := Lib.hid (T3.out.stay hal)
  have V4 := Lib.hid (show SVar (w3.alloc (.cells #[.pointer p3.q, .int .i64 p3.n] 85)) w3.heap.size p3 from new_at rfl)
  have HVL := Lib.hid (show a + 1 < w3.heap.size from Nat.lt_of_lt_of_le HAL.out X3.out.2.size)
  clear hal X3 T3
  generalize w3.alloc (.cells #[.pointer p3.q, .int .i64 p3.n] 85) = w4 at *
  obtain ⟨v, hv⟩ : ∃ v, v = w3.heap.size := ⟨_, rfl⟩
  rw [← hv] at V4 HVL ⊢
  clear hv
  have d7 : ¬ v = a + 1 := by have := HVL.out; omega
  have d8 : ¬ a + 1 = v := by have := HVL.out; omega
  obtain ⟨f0, k1, k2, -⟩ := HS.out _ X4.out.2
  have b4 := k1.four.c4
  have g0 := k2.four.c0
  have g1 := k2.four.c1
  have g2 := k2.four.c2
  have g3 := k2.four.c3
  have v0 := V4.out.c0
  have v1 := V4.out.c1
  have ws : IntKind.i64.wrap ((n : Int) - 1) = (n : Int) - 1 := by have := HN.out.1; rw [IntKind.wrap_i64]; omega
  clear k1 k2
  go_region_held3 (fun w' => w'.cell? ⟨a, 0, none⟩ = some (.pointer (some ⟨b, 0, none⟩)) ∧ w'.cell? ⟨b, 4, none⟩ = some (.int .i64 (n : Int)) ∧ w'.cell? ⟨fa, 0, none⟩ = some (.int .i64 f1) ∧ w'.cell? ⟨fa, 1, none⟩ = some (.int .i64 f2) ∧ w'.cell? ⟨fa, 2, none⟩ = some (.pointer fs.q) ∧ w'.cell? ⟨fa, 3, none⟩ = some (.int .i64 fs.n) ∧ w'.cell? ⟨v, 0, none⟩ = some (.pointer p3.q) ∧ w'.cell? ⟨v, 1, none⟩ = some (.int .i64 p3.n)) (go_keep)
    (first | (go_at_call 44; ((with_reducible refine (Hp.meld_any mo fo o.pop (c + t + pC) (m + pM) fs p3 _ HI.out.2.2.2.2.2.2.2.2.2.2 X4.out.1.drew.mt (by have := HN.out; omega) (by have := HN.out; have := HI.out; omega) (by have := HN.out; omega) (by have := HN.out; have := HI.out; omega) (HS.out _ X4.out.2.drew).2.2.1.q (T4.out.stay ((Below.refl _ _).drew))).mono ?_); rintro e w5 ⟨p5, rfl, ht5, hm5, hb5⟩; have X5 := Lib.hid (And.intro (X4.out.1.drew.turn (HI.out.2.2.2.1.symm ▸ hm5) hb5 node_ne) (X4.out.2.drew.trans hb5)); have V5 := Lib.hid ((show SVar w4.drew v p3 from (((Below.refl w4.heap.size w4).drew).block _ (lt_of_heap V4.out)).trans V4.out).bt hb5 X4.out.1.drew.mt); have T5 := Lib.hid ht5; obtain ⟨i0, k1, k2, -⟩ := HS.out _ X5.out.2; have ib4 := k1.four.c4; have ig0 := k2.four.c0; have ig1 := k2.four.c1; have ig2 := k2.four.c2; have ig3 := k2.four.c3; have iv0 := V5.out.c0; have iv1 := V5.out.c1; clear ht5 hm5 hb5 k1 k2)) | (go_at_call 38; ((with_reducible refine (build_any mo _ _ f1 f2 (Go.Proofs.YtlmokendajgbdaaGreatDoor.meld fo o.pop) p5 ((n : Int) - 1) _ (by rw [HR.out.2.1]; have := (HS.out _ X5.out.2).2.1.qs; omega) X5.out.1.mt (by have := HI.out; have := HN.out; omega) (by have := HI.out; have := HN.out; omega) T5.out (meld_lies (HS.out _ X5.out.2).2.2.1.all (HS.out _ X5.out.2).2.2.2.2) HR.out.1 (by rw [HR.out.2.1]; have := HN.out.1; omega)).mono ?_); rintro e w6 ⟨p6, rfl, ht6, hm6, hb6⟩; have X6 := Lib.hid (And.intro (X5.out.1.turn hm6 hb6 node_ne) (X5.out.2.trans hb6)); have V6 := Lib.hid (V5.out.bt hb6 X5.out.1.mt); have T6 := Lib.hid ht6; obtain ⟨j0, k1, k2, R6, -⟩ := HS.out _ X6.out.2; have jb4 := k1.four.c4; have jg0 := k2.four.c0; have jg1 := k2.four.c1; have jg2 := k2.four.c2; have jg3 := k2.four.c3; have jv0 := V6.out.c0; have jv1 := V6.out.c1; have r6 := R6.c0; have z6 := R6.z0; have RR := Lib.hid R6; clear ht6 hm6 hb6 k1 k2 R6)))
  go_wp2_with fail
  have hk := X6.out.1.put RR.out heapT_ne (by decide) (by rw [← HA.out]; omega) 0 (.pointer p6)
  have s0 := (RR.out.put p6).c0
  exact bodyPost_ret (v := .tuple #[hp p6, .bool true]) (by simp [results, Tryz.results21, go_sem, s0]) rfl ⟨p6, rfl, T6.out.wrote RR.out heapT_ne 0 _, by simpa [Int.add_assoc, Int.add_comm, Int.add_left_comm] using hk.mt, hk.bt⟩

theorem pop_any (mo : Option Nat) (c m : Int) (h : Lh) (p : Option Addr) (w : World) (hs : h.size < 134217728) (hm : MAt w mo c m) (h0 : 0 ≤ c) (h1 : c < 72057594037927936) (h2 : 0 ≤ m) (h3 : m < 72057594037927936)
    (hh : LAt w h p) : Calls Tryz.prog 21 #[hp p, mAddr mo] w (Popped mo (c + h.popC) (m + h.popM) h.pop h.some w) := by
  cases h with
  | nil =>
    obtain rfl := hh.no
    have := pop_nil mo c m w hm
    simpa [Lh.popC, Lh.popM, Lh.pop, Lh.some, Lh.min] using this
  | node x q =>
    obtain ⟨x1, x2⟩ := x
    obtain ⟨o, b, s, n, rfl, rfl, hx⟩ := Nod.of hh
    rw [← hx.size] at hs
    by_cases hne : o.ts = []
    · obtain ⟨ts⟩ := o
      change ts = [] at hne
      subst hne
      have := pop_one mo c m x1 x2 b s n w hm h0 h1 hx
      have e1 : (Lh.node (x1, x2) (heaps ⟨[]⟩)).popC = 0 := rfl
      have e2 : (Lh.node (x1, x2) (heaps ⟨[]⟩)).popM = 0 := rfl
      have e3 : (Lh.node (x1, x2) (heaps ⟨[]⟩)).pop = .nil := rfl
      rw [e1, e2, e3, show (Lh.node (x1, x2) (heaps ⟨[]⟩)).some = true from rfl]
      simpa using this
    · obtain ⟨⟨f1, f2⟩, fo, fs, fn, hf, hF, hfn⟩ := hx.least (by omega) hne
      have hl := (pop_lies hx.all hne).2
      refine pop_more mo c m x1 x2 f1 f2 o fo b o.min.1.a s fs n fn w hs hfn hm h0 h1 h2 h3 hx hne ?_ hf hF hl
      obtain ⟨ts⟩ := o
      cases ts with
      | nil => exact (hne rfl).elim
      | cons t r => rfl

end Go.Proofs.YtlmokendajgbdaaGreatDoor.Bo
