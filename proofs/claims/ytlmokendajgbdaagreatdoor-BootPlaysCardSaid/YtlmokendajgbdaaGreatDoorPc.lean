/-
  Contract of the reference's insert (slagheapref11) where the first two trees are of one rank: a heap put in skew, and how many steps there were; nothing that was there has changed. Condition: fewer than 2 to the 28th heaps.
  Contract of the reference's insert (slagheapref11): a heap put into a queue, and how many steps there were; nothing that was there has changed. Condition: fewer than 2 to the 28th heaps.
  Contract of the reference's Meld (slagheapref11): two heaps of heaps melded, and how many steps there were; nothing that was there has changed. Condition: fewer than 2 to the 28th heaps in a queue.
  Contract of the reference's Meld (slagheapref11), of any two heaps of heaps, and how many steps there were; nothing that was there has changed. Condition: fewer than 2 to the 28th heaps in a queue.
  Contract of the reference's Insert (slagheapref11), into any heap of heaps.
  Contracts of the reference's Min (slagheapref11), of any heap, and of its Pop where there is no queue; nothing that was there has changed.
-/
import Derived.Test.YtlmokendajgbdaaGreatDoorPb
namespace Go.Proofs.YtlmokendajgbdaaGreatDoor.Bo.Zr
open Go.Sort Go.RowKit Go.Proofs.YtlmokendajgbdaaGreatDoor.Gn Go.Proofs.YtlmokendajgbdaaGreatDoor.Bo

theorem RT.root4 {F : Nat → Prop} {W : World} {t : Gn.Tre Lh} {Ax Ab Ak : Option Addr} {cx cb ck : Nat} (h : RT F W t Ax cx Ab cb Ak ck) : ∃ (b o : Nat) (y1 y2 : Int) (A : Option Addr) (n c : Nat) (N : Bool), Ax = some ⟨b, o, none⟩ ∧ F b ∧
    (W.cell? ⟨b, o, none⟩ = some (.bool N) ∧ W.cell? ⟨b, o + 1, none⟩ = some (.int .i64 y1) ∧ W.cell? ⟨b, o + 2, none⟩ = some (.int .i64 y2) ∧ W.cell? ⟨b, o + 3, none⟩ = some (.slice A n c)) ∧ RAt F W t.x (y1, y2) A n c N := by
  obtain ⟨cs, h1, h2⟩ := h.x
  obtain ⟨⟨y1, y2⟩, A, n, c, N, cs', rfl, hr, -⟩ := h1.head_h
  obtain ⟨b, o, e, hb, hc⟩ := h2 (by simp)
  exact ⟨b, o, y1, y2, A, n, c, N, e, hb, ⟨hc 0 _ rfl, hc 1 _ rfl, hc 2 _ rfl, hc 3 _ rfl⟩, hr⟩
theorem wp_after {P : Program} {c : Code} {a : Act} {w : World} {Q : Exit → Act → World → Prop} (R : Act → Act → World → Prop) (h1 : c.wp P (fun x a' w' => x = .normal ∧ R a a' w') a w) (h2 : ∀ a' w', R a a' w' → Q .normal a' w') : c.wp P Q a w :=
  Code.wp_mono (fun e a' w' h => by obtain ⟨rfl, hr⟩ := h; exact h2 a' w' hr) h1

set_option maxRecDepth 100000 in
set_option maxHeartbeats 4000000 in
theorem refIns_eq (F : Nat → Prop) (x : Lh) (z1 z2 : Int) (A0 : Option Addr) (k0 c0 : Nat) (N : Bool) (f g : Gn.Tre Lh) (r : List (Gn.Tre Lh)) (hr : f.rank = g.rank) (A : Option Addr) (n c : Nat) (w : World) (hF : ∀ k, w.heap.size ≤ k → F k) (hx : RAt F w x (z1, z2) A0 k0 c0 N) (hs : Gn.bSize (f :: g :: r) < 268435456) (hl : TsAt F w (f :: g :: r) A n c) :
    Calls Tryz.prog 41 #[.agg #[.bool N, .int .i64 z1, .int .i64 z2, .slice A0 k0 c0], .slice A n c] w (GaveLN F (sIns (f :: g :: r) x) (sInsN (f :: g :: r) + sInsM (f :: g :: r)) w) := by
  have hz := bSize_len (f :: g :: r)
  have hnl : n = (f :: g :: r).length := hl.1
  simp only [List.length_cons] at hnl hz
  obtain ⟨b, o, rfl⟩ := ts_some hl (by omega)
  obtain ⟨fx, fb, fk, ax, ab, ak, ⟨p0, p1, p2, p3⟩, hf⟩ := ts_at hl (j := 0) (by simp)
  obtain ⟨gx, gb, gk, bx, bb, bk, ⟨q0, q1, q2, q3⟩, hg⟩ := ts_at hl (j := 1) (by simp)
  simp only [List.getElem_cons_zero, List.getElem_cons_succ, Nat.zero_mul, Nat.add_zero] at p0 p1 p2 p3 q0 q1 q2 q3 hf hg
  have hcap := hl.2.1.le
  have hn3 : n < 268435456 := by have := bSize_len (f :: g :: r); simp only [List.length_cons] at this; omega
  have hfs := f.rank_lt
  have hgs := g.rank_lt
  simp only [Gn.bSize] at hs
  have zn1 : decide ((n : Int) < 2) = false := by simp; omega
  have zn2 : ¬ (n : Int) < 2 := by omega
  have zn3 : (0 : Int) < (n : Int) := by omega
  have zn4 : (1 : Int) < (n : Int) := by omega
  have zn5 : 0 < n := by omega
  have zn6 : 1 < n := by omega
  have zr1 : ((f.rank : Int) == (g.rank : Int)) = true := by simp; omega
  have zr2 : (f.rank : Int) = (g.rank : Int) := by omega
  have zr3 : ((f.rank : Int) != (g.rank : Int)) = false := by simp; omega
  have hb0 := (Below.refl w.heap.size w).alloc (Nat.le_refl _) (.cells #[.bool N, .int .i64 z1, .int .i64 z2, .slice A0 k0 c0] 35)
  have hv : Qd (w.alloc (.cells #[.bool N, .int .i64 z1, .int .i64 z2, .slice A0 k0 c0] 35)) w.heap.size (.bool N) (.int .i64 z1) (.int .i64 z2) (.slice A0 k0 c0) := qd_at (new_at rfl)
  have HP := Lib.hid (And.intro (stay_cell hb0 p0) (And.intro (stay_cell hb0 p1) (And.intro (stay_cell hb0 p2) (And.intro (stay_cell hb0 p3) (And.intro (stay_cell hb0 q0) (And.intro (stay_cell hb0 q1) (And.intro (stay_cell hb0 q2) (stay_cell hb0 q3))))))))
  have p0 := HP.out.1
  have q0 := HP.out.2.2.2.2.1
  have H := Lib.hid (And.intro hF (And.intro hx (And.intro hl (And.intro hb0 (And.intro hf (And.intro hg (And.intro (show f.size + (g.size + Gn.bSize r) < 268435456 from hs) (And.intro hfs (And.intro hgs hr)))))))))
  clear hF hx hl hb0 hs hz hnl hf hg hfs hgs hr p1 p2 p3 q1 q2 q3
  go_enter Tryz.func41, Tryz.ntmps41
  go_wp2_with fail
  generalize w.alloc (.cells #[.bool N, .int .i64 z1, .int .i64 z2, .slice A0 k0 c0] 35) = w1 at *
  have kc0 := fun d os => cell_regrown p0 d os
  have kc1 := fun d os => cell_regrown q0 d os
  rw [world_self w1]
  generalize w1.drawn = d0
  generalize (#[] : Array Obj) = os0
  refine wp_region_class (by kernel_rfl) (by kernel_rfl) ?_
  repeat (go_big_quiet_step (fail))
  refine wpQuiet_nil ?_
  intro _ hw'
  obtain ⟨⟨dq, osq⟩, hw''⟩ := hw'
  subst hw''
  have hbq := below_regrown w1 dq osq
  have hX := hv.keep (hbq.block _ hv.lt)
  clear kc0 kc1 p0 q0
  generalize grow (redrawn w1 dq) osq = wq at *
  have HB := Lib.hid (H.out.2.2.2.1.trans (hbq.mono H.out.2.2.2.1.size))
  have HQ := Lib.hid (And.intro (stay_cell hbq HP.out.1) (And.intro (stay_cell hbq HP.out.2.1) (And.intro (stay_cell hbq HP.out.2.2.1) (And.intro (stay_cell hbq HP.out.2.2.2.1) (And.intro (stay_cell hbq HP.out.2.2.2.2.1) (And.intro (stay_cell hbq HP.out.2.2.2.2.2.1) (And.intro (stay_cell hbq HP.out.2.2.2.2.2.2.1) (stay_cell hbq HP.out.2.2.2.2.2.2.2))))))))
  have HLK := Lib.hid (fun (W : World) (F' : Nat → Prop) (hz : Below wq.heap.size wq W) (hF' : ∀ k, W.heap.size ≤ k → F' k) (hff : Far F F' w W) => refLink_any F' f g fx fb fk gx gb gk ax ab ak bx bb bk W hF' (H.out.2.2.2.2.1.far hff) (H.out.2.2.2.2.2.1.far hff) (by have := H.out.2.2.2.2.2.2; omega) (by have := H.out.2.2.2.2.2.2; omega))
  have HLA := Lib.hid (HLK.out wq.drew F ((Below.refl wq.heap.size wq).drew) (fun k hk => H.out.1 k (Nat.le_trans HB.out.size hk)) ⟨fun k hk _ => HB.out.block k hk, fun k _ h => h⟩)
  have hAl : Below wq.heap.size wq (wq.alloc (.cells #[.int .i64 0, .slice none 0 0, .slice none 0 0, .slice none 0 0] 97)).drew := ((Below.refl wq.heap.size wq).alloc (Nat.le_refl _) _).drew
  have HLB := Lib.hid (HLK.out (wq.alloc (.cells #[.int .i64 0, .slice none 0 0, .slice none 0 0, .slice none 0 0] 97)).drew (fun k => F k ∧ k ≠ wq.heap.size) hAl (fun k hk => by have h1 : (wq.alloc (.cells #[.int .i64 0, .slice none 0 0, .slice none 0 0, .slice none 0 0] 97)).heap.size ≤ k := hk; rw [World.size_alloc] at h1; exact ⟨H.out.1 k (by have := HB.out.size; omega), by omega⟩) ⟨fun k hk _ => (HB.out.trans (hAl.mono HB.out.size)).block k hk, fun k hk h => ⟨h, by have := HB.out.size; omega⟩⟩)
  have HZ := Lib.hid (show (wq.alloc (.cells #[.int .i64 0, .slice none 0 0, .slice none 0 0, .slice none 0 0] 97)).drew.heap[wq.heap.size]? = some (.cells #[.int .i64 0, .slice none 0 0, .slice none 0 0, .slice none 0 0] 97 (0, 0)) from new_at (W := wq) rfl)
  clear HLK hAl
  obtain ⟨r0, r1, r2, r3, r4, r5, r6, r7⟩ := HQ.out
  clear hv hbq
  go_wp2_with fail
  clear zr1 zr2 zr3
  refine wp_after (R := fun a a' w' => ∃ (u34 u35 u36 u37 u38 u39 u40 : Value) (bt : Nat) (Lx Lb Lk : Option Addr) (lx lb lk : Nat), a' = ((((((((a.put (some 34) u34).put (some 35) u35).put (some 36) u36).put (some 37) u37).put (some 38) u38).put (some 39) u39).put (some 40) u40).put (some 7) (.pointer (some ⟨bt, 0, none⟩))) ∧
    Below wq.heap.size wq w' ∧ wq.heap.size ≤ bt ∧ bt < w'.heap.size ∧ Qd w' bt (.int .i64 (lnk f g).rank) (.slice Lx 1 lx) (.slice Lb (lnk f g).bs.length lb) (.slice Lk (lnk f g).rank lk) ∧ RT (fun k => F k ∧ k ≠ bt) w' (lnk f g) Lx lx Lb lb Lk lk) ?_ ?_
  · have nb1 : ¬ b = wq.heap.size := by have h2 : b < wq.heap.size := block_lt_of_cell r0; omega
    have nb2 : ¬ wq.heap.size = b := fun e => nb1 e.symm
    have s0 := r0
    have s1 := r1
    have s2 := r2
    have s3 := r3
    have s4 := r4
    have s5 := r5
    have s6 := r6
    have s7 := r7
    clear r0 r1 r2 r3 r4 r5 r6 r7
    go_region_held3 (fun w' => w'.cell? ⟨b, o, none⟩ = some (.int .i64 f.rank) ∧ w'.cell? ⟨b, o + 1, none⟩ = some (.slice fx 1 ax) ∧ w'.cell? ⟨b, o + 2, none⟩ = some (.slice fb f.bs.length ab) ∧ w'.cell? ⟨b, o + 3, none⟩ = some (.slice fk f.rank ak) ∧ w'.cell? ⟨b, o + 4, none⟩ = some (.int .i64 g.rank) ∧ w'.cell? ⟨b, o + 4 + 1, none⟩ = some (.slice gx 1 bx) ∧ w'.cell? ⟨b, o + 4 + 2, none⟩ = some (.slice gb g.bs.length bb) ∧ w'.cell? ⟨b, o + 4 + 3, none⟩ = some (.slice gk g.rank bk)) (go_keep)
      (first | (go_at_call 68; (first | (((with_reducible refine (HLA.out).mono ?_); rintro e w6 ⟨Lx, Lb, Lk, lx, lb, lk, rfl, hL, hb6⟩; have K6 := Lib.hid (And.intro hL (((Below.refl wq.heap.size wq).drew).trans hb6)); have y0 := stay_cell K6.out.2 HQ.out.1; have y1 := stay_cell K6.out.2 HQ.out.2.1; have y2 := stay_cell K6.out.2 HQ.out.2.2.1; have y3 := stay_cell K6.out.2 HQ.out.2.2.2.1; have y4 := stay_cell K6.out.2 HQ.out.2.2.2.2.1; have y5 := stay_cell K6.out.2 HQ.out.2.2.2.2.2.1; have y6 := stay_cell K6.out.2 HQ.out.2.2.2.2.2.2.1; have y7 := stay_cell K6.out.2 HQ.out.2.2.2.2.2.2.2; clear hL hb6)) | (((with_reducible refine (HLB.out).mono ?_); rintro e w6 ⟨Lx, Lb, Lk, lx, lb, lk, rfl, hL, hb6⟩; have K6 := Lib.hid (And.intro hL ((((Below.refl wq.heap.size wq).alloc (Nat.le_refl _) (.cells #[.int .i64 0, .slice none 0 0, .slice none 0 0, .slice none 0 0] 97)).drew).trans (hb6.mono (by show wq.heap.size ≤ (wq.alloc (.cells #[.int .i64 0, .slice none 0 0, .slice none 0 0, .slice none 0 0] 97)).heap.size; rw [World.size_alloc]; omega)))); have Z6 := Lib.hid ((hb6.block _ (lt_of_heap HZ.out)).trans HZ.out); have t0 := (qd_at Z6.out).c0; have t1 := (qd_at Z6.out).c1; have t2 := (qd_at Z6.out).c2; have t3 := (qd_at Z6.out).c3; have t4 := (qd_at Z6.out).z0; have t5 := (qd_at Z6.out).z1; have t6 := (qd_at Z6.out).z2; have t7 := (qd_at Z6.out).z3; have y0 := stay_cell K6.out.2 HQ.out.1; have y1 := stay_cell K6.out.2 HQ.out.2.1; have y2 := stay_cell K6.out.2 HQ.out.2.2.1; have y3 := stay_cell K6.out.2 HQ.out.2.2.2.1; have y4 := stay_cell K6.out.2 HQ.out.2.2.2.2.1; have y5 := stay_cell K6.out.2 HQ.out.2.2.2.2.2.1; have y6 := stay_cell K6.out.2 HQ.out.2.2.2.2.2.2.1; have y7 := stay_cell K6.out.2 HQ.out.2.2.2.2.2.2.2; clear hL hb6)))) | fail)
    · refine ⟨rfl, _, _, _, _, _, _, _, w6.heap.size, Lx, Lb, Lk, lx, lb, lk, (by (try simp only [Act.put, List.setIfInBounds_toArray, List.set_cons_zero, List.set_cons_succ]); rfl), K6.out.2.alloc K6.out.2.size _, K6.out.2.size, by rw [World.size_alloc]; omega, qd_at (new_at rfl), K6.out.1.far ⟨fun k hk _ => ((Below.refl w6.heap.size w6).alloc (Nat.le_refl _) _).block k hk, fun k hk h => ⟨h, by omega⟩⟩⟩
    · refine ⟨rfl, _, _, _, _, _, _, _, wq.heap.size, Lx, Lb, Lk, lx, lb, lk, (by (try simp only [Act.put, List.setIfInBounds_toArray, List.set_cons_zero, List.set_cons_succ]); rfl), set4_below K6.out.2 (Nat.le_refl _) _ _ _ _, Nat.le_refl _, by simpa [World.setCell] using lt_of_heap Z6.out, set4_qd (qd_at Z6.out) _ _ _ _, K6.out.1.far ⟨fun k hk h => set4_far w6 wq.heap.size _ _ _ _ k h.2, fun k _ h => h⟩⟩
  · rintro a5 w5 ⟨u34, u35, u36, u37, u38, u39, u40, bt, Lx, Lb, Lk, lx, lb, lk, rfl, hB5, hbt1, hbt2, hQ, hT⟩
    try simp only [Act.put, List.setIfInBounds_toArray, List.set_cons_zero, List.set_cons_succ]
    have hW5 : Below w.heap.size w w5 := HB.out.trans (hB5.mono HB.out.size)
    obtain ⟨rl, ol, y1, y2, Ay, ny, cy, My, rfl, hrl, ⟨e0, e1, e2, e3⟩, hy⟩ := hT.root4
    have X5 := hX.keep (hB5.block _ hX.lt)
    obtain ⟨n0, hn0⟩ : ∃ z, z = w.heap.size := ⟨_, rfl⟩
    rw [← hn0] at X5 ⊢
    clear r0 r1 r2 r3 r4 r5 r6 r7 hX
    have x0 := X5.c0
    have x1 := X5.c1
    have x2 := X5.c2
    have x3 := X5.c3
    have hA1 := (Below.refl w5.heap.size w5).alloc (Nat.le_refl _) (.cells #[.bool N, .int .i64 z1, .int .i64 z2, .slice A0 k0 c0] 35)
    have t1 := stay_cell hA1 hQ.c1
    have f0 := stay_cell hA1 e0
    have f1 := stay_cell hA1 e1
    have f2 := stay_cell hA1 e2
    have f3 := stay_cell hA1 e3
    have HW6 := Lib.hid (show Below w5.heap.size w5 ((w5.alloc (.cells #[.bool N, .int .i64 z1, .int .i64 z2, .slice A0 k0 c0] 35)).alloc (.cells #[.bool My, .int .i64 y1, .int .i64 y2, .slice Ay ny cy] 35)) ∧ ((w5.alloc (.cells #[.bool N, .int .i64 z1, .int .i64 z2, .slice A0 k0 c0] 35)).alloc (.cells #[.bool My, .int .i64 y1, .int .i64 y2, .slice Ay ny cy] 35)).heap[w5.heap.size]? = some (.cells #[.bool N, .int .i64 z1, .int .i64 z2, .slice A0 k0 c0] 35 (0, 0)) ∧ ((w5.alloc (.cells #[.bool N, .int .i64 z1, .int .i64 z2, .slice A0 k0 c0] 35)).alloc (.cells #[.bool My, .int .i64 y1, .int .i64 y2, .slice Ay ny cy] 35)).heap[w5.heap.size + 1]? = some (.cells #[.bool My, .int .i64 y1, .int .i64 y2, .slice Ay ny cy] 35 (0, 0)) from ⟨hA1.alloc hA1.size _, alloc_old (new_at rfl) _, new_at (by simp)⟩)
    have K5 := Lib.hid (And.intro hW5 (And.intro hbt1 (And.intro hbt2 (And.intro hQ (And.intro hT (And.intro hrl (And.intro hy (And.intro X5 (And.intro hn0 (And.intro e1 (And.intro e2 (And.intro e0 e3))))))))))))
    clear hW5 hbt1 hbt2 hQ hT hrl hy X5 hn0 e0 e1 e2 e3 hA1 hB5
    go_wp2_with fail
    generalize (w5.alloc (.cells #[.bool N, .int .i64 z1, .int .i64 z2, .slice A0 k0 c0] 35)).alloc (.cells #[.bool My, .int .i64 y1, .int .i64 y2, .slice Ay ny cy] 35) = w6 at *
    clear x0 x1 x2 x3 t1 f0 f1 f2 f3
    have x1 := stay_cell HW6.out.1 K5.out.2.2.2.2.2.2.2.1.c1
    have x2 := stay_cell HW6.out.1 K5.out.2.2.2.2.2.2.2.1.c2
    have t1 := stay_cell HW6.out.1 K5.out.2.2.2.1.c1
    have f1 := stay_cell HW6.out.1 K5.out.2.2.2.2.2.2.2.2.2.1
    have f2 := stay_cell HW6.out.1 K5.out.2.2.2.2.2.2.2.2.2.2.1
    have HS := Lib.hid (And.intro x1 (And.intro x2 (And.intro t1 (And.intro f1 f2))))
    obtain ⟨v, hv⟩ : ∃ v, ltI y1 y2 z1 z2 = v := ⟨_, rfl⟩
    have HV := Lib.hid hv
    clear hv
    go_region_held3 (fun w' => w'.cell? ⟨bt, 1, none⟩ = some (.slice (some ⟨rl, ol, none⟩) 1 lx) ∧ w'.cell? ⟨rl, ol + 1, none⟩ = some (.int .i64 y1) ∧ w'.cell? ⟨rl, ol + 2, none⟩ = some (.int .i64 y2) ∧ w'.cell? ⟨n0, 1, none⟩ = some (.int .i64 z1) ∧ w'.cell? ⟨n0, 2, none⟩ = some (.int .i64 z2)) (go_keep)
      (first | (go_at_call 36; ((with_reducible refine (refLess_below y1 y2 z1 z2 _).mono ?_); rintro e w7 ⟨rfl, hb7⟩; rw [HV.out]; have K7 := Lib.hid (show True ∧ Below w6.heap.size w6 w7 from ⟨trivial, (Below.refl w6.heap.size w6).drew.trans hb7⟩); have s1 := stay_cell K7.out.2 HS.out.1; have s2 := stay_cell K7.out.2 HS.out.2.1; have s3 := stay_cell K7.out.2 HS.out.2.2.1; have s4 := stay_cell K7.out.2 HS.out.2.2.2.1; have s5 := stay_cell K7.out.2 HS.out.2.2.2.2; clear hb7)) | fail)
    have BW : Below w5.heap.size w5 w7 := HW6.out.1.trans (K7.out.2.mono HW6.out.1.size)
    have QR := (qd_at HW6.out.2.1).keep (K7.out.2.block _ (lt_of_heap HW6.out.2.1))
    have QO := (qd_at HW6.out.2.2).keep (K7.out.2.block _ (lt_of_heap HW6.out.2.2))
    have XX := K5.out.2.2.2.2.2.2.2.1.keep (BW.block _ K5.out.2.2.2.2.2.2.2.1.lt)
    have TT := K5.out.2.2.2.1.keep (BW.block _ K5.out.2.2.2.1.lt)
    clear s1 s2 s3 s4 s5 x1 x2 t1 f1 f2 HS
    cases v with
    | false =>
      by_cases hc2 : c = 2
      · subst hc2
        have hn2 : n = 2 := by omega
        subst hn2
        have hF7 : ∀ k, w7.heap.size ≤ k → F k := fun k hk => H.out.1 k (Nat.le_trans K5.out.1.size (Nat.le_trans BW.size hk))
        have fF : Far (fun k => F k ∧ k ≠ bt) F w5 w7 := ⟨fun k hk _ => BW.block k hk, fun k _ h => h.1⟩
        have HY7 := Lib.hid (K5.out.2.2.2.2.2.2.1.far fF)
        have HX7 := Lib.hid (H.out.2.1.stay (K5.out.1.trans (BW.mono K5.out.1.size)))
        obtain ⟨hbn, hbA, kb, hb1, hb2⟩ := K5.out.2.2.2.2.1.b
        have hbl : (lnk f g).bs.length < 1000000000 := by have h1 := Gn.lnk_size f g; have h2 : (lnk f g).bs.length < (lnk f g).size := (by simp only [Gn.Tre.size]; omega); have := H.out.2.2.2.2.2.2.1; omega
        obtain ⟨A8, c8, w8, hrun1, hC8, hn8, hb8⟩ := append_h F w7 hF7 (.bool My) (.int .i64 y1) (.int .i64 y2) (.slice Ay ny cy) Lb (lnk f g).bs.length lb kb (by rw [hb1.length]; rfl) hb1.one (hb2.far fF) hbA.none hbl
        have QR8 := QR.keep (hb8.block _ QR.lt)
        have TT8 := TT.keep (hb8.block _ TT.lt)
        have B8 : Below w5.heap.size w5 w8 := BW.trans (hb8.mono BW.size)
        have b2 := stay_cell ((Below.refl w7.heap.size w7).alloc (Nat.le_refl _) (.cells #[.bool My, .int .i64 y1, .int .i64 y2, .slice Ay ny cy] 35)) TT.c2
        have d0 := TT8.c0
        have d3 := stay_cell ((Below.refl w8.heap.size w8).alloc (Nat.le_refl _) (.cells #[.bool N, .int .i64 z1, .int .i64 z2, .slice A0 k0 c0] 35)) TT8.c3
        have hA9 := (Below.refl w8.heap.size w8).alloc (Nat.le_refl _) (.cells #[.bool N, .int .i64 z1, .int .i64 z2, .slice A0 k0 c0] 35)
        have hrow : (w8.alloc (.cells #[.bool N, .int .i64 z1, .int .i64 z2, .slice A0 k0 c0] 35)).heap[w8.heap.size]? = some (.cells #[.bool N, .int .i64 z1, .int .i64 z2, .slice A0 k0 c0] 35 (0, 0)) := new_at rfl
        have hsz : (w8.alloc (.cells #[.bool N, .int .i64 z1, .int .i64 z2, .slice A0 k0 c0] 35)).heap.size = w8.heap.size + 1 := by simp
        have hrn : r = [] := List.eq_nil_of_length_eq_zero (by have := H.out.2.2.1.1; simp only [Rows.len, List.length_cons] at this; omega)
        have hR2 : TsAt F w r (some ⟨b, o, none⟩) 0 0 := by rw [hrn]; exact ts_zero F w b o
        clear hrn
        have BF : Below w.heap.size w (w8.alloc (.cells #[.bool N, .int .i64 z1, .int .i64 z2, .slice A0 k0 c0] 35)) := K5.out.1.trans ((B8.trans (hA9.mono B8.size)).mono K5.out.1.size)
        have hR3 := hR2.stay BF
        obtain ⟨hkn, hkA, kc, hk1, hk2⟩ := hR3
        obtain ⟨A9, c9, w9, hrun2, hC9, hn9, hb9⟩ := append_t F (w8.alloc (.cells #[.bool N, .int .i64 z1, .int .i64 z2, .slice A0 k0 c0] 35)) (fun k hk => H.out.1 k (Nat.le_trans BF.size hk)) (.int .i64 (lnk f g).rank) (.slice (some ⟨w8.heap.size, 0, none⟩) 1 1) (.slice A8 ((lnk f g).bs.length + 1) c8) (.slice Lk (lnk f g).rank lk) (some ⟨b, o, none⟩) 0 0 kc (by rw [hk1.length, ← hkn]) hk1.one hk2 hkA.none (by omega)
        have hrow9 := (hb9.block _ (lt_of_heap hrow)).trans hrow
        have P9 := Lib.hid (And.intro hC9 (And.intro hn9 (And.intro hb9 (And.intro hk1 (And.intro hkn (And.intro BF (And.intro hrow9 (And.intro (H.out.1 _ (Nat.le_trans K5.out.1.size B8.size)) (And.intro hA9 B8)))))))))
        have P8 := Lib.hid (And.intro hC8 (And.intro hn8 (And.intro hb8 (And.intro (hb1.far fF) (And.intro hbn BW)))))
        rw [hsz] at hrun2
        clear hF7 fF hbn hbA hb1 hb2 hbl hC8 hn8 hb8 hA9 hrow hsz hR2 BF hkn hkA hk1 hk2 hC9 hn9 hb9 hrow9 B8 BW TT TT8
        go_wp2_with (first
          | (refine wpList_load_h rfl _ rfl _ rfl QO ?_)
          | (refine wpList_load_h rfl _ rfl _ rfl QR8 ?_)
          | (at_builtin; refine wpList_append_run rfl _ _ _ rfl _ _ _ _ rfl rfl hrun1 ?_)
          | (at_builtin; refine wpList_append_run rfl _ _ _ rfl _ _ _ _ rfl rfl hrun2 ?_))
        refine bodyPost_ret (v := .tuple #[.slice A9 (0 + 1) c9, .int .i64 4]) (by simp [results, Tryz.results41, go_sem]) rfl ?_
        have hw89 : Below w8.heap.size w8 w9 := P9.out.2.2.2.2.2.2.2.2.1.trans (P9.out.2.2.1.mono P9.out.2.2.2.2.2.2.2.2.1.size)
        have hB9 : Below w.heap.size w w9 := P9.out.2.2.2.2.2.1.trans (P9.out.2.2.1.mono P9.out.2.2.2.2.2.1.size)
        have f89 := Far.below (F := F) hw89
        have f79 : Far F F w7 w9 := ⟨fun k hk h => (P8.out.2.2.1.trans (hw89.mono P8.out.2.2.1.size)).block k hk, fun k _ h => h⟩
        have f59 : Far (fun k => F k ∧ k ≠ bt) F w5 w9 := ⟨fun k hk _ => (P9.out.2.2.2.2.2.2.2.2.2.trans (hw89.mono P9.out.2.2.2.2.2.2.2.2.2.size)).block k hk, fun k _ h => h.1⟩
        have f99 := Far.below (F := F) P9.out.2.2.1
        have hsk : sIns (f :: g :: r) x = ⟨x, (lnk f g).x :: (lnk f g).bs, (lnk f g).ks⟩ :: r := by
          rw [sIns_eq x H.out.2.2.2.2.2.2.2.2.2, skT, skw_ge (show ltK (lnk f g).x x = false from (by rw [ltK_key, ← RAt.key HY7.out, ← RAt.key HX7.out]; exact HV.out))]
        have hst : sInsN (f :: g :: r) + sInsM (f :: g :: r) = 4 := by show (if f.rank = g.rank then 2 else 0) + (if f.rank = g.rank then 2 else 1) = 4; rw [if_pos H.out.2.2.2.2.2.2.2.2.2, if_pos H.out.2.2.2.2.2.2.2.2.2]
        rw [hsk, hst]
        refine ⟨A9, 0 + 1, c9, rfl, ⟨by have h1 := P9.out.2.2.2.2.1; simp only [Rows.len, List.length_cons] at h1 ⊢; omega, P9.out.2.1, _, RK.cons_t (t := ⟨x, (lnk f g).x :: (lnk f g).bs, (lnk f g).ks⟩) ⟨⟨_, RK.cons_h (HX7.out.far f79) .h0, cat_block P9.out.2.2.2.2.2.2.1 P9.out.2.2.2.2.2.2.2.1⟩, ⟨by simp only [Rows.len, List.length_cons], P8.out.2.1, _, RK.cons_h (HY7.out.far f79) (P8.out.2.2.2.1.far f79), P8.out.1.far f89⟩, K5.out.2.2.2.2.1.k.far f59⟩ (P9.out.2.2.2.1.far f99), P9.out.1⟩, hB9⟩
      · have m0 : ¬ n < 2 := by omega
        have m1 : 2 ≤ n := by omega
        have m2 : (2 : Int) ≤ (n : Int) := by omega
        have m3 : ¬ (n : Int) < 2 := by omega
        have m4 : ¬ 2 = c := by omega
        have m5 : 0 < c := by omega
        have m6 : (n : Int) ≤ (c : Int) := by omega
        have m7 : (2 : Int) ≤ (c : Int) := by omega
        have m8 : ¬ c - 2 = 0 := by omega
        have m9 : ¬ c ≤ 2 := by omega
        have m10 : 2 < c := by omega
        have m12 : 2 ≤ c := by omega
        have hF7 : ∀ k, w7.heap.size ≤ k → F k := fun k hk => H.out.1 k (Nat.le_trans K5.out.1.size (Nat.le_trans BW.size hk))
        have fF : Far (fun k => F k ∧ k ≠ bt) F w5 w7 := ⟨fun k hk _ => BW.block k hk, fun k _ h => h.1⟩
        have HY7 := Lib.hid (K5.out.2.2.2.2.2.2.1.far fF)
        have HX7 := Lib.hid (H.out.2.1.stay (K5.out.1.trans (BW.mono K5.out.1.size)))
        obtain ⟨hbn, hbA, kb, hb1, hb2⟩ := K5.out.2.2.2.2.1.b
        have hbl : (lnk f g).bs.length < 1000000000 := by have h1 := Gn.lnk_size f g; have h2 : (lnk f g).bs.length < (lnk f g).size := (by simp only [Gn.Tre.size]; omega); have := H.out.2.2.2.2.2.2.1; omega
        obtain ⟨A8, c8, w8, hrun1, hC8, hn8, hb8⟩ := append_h F w7 hF7 (.bool My) (.int .i64 y1) (.int .i64 y2) (.slice Ay ny cy) Lb (lnk f g).bs.length lb kb (by rw [hb1.length]; rfl) hb1.one (hb2.far fF) hbA.none hbl
        have QR8 := QR.keep (hb8.block _ QR.lt)
        have TT8 := TT.keep (hb8.block _ TT.lt)
        have B8 : Below w5.heap.size w5 w8 := BW.trans (hb8.mono BW.size)
        have b2 := stay_cell ((Below.refl w7.heap.size w7).alloc (Nat.le_refl _) (.cells #[.bool My, .int .i64 y1, .int .i64 y2, .slice Ay ny cy] 35)) TT.c2
        have d0 := TT8.c0
        have d3 := stay_cell ((Below.refl w8.heap.size w8).alloc (Nat.le_refl _) (.cells #[.bool N, .int .i64 z1, .int .i64 z2, .slice A0 k0 c0] 35)) TT8.c3
        have hA9 := (Below.refl w8.heap.size w8).alloc (Nat.le_refl _) (.cells #[.bool N, .int .i64 z1, .int .i64 z2, .slice A0 k0 c0] 35)
        have hrow : (w8.alloc (.cells #[.bool N, .int .i64 z1, .int .i64 z2, .slice A0 k0 c0] 35)).heap[w8.heap.size]? = some (.cells #[.bool N, .int .i64 z1, .int .i64 z2, .slice A0 k0 c0] 35 (0, 0)) := new_at rfl
        have hsz : (w8.alloc (.cells #[.bool N, .int .i64 z1, .int .i64 z2, .slice A0 k0 c0] 35)).heap.size = w8.heap.size + 1 := by simp
        have hR2 : TsAt F w r (some ⟨b, o + 2 * 4, none⟩) (n - 2) (c - 2) := by have h1 := ts_rest (ts_rest H.out.2.2.1); rwa [show o + 1 * 4 + 1 * 4 = o + 2 * 4 by omega, show n - 1 - 1 = n - 2 by omega, show c - 1 - 1 = c - 2 by omega] at h1
        have BF : Below w.heap.size w (w8.alloc (.cells #[.bool N, .int .i64 z1, .int .i64 z2, .slice A0 k0 c0] 35)) := K5.out.1.trans ((B8.trans (hA9.mono B8.size)).mono K5.out.1.size)
        have hR3 := hR2.stay BF
        obtain ⟨hkn, hkA, kc, hk1, hk2⟩ := hR3
        obtain ⟨A9, c9, w9, hrun2, hC9, hn9, hb9⟩ := append_t F (w8.alloc (.cells #[.bool N, .int .i64 z1, .int .i64 z2, .slice A0 k0 c0] 35)) (fun k hk => H.out.1 k (Nat.le_trans BF.size hk)) (.int .i64 (lnk f g).rank) (.slice (some ⟨w8.heap.size, 0, none⟩) 1 1) (.slice A8 ((lnk f g).bs.length + 1) c8) (.slice Lk (lnk f g).rank lk) (some ⟨b, o + 2 * 4, none⟩) (n - 2) (c - 2) kc (by rw [hk1.length, ← hkn]) hk1.one hk2 hkA.none (by omega)
        have hrow9 := (hb9.block _ (lt_of_heap hrow)).trans hrow
        have P9 := Lib.hid (And.intro hC9 (And.intro hn9 (And.intro hb9 (And.intro hk1 (And.intro hkn (And.intro BF (And.intro hrow9 (And.intro (H.out.1 _ (Nat.le_trans K5.out.1.size B8.size)) (And.intro hA9 B8)))))))))
        have P8 := Lib.hid (And.intro hC8 (And.intro hn8 (And.intro hb8 (And.intro (hb1.far fF) (And.intro hbn BW)))))
        rw [hsz] at hrun2
        clear hF7 fF hbn hbA hb1 hb2 hbl hC8 hn8 hb8 hA9 hrow hsz hR2 BF hkn hkA hk1 hk2 hC9 hn9 hb9 hrow9 B8 BW TT TT8
        go_wp2_with (first
          | (refine wpList_load_h rfl _ rfl _ rfl QO ?_)
          | (refine wpList_load_h rfl _ rfl _ rfl QR8 ?_)
          | (at_builtin; refine wpList_append_run rfl _ _ _ rfl _ _ _ _ rfl rfl hrun1 ?_)
          | (at_builtin; refine wpList_append_run rfl _ _ _ rfl _ _ _ _ rfl rfl hrun2 ?_))
        refine bodyPost_ret (v := .tuple #[.slice A9 ((n - 2) + 1) c9, .int .i64 4]) (by simp [results, Tryz.results41, go_sem]) rfl ?_
        have hw89 : Below w8.heap.size w8 w9 := P9.out.2.2.2.2.2.2.2.2.1.trans (P9.out.2.2.1.mono P9.out.2.2.2.2.2.2.2.2.1.size)
        have hB9 : Below w.heap.size w w9 := P9.out.2.2.2.2.2.1.trans (P9.out.2.2.1.mono P9.out.2.2.2.2.2.1.size)
        have f89 := Far.below (F := F) hw89
        have f79 : Far F F w7 w9 := ⟨fun k hk h => (P8.out.2.2.1.trans (hw89.mono P8.out.2.2.1.size)).block k hk, fun k _ h => h⟩
        have f59 : Far (fun k => F k ∧ k ≠ bt) F w5 w9 := ⟨fun k hk _ => (P9.out.2.2.2.2.2.2.2.2.2.trans (hw89.mono P9.out.2.2.2.2.2.2.2.2.2.size)).block k hk, fun k _ h => h.1⟩
        have f99 := Far.below (F := F) P9.out.2.2.1
        have hsk : sIns (f :: g :: r) x = ⟨x, (lnk f g).x :: (lnk f g).bs, (lnk f g).ks⟩ :: r := by
          rw [sIns_eq x H.out.2.2.2.2.2.2.2.2.2, skT, skw_ge (show ltK (lnk f g).x x = false from (by rw [ltK_key, ← RAt.key HY7.out, ← RAt.key HX7.out]; exact HV.out))]
        have hst : sInsN (f :: g :: r) + sInsM (f :: g :: r) = 4 := by show (if f.rank = g.rank then 2 else 0) + (if f.rank = g.rank then 2 else 1) = 4; rw [if_pos H.out.2.2.2.2.2.2.2.2.2, if_pos H.out.2.2.2.2.2.2.2.2.2]
        rw [hsk, hst]
        refine ⟨A9, (n - 2) + 1, c9, rfl, ⟨by have h1 := P9.out.2.2.2.2.1; simp only [Rows.len, List.length_cons] at h1 ⊢; omega, P9.out.2.1, _, RK.cons_t (t := ⟨x, (lnk f g).x :: (lnk f g).bs, (lnk f g).ks⟩) ⟨⟨_, RK.cons_h (HX7.out.far f79) .h0, cat_block P9.out.2.2.2.2.2.2.1 P9.out.2.2.2.2.2.2.2.1⟩, ⟨by simp only [Rows.len, List.length_cons], P8.out.2.1, _, RK.cons_h (HY7.out.far f79) (P8.out.2.2.2.1.far f79), P8.out.1.far f89⟩, K5.out.2.2.2.2.1.k.far f59⟩ (P9.out.2.2.2.1.far f99), P9.out.1⟩, hB9⟩
    | true =>
      by_cases hc2 : c = 2
      · subst hc2
        have hn2 : n = 2 := by omega
        subst hn2
        have v0 := stay_cell BW K5.out.2.2.2.2.2.2.2.2.2.2.2.1
        have v1 := stay_cell BW K5.out.2.2.2.2.2.2.2.2.2.1
        have v2 := stay_cell BW K5.out.2.2.2.2.2.2.2.2.2.2.1
        have v3 := stay_cell BW K5.out.2.2.2.2.2.2.2.2.2.2.2.2
        have tq := TT.c1
        have HN0 := Lib.hid (show n0 < w5.heap.size ∧ bt < w5.heap.size from ⟨K5.out.2.2.2.2.2.2.2.1.lt, K5.out.2.2.1⟩)
        go_wp2_with (first
          | (refine wpList_load_h rfl _ rfl _ rfl XX ?_)
          | (refine wpList_store_h rfl _ _ rfl _ rfl rfl QR ⟨rfl, rfl, rfl, rfl⟩ ?_
             intro w71 Q1 hk1 hb1 hs1
             replace XX := XX.keep (hk1 _ (by have := HN0.out; omega))
             replace QO := QO.keep (hk1 _ (by omega))
             replace TT := TT.keep (hk1 _ (by have := HN0.out; omega))
             replace BW := hb1 _ _ BW (Nat.le_refl _)
             have QR0 := Q1
             clear Q1 hk1 hb1 hs1 QR v0 v1 v2 v3 tq)
          | (refine wpList_store_h rfl _ _ rfl _ rfl rfl QO ⟨rfl, rfl, rfl, rfl⟩ ?_
             intro w72 Q2 hk2 hb2 hs2
             replace TT := TT.keep (hk2 _ (by have := HN0.out; omega))
             replace BW := hb2 _ _ BW (by omega)
             have QR := QR0.keep (hk2 _ (by omega))
             have Q9 := Q2
             clear Q2 hk2 hb2 hs2 QR0 QO XX
             have hF7 : ∀ k, w72.heap.size ≤ k → F k := fun k hk => H.out.1 k (Nat.le_trans K5.out.1.size (Nat.le_trans BW.size hk))
             have fF : Far (fun k => F k ∧ k ≠ bt) F w5 w72 := ⟨fun k hk _ => BW.block k hk, fun k _ h => h.1⟩
             have HY7 := Lib.hid (K5.out.2.2.2.2.2.2.1.far fF)
             have HX7 := Lib.hid (H.out.2.1.stay (K5.out.1.trans (BW.mono K5.out.1.size)))
             obtain ⟨hbn, hbA, kb, hb1, hb2⟩ := K5.out.2.2.2.2.1.b
             have hbl : (lnk f g).bs.length < 1000000000 := by have h1 := Gn.lnk_size f g; have h2 : (lnk f g).bs.length < (lnk f g).size := (by simp only [Gn.Tre.size]; omega); have := H.out.2.2.2.2.2.2.1; omega
             obtain ⟨A8, c8, w8, hrun1, hC8, hn8, hb8⟩ := append_h F w72 hF7 (.bool N) (.int .i64 z1) (.int .i64 z2) (.slice A0 k0 c0) Lb (lnk f g).bs.length lb kb (by rw [hb1.length]; rfl) hb1.one (hb2.far fF) hbA.none hbl
             have QR8 := QR.keep (hb8.block _ QR.lt)
             have TT8 := TT.keep (hb8.block _ TT.lt)
             have B8 : Below w5.heap.size w5 w8 := BW.trans (hb8.mono BW.size)
             have b2 := stay_cell ((Below.refl w72.heap.size w72).alloc (Nat.le_refl _) (.cells #[.bool N, .int .i64 z1, .int .i64 z2, .slice A0 k0 c0] 35)) TT.c2
             have d0 := TT8.c0
             have d3 := stay_cell ((Below.refl w8.heap.size w8).alloc (Nat.le_refl _) (.cells #[.bool My, .int .i64 y1, .int .i64 y2, .slice Ay ny cy] 35)) TT8.c3
             have hA9 := (Below.refl w8.heap.size w8).alloc (Nat.le_refl _) (.cells #[.bool My, .int .i64 y1, .int .i64 y2, .slice Ay ny cy] 35)
             have hrow : (w8.alloc (.cells #[.bool My, .int .i64 y1, .int .i64 y2, .slice Ay ny cy] 35)).heap[w8.heap.size]? = some (.cells #[.bool My, .int .i64 y1, .int .i64 y2, .slice Ay ny cy] 35 (0, 0)) := new_at rfl
             have hsz : (w8.alloc (.cells #[.bool My, .int .i64 y1, .int .i64 y2, .slice Ay ny cy] 35)).heap.size = w8.heap.size + 1 := by simp
             have hrn : r = [] := List.eq_nil_of_length_eq_zero (by have := H.out.2.2.1.1; simp only [Rows.len, List.length_cons] at this; omega)
             have hR2 : TsAt F w r (some ⟨b, o, none⟩) 0 0 := by rw [hrn]; exact ts_zero F w b o
             clear hrn
             have BF : Below w.heap.size w (w8.alloc (.cells #[.bool My, .int .i64 y1, .int .i64 y2, .slice Ay ny cy] 35)) := K5.out.1.trans ((B8.trans (hA9.mono B8.size)).mono K5.out.1.size)
             have hR3 := hR2.stay BF
             obtain ⟨hkn, hkA, kc, hk1, hk2⟩ := hR3
             obtain ⟨A9, c9, w9, hrun2, hC9, hn9, hb9⟩ := append_t F (w8.alloc (.cells #[.bool My, .int .i64 y1, .int .i64 y2, .slice Ay ny cy] 35)) (fun k hk => H.out.1 k (Nat.le_trans BF.size hk)) (.int .i64 (lnk f g).rank) (.slice (some ⟨w8.heap.size, 0, none⟩) 1 1) (.slice A8 ((lnk f g).bs.length + 1) c8) (.slice Lk (lnk f g).rank lk) (some ⟨b, o, none⟩) 0 0 kc (by rw [hk1.length, ← hkn]) hk1.one hk2 hkA.none (by omega)
             have hrow9 := (hb9.block _ (lt_of_heap hrow)).trans hrow
             have P9 := Lib.hid (And.intro hC9 (And.intro hn9 (And.intro hb9 (And.intro hk1 (And.intro hkn (And.intro BF (And.intro hrow9 (And.intro (H.out.1 _ (Nat.le_trans K5.out.1.size B8.size)) (And.intro hA9 B8)))))))))
             have P8 := Lib.hid (And.intro hC8 (And.intro hn8 (And.intro hb8 (And.intro (hb1.far fF) (And.intro hbn BW)))))
             rw [hsz] at hrun2
             clear hF7 fF hbn hbA hb1 hb2 hbl hC8 hn8 hb8 hA9 hrow hsz hR2 BF hkn hkA hk1 hk2 hC9 hn9 hb9 hrow9 B8 BW TT TT8)
          | (refine wpList_load_h rfl _ rfl _ rfl Q9 ?_)
          | (refine wpList_load_h rfl _ rfl _ rfl QR8 ?_)
          | (at_builtin; refine wpList_append_run rfl _ _ _ rfl _ _ _ _ rfl rfl hrun1 ?_)
          | (at_builtin; refine wpList_append_run rfl _ _ _ rfl _ _ _ _ rfl rfl hrun2 ?_))
        refine bodyPost_ret (v := .tuple #[.slice A9 (0 + 1) c9, .int .i64 4]) (by simp [results, Tryz.results41, go_sem]) rfl ?_
        have hw89 : Below w8.heap.size w8 w9 := P9.out.2.2.2.2.2.2.2.2.1.trans (P9.out.2.2.1.mono P9.out.2.2.2.2.2.2.2.2.1.size)
        have hB9 : Below w.heap.size w w9 := P9.out.2.2.2.2.2.1.trans (P9.out.2.2.1.mono P9.out.2.2.2.2.2.1.size)
        have f89 := Far.below (F := F) hw89
        have f79 : Far F F w72 w9 := ⟨fun k hk h => (P8.out.2.2.1.trans (hw89.mono P8.out.2.2.1.size)).block k hk, fun k _ h => h⟩
        have f59 : Far (fun k => F k ∧ k ≠ bt) F w5 w9 := ⟨fun k hk _ => (P9.out.2.2.2.2.2.2.2.2.2.trans (hw89.mono P9.out.2.2.2.2.2.2.2.2.2.size)).block k hk, fun k _ h => h.1⟩
        have f99 := Far.below (F := F) P9.out.2.2.1
        have hsk : sIns (f :: g :: r) x = ⟨(lnk f g).x, x :: (lnk f g).bs, (lnk f g).ks⟩ :: r := by
          rw [sIns_eq x H.out.2.2.2.2.2.2.2.2.2, skT, skw_lt (show ltK (lnk f g).x x = true from (by rw [ltK_key, ← RAt.key HY7.out, ← RAt.key HX7.out]; exact HV.out))]
        have hst : sInsN (f :: g :: r) + sInsM (f :: g :: r) = 4 := by show (if f.rank = g.rank then 2 else 0) + (if f.rank = g.rank then 2 else 1) = 4; rw [if_pos H.out.2.2.2.2.2.2.2.2.2, if_pos H.out.2.2.2.2.2.2.2.2.2]
        rw [hsk, hst]
        refine ⟨A9, 0 + 1, c9, rfl, ⟨by have h1 := P9.out.2.2.2.2.1; simp only [Rows.len, List.length_cons] at h1 ⊢; omega, P9.out.2.1, _, RK.cons_t (t := ⟨(lnk f g).x, x :: (lnk f g).bs, (lnk f g).ks⟩) ⟨⟨_, RK.cons_h (HY7.out.far f79) .h0, cat_block P9.out.2.2.2.2.2.2.1 P9.out.2.2.2.2.2.2.2.1⟩, ⟨by simp only [Rows.len, List.length_cons], P8.out.2.1, _, RK.cons_h (HX7.out.far f79) (P8.out.2.2.2.1.far f79), P8.out.1.far f89⟩, K5.out.2.2.2.2.1.k.far f59⟩ (P9.out.2.2.2.1.far f99), P9.out.1⟩, hB9⟩
      · have m0 : ¬ n < 2 := by omega
        have m1 : 2 ≤ n := by omega
        have m2 : (2 : Int) ≤ (n : Int) := by omega
        have m3 : ¬ (n : Int) < 2 := by omega
        have m4 : ¬ 2 = c := by omega
        have m5 : 0 < c := by omega
        have m6 : (n : Int) ≤ (c : Int) := by omega
        have m7 : (2 : Int) ≤ (c : Int) := by omega
        have m8 : ¬ c - 2 = 0 := by omega
        have m9 : ¬ c ≤ 2 := by omega
        have m10 : 2 < c := by omega
        have m12 : 2 ≤ c := by omega
        have v0 := stay_cell BW K5.out.2.2.2.2.2.2.2.2.2.2.2.1
        have v1 := stay_cell BW K5.out.2.2.2.2.2.2.2.2.2.1
        have v2 := stay_cell BW K5.out.2.2.2.2.2.2.2.2.2.2.1
        have v3 := stay_cell BW K5.out.2.2.2.2.2.2.2.2.2.2.2.2
        have tq := TT.c1
        have HN0 := Lib.hid (show n0 < w5.heap.size ∧ bt < w5.heap.size from ⟨K5.out.2.2.2.2.2.2.2.1.lt, K5.out.2.2.1⟩)
        go_wp2_with (first
          | (refine wpList_load_h rfl _ rfl _ rfl XX ?_)
          | (refine wpList_store_h rfl _ _ rfl _ rfl rfl QR ⟨rfl, rfl, rfl, rfl⟩ ?_
             intro w71 Q1 hk1 hb1 hs1
             replace XX := XX.keep (hk1 _ (by have := HN0.out; omega))
             replace QO := QO.keep (hk1 _ (by omega))
             replace TT := TT.keep (hk1 _ (by have := HN0.out; omega))
             replace BW := hb1 _ _ BW (Nat.le_refl _)
             have QR0 := Q1
             clear Q1 hk1 hb1 hs1 QR v0 v1 v2 v3 tq)
          | (refine wpList_store_h rfl _ _ rfl _ rfl rfl QO ⟨rfl, rfl, rfl, rfl⟩ ?_
             intro w72 Q2 hk2 hb2 hs2
             replace TT := TT.keep (hk2 _ (by have := HN0.out; omega))
             replace BW := hb2 _ _ BW (by omega)
             have QR := QR0.keep (hk2 _ (by omega))
             have Q9 := Q2
             clear Q2 hk2 hb2 hs2 QR0 QO XX
             have hF7 : ∀ k, w72.heap.size ≤ k → F k := fun k hk => H.out.1 k (Nat.le_trans K5.out.1.size (Nat.le_trans BW.size hk))
             have fF : Far (fun k => F k ∧ k ≠ bt) F w5 w72 := ⟨fun k hk _ => BW.block k hk, fun k _ h => h.1⟩
             have HY7 := Lib.hid (K5.out.2.2.2.2.2.2.1.far fF)
             have HX7 := Lib.hid (H.out.2.1.stay (K5.out.1.trans (BW.mono K5.out.1.size)))
             obtain ⟨hbn, hbA, kb, hb1, hb2⟩ := K5.out.2.2.2.2.1.b
             have hbl : (lnk f g).bs.length < 1000000000 := by have h1 := Gn.lnk_size f g; have h2 : (lnk f g).bs.length < (lnk f g).size := (by simp only [Gn.Tre.size]; omega); have := H.out.2.2.2.2.2.2.1; omega
             obtain ⟨A8, c8, w8, hrun1, hC8, hn8, hb8⟩ := append_h F w72 hF7 (.bool N) (.int .i64 z1) (.int .i64 z2) (.slice A0 k0 c0) Lb (lnk f g).bs.length lb kb (by rw [hb1.length]; rfl) hb1.one (hb2.far fF) hbA.none hbl
             have QR8 := QR.keep (hb8.block _ QR.lt)
             have TT8 := TT.keep (hb8.block _ TT.lt)
             have B8 : Below w5.heap.size w5 w8 := BW.trans (hb8.mono BW.size)
             have b2 := stay_cell ((Below.refl w72.heap.size w72).alloc (Nat.le_refl _) (.cells #[.bool N, .int .i64 z1, .int .i64 z2, .slice A0 k0 c0] 35)) TT.c2
             have d0 := TT8.c0
             have d3 := stay_cell ((Below.refl w8.heap.size w8).alloc (Nat.le_refl _) (.cells #[.bool My, .int .i64 y1, .int .i64 y2, .slice Ay ny cy] 35)) TT8.c3
             have hA9 := (Below.refl w8.heap.size w8).alloc (Nat.le_refl _) (.cells #[.bool My, .int .i64 y1, .int .i64 y2, .slice Ay ny cy] 35)
             have hrow : (w8.alloc (.cells #[.bool My, .int .i64 y1, .int .i64 y2, .slice Ay ny cy] 35)).heap[w8.heap.size]? = some (.cells #[.bool My, .int .i64 y1, .int .i64 y2, .slice Ay ny cy] 35 (0, 0)) := new_at rfl
             have hsz : (w8.alloc (.cells #[.bool My, .int .i64 y1, .int .i64 y2, .slice Ay ny cy] 35)).heap.size = w8.heap.size + 1 := by simp
             have hR2 : TsAt F w r (some ⟨b, o + 2 * 4, none⟩) (n - 2) (c - 2) := by have h1 := ts_rest (ts_rest H.out.2.2.1); rwa [show o + 1 * 4 + 1 * 4 = o + 2 * 4 by omega, show n - 1 - 1 = n - 2 by omega, show c - 1 - 1 = c - 2 by omega] at h1
             have BF : Below w.heap.size w (w8.alloc (.cells #[.bool My, .int .i64 y1, .int .i64 y2, .slice Ay ny cy] 35)) := K5.out.1.trans ((B8.trans (hA9.mono B8.size)).mono K5.out.1.size)
             have hR3 := hR2.stay BF
             obtain ⟨hkn, hkA, kc, hk1, hk2⟩ := hR3
             obtain ⟨A9, c9, w9, hrun2, hC9, hn9, hb9⟩ := append_t F (w8.alloc (.cells #[.bool My, .int .i64 y1, .int .i64 y2, .slice Ay ny cy] 35)) (fun k hk => H.out.1 k (Nat.le_trans BF.size hk)) (.int .i64 (lnk f g).rank) (.slice (some ⟨w8.heap.size, 0, none⟩) 1 1) (.slice A8 ((lnk f g).bs.length + 1) c8) (.slice Lk (lnk f g).rank lk) (some ⟨b, o + 2 * 4, none⟩) (n - 2) (c - 2) kc (by rw [hk1.length, ← hkn]) hk1.one hk2 hkA.none (by omega)
             have hrow9 := (hb9.block _ (lt_of_heap hrow)).trans hrow
             have P9 := Lib.hid (And.intro hC9 (And.intro hn9 (And.intro hb9 (And.intro hk1 (And.intro hkn (And.intro BF (And.intro hrow9 (And.intro (H.out.1 _ (Nat.le_trans K5.out.1.size B8.size)) (And.intro hA9 B8)))))))))
             have P8 := Lib.hid (And.intro hC8 (And.intro hn8 (And.intro hb8 (And.intro (hb1.far fF) (And.intro hbn BW)))))
             rw [hsz] at hrun2
             clear hF7 fF hbn hbA hb1 hb2 hbl hC8 hn8 hb8 hA9 hrow hsz hR2 BF hkn hkA hk1 hk2 hC9 hn9 hb9 hrow9 B8 BW TT TT8)
          | (refine wpList_load_h rfl _ rfl _ rfl Q9 ?_)
          | (refine wpList_load_h rfl _ rfl _ rfl QR8 ?_)
          | (at_builtin; refine wpList_append_run rfl _ _ _ rfl _ _ _ _ rfl rfl hrun1 ?_)
          | (at_builtin; refine wpList_append_run rfl _ _ _ rfl _ _ _ _ rfl rfl hrun2 ?_))
        refine bodyPost_ret (v := .tuple #[.slice A9 ((n - 2) + 1) c9, .int .i64 4]) (by simp [results, Tryz.results41, go_sem]) rfl ?_
        have hw89 : Below w8.heap.size w8 w9 := P9.out.2.2.2.2.2.2.2.2.1.trans (P9.out.2.2.1.mono P9.out.2.2.2.2.2.2.2.2.1.size)
        have hB9 : Below w.heap.size w w9 := P9.out.2.2.2.2.2.1.trans (P9.out.2.2.1.mono P9.out.2.2.2.2.2.1.size)
        have f89 := Far.below (F := F) hw89
        have f79 : Far F F w72 w9 := ⟨fun k hk h => (P8.out.2.2.1.trans (hw89.mono P8.out.2.2.1.size)).block k hk, fun k _ h => h⟩
        have f59 : Far (fun k => F k ∧ k ≠ bt) F w5 w9 := ⟨fun k hk _ => (P9.out.2.2.2.2.2.2.2.2.2.trans (hw89.mono P9.out.2.2.2.2.2.2.2.2.2.size)).block k hk, fun k _ h => h.1⟩
        have f99 := Far.below (F := F) P9.out.2.2.1
        have hsk : sIns (f :: g :: r) x = ⟨(lnk f g).x, x :: (lnk f g).bs, (lnk f g).ks⟩ :: r := by
          rw [sIns_eq x H.out.2.2.2.2.2.2.2.2.2, skT, skw_lt (show ltK (lnk f g).x x = true from (by rw [ltK_key, ← RAt.key HY7.out, ← RAt.key HX7.out]; exact HV.out))]
        have hst : sInsN (f :: g :: r) + sInsM (f :: g :: r) = 4 := by show (if f.rank = g.rank then 2 else 0) + (if f.rank = g.rank then 2 else 1) = 4; rw [if_pos H.out.2.2.2.2.2.2.2.2.2, if_pos H.out.2.2.2.2.2.2.2.2.2]
        rw [hsk, hst]
        refine ⟨A9, (n - 2) + 1, c9, rfl, ⟨by have h1 := P9.out.2.2.2.2.1; simp only [Rows.len, List.length_cons] at h1 ⊢; omega, P9.out.2.1, _, RK.cons_t (t := ⟨(lnk f g).x, x :: (lnk f g).bs, (lnk f g).ks⟩) ⟨⟨_, RK.cons_h (HY7.out.far f79) .h0, cat_block P9.out.2.2.2.2.2.2.1 P9.out.2.2.2.2.2.2.2.1⟩, ⟨by simp only [Rows.len, List.length_cons], P8.out.2.1, _, RK.cons_h (HX7.out.far f79) (P8.out.2.2.2.1.far f79), P8.out.1.far f89⟩, K5.out.2.2.2.2.1.k.far f59⟩ (P9.out.2.2.2.1.far f99), P9.out.1⟩, hB9⟩

end Go.Proofs.YtlmokendajgbdaaGreatDoor.Bo.Zr
namespace Go.Proofs.YtlmokendajgbdaaGreatDoor.Bo.Zr
open Go.Sort Go.RowKit Go.Proofs.YtlmokendajgbdaaGreatDoor.Gn Go.Proofs.YtlmokendajgbdaaGreatDoor.Bo

theorem refIns (F : Nat → Prop) (x : Lh) (z1 z2 : Int) (A0 : Option Addr) (k0 c0 : Nat) (N : Bool) (l : List (Gn.Tre Lh)) (A : Option Addr) (n c : Nat) (w : World) (hF : ∀ k, w.heap.size ≤ k → F k) (hx : RAt F w x (z1, z2) A0 k0 c0 N) (hs : Gn.bSize l < 268435456) (hl : TsAt F w l A n c) :
    Calls Tryz.prog 41 #[.agg #[.bool N, .int .i64 z1, .int .i64 z2, .slice A0 k0 c0], .slice A n c] w (GaveLN F (sIns l x) (sInsN l + sInsM l) w) := by
  match l, hs, hl with
  | [], hs, hl => exact refIns_nil F x z1 z2 A0 k0 c0 N A n c w hF hx hs hl
  | [f], hs, hl => exact refIns_one F x z1 z2 A0 k0 c0 N f A n c w hF hx hs hl
  | f :: g :: r, hs, hl =>
    by_cases hr : f.rank = g.rank
    · exact refIns_eq F x z1 z2 A0 k0 c0 N f g r hr A n c w hF hx hs hl
    · exact refIns_ne F x z1 z2 A0 k0 c0 N f g r hr A n c w hF hx hs hl

end Go.Proofs.YtlmokendajgbdaaGreatDoor.Bo.Zr
namespace Go.Proofs.YtlmokendajgbdaaGreatDoor.Bo.Zr
open Go.Sort Go.RowKit Go.Proofs.YtlmokendajgbdaaGreatDoor.Gn Go.Proofs.YtlmokendajgbdaaGreatDoor.Bo

/-- What a call hands back: a heap of the reference's, how many steps there were; nothing that was there has changed. -/
def GaveP (F : Nat → Prop) (t : Lh) (k : Nat) (w : World) (e : Ending) (w' : World) : Prop := ∃ (z1 z2 : Int) (A : Option Addr) (n c : Nat) (N : Bool), e = .returned (.tuple #[.agg #[.bool N, .int .i64 z1, .int .i64 z2, .slice A n c], .int .i64 (k : Int)]) ∧ RAt F w' t (z1, z2) A n c N ∧ Below w.heap.size w w'

set_option maxRecDepth 100000 in
set_option maxHeartbeats 4000000 in
theorem refMeld_ge (F : Nat → Prop) (a1 a2 b1 b2 : Int) (o p : List (Gn.Tre Lh)) (A B : Option Addr) (n c m d : Nat) (w : World) (hF : ∀ k, w.heap.size ≤ k → F k) (ho : TsAt F w o A n c) (hp : TsAt F w p B m d) (hs1 : Gn.bSize o < 268435456) (hs2 : Gn.bSize p < 268435456) (hl : ltE (b1, b2) (a1, a2) = false) :
    Calls Tryz.prog 20 #[.agg #[.bool true, .int .i64 a1, .int .i64 a2, .slice A n c], .agg #[.bool true, .int .i64 b1, .int .i64 b2, .slice B m d]] w (GaveP F (meld (.node (a1, a2) o) (.node (b1, b2) p)) (meldC (.node (a1, a2) o) (.node (b1, b2) p) + meldM (.node (a1, a2) o) (.node (b1, b2) p)) w) := by
  have h5 := five_at w (.cells #[.bool true, .int .i64 a1, .int .i64 a2, .slice A n c] 35) (.cells #[.bool true, .int .i64 b1, .int .i64 b2, .slice B m d] 35) (.cells #[.bool false, .int .i64 0, .int .i64 0, .slice none 0 0] 35) (.cells #[.bool true, .int .i64 a1, .int .i64 a2, .slice A n c] 35) (.cells #[.bool true, .int .i64 b1, .int .i64 b2, .slice B m d] 35)
  obtain ⟨kk, hkk⟩ : ∃ z, z = sInsN o + sInsM o := ⟨_, rfl⟩
  have HK := Lib.hid (show kk = sInsN o + sInsM o ∧ kk ≤ 4 from ⟨hkk, by have h1 := sInsN_le o; have h2 := (sInsM_le o).1; omega⟩)
  have wk : IntKind.i64.wrap ((kk : Int) + 2) = (kk : Int) + 2 := by have := HK.out; rw [IntKind.wrap_i64]; omega
  have H := Lib.hid (And.intro hF (And.intro ho (And.intro hp (And.intro hs1 hs2))))
  have HM := Lib.hid (show meld (.node (a1, a2) o) (.node (b1, b2) p) = .node (a1, a2) (sIns o (.node (b1, b2) p)) ∧ meldC (.node (a1, a2) o) (.node (b1, b2) p) + meldM (.node (a1, a2) o) (.node (b1, b2) p) = sInsN o + sInsM o + 2 from ⟨meld_ge hl, by simp only [meldC, meldM]; rw [if_neg (by rw [hl]; simp), if_neg (by rw [hl]; simp)]; omega⟩)
  have HV := Lib.hid (show ltI b1 b2 a1 a2 = false from hl)
  have H5 := Lib.hid h5
  clear hF ho hp hs1 hs2 hl h5 hkk
  go_enter Tryz.func20, Tryz.ntmps20
  go_wp2_with fail
  generalize ((((w.alloc (.cells #[.bool true, .int .i64 a1, .int .i64 a2, .slice A n c] 35)).alloc (.cells #[.bool true, .int .i64 b1, .int .i64 b2, .slice B m d] 35)).alloc (.cells #[.bool false, .int .i64 0, .int .i64 0, .slice none 0 0] 35)).alloc (.cells #[.bool true, .int .i64 a1, .int .i64 a2, .slice A n c] 35)).alloc (.cells #[.bool true, .int .i64 b1, .int .i64 b2, .slice B m d] 35) = W5 at *
  ((with_reducible refine (refLess_below b1 b2 a1 a2 _).mono ?_); rintro e w6 ⟨rfl, hb6⟩)
  rw [HV.out]
  obtain ⟨n0, hn0⟩ : ∃ z, z = w.heap.size := ⟨_, rfl⟩
  rw [← hn0] at H5 ⊢
  have HN := Lib.hid hn0
  clear hn0
  have B6 := Lib.hid (show Below w.heap.size w w6 ∧ n0 + 5 ≤ w6.heap.size from ⟨by rw [← HN.out]; exact H5.out.2.2.2.2.2.2.trans (hb6.mono (by rw [H5.out.2.2.2.2.2.1]; omega)), by have h1 := hb6.size; rw [H5.out.2.2.2.2.2.1] at h1; exact h1⟩)
  have X1 := (qd_at H5.out.1).keep (hb6.block _ (lt_of_heap H5.out.1))
  have X2 := (qd_at H5.out.2.1).keep (hb6.block _ (lt_of_heap H5.out.2.1))
  have X3 := (qd_at H5.out.2.2.1).keep (hb6.block _ (lt_of_heap H5.out.2.2.1))
  have X4 := (qd_at H5.out.2.2.2.1).keep (hb6.block _ (lt_of_heap H5.out.2.2.2.1))
  have X5 := (qd_at H5.out.2.2.2.2.1).keep (hb6.block _ (lt_of_heap H5.out.2.2.2.2.1))
  clear hb6
  have q3 := X4.c3
  have hfar : Far F (fun k => F k ∧ k ≠ n0 + 1 + 1) w w6 := ⟨fun k hk _ => B6.out.1.block k hk, fun k hk h => ⟨h, by have := HN.out; omega⟩⟩
  have HI := Lib.hid (refIns (fun k => F k ∧ k ≠ n0 + 1 + 1) (.node (b1, b2) p) b1 b2 B m d true o A n c w6 (fun k hk => ⟨H.out.1 k (Nat.le_trans B6.out.1.size hk), by have := B6.out.2; omega⟩) ⟨rfl, rfl, H.out.2.2.1.far hfar⟩ H.out.2.2.2.1 (H.out.2.1.far hfar))
  clear hfar
  go_wp2_with (refine wpList_load_h rfl _ rfl _ rfl X5 ?_)
  ((with_reducible refine (HI.out).mono ?_); rintro e w9 ⟨Q, nq, cq, rfl, hh, hb9⟩)
  rw [← HK.out.1]
  have B9 : Below w.heap.size w w9 := B6.out.1.trans (hb9.mono B6.out.1.size)
  have Z3 := X3.keep (hb9.block _ X3.lt)
  have Z4 := X4.keep (hb9.block _ X4.lt)
  have P9 := Lib.hid (And.intro hh B9)
  have g1 := Z4.c1
  have g2 := Z4.c2
  clear q3 hh hb9 B9 X3
  go_wp2_with (refine wpList_store_h rfl _ _ rfl _ rfl rfl Z3 ⟨rfl, rfl, rfl, rfl⟩ ?_; intro w10 Z hk10 hb10 _)
  have r0 := Z.c0
  have r1 := Z.c1
  have r2 := Z.c2
  have r3 := Z.c3
  refine bodyPost_ret (v := .tuple #[.agg #[.bool true, .int .i64 a1, .int .i64 a2, .slice Q nq cq], .int .i64 ((kk : Int) + 2)]) (by simp [results, Tryz.results20, go_sem, r0, r1, r2, r3]) rfl ?_
  have hB10 := hb10 _ _ P9.out.2 (by rw [← HN.out]; omega)
  refine ⟨a1, a2, Q, nq, cq, true, ?_, ?_, hB10⟩
  · rw [HM.out.2, ← HK.out.1]
    rfl
  · rw [HM.out.1]
    exact ⟨rfl, rfl, P9.out.1.far ⟨fun k hk h => hk10 k h.2, fun k _ h => h.1⟩⟩

set_option maxRecDepth 100000 in
set_option maxHeartbeats 4000000 in
theorem refMeld_lt (F : Nat → Prop) (a1 a2 b1 b2 : Int) (o p : List (Gn.Tre Lh)) (A B : Option Addr) (n c m d : Nat) (w : World) (hF : ∀ k, w.heap.size ≤ k → F k) (ho : TsAt F w o A n c) (hp : TsAt F w p B m d) (hs1 : Gn.bSize o < 268435456) (hs2 : Gn.bSize p < 268435456) (hl : ltE (b1, b2) (a1, a2) = true) :
    Calls Tryz.prog 20 #[.agg #[.bool true, .int .i64 a1, .int .i64 a2, .slice A n c], .agg #[.bool true, .int .i64 b1, .int .i64 b2, .slice B m d]] w (GaveP F (meld (.node (a1, a2) o) (.node (b1, b2) p)) (meldC (.node (a1, a2) o) (.node (b1, b2) p) + meldM (.node (a1, a2) o) (.node (b1, b2) p)) w) := by
  have h5 := five_at w (.cells #[.bool true, .int .i64 a1, .int .i64 a2, .slice A n c] 35) (.cells #[.bool true, .int .i64 b1, .int .i64 b2, .slice B m d] 35) (.cells #[.bool false, .int .i64 0, .int .i64 0, .slice none 0 0] 35) (.cells #[.bool true, .int .i64 a1, .int .i64 a2, .slice A n c] 35) (.cells #[.bool true, .int .i64 b1, .int .i64 b2, .slice B m d] 35)
  obtain ⟨kk, hkk⟩ : ∃ z, z = sInsN p + sInsM p := ⟨_, rfl⟩
  have HK := Lib.hid (show kk = sInsN p + sInsM p ∧ kk ≤ 4 from ⟨hkk, by have h1 := sInsN_le p; have h2 := (sInsM_le p).1; omega⟩)
  have wk : IntKind.i64.wrap ((kk : Int) + 2) = (kk : Int) + 2 := by have := HK.out; rw [IntKind.wrap_i64]; omega
  have H := Lib.hid (And.intro hF (And.intro ho (And.intro hp (And.intro hs1 hs2))))
  have HM := Lib.hid (show meld (.node (a1, a2) o) (.node (b1, b2) p) = .node (b1, b2) (sIns p (.node (a1, a2) o)) ∧ meldC (.node (a1, a2) o) (.node (b1, b2) p) + meldM (.node (a1, a2) o) (.node (b1, b2) p) = sInsN p + sInsM p + 2 from ⟨meld_lt hl, by simp only [meldC, meldM]; rw [if_pos hl, if_pos hl]; omega⟩)
  have HV := Lib.hid (show ltI b1 b2 a1 a2 = true from hl)
  have H5 := Lib.hid h5
  clear hF ho hp hs1 hs2 hl h5 hkk
  go_enter Tryz.func20, Tryz.ntmps20
  go_wp2_with fail
  generalize ((((w.alloc (.cells #[.bool true, .int .i64 a1, .int .i64 a2, .slice A n c] 35)).alloc (.cells #[.bool true, .int .i64 b1, .int .i64 b2, .slice B m d] 35)).alloc (.cells #[.bool false, .int .i64 0, .int .i64 0, .slice none 0 0] 35)).alloc (.cells #[.bool true, .int .i64 a1, .int .i64 a2, .slice A n c] 35)).alloc (.cells #[.bool true, .int .i64 b1, .int .i64 b2, .slice B m d] 35) = W5 at *
  ((with_reducible refine (refLess_below b1 b2 a1 a2 _).mono ?_); rintro e w6 ⟨rfl, hb6⟩)
  rw [HV.out]
  obtain ⟨n0, hn0⟩ : ∃ z, z = w.heap.size := ⟨_, rfl⟩
  rw [← hn0] at H5 ⊢
  have HN := Lib.hid hn0
  clear hn0
  have B6 := Lib.hid (show Below w.heap.size w w6 ∧ n0 + 5 ≤ w6.heap.size from ⟨by rw [← HN.out]; exact H5.out.2.2.2.2.2.2.trans (hb6.mono (by rw [H5.out.2.2.2.2.2.1]; omega)), by have h1 := hb6.size; rw [H5.out.2.2.2.2.2.1] at h1; exact h1⟩)
  have X1 := (qd_at H5.out.1).keep (hb6.block _ (lt_of_heap H5.out.1))
  have X2 := (qd_at H5.out.2.1).keep (hb6.block _ (lt_of_heap H5.out.2.1))
  have X3 := (qd_at H5.out.2.2.1).keep (hb6.block _ (lt_of_heap H5.out.2.2.1))
  have X4 := (qd_at H5.out.2.2.2.1).keep (hb6.block _ (lt_of_heap H5.out.2.2.2.1))
  have X5 := (qd_at H5.out.2.2.2.2.1).keep (hb6.block _ (lt_of_heap H5.out.2.2.2.2.1))
  clear hb6
  go_wp2_with (first
    | (refine wpList_load_h rfl _ rfl _ rfl X2 ?_)
    | (refine wpList_load_h rfl _ rfl _ rfl X1 ?_)
    | (refine wpList_store_h rfl _ _ rfl _ rfl rfl X4 ⟨rfl, rfl, rfl, rfl⟩ ?_
       intro w7 Y4 hk7 hb7 hs7
       replace X1 := X1.keep (hk7 _ (by omega))
       replace X2 := X2.keep (hk7 _ (by omega))
       replace X3 := X3.keep (hk7 _ (by omega))
       replace X5 := X5.keep (hk7 _ (by omega))
       have B7 := Lib.hid (show Below w.heap.size w w7 ∧ n0 + 5 ≤ w7.heap.size from ⟨hb7 _ _ B6.out.1 (by rw [← HN.out]; omega), by rw [hs7]; exact B6.out.2⟩)
       clear X4 hk7 hb7 hs7)
    | (refine wpList_store_h rfl _ _ rfl _ rfl rfl X5 ⟨rfl, rfl, rfl, rfl⟩ ?_
       intro w8 Y5 hk8 hb8 hs8
       replace X3 := X3.keep (hk8 _ (by omega))
       replace Y4 := Y4.keep (hk8 _ (by omega))
       have B8 := Lib.hid (show Below w.heap.size w w8 ∧ n0 + 5 ≤ w8.heap.size from ⟨hb8 _ _ B7.out.1 (by rw [← HN.out]; omega), by rw [hs8]; exact B7.out.2⟩)
       have q3 := Y4.c3
       have L5 := Y5
       have hfar : Far F (fun k => F k ∧ k ≠ n0 + 1 + 1) w w8 := ⟨fun k hk _ => B8.out.1.block k hk, fun k hk h => ⟨h, by have := HN.out; omega⟩⟩
       have HI := Lib.hid (refIns (fun k => F k ∧ k ≠ n0 + 1 + 1) (.node (a1, a2) o) a1 a2 A n c true p B m d w8 (fun k hk => ⟨H.out.1 k (Nat.le_trans B8.out.1.size hk), by have := B8.out.2; omega⟩) ⟨rfl, rfl, H.out.2.1.far hfar⟩ H.out.2.2.2.2 (H.out.2.2.1.far hfar))
       clear X1 X2 X5 Y5 hk8 hb8 hs8 hfar)
    | (refine wpList_load_h rfl _ rfl _ rfl L5 ?_))
  have X4 := Y4
  have B6 := B8
  ((with_reducible refine (HI.out).mono ?_); rintro e w9 ⟨Q, nq, cq, rfl, hh, hb9⟩)
  rw [← HK.out.1]
  have B9 : Below w.heap.size w w9 := B6.out.1.trans (hb9.mono B6.out.1.size)
  have Z3 := X3.keep (hb9.block _ X3.lt)
  have Z4 := X4.keep (hb9.block _ X4.lt)
  have P9 := Lib.hid (And.intro hh B9)
  have g1 := Z4.c1
  have g2 := Z4.c2
  clear q3 hh hb9 B9 X3
  go_wp2_with (refine wpList_store_h rfl _ _ rfl _ rfl rfl Z3 ⟨rfl, rfl, rfl, rfl⟩ ?_; intro w10 Z hk10 hb10 _)
  have r0 := Z.c0
  have r1 := Z.c1
  have r2 := Z.c2
  have r3 := Z.c3
  refine bodyPost_ret (v := .tuple #[.agg #[.bool true, .int .i64 b1, .int .i64 b2, .slice Q nq cq], .int .i64 ((kk : Int) + 2)]) (by simp [results, Tryz.results20, go_sem, r0, r1, r2, r3]) rfl ?_
  have hB10 := hb10 _ _ P9.out.2 (by rw [← HN.out]; omega)
  refine ⟨b1, b2, Q, nq, cq, true, ?_, ?_, hB10⟩
  · rw [HM.out.2, ← HK.out.1]
    rfl
  · rw [HM.out.1]
    exact ⟨rfl, rfl, P9.out.1.far ⟨fun k hk h => hk10 k h.2, fun k _ h => h.1⟩⟩

end Go.Proofs.YtlmokendajgbdaaGreatDoor.Bo.Zr
namespace Go.Proofs.YtlmokendajgbdaaGreatDoor.Bo.Zr
open Go.Sort Go.RowKit Go.Proofs.YtlmokendajgbdaaGreatDoor.Gn Go.Proofs.YtlmokendajgbdaaGreatDoor.Bo

theorem three_new (w : World) (o1 o2 o3 : Obj) : Below w.heap.size w (((w.alloc o1).alloc o2).alloc o3) := (((Below.refl _ _).alloc (Nat.le_refl _) _).alloc (by simp) _).alloc (by simp; omega) _
set_option maxHeartbeats 1000000 in
theorem refMeld_nil (F : Nat → Prop) (t : Lh) (z1 z2 : Int) (B : Option Addr) (m d : Nat) (N : Bool) (w : World) (ht : RAt F w t (z1, z2) B m d N) :
    Calls Tryz.prog 20 #[.agg #[.bool false, .int .i64 0, .int .i64 0, .slice none 0 0], .agg #[.bool N, .int .i64 z1, .int .i64 z2, .slice B m d]] w (GaveP F t 0 w) := by
  have H := Lib.hid ht
  clear ht
  go_enter Tryz.func20, Tryz.ntmps20
  go_wp2_with fail
  have hb := three_new w (.cells #[.bool false, .int .i64 0, .int .i64 0, .slice none 0 0] 35) (.cells #[.bool N, .int .i64 z1, .int .i64 z2, .slice B m d] 35) (.cells #[.bool N, .int .i64 z1, .int .i64 z2, .slice B m d] 35)
  refine bodyPost_ret (v := .tuple #[.agg #[.bool N, .int .i64 z1, .int .i64 z2, .slice B m d], .int .i64 0]) (by simp [results, Tryz.results20, go_sem]) rfl ?_
  exact ⟨z1, z2, B, m, d, N, rfl, H.out.stay hb, hb⟩
set_option maxHeartbeats 1000000 in
theorem refMeld_right (F : Nat → Prop) (t : Lh) (z1 z2 : Int) (A : Option Addr) (n c : Nat) (w : World) (ht : RAt F w t (z1, z2) A n c true) :
    Calls Tryz.prog 20 #[.agg #[.bool true, .int .i64 z1, .int .i64 z2, .slice A n c], .agg #[.bool false, .int .i64 0, .int .i64 0, .slice none 0 0]] w (GaveP F t 0 w) := by
  have H := Lib.hid ht
  clear ht
  go_enter Tryz.func20, Tryz.ntmps20
  go_wp2_with fail
  have hb := three_new w (.cells #[.bool true, .int .i64 z1, .int .i64 z2, .slice A n c] 35) (.cells #[.bool false, .int .i64 0, .int .i64 0, .slice none 0 0] 35) (.cells #[.bool true, .int .i64 z1, .int .i64 z2, .slice A n c] 35)
  refine bodyPost_ret (v := .tuple #[.agg #[.bool true, .int .i64 z1, .int .i64 z2, .slice A n c], .int .i64 0]) (by simp [results, Tryz.results20, go_sem]) rfl ?_
  exact ⟨z1, z2, A, n, c, true, rfl, H.out.stay hb, hb⟩
/-- Meld of any two. -/
theorem refMeld (F : Nat → Prop) (s t : Lh) (a1 a2 b1 b2 : Int) (A B : Option Addr) (n c m d : Nat) (M N : Bool) (w : World) (hF : ∀ k, w.heap.size ≤ k → F k) (hs : RAt F w s (a1, a2) A n c M) (ht : RAt F w t (b1, b2) B m d N) (h1 : Gn.bSize s.queue < 268435456) (h2 : Gn.bSize t.queue < 268435456) :
    Calls Tryz.prog 20 #[.agg #[.bool M, .int .i64 a1, .int .i64 a2, .slice A n c], .agg #[.bool N, .int .i64 b1, .int .i64 b2, .slice B m d]] w (GaveP F (meld s t) (meldC s t + meldM s t) w) := by
  cases s with
  | nil =>
    obtain ⟨e, rfl, rfl, rfl, rfl⟩ := hs
    cases e
    exact refMeld_nil F t b1 b2 B m d N w ht
  | node x o =>
    cases t with
    | nil =>
      obtain ⟨e, rfl, rfl, rfl, rfl⟩ := ht
      cases e
      have hs2 := hs
      obtain ⟨-, rfl, -⟩ := hs2
      exact refMeld_right F (.node x o) a1 a2 A n c w hs
    | node y p =>
      obtain ⟨rfl, rfl, ho⟩ := hs
      obtain ⟨rfl, rfl, hp⟩ := ht
      cases hl : ltE (b1, b2) (a1, a2) with
      | true => exact refMeld_lt F a1 a2 b1 b2 o p A B n c m d w hF ho hp h1 h2 hl
      | false => exact refMeld_ge F a1 a2 b1 b2 o p A B n c m d w hF ho hp h1 h2 hl

end Go.Proofs.YtlmokendajgbdaaGreatDoor.Bo.Zr
namespace Go.Proofs.YtlmokendajgbdaaGreatDoor.Bo.Zr
open Go.Sort Go.RowKit Go.Proofs.YtlmokendajgbdaaGreatDoor.Gn Go.Proofs.YtlmokendajgbdaaGreatDoor.Bo

set_option maxHeartbeats 1000000 in
theorem refInsert (F : Nat → Prop) (t : Lh) (x1 x2 b1 b2 : Int) (B : Option Addr) (m d : Nat) (N : Bool) (w : World) (hF : ∀ k, w.heap.size ≤ k → F k) (ht : RAt F w t (b1, b2) B m d N) (h2 : Gn.bSize t.queue < 268435456) :
    Calls Tryz.prog 18 #[.agg #[.int .i64 x1, .int .i64 x2], .agg #[.bool N, .int .i64 b1, .int .i64 b2, .slice B m d]] w (GaveP F (t.insert (x1, x2)) (t.insC (x1, x2) + t.insM (x1, x2)) w) := by
  have hk1 := insC_le t (x1, x2)
  have hk2 := insM_le t (x1, x2)
  obtain ⟨kk, hkk⟩ : ∃ z, z = meldC (.one (x1, x2)) t + meldM (.one (x1, x2)) t := ⟨_, rfl⟩
  have HK := Lib.hid (show kk = meldC (.one (x1, x2)) t + meldM (.one (x1, x2)) t ∧ t.insC (x1, x2) + t.insM (x1, x2) = kk + 1 from ⟨hkk, by unfold Lh.insC Lh.insM; omega⟩)
  have wk : IntKind.i64.wrap ((kk : Int) + 1) = (kk : Int) + 1 := by have := HK.out; rw [IntKind.wrap_i64]; omega
  have H := Lib.hid (And.intro hF (And.intro ht h2))
  have HX := Lib.hid (show Below w.heap.size w (((w.alloc (.cells #[.int .i64 x1, .int .i64 x2] 32)).alloc (.cells #[.bool N, .int .i64 b1, .int .i64 b2, .slice B m d] 35)).alloc (.cells #[.bool false, .int .i64 0, .int .i64 0, .slice none 0 0] 35)) ∧ (((w.alloc (.cells #[.int .i64 x1, .int .i64 x2] 32)).alloc (.cells #[.bool N, .int .i64 b1, .int .i64 b2, .slice B m d] 35)).alloc (.cells #[.bool false, .int .i64 0, .int .i64 0, .slice none 0 0] 35)).heap[w.heap.size + 1 + 1]? = some (.cells #[.bool false, .int .i64 0, .int .i64 0, .slice none 0 0] 35 (0, 0)) ∧ (((w.alloc (.cells #[.int .i64 x1, .int .i64 x2] 32)).alloc (.cells #[.bool N, .int .i64 b1, .int .i64 b2, .slice B m d] 35)).alloc (.cells #[.bool false, .int .i64 0, .int .i64 0, .slice none 0 0] 35)).heap.size = w.heap.size + 3 from ⟨three_new w _ _ _, new_at (by simp), by simp⟩)
  clear hF ht h2 hk1 hk2 hkk
  go_enter Tryz.func18, Tryz.ntmps18
  go_wp2_with fail
  generalize ((w.alloc (.cells #[.int .i64 x1, .int .i64 x2] 32)).alloc (.cells #[.bool N, .int .i64 b1, .int .i64 b2, .slice B m d] 35)).alloc (.cells #[.bool false, .int .i64 0, .int .i64 0, .slice none 0 0] 35) = w5 at *
  obtain ⟨n0, hn0⟩ : ∃ z, z = w.heap.size := ⟨_, rfl⟩
  rw [← hn0] at HX ⊢
  have HN := Lib.hid hn0
  clear hn0
  have hfar : Far F (fun k => F k ∧ k ≠ n0 + 1 + 1) w w5 := ⟨fun k hk _ => HX.out.1.block k (by rw [HN.out]; exact hk), fun k hk h => ⟨h, by have := HN.out; omega⟩⟩
  have HM := Lib.hid (refMeld (fun k => F k ∧ k ≠ n0 + 1 + 1) (.one (x1, x2)) t x1 x2 b1 b2 none B 0 0 m d true N w5 (fun k hk => ⟨H.out.1 k (by have := HX.out.2.2; have := HN.out; omega), by have := HX.out.2.2; omega⟩) ⟨rfl, rfl, RowAt.none_ts _ _⟩ (H.out.2.1.far hfar) (show Gn.bSize ([] : List (Gn.Tre Lh)) < 268435456 from by simp [Gn.bSize]) H.out.2.2)
  clear hfar
  ((with_reducible refine (HM.out).mono ?_); rintro e w6 ⟨q1, q2, Q, nq, cq, M, rfl, hh, hb6⟩)
  rw [← HK.out.1]
  have Z3 := (qd_at HX.out.2.1).keep (hb6.block _ (lt_of_heap HX.out.2.1))
  have hlt : n0 + 1 + 1 < w6.heap.size := Z3.lt
  have hZ : ∀ o : Obj, Qd (w6.alloc o) (n0 + 1 + 1) _ _ _ _ := fun o => Z3.keep (((Below.refl _ w6).alloc (Nat.le_refl _) o).block _ hlt)
  have P6 := Lib.hid (show RAt (fun k => F k ∧ k ≠ n0 + 1 + 1) w6 (meld (.one (x1, x2)) t) (q1, q2) Q nq cq M ∧ Below w.heap.size w w6 from ⟨hh, by have hB5 : Below w.heap.size w w5 := (by rw [← HN.out]; exact HX.out.1); exact hB5.trans (hb6.mono hB5.size)⟩)
  clear hh hb6
  go_wp2_with (refine wpList_store_h rfl _ _ rfl _ rfl rfl (hZ _) ⟨rfl, rfl, rfl, rfl⟩ ?_; intro w7 Z hk7 hb7 _)
  have r0 := Z.c0
  have r1 := Z.c1
  have r2 := Z.c2
  have r3 := Z.c3
  refine bodyPost_ret (v := .tuple #[.agg #[.bool M, .int .i64 q1, .int .i64 q2, .slice Q nq cq], .int .i64 ((kk : Int) + 1)]) (by simp [results, Tryz.results18, go_sem, r0, r1, r2, r3]) rfl ?_
  have hA : Below w6.heap.size w6 (w6.alloc (.cells #[.bool M, .int .i64 q1, .int .i64 q2, .slice Q nq cq] 35)) := (Below.refl _ w6).alloc (Nat.le_refl _) _
  have hB7 := hb7 _ _ (P6.out.2.trans (hA.mono P6.out.2.size)) (by rw [← HN.out]; omega)
  refine ⟨q1, q2, Q, nq, cq, M, ?_, ?_, hB7⟩
  · rw [HK.out.2]
    rfl
  · exact P6.out.1.far ⟨fun k hk h => (hk7 k h.2).trans (hA.block k hk), fun k _ h => h.1⟩

end Go.Proofs.YtlmokendajgbdaaGreatDoor.Bo.Zr
namespace Go.Proofs.YtlmokendajgbdaaGreatDoor.Bo.Zr
open Go.Sort Go.RowKit Go.Proofs.YtlmokendajgbdaaGreatDoor.Gn Go.Proofs.YtlmokendajgbdaaGreatDoor.Bo

theorem refMin_any (x1 x2 : Int) (A : Option Addr) (n c : Nat) (N : Bool) (w : World) : Calls Tryz.prog 26 #[.agg #[.bool N, .int .i64 x1, .int .i64 x2, .slice A n c]] w fun e w' => e = .returned (.tuple #[.agg #[.int .i64 x1, .int .i64 x2], .int .i64 0]) ∧ Below w.heap.size w w' := by
  go_enter Tryz.func26, Tryz.ntmps26
  go_wp2_with fail
  refine bodyPost_ret (v := .tuple #[.agg #[.int .i64 x1, .int .i64 x2], .int .i64 0]) (by simp [results, Tryz.results26, go_sem]) rfl ⟨rfl, ?_⟩
  exact ((Below.refl w.heap.size w).alloc (Nat.le_refl _) (.cells #[.bool N, .int .i64 x1, .int .i64 x2, .slice A n c] 35)).alloc (by simp) (.cells #[.int .i64 x1, .int .i64 x2] 32)
theorem RAt.min {F : Nat → Prop} {W : World} {t : Lh} {x : Int × Int} {A : Option Addr} {n c : Nat} {N : Bool} (h : RAt F W t x A n c N) : t.min.1 = x := by
  cases t with
  | nil => obtain ⟨hx, -⟩ := h; rw [hx]; rfl
  | node y o => obtain ⟨hx, -⟩ := h; rw [hx]; rfl

/-- Pop where there is no queue: the empty heap. -/
theorem refPop_none (F : Nat → Prop) (x1 x2 : Int) (A : Option Addr) (c : Nat) (N : Bool) (w : World) : Calls Tryz.prog 22 #[.agg #[.bool N, .int .i64 x1, .int .i64 x2, .slice A 0 c]] w (GaveP F .nil 0 w) := by
  go_enter Tryz.func22, Tryz.ntmps22
  go_wp2_with fail
  have hb := (((Below.refl w.heap.size w).alloc (Nat.le_refl _) (.cells #[.bool N, .int .i64 x1, .int .i64 x2, .slice A 0 c] 35)).alloc (by simp) (.cells #[.bool false, .int .i64 0, .int .i64 0, .slice none 0 0] 35))
  refine bodyPost_ret (v := .tuple #[.agg #[.bool false, .int .i64 0, .int .i64 0, .slice none 0 0], .int .i64 0]) (by simp [results, Tryz.results22, go_sem]) rfl ?_
  exact ⟨0, 0, none, 0, 0, false, rfl, RAt.zero _ _, hb⟩

end Go.Proofs.YtlmokendajgbdaaGreatDoor.Bo.Zr
