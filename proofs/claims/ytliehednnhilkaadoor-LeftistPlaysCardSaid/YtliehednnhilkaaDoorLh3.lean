/-
  Contract of a leftist heap's Meld, by a meter or none: which heap it makes, how many comparisons and nodes the meter counts, that what was there stays but for the meter's block. Conditions: fewer than 2 to the 28th elements, counts below 2 to the 60th.
-/
import Derived.Test.YtliehednnhilkaaDoorLh2
namespace Go.Proofs.YtliehednnhilkaaDoor
open Go.Sort Go.RowKit

/-- What builder's literal makes. -/
theorem node_any (mo : Option Nat) (c m : Int) (x : Int × Int) (l r : Lh) (lp rp : Option Addr) (g : Nat) (w : World) (hg : Kept w mo g) (hm : MAt w mo c m) (h2 : 0 ≤ m) (h3 : m < 2305843009213693952)
    (hl : LAt w l lp) (hr : LAt w r rp) (hk : l.size + r.size < 1073741823) :
    Calls Tryd.prog 45 #[el x, hp lp, hp rp, .pointer (some ⟨g, 0, none⟩)] w (Gave mo c (m + 1) (mkH x l r) w) := by
  obtain ⟨x1, x2⟩ := x
  unfold mkH
  split
  next h => exact node_lt mo c m x1 x2 l r lp rp g w h hg hm h2 h3 hl hr hk
  next h => exact node_ge mo c m x1 x2 l r lp rp g w (by omega) hg hm h2 h3 hl hr hk

set_option maxHeartbeats 1000000 in
/-- The first one is none: the other one, as it is. -/
theorem meld_first (mo : Option Nat) (q : Option Addr) (w : World) : Calls Tryd.prog 20 #[hp none, mAddr mo, hp q] w fun e w' => e = .returned (hp q) ∧ Below w.heap.size w w' := by
  go_enter Tryd.func20, Tryd.ntmps20
  go_wp2_with fail
  refine bodyPost_ret (v := hp q) (by simp [results, Tryd.results20, go_sem]) rfl ⟨rfl, ?_⟩
  exact (((Below.refl _ _).alloc (Nat.le_refl _) _).alloc (by simp) _).alloc (by simp only [World.size_alloc]; omega) _

set_option maxHeartbeats 1000000 in
/-- The second one is none. -/
theorem meld_second (mo : Option Nat) (b : Nat) (w : World) : Calls Tryd.prog 20 #[hp (some ⟨b, 0, none⟩), mAddr mo, hp none] w fun e w' => e = .returned (hp (some ⟨b, 0, none⟩)) ∧ Below w.heap.size w w' := by
  go_enter Tryd.func20, Tryd.ntmps20
  go_wp2_with fail
  refine bodyPost_ret (v := hp (some ⟨b, 0, none⟩)) (by simp [results, Tryd.results20, go_sem]) rfl ⟨rfl, ?_⟩
  exact (((Below.refl _ _).alloc (Nat.le_refl _) _).alloc (by simp) _).alloc (by simp only [World.size_alloc]; omega) _

/-- The variables of Meld: two heaps, what it hands back, the loser. -/
structure Fm (W : World) (a : Nat) (pa pb pl : Option Addr) : Prop where
  h : W.heap[a]? = some (.cells #[.pointer pa] 29 (0, 0))
  o : W.heap[a + 1]? = some (.cells #[.pointer pb] 29 (0, 0))
  r : W.heap[a + 2]? = some (.cells #[.pointer none] 29 (0, 0))
  l : W.heap[a + 3]? = some (.cells #[.pointer pl] 29 (0, 0))
section
variable {W W' : World} {a : Nat} {pa pb pl : Option Addr} {mo : Option Nat} {c m : Int}
theorem Fm.new (w : World) (pa pb : Option Addr) : Fm (((((w.alloc (.cells #[.pointer pa] 29)).alloc (.cells #[.pointer pb] 29)).alloc (.cells #[.pointer none] 29)).alloc (.cells #[.pointer pb] 29)).drew) w.heap.size pa pb pb := by
  refine ⟨?_, ?_, ?_, ?_⟩
  · show ((((w.alloc _).alloc _).alloc _).alloc _).heap[w.heap.size]? = _
    rw [alloc_old _ (by simp only [World.size_alloc]; omega), alloc_old _ (by simp only [World.size_alloc]; omega), alloc_old _ (by simp only [World.size_alloc]; omega)]; exact new_at rfl
  · show ((((w.alloc _).alloc _).alloc _).alloc _).heap[w.heap.size + 1]? = _
    rw [alloc_old _ (by simp only [World.size_alloc]; omega), alloc_old _ (by simp only [World.size_alloc]; omega)]; exact new_at (by simp)
  · show ((((w.alloc _).alloc _).alloc _).alloc _).heap[w.heap.size + 2]? = _
    rw [alloc_old _ (by simp only [World.size_alloc]; omega)]; exact new_at (by simp)
  · exact new_at (by simp)
theorem Fm.turn (h : Fm W a pa pb pl) (hb : Bt mo W W') (hm : MAt W mo c m) : Fm W' a pa pb pl :=
  ⟨hb.row hm h.h (by decide), hb.row hm h.o (by decide), hb.row hm h.r (by decide), hb.row hm h.l (by decide)⟩
theorem Fm.stay (h : Fm W a pa pb pl) (hb : Below W.heap.size W W') : Fm W' a pa pb pl :=
  ⟨(hb.block _ (lt_of_heap h.h)).trans h.h, (hb.block _ (lt_of_heap h.o)).trans h.o, (hb.block _ (lt_of_heap h.r)).trans h.r, (hb.block _ (lt_of_heap h.l)).trans h.l⟩
theorem Fm.h0 (h : Fm W a pa pb pl) : W.cell? ⟨a, 0, none⟩ = some (.pointer pa) := by simp [World.cell?, h.h]
theorem Fm.o0 (h : Fm W a pa pb pl) : W.cell? ⟨a + 1, 0, none⟩ = some (.pointer pb) := by simp [World.cell?, h.o]
theorem Fm.r0 (h : Fm W a pa pb pl) : W.cell? ⟨a + 2, 0, none⟩ = some (.pointer none) := by simp [World.cell?, h.r]
theorem Fm.l0 (h : Fm W a pa pb pl) : W.cell? ⟨a + 3, 0, none⟩ = some (.pointer pl) := by simp [World.cell?, h.l]
theorem Fm.zr (h : Fm W a pa pb pl) : W.frozen? ⟨a + 2, 0, none⟩ = false := by simp [World.frozen?, h.r]
theorem Fm.zl (h : Fm W a pa pb pl) : W.frozen? ⟨a + 3, 0, none⟩ = false := by simp [World.frozen?, h.l]
/-- .. the loser is the first one. -/
theorem Fm.put (h : Fm W a pa pb pl) (q : Option Addr) : Fm (W.setCell ⟨a + 3, 0, none⟩ (.pointer q)) a pa pb q :=
  ⟨(heap_other _ _ (by omega)).trans h.h, (heap_other _ _ (by omega)).trans h.o, (heap_other _ _ (by omega)).trans h.r, heap_put h.l _⟩
end

/-- What a call of Meld does: of two heaps of fewer than n elements together. -/
def MeldsTo (mo : Option Nat) (n : Nat) : Prop := ∀ (a b : Lh), a.size + b.size < n → ∀ (c m : Int) (p q : Option Addr) (w : World), MAt w mo c m → 0 ≤ c → c + (a.size + b.size : Nat) < 1152921504606846976 → 0 ≤ m → m + (a.size + b.size : Nat) < 1152921504606846976 →
  LAt w a p → LAt w b q → Calls Tryd.prog 20 #[hp p, mAddr mo, hp q] w (Gave mo (c + meldN a b) (m + meldN a b) (meld a b) w)

set_option maxRecDepth 100000 in
set_option maxHeartbeats 4000000 in
theorem meld_true (mo : Option Nat) (n : Nat) (hI : MeldsTo mo n) (hn : n < 268435456) (x1 x2 y1 y2 : Int) (l r l' r' : Lh) (hs : (Lh.node (x1, x2) l r).size + (Lh.node (y1, y2) l' r').size = n) (hv : ltE (y1, y2) (x1, x2) = true) (c m : Int) (pa pb : Nat) (w : World)
    (hm : MAt w mo c m) (h0 : 0 ≤ c) (h1 : c + (n : Nat) < 1152921504606846976) (h2 : 0 ≤ m) (h3 : m + (n : Nat) < 1152921504606846976) (ha : LAt w (.node (x1, x2) l r) (some ⟨pa, 0, none⟩)) (hb : LAt w (.node (y1, y2) l' r') (some ⟨pb, 0, none⟩)) :
    Calls Tryd.prog 20 #[hp (some ⟨pa, 0, none⟩), mAddr mo, hp (some ⟨pb, 0, none⟩)] w (Gave mo (c + meldN (.node (x1, x2) l r) (.node (y1, y2) l' r')) (m + meldN (.node (x1, x2) l r) (.node (y1, y2) l' r')) (meld (.node (x1, x2) l r) (.node (y1, y2) l' r')) w) := by
  rw [meld_lt hv, meldN_lt hv]
  have HA0 := Lib.hid ha
  have HB0 := Lib.hid hb
  obtain ⟨_, lp, rp, ea, hah, hal, har⟩ := ha
  cases ea
  obtain ⟨_, lp', rp', eb, hbh, hbl, hbr⟩ := hb
  cases eb
  have hb1 : Below w.heap.size w (((((w.alloc (.cells #[.pointer (some ⟨pa, 0, none⟩)] 29)).alloc (.cells #[.pointer (some ⟨pb, 0, none⟩)] 29)).alloc (.cells #[.pointer none] 29)).alloc (.cells #[.pointer (some ⟨pb, 0, none⟩)] 29)).drew) :=
    ((((Below.refl _ _).alloc (Nat.le_refl _) _).alloc (by simp) _).alloc (by simp only [World.size_alloc]; omega) _).alloc (by simp only [World.size_alloc]; omega) _ |>.drew
  have F1 : Fm (((((w.alloc (.cells #[.pointer (some ⟨pa, 0, none⟩)] 29)).alloc (.cells #[.pointer (some ⟨pb, 0, none⟩)] 29)).alloc (.cells #[.pointer none] 29)).alloc (.cells #[.pointer (some ⟨pb, 0, none⟩)] 29)).drew) w.heap.size (some ⟨pa, 0, none⟩) (some ⟨pb, 0, none⟩) (some ⟨pb, 0, none⟩) := Fm.new w _ _
  have K1 : Trk NodeT mo w c m (((((w.alloc (.cells #[.pointer (some ⟨pa, 0, none⟩)] 29)).alloc (.cells #[.pointer (some ⟨pb, 0, none⟩)] 29)).alloc (.cells #[.pointer none] 29)).alloc (.cells #[.pointer (some ⟨pb, 0, none⟩)] 29)).drew) := (Trk.refl hm).stay hb1
  have HC := Lib.hid (And.intro hah hbh)
  have HL := Lib.hid (And.intro hal (And.intro har (And.intro hbl hbr)))
  have HI := Lib.hid (fun (u v : Lh) (hu : u.size + v.size < n) => hI u v hu)
  have HN := Lib.hid (And.intro hn (And.intro hs (And.intro h0 (And.intro h1 (And.intro h2 (And.intro h3 (And.intro (lt_of_heap hah) (lt_of_heap hbh))))))))
  have HV := Lib.hid hv
  have HF := Lib.hid F1
  have KK := Lib.hid K1
  clear hah hbh hal har hbl hbr hI hn hs h0 h1 h2 h3 hv F1 K1 hb1 hm
  go_enter Tryd.func20, Tryd.ntmps20
  go_wp2_with fail
  go_region
  generalize ((((w.alloc (.cells #[.pointer (some ⟨pa, 0, none⟩)] 29)).alloc (.cells #[.pointer (some ⟨pb, 0, none⟩)] 29)).alloc (.cells #[.pointer none] 29)).alloc (.cells #[.pointer (some ⟨pb, 0, none⟩)] 29)).drew = w1 at *
  obtain ⟨a, ha⟩ : ∃ a, a = w.heap.size := ⟨_, rfl⟩
  rw [← ha] at HF ⊢
  have HA := Lib.hid ha
  clear ha
  have f0 := HF.out.h0
  have f1 := HF.out.o0
  have a0 := (six_kp HC.out.1 KK.out.kp).c0
  have a1 := (six_kp HC.out.1 KK.out.kp).c1
  have b0 := (six_kp HC.out.2 KK.out.kp).c0
  have b1 := (six_kp HC.out.2 KK.out.kp).c1
  go_wp2_with fail
  go_region_held3 (fun w' => w'.cell? ⟨a, 0, none⟩ = some (.pointer (some ⟨pa, 0, none⟩)) ∧ w'.cell? ⟨a + 1, 0, none⟩ = some (.pointer (some ⟨pb, 0, none⟩)) ∧ w'.cell? ⟨pa, 0, none⟩ = some (.int .i64 x1) ∧ w'.cell? ⟨pa, 1, none⟩ = some (.int .i64 x2) ∧ w'.cell? ⟨pb, 0, none⟩ = some (.int .i64 y1) ∧ w'.cell? ⟨pb, 1, none⟩ = some (.int .i64 y2)) (go_keep)
    (first | (go_at_call 39; ((with_reducible refine (mLess mo c m (y1, y2) (x1, x2) _ KK.out.drew.mt HN.out.2.2.1 (by have := HN.out.2.2.2.1; omega)).mono ?_); rintro e w2 ⟨rfl, hm2, hb2⟩; rw [HV.out]; have F2 := Lib.hid ((HF.out.stay ((Below.refl _ _).drew)).turn hb2 KK.out.drew.mt); have K2 := Lib.hid (KK.out.drew.turn hm2 hb2 node_ne); have g0 := F2.out.h0; have g1 := F2.out.o0; have c0 := (six_kp HC.out.1 K2.out.kp).c0; have c1 := (six_kp HC.out.1 K2.out.kp).c1; have d0 := (six_kp HC.out.2 K2.out.kp).c0; have d1 := (six_kp HC.out.2 K2.out.kp).c1; have z2 := F2.out.zl; have l2 := F2.out.l0; clear hm2 hb2)))
  clear f0 f1 a0 a1 b0 b1 c0 c1 d0 d1
  go_wp2_with fail
  go_region
  have F3 := Lib.hid (F2.out.put (some ⟨pa, 0, none⟩) |>.stay ((Below.refl _ _).drew))
  have K3 := Lib.hid ((K2.out.put F2.out.l (by unfold NodeT; decide) (by decide) (by rw [← HA.out]; omega) 0 (.pointer (some ⟨pa, 0, none⟩))).drew)
  clear g0 g1 z2 l2
  generalize (w2.setCell ⟨a + 3, 0, none⟩ (.pointer (some ⟨pa, 0, none⟩))).drew = w3 at *
  go_wp2_with fail
  ((with_reducible refine (builder_any mo _).mono ?_); rintro e w4 ⟨rfl, hg4, hb4⟩)
  have F4 := Lib.hid (F3.out.stay hb4)
  have K4 := Lib.hid (K3.out.stay hb4)
  have G4 := Lib.hid hg4
  obtain ⟨g, hg⟩ : ∃ g, g = w3.heap.size := ⟨_, rfl⟩
  rw [← hg] at G4 ⊢
  clear hg hg4 hb4
  have s6 := six_kp HC.out.2 K4.out.kp
  have c0 := s6.c0
  have c1 := s6.c1
  have c2 := s6.c2
  have c3 := s6.c3
  have l4 := F4.out.l0
  clear s6
  go_wp2_with fail
  have HQ := Lib.hid (show r'.size + (Lh.node (x1, x2) l r).size < n ∧ 0 ≤ c + 1 ∧ c + 1 + (r'.size + (Lh.node (x1, x2) l r).size : Nat) < 1152921504606846976 ∧ 0 ≤ m ∧ m + (r'.size + (Lh.node (x1, x2) l r).size : Nat) < 1152921504606846976 ∧ meldN r' (Lh.node (x1, x2) l r) ≤ r'.size + (Lh.node (x1, x2) l r).size ∧ l'.size + (r'.size + (Lh.node (x1, x2) l r).size) < 1073741823 by
    obtain ⟨q1, q2, q3, q4, q5, q6, -⟩ := HN.out
    have q7 := meldN_size r' (Lh.node (x1, x2) l r)
    simp only [Lh.size] at q2 q7 ⊢
    omega)
  have n1 : ¬ pb = a + 1 + 1 := by rw [HA.out]; have := HN.out.2.2.2.2.2.2; omega
  have n2 : ¬ a + 1 + 1 = pb := by rw [HA.out]; have := HN.out.2.2.2.2.2.2; omega
  have n3 : ¬ a + 3 = a + 1 + 1 := by omega
  have n4 : ¬ a + 1 + 1 = a + 3 := by omega
  go_region_held3 (fun w' => w'.cell? ⟨pb, 0, none⟩ = some (.int .i64 y1) ∧ w'.cell? ⟨pb, 1, none⟩ = some (.int .i64 y2) ∧ w'.cell? ⟨pb, 2, none⟩ = some (.pointer lp') ∧ w'.cell? ⟨pb, 3, none⟩ = some (.pointer rp') ∧ w'.cell? ⟨a + 3, 0, none⟩ = some (.pointer (some ⟨pa, 0, none⟩))) (go_keep)
    (first | (go_at_call 45; ((with_reducible refine (node_any mo _ _ (y1, y2) l' (meld r' (Lh.node (x1, x2) l r)) lp' p5 g _ (KG.out) K5.out.mt (by have := HQ.out; omega) (by have := HQ.out; omega) (HL.out.2.2.1.kp K5.out.kp) T5.out (by rw [meld_size]; exact HQ.out.2.2.2.2.2.2)).mono ?_); rintro e w6 ⟨p6, rfl, ht6, hm6, hb6⟩; have F6 := Lib.hid (F5.out.turn hb6 K5.out.mt); have K6 := Lib.hid (K5.out.turn hm6 hb6 node_ne); have T6 := Lib.hid ht6; have s6 := six_kp HC.out.2 K6.out.kp; have e0 := s6.c0; have e1 := s6.c1; have e2 := s6.c2; have e3 := s6.c3; have l6 := F6.out.l0; have r6 := F6.out.r0; have z6 := F6.out.zr; clear ht6 hm6 hb6 s6)) | (go_at_call 20; ((with_reducible refine (HI.out r' (Lh.node (x1, x2) l r) HQ.out.1 (c + 1) m rp' (some ⟨pa, 0, none⟩) _ K4.out.drew.mt HQ.out.2.1 HQ.out.2.2.1 HQ.out.2.2.2.1 HQ.out.2.2.2.2.1 (HL.out.2.2.2.kp K4.out.drew.kp) (HA0.out.kp K4.out.drew.kp)).mono ?_); rintro e w5 ⟨p5, rfl, ht5, hm5, hb5⟩; have F5 := Lib.hid ((F4.out.stay ((Below.refl _ _).drew)).turn hb5 K4.out.drew.mt); have K5 := Lib.hid (K4.out.drew.turn hm5 hb5 node_ne); have KG := Lib.hid (show Kept w5 mo g from (hb5.row K4.out.drew.mt (show w4.drew.heap[g]? = _ from G4.out) (by decide))); have T5 := Lib.hid ht5; have s6 := six_kp HC.out.2 K5.out.kp; have k0 := s6.c0; have k1 := s6.c1; have k2 := s6.c2; have k3 := s6.c3; have l5 := F5.out.l0; clear ht5 hm5 hb5 s6)))
  go_wp2_with fail
  have hk := (K6.out.put F6.out.r (by unfold NodeT; decide) (by decide) (by rw [← HA.out]; omega) 0 (.pointer p6))

  refine bodyPost_ret (v := hp p6) (by simp [results, Tryd.results20, go_sem, r6]) rfl ⟨_, rfl, T6.out.kp (Kpt.set F6.out.r (by unfold NodeT; decide) 0 _), ?_, hk.bt⟩
  have e1 : c + ((1 + meldN r' (Lh.node (x1, x2) l r) : Nat) : Int) = c + 1 + meldN r' (Lh.node (x1, x2) l r) := by omega
  have e2 : m + ((1 + meldN r' (Lh.node (x1, x2) l r) : Nat) : Int) = m + meldN r' (Lh.node (x1, x2) l r) + 1 := by omega
  rw [e1, e2]
  exact hk.mt

set_option maxRecDepth 100000 in
set_option maxHeartbeats 4000000 in
theorem meld_false (mo : Option Nat) (n : Nat) (hI : MeldsTo mo n) (hn : n < 268435456) (x1 x2 y1 y2 : Int) (l r l' r' : Lh) (hs : (Lh.node (x1, x2) l r).size + (Lh.node (y1, y2) l' r').size = n) (hv : ltE (y1, y2) (x1, x2) = false) (c m : Int) (pa pb : Nat) (w : World)
    (hm : MAt w mo c m) (h0 : 0 ≤ c) (h1 : c + (n : Nat) < 1152921504606846976) (h2 : 0 ≤ m) (h3 : m + (n : Nat) < 1152921504606846976) (ha : LAt w (.node (x1, x2) l r) (some ⟨pa, 0, none⟩)) (hb : LAt w (.node (y1, y2) l' r') (some ⟨pb, 0, none⟩)) :
    Calls Tryd.prog 20 #[hp (some ⟨pa, 0, none⟩), mAddr mo, hp (some ⟨pb, 0, none⟩)] w (Gave mo (c + meldN (.node (x1, x2) l r) (.node (y1, y2) l' r')) (m + meldN (.node (x1, x2) l r) (.node (y1, y2) l' r')) (meld (.node (x1, x2) l r) (.node (y1, y2) l' r')) w) := by
  rw [meld_ge hv, meldN_ge hv]
  have HA0 := Lib.hid ha
  have HB0 := Lib.hid hb
  obtain ⟨_, lp, rp, ea, hah, hal, har⟩ := ha
  cases ea
  obtain ⟨_, lp', rp', eb, hbh, hbl, hbr⟩ := hb
  cases eb
  have hb1 : Below w.heap.size w (((((w.alloc (.cells #[.pointer (some ⟨pa, 0, none⟩)] 29)).alloc (.cells #[.pointer (some ⟨pb, 0, none⟩)] 29)).alloc (.cells #[.pointer none] 29)).alloc (.cells #[.pointer (some ⟨pb, 0, none⟩)] 29)).drew) :=
    ((((Below.refl _ _).alloc (Nat.le_refl _) _).alloc (by simp) _).alloc (by simp only [World.size_alloc]; omega) _).alloc (by simp only [World.size_alloc]; omega) _ |>.drew
  have F1 : Fm (((((w.alloc (.cells #[.pointer (some ⟨pa, 0, none⟩)] 29)).alloc (.cells #[.pointer (some ⟨pb, 0, none⟩)] 29)).alloc (.cells #[.pointer none] 29)).alloc (.cells #[.pointer (some ⟨pb, 0, none⟩)] 29)).drew) w.heap.size (some ⟨pa, 0, none⟩) (some ⟨pb, 0, none⟩) (some ⟨pb, 0, none⟩) := Fm.new w _ _
  have K1 : Trk NodeT mo w c m (((((w.alloc (.cells #[.pointer (some ⟨pa, 0, none⟩)] 29)).alloc (.cells #[.pointer (some ⟨pb, 0, none⟩)] 29)).alloc (.cells #[.pointer none] 29)).alloc (.cells #[.pointer (some ⟨pb, 0, none⟩)] 29)).drew) := (Trk.refl hm).stay hb1
  have HC := Lib.hid (And.intro hah hbh)
  have HL := Lib.hid (And.intro hal (And.intro har (And.intro hbl hbr)))
  have HI := Lib.hid (fun (u v : Lh) (hu : u.size + v.size < n) => hI u v hu)
  have HN := Lib.hid (And.intro hn (And.intro hs (And.intro h0 (And.intro h1 (And.intro h2 (And.intro h3 (And.intro (lt_of_heap hah) (lt_of_heap hbh))))))))
  have HV := Lib.hid hv
  have HF := Lib.hid F1
  have KK := Lib.hid K1
  clear hah hbh hal har hbl hbr hI hn hs h0 h1 h2 h3 hv F1 K1 hb1 hm
  go_enter Tryd.func20, Tryd.ntmps20
  go_wp2_with fail
  go_region
  generalize ((((w.alloc (.cells #[.pointer (some ⟨pa, 0, none⟩)] 29)).alloc (.cells #[.pointer (some ⟨pb, 0, none⟩)] 29)).alloc (.cells #[.pointer none] 29)).alloc (.cells #[.pointer (some ⟨pb, 0, none⟩)] 29)).drew = w1 at *
  obtain ⟨a, ha⟩ : ∃ a, a = w.heap.size := ⟨_, rfl⟩
  rw [← ha] at HF ⊢
  have HA := Lib.hid ha
  clear ha
  have f0 := HF.out.h0
  have f1 := HF.out.o0
  have a0 := (six_kp HC.out.1 KK.out.kp).c0
  have a1 := (six_kp HC.out.1 KK.out.kp).c1
  have b0 := (six_kp HC.out.2 KK.out.kp).c0
  have b1 := (six_kp HC.out.2 KK.out.kp).c1
  go_wp2_with fail
  go_region_held3 (fun w' => w'.cell? ⟨a, 0, none⟩ = some (.pointer (some ⟨pa, 0, none⟩)) ∧ w'.cell? ⟨a + 1, 0, none⟩ = some (.pointer (some ⟨pb, 0, none⟩)) ∧ w'.cell? ⟨pa, 0, none⟩ = some (.int .i64 x1) ∧ w'.cell? ⟨pa, 1, none⟩ = some (.int .i64 x2) ∧ w'.cell? ⟨pb, 0, none⟩ = some (.int .i64 y1) ∧ w'.cell? ⟨pb, 1, none⟩ = some (.int .i64 y2)) (go_keep)
    (first | (go_at_call 39; ((with_reducible refine (mLess mo c m (y1, y2) (x1, x2) _ KK.out.drew.mt HN.out.2.2.1 (by have := HN.out.2.2.2.1; omega)).mono ?_); rintro e w2 ⟨rfl, hm2, hb2⟩; rw [HV.out]; have F2 := Lib.hid ((HF.out.stay ((Below.refl _ _).drew)).turn hb2 KK.out.drew.mt); have K2 := Lib.hid (KK.out.drew.turn hm2 hb2 node_ne); have g0 := F2.out.h0; have g1 := F2.out.o0; have c0 := (six_kp HC.out.1 K2.out.kp).c0; have c1 := (six_kp HC.out.1 K2.out.kp).c1; have d0 := (six_kp HC.out.2 K2.out.kp).c0; have d1 := (six_kp HC.out.2 K2.out.kp).c1; have z2 := F2.out.zl; have l2 := F2.out.l0; clear hm2 hb2)))
  clear f0 f1 a0 a1 b0 b1 c0 c1 d0 d1
  go_wp2_with fail
  have F3 := F2
  have K3 := K2
  obtain ⟨w3, hw3⟩ : ∃ w3, w3 = w2 := ⟨_, rfl⟩
  clear g0 g1 z2 l2
  subst hw3
  ((with_reducible refine (builder_any mo _).mono ?_); rintro e w4 ⟨rfl, hg4, hb4⟩)
  have F4 := Lib.hid (F3.out.stay hb4)
  have K4 := Lib.hid (K3.out.stay hb4)
  have G4 := Lib.hid hg4
  obtain ⟨g, hg⟩ : ∃ g, g = w3.heap.size := ⟨_, rfl⟩
  rw [← hg] at G4 ⊢
  clear hg hg4 hb4
  have s6 := six_kp HC.out.1 K4.out.kp
  have c0 := s6.c0
  have c1 := s6.c1
  have c2 := s6.c2
  have c3 := s6.c3
  have l4 := F4.out.l0
  clear s6
  go_wp2_with fail
  have HQ := Lib.hid (show r.size + (Lh.node (y1, y2) l' r').size < n ∧ 0 ≤ c + 1 ∧ c + 1 + (r.size + (Lh.node (y1, y2) l' r').size : Nat) < 1152921504606846976 ∧ 0 ≤ m ∧ m + (r.size + (Lh.node (y1, y2) l' r').size : Nat) < 1152921504606846976 ∧ meldN r (Lh.node (y1, y2) l' r') ≤ r.size + (Lh.node (y1, y2) l' r').size ∧ l.size + (r.size + (Lh.node (y1, y2) l' r').size) < 1073741823 by
    obtain ⟨q1, q2, q3, q4, q5, q6, -⟩ := HN.out
    have q7 := meldN_size r (Lh.node (y1, y2) l' r')
    simp only [Lh.size] at q2 q7 ⊢
    omega)
  have n1 : ¬ pa = a + 1 + 1 := by rw [HA.out]; have := HN.out.2.2.2.2.2.2; omega
  have n2 : ¬ a + 1 + 1 = pa := by rw [HA.out]; have := HN.out.2.2.2.2.2.2; omega
  have n3 : ¬ a + 3 = a + 1 + 1 := by omega
  have n4 : ¬ a + 1 + 1 = a + 3 := by omega
  go_region_held3 (fun w' => w'.cell? ⟨pa, 0, none⟩ = some (.int .i64 x1) ∧ w'.cell? ⟨pa, 1, none⟩ = some (.int .i64 x2) ∧ w'.cell? ⟨pa, 2, none⟩ = some (.pointer lp) ∧ w'.cell? ⟨pa, 3, none⟩ = some (.pointer rp) ∧ w'.cell? ⟨a + 3, 0, none⟩ = some (.pointer (some ⟨pb, 0, none⟩))) (go_keep)
    (first | (go_at_call 45; ((with_reducible refine (node_any mo _ _ (x1, x2) l (meld r (Lh.node (y1, y2) l' r')) lp p5 g _ (KG.out) K5.out.mt (by have := HQ.out; omega) (by have := HQ.out; omega) (HL.out.1.kp K5.out.kp) T5.out (by rw [meld_size]; exact HQ.out.2.2.2.2.2.2)).mono ?_); rintro e w6 ⟨p6, rfl, ht6, hm6, hb6⟩; have F6 := Lib.hid (F5.out.turn hb6 K5.out.mt); have K6 := Lib.hid (K5.out.turn hm6 hb6 node_ne); have T6 := Lib.hid ht6; have s6 := six_kp HC.out.1 K6.out.kp; have e0 := s6.c0; have e1 := s6.c1; have e2 := s6.c2; have e3 := s6.c3; have l6 := F6.out.l0; have r6 := F6.out.r0; have z6 := F6.out.zr; clear ht6 hm6 hb6 s6)) | (go_at_call 20; ((with_reducible refine (HI.out r (Lh.node (y1, y2) l' r') HQ.out.1 (c + 1) m rp (some ⟨pb, 0, none⟩) _ K4.out.drew.mt HQ.out.2.1 HQ.out.2.2.1 HQ.out.2.2.2.1 HQ.out.2.2.2.2.1 (HL.out.2.1.kp K4.out.drew.kp) (HB0.out.kp K4.out.drew.kp)).mono ?_); rintro e w5 ⟨p5, rfl, ht5, hm5, hb5⟩; have F5 := Lib.hid ((F4.out.stay ((Below.refl _ _).drew)).turn hb5 K4.out.drew.mt); have K5 := Lib.hid (K4.out.drew.turn hm5 hb5 node_ne); have KG := Lib.hid (show Kept w5 mo g from (hb5.row K4.out.drew.mt (show w4.drew.heap[g]? = _ from G4.out) (by decide))); have T5 := Lib.hid ht5; have s6 := six_kp HC.out.1 K5.out.kp; have k0 := s6.c0; have k1 := s6.c1; have k2 := s6.c2; have k3 := s6.c3; have l5 := F5.out.l0; clear ht5 hm5 hb5 s6)))
  go_wp2_with fail
  have hk := (K6.out.put F6.out.r (by unfold NodeT; decide) (by decide) (by rw [← HA.out]; omega) 0 (.pointer p6))

  refine bodyPost_ret (v := hp p6) (by simp [results, Tryd.results20, go_sem, r6]) rfl ⟨_, rfl, T6.out.kp (Kpt.set F6.out.r (by unfold NodeT; decide) 0 _), ?_, hk.bt⟩
  have e1 : c + ((1 + meldN r (Lh.node (y1, y2) l' r') : Nat) : Int) = c + 1 + meldN r (Lh.node (y1, y2) l' r') := by omega
  have e2 : m + ((1 + meldN r (Lh.node (y1, y2) l' r') : Nat) : Int) = m + meldN r (Lh.node (y1, y2) l' r') + 1 := by omega
  rw [e1, e2]
  exact hk.mt

/-- Meld. -/
theorem meld_all_n (mo : Option Nat) (n : Nat) (hn : n ≤ 268435456) : MeldsTo mo n := by
  induction n with
  | zero => intro a b h; omega
  | succ n ih =>
    intro a b hs c m p q w hm h0 h1 h2 h3 ha hb
    by_cases hlt : a.size + b.size < n
    · exact ih (by omega) a b hlt c m p q w hm h0 h1 h2 h3 ha hb
    · cases a with
      | nil =>
        obtain rfl := ha
        rw [meld_nil, meldN_nil]
        exact (meld_first mo q w).mono fun e w' ⟨he, hb'⟩ => ⟨q, he, hb.stay hb', by simpa using hm.stay hb', Bt.ofBelow hb'⟩
      | node x l r =>
        obtain ⟨pa, lp, rp, rfl, hah⟩ := ha
        cases b with
        | nil =>
          obtain rfl := hb
          rw [meld_right, meldN_right]
          exact (meld_second mo pa w).mono fun e w' ⟨he, hb'⟩ => ⟨_, he, LAt.stay ⟨pa, lp, rp, rfl, hah⟩ hb', by simpa using hm.stay hb', Bt.ofBelow hb'⟩
        | node y l' r' =>
          obtain ⟨pb, lp', rp', rfl, hbh⟩ := hb
          obtain ⟨x1, x2⟩ := x
          obtain ⟨y1, y2⟩ := y
          have hsn : (Lh.node (x1, x2) l r).size + (Lh.node (y1, y2) l' r').size = n := by omega
          rw [hsn] at h1 h3
          cases hv : ltE (y1, y2) (x1, x2) with
          | true => exact meld_true mo n (ih (by omega)) (by omega) x1 x2 y1 y2 l r l' r' hsn hv c m pa pb w hm h0 h1 h2 h3 ⟨pa, lp, rp, rfl, hah⟩ ⟨pb, lp', rp', rfl, hbh⟩
          | false => exact meld_false mo n (ih (by omega)) (by omega) x1 x2 y1 y2 l r l' r' hsn hv c m pa pb w hm h0 h1 h2 h3 ⟨pa, lp, rp, rfl, hah⟩ ⟨pb, lp', rp', rfl, hbh⟩

theorem meld_any (mo : Option Nat) (a b : Lh) (c m : Int) (p q : Option Addr) (w : World) (hs : a.size + b.size < 268435456) (hm : MAt w mo c m) (h0 : 0 ≤ c) (h1 : c < 576460752303423488) (h2 : 0 ≤ m) (h3 : m < 576460752303423488)
    (ha : LAt w a p) (hb : LAt w b q) : Calls Tryd.prog 20 #[hp p, mAddr mo, hp q] w (Gave mo (c + meldN a b) (m + meldN a b) (meld a b) w) :=
  meld_all_n mo 268435456 (Nat.le_refl _) a b hs c m p q w hm h0 (by omega) h2 (by omega) ha hb

end Go.Proofs.YtliehednnhilkaaDoor
