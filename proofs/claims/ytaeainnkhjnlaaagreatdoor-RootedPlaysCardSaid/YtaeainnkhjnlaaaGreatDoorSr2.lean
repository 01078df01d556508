/-
  Contract of the reference's Insert (slagheapref09): a thing put in, and how many steps there were. Condition: fewer than 2 to the 27th things.
-/
import Derived.Test.YtaeainnkhjnlaaaGreatDoorSr1
import Derived.Deep.RegionHeld3
import Derived.Deep.DrawnRows
namespace Go.Proofs.YtaeainnkhjnlaaaGreatDoor.Hp
open Go.Sort Go.RowKit

/-- The reference's Skew of two trees and a thing. -/
theorem refSkewT {F : Nat → Prop} {s t : Tre} {x1 x2 : Int} {kl : Nat} {z1 z2 : Int} {Ab : Option Addr} {bl cb : Nat} {Ak : Option Addr} {ck sz : Nat} {ul : Nat} {y1 y2 : Int} {Bb : Option Addr} {dl db : Nat} {Bk : Option Addr} {dk uz : Nat} (w : World) (hF : ∀ k, w.heap.size ≤ k → F k) (ha : TIs F w s kl z1 z2 Ab bl cb Ak ck sz) (hb : TIs F w t ul y1 y2 Bb dl db Bk dk uz) (hs : s.size < 134217728 ∧ t.size < 134217728) :
    Calls Tryz.prog 50 #[.agg #[.int .i64 x1, .int .i64 x2], TVal kl z1 z2 Ab bl cb Ak ck sz, TVal ul y1 y2 Bb dl db Bk dk uz] w fun e w' => ∃ (vl : Nat) (v1 v2 : Int) (Cb : Option Addr) (el eb : Nat) (Ck : Option Addr) (ek vz : Nat), e = .returned (.tuple #[TVal vl v1 v2 Cb el eb Ck ek vz, .int .i64 4]) ∧ TIs F w' (skT (x1, x2) s t) vl v1 v2 Cb el eb Ck ek vz ∧ Below w.heap.size w w' := by
  obtain ⟨⟨rfl, rfl, rfl, e4⟩, h2⟩ := ha
  obtain ⟨⟨rfl, rfl, rfl, f4⟩, k2⟩ := hb
  rw [e4] at h2
  rw [f4] at k2
  refine (refSkew_any F (x1, x2) _ _ (some s) (some t) w hF h2 k2 (by simp only [osize]; omega) (by simp only [osize]; omega)).mono fun e w' ⟨V, he, hr, hbw⟩ => ?_
  have hr0 := hr
  obtain ⟨Ab3, Ak3, cb3, ck3, kc3, rfl, -⟩ := hr
  exact ⟨(skT (x1, x2) s t).ks.len, (skT (x1, x2) s t).x.1, (skT (x1, x2) s t).x.2, Ab3, (skT (x1, x2) s t).bs.length, cb3, Ak3, ck3, (skT (x1, x2) s t).size, he, ⟨⟨rfl, rfl, rfl, rfl⟩, hr0⟩, hbw⟩
/-- What is behind the first two. -/
theorem _root_.Go.Proofs.YtaeainnkhjnlaaaGreatDoor.HAt.rest2 {F : Nat → Prop} {W : World} {f g : Tre} {l : List Tre} {b o n c : Nat} (h : HAt F W (f :: g :: l) (some ⟨b, o, none⟩) n c) : (c = 2 → HAt F W l (some ⟨b, o, none⟩) 0 0) ∧ HAt F W l (some ⟨b, o + 2 * 6, none⟩) (n - 2) (c - 2) := by
  have h1 := h.rest.2
  refine ⟨fun e => ?_, ?_⟩
  · have hn := h.1
    have hc := h.2.1
    simp only [List.length_cons] at hn
    have : l = [] := List.eq_nil_of_length_eq_zero (by omega)
    subst this
    exact HAt.nil _ _ _
  · have h2 := h1.rest.2
    rw [show o + 1 * 6 + 1 * 6 = o + 2 * 6 by omega, show n - 1 - 1 = n - 2 by omega, show c - 1 - 1 = c - 2 by omega] at h2
    exact h2
/-- A variable of an element. -/
theorem elem_cells {W W' : World} {b : Nat} {x1 x2 : Int} (h : W.heap[b]? = some (.cells #[.int .i64 x1, .int .i64 x2] 32 (0, 0))) (hb : Below W.heap.size W W') : W'.cell? ⟨b, 0, none⟩ = some (.int .i64 x1) ∧ W'.cell? ⟨b, 1, none⟩ = some (.int .i64 x2) := by
  have he := (hb.block b (lt_of_heap h)).trans h
  exact ⟨by simp [World.cell?, he], by simp [World.cell?, he]⟩

set_option maxRecDepth 100000 in
set_option maxHeartbeats 8000000 in
theorem refIns_nil (F : Nat → Prop) (x1 x2 : Int) (A : Option Addr) (n c : Nat) (w : World) (hF : ∀ k, w.heap.size ≤ k → F k) (hs : bSize [] < 134217728) (h : HAt F w [] A n c) :
    Calls Tryz.prog 27 #[.agg #[.int .i64 x1, .int .i64 x2], .agg #[.slice A n c]] w (GaveH F (sIns [] (x1, x2)) 1 w) := by
  have hb0 := (((Below.refl w.heap.size w).alloc (Nat.le_refl _) (.cells #[.int .i64 x1, .int .i64 x2] 32)).alloc (by simp) (.cells #[.slice A n c] 35)).alloc (by simp; omega) (.cells #[.slice none 0 0] 35)
  have st : ∀ (u : World) (k : Nat) (o o' : Obj), u.heap[k]? = some o → (u.alloc o').heap[k]? = some o := fun u k o o' h => (((Below.refl u.heap.size u).alloc (Nat.le_refl _) o').block k (lt_of_heap h)).trans h
  have he0 : (((w.alloc (.cells #[.int .i64 x1, .int .i64 x2] 32)).alloc (.cells #[.slice A n c] 35)).alloc (.cells #[.slice none 0 0] 35)).heap[w.heap.size]? = some (.cells #[.int .i64 x1, .int .i64 x2] 32 (0, 0)) := st _ _ _ _ (st _ _ _ _ (new_at rfl))
  have hh1 : HV7 (((w.alloc (.cells #[.int .i64 x1, .int .i64 x2] 32)).alloc (.cells #[.slice A n c] 35)).alloc (.cells #[.slice none 0 0] 35)) (w.heap.size + 1) A n c := st _ _ _ _ (new_at (by simp))
  have hz2 : HV7 (((w.alloc (.cells #[.int .i64 x1, .int .i64 x2] 32)).alloc (.cells #[.slice A n c] 35)).alloc (.cells #[.slice none 0 0] 35)) (w.heap.size + 1 + 1) none 0 0 := new_at (by simp)
  have hsz : (((w.alloc (.cells #[.int .i64 x1, .int .i64 x2] 32)).alloc (.cells #[.slice A n c] 35)).alloc (.cells #[.slice none 0 0] 35)).heap.size = w.heap.size + 3 := by simp
  have hn := h.1
  have hcn := h.2.1
  have hcm := h.2.2.1
  simp only [List.length_nil] at hn
  have hn0 := hn
  subst hn0
  have H := Lib.hid (And.intro hF (And.intro hs (And.intro h hb0)))
  have HN := Lib.hid (And.intro hn (And.intro hcn hcm))
  have hll := bSize_len []
  simp only [List.length_nil] at hll
  have HLL := Lib.hid hll
  clear hF hs h hb0 st hn hcn hcm hll
  clear HN
  have HN := Lib.hid (show 0 ≤ c ∧ c ≤ 9223372036854775807 from ⟨H.out.2.2.1.2.1, H.out.2.2.1.2.2.1⟩)
  go_enter Tryz.func27, Tryz.ntmps27
  go_wp2_with fail
  generalize ((w.alloc (.cells #[.int .i64 x1, .int .i64 x2] 32)).alloc (.cells #[.slice A 0 c] 35)).alloc (.cells #[.slice none 0 0] 35) = w1 at *
  obtain ⟨b2, hb2⟩ : ∃ b, b = w.heap.size + 1 + 1 := ⟨_, rfl⟩
  obtain ⟨b1, hb1⟩ : ∃ b, b = w.heap.size + 1 := ⟨_, rfl⟩
  obtain ⟨b0, hb0⟩ : ∃ b, b = w.heap.size := ⟨_, rfl⟩
  rw [← hb2] at hz2 ⊢
  rw [← hb1] at hh1 ⊢
  rw [← hb0] at he0 ⊢
  have HO := Lib.hid (show b0 = w.heap.size ∧ b1 = w.heap.size + 1 ∧ b2 = w.heap.size + 2 ∧ w1.heap.size = w.heap.size + 3 from ⟨hb0, hb1, by omega, hsz⟩)
  clear hb0 hb1 hb2 hsz
  have HV := Lib.hid (And.intro he0 (And.intro hh1 hz2))
  have kc0 := fun d os => cell_regrown hh1.c0 d os
  rw [world_self w1]
  generalize w1.drawn = d0
  generalize (#[] : Array Obj) = os0
  refine wp_region_class (by kernel_rfl) (by kernel_rfl) ?_
  repeat (go_big_quiet_step (fail))
  refine wpQuiet_nil ?_
  intro _ hw'
  obtain ⟨⟨dq, osq⟩, hw''⟩ := hw'
  subst hw''
  have hbq := below_regrown w1 dq osq
  clear kc0
  generalize grow (redrawn w1 dq) osq = wq at *
  clear he0 hh1 hz2
  have HQ := Lib.hid (And.intro hbq (H.out.2.2.2.trans (hbq.mono H.out.2.2.2.size)))
  have HFA := Lib.hid (show Far F (Fb F b2) w wq from ⟨fun k hk _ => HQ.out.2.block k hk, fun k hk hf => Fb.of hf (by have := HO.out; omega)⟩)
  have HFB := Lib.hid (show ∀ k, wq.heap.size ≤ k → Fb F b2 k from fun k hk => Fb.of (H.out.1 k (by have := HO.out; have := HQ.out.1.size; omega)) (by have := HO.out; have := HQ.out.1.size; omega))
  clear hbq
  have ec := elem_cells HV.out.1 HQ.out.1
  have ec0 := ec.1
  have ec1 := ec.2
  clear ec
  go_wp2_with fail
  ((with_reducible refine (refLeafT (Fb F b2) x1 x2 _).mono ?_); rintro e w4 ⟨kl, z1, z2, Ab, bl, cb, Ak, ck, sz, rfl, ht, hb4⟩)
  have H4 := Lib.hid (And.intro ht (And.intro (HQ.out.1.trans (hb4.mono HQ.out.1.size)) (HQ.out.2.trans (hb4.mono HQ.out.2.size))))
  have hl4 := (H.out.2.2.1.far HFA.out).stay hb4
  clear ht hb4 ec0 ec1
  obtain ⟨g1, g2, g3, g4, kc, gk, gC⟩ := hl4
  obtain ⟨A', c', w', hrun, hC', hA', hbw, hcap, hmx⟩ := append_kids2 (Fb F b2) w4 (fun k hk => Fb.of (H.out.1 k (by have h8 := H4.out.2.1.size; have := HO.out; omega)) (by have h8 := H4.out.2.1.size; have := HO.out; omega)) kl (z1, z2) (.slice Ab bl cb) (.slice Ak kl ck) sz A 0 c kc (by rw [gk.length, wood_len, ← g1]) gk.one gC g4 (by have := HN.out; have := HLL.out; have := H.out.2.1; omega)
  have HR := Lib.hid hrun
  have H5 := Lib.hid (And.intro hC' (And.intro hA' (And.intro hcap (And.intro hmx (And.intro gk (And.intro hbw g1))))))
  have hal := (Below.refl w4.heap.size w4).alloc (Nat.le_refl _) (.cells #[.int .i64 kl, .int .i64 z1, .int .i64 z2, .slice Ab bl cb, .slice Ak kl ck, .int .i64 sz] 104)
  have hv4 := (HV.out.2.1.stay H4.out.2.1).stay hal
  have hc4 := hv4.c0
  clear hrun hC' hA' hbw hcap hmx gk gC g1 g2 g3 g4 hal hv4
  go_wp2_with (first | (at_builtin; refine wpList_append_run rfl _ _ _ rfl _ _ _ _ rfl rfl HR.out ?_; have hz5 := (HV.out.2.2.stay H4.out.2.1).stay H5.out.2.2.2.2.2.1; clear hc4) | (refine wpList_store_h7 rfl _ _ rfl _ rfl rfl hz5 ?_; intro w7 ew7; have EW := Lib.hid ew7; clear ew7))
  have hz7 := hz5.put A' (0 + 1) c'
  rw [← EW.out] at hz7
  have t0 := hz7.c0
  refine bodyPost_ret (v := .tuple #[.agg #[.slice A' (0 + 1) c'], .int .i64 1]) (by simp [results, Tryz.results27, go_sem, t0]) rfl ?_
  obtain ⟨e1, e2, e3, e4⟩ := H4.out.1.1
  have hR := H4.out.1.2.stay H5.out.2.2.2.2.2.1
  subst e1 e2 e3
  have hat := HAt.cons hR (H5.out.2.2.2.2.1.far (Far.below H5.out.2.2.2.2.2.1)) H5.out.2.2.2.2.2.2 H5.out.2.2.1 H5.out.2.2.2.1 H5.out.2.1 (by rw [e4]; exact H5.out.1)
  refine ⟨A', 0 + 1, c', rfl, by rw [EW.out]; exact HAt.set hat _, ?_⟩
  rw [EW.out]
  exact (H4.out.2.2.trans (H5.out.2.2.2.2.2.1.mono H4.out.2.2.size)).setCell (p := ⟨b2, 0, none⟩) (by have := HO.out; show _ ≤ b2; omega) _

set_option maxRecDepth 100000 in
set_option maxHeartbeats 8000000 in
theorem refIns_one (F : Nat → Prop) (f : Tre) (x1 x2 : Int) (A : Option Addr) (n c : Nat) (w : World) (hF : ∀ k, w.heap.size ≤ k → F k) (hs : bSize [f] < 134217728) (h : HAt F w [f] A n c) :
    Calls Tryz.prog 27 #[.agg #[.int .i64 x1, .int .i64 x2], .agg #[.slice A n c]] w (GaveH F (sIns [f] (x1, x2)) 1 w) := by
  have hb0 := (((Below.refl w.heap.size w).alloc (Nat.le_refl _) (.cells #[.int .i64 x1, .int .i64 x2] 32)).alloc (by simp) (.cells #[.slice A n c] 35)).alloc (by simp; omega) (.cells #[.slice none 0 0] 35)
  have st : ∀ (u : World) (k : Nat) (o o' : Obj), u.heap[k]? = some o → (u.alloc o').heap[k]? = some o := fun u k o o' h => (((Below.refl u.heap.size u).alloc (Nat.le_refl _) o').block k (lt_of_heap h)).trans h
  have he0 : (((w.alloc (.cells #[.int .i64 x1, .int .i64 x2] 32)).alloc (.cells #[.slice A n c] 35)).alloc (.cells #[.slice none 0 0] 35)).heap[w.heap.size]? = some (.cells #[.int .i64 x1, .int .i64 x2] 32 (0, 0)) := st _ _ _ _ (st _ _ _ _ (new_at rfl))
  have hh1 : HV7 (((w.alloc (.cells #[.int .i64 x1, .int .i64 x2] 32)).alloc (.cells #[.slice A n c] 35)).alloc (.cells #[.slice none 0 0] 35)) (w.heap.size + 1) A n c := st _ _ _ _ (new_at (by simp))
  have hz2 : HV7 (((w.alloc (.cells #[.int .i64 x1, .int .i64 x2] 32)).alloc (.cells #[.slice A n c] 35)).alloc (.cells #[.slice none 0 0] 35)) (w.heap.size + 1 + 1) none 0 0 := new_at (by simp)
  have hsz : (((w.alloc (.cells #[.int .i64 x1, .int .i64 x2] 32)).alloc (.cells #[.slice A n c] 35)).alloc (.cells #[.slice none 0 0] 35)).heap.size = w.heap.size + 3 := by simp
  have hn := h.1
  have hcn := h.2.1
  have hcm := h.2.2.1
  simp only [List.length_cons, List.length_nil] at hn
  have hn0 := hn
  subst hn0
  have H := Lib.hid (And.intro hF (And.intro hs (And.intro h hb0)))
  have HN := Lib.hid (And.intro hn (And.intro hcn hcm))
  have hll := bSize_len [f]
  simp only [List.length_cons, List.length_nil] at hll
  have HLL := Lib.hid hll
  clear hF hs h hb0 st hn hcn hcm hll
  clear HN
  have HN := Lib.hid (show 0 + 1 ≤ c ∧ c ≤ 9223372036854775807 from ⟨H.out.2.2.1.2.1, H.out.2.2.1.2.2.1⟩)
  go_enter Tryz.func27, Tryz.ntmps27
  go_wp2_with fail
  generalize ((w.alloc (.cells #[.int .i64 x1, .int .i64 x2] 32)).alloc (.cells #[.slice A (0 + 1) c] 35)).alloc (.cells #[.slice none 0 0] 35) = w1 at *
  obtain ⟨b2, hb2⟩ : ∃ b, b = w.heap.size + 1 + 1 := ⟨_, rfl⟩
  obtain ⟨b1, hb1⟩ : ∃ b, b = w.heap.size + 1 := ⟨_, rfl⟩
  obtain ⟨b0, hb0⟩ : ∃ b, b = w.heap.size := ⟨_, rfl⟩
  rw [← hb2] at hz2 ⊢
  rw [← hb1] at hh1 ⊢
  rw [← hb0] at he0 ⊢
  have HO := Lib.hid (show b0 = w.heap.size ∧ b1 = w.heap.size + 1 ∧ b2 = w.heap.size + 2 ∧ w1.heap.size = w.heap.size + 3 from ⟨hb0, hb1, by omega, hsz⟩)
  clear hb0 hb1 hb2 hsz
  have HV := Lib.hid (And.intro he0 (And.intro hh1 hz2))
  have kc0 := fun d os => cell_regrown hh1.c0 d os
  rw [world_self w1]
  generalize w1.drawn = d0
  generalize (#[] : Array Obj) = os0
  refine wp_region_class (by kernel_rfl) (by kernel_rfl) ?_
  repeat (go_big_quiet_step (fail))
  refine wpQuiet_nil ?_
  intro _ hw'
  obtain ⟨⟨dq, osq⟩, hw''⟩ := hw'
  subst hw''
  have hbq := below_regrown w1 dq osq
  clear kc0
  generalize grow (redrawn w1 dq) osq = wq at *
  clear he0 hh1 hz2
  have HQ := Lib.hid (And.intro hbq (H.out.2.2.2.trans (hbq.mono H.out.2.2.2.size)))
  have HFA := Lib.hid (show Far F (Fb F b2) w wq from ⟨fun k hk _ => HQ.out.2.block k hk, fun k hk hf => Fb.of hf (by have := HO.out; omega)⟩)
  have HFB := Lib.hid (show ∀ k, wq.heap.size ≤ k → Fb F b2 k from fun k hk => Fb.of (H.out.1 k (by have := HO.out; have := HQ.out.1.size; omega)) (by have := HO.out; have := HQ.out.1.size; omega))
  clear hbq
  have ec := elem_cells HV.out.1 HQ.out.1
  have ec0 := ec.1
  have ec1 := ec.2
  clear ec
  go_wp2_with fail
  ((with_reducible refine (refLeafT (Fb F b2) x1 x2 _).mono ?_); rintro e w4 ⟨kl, z1, z2, Ab, bl, cb, Ak, ck, sz, rfl, ht, hb4⟩)
  have H4 := Lib.hid (And.intro ht (And.intro (HQ.out.1.trans (hb4.mono HQ.out.1.size)) (HQ.out.2.trans (hb4.mono HQ.out.2.size))))
  have hl4 := (H.out.2.2.1.far HFA.out).stay hb4
  clear ht hb4 ec0 ec1
  obtain ⟨g1, g2, g3, g4, kc, gk, gC⟩ := hl4
  obtain ⟨A', c', w', hrun, hC', hA', hbw, hcap, hmx⟩ := append_kids2 (Fb F b2) w4 (fun k hk => Fb.of (H.out.1 k (by have h8 := H4.out.2.1.size; have := HO.out; omega)) (by have h8 := H4.out.2.1.size; have := HO.out; omega)) kl (z1, z2) (.slice Ab bl cb) (.slice Ak kl ck) sz A (0 + 1) c kc (by rw [gk.length, wood_len, ← g1]) gk.one gC g4 (by have := HN.out; have := HLL.out; have := H.out.2.1; omega)
  have HR := Lib.hid hrun
  have H5 := Lib.hid (And.intro hC' (And.intro hA' (And.intro hcap (And.intro hmx (And.intro gk (And.intro hbw g1))))))
  have hal := (Below.refl w4.heap.size w4).alloc (Nat.le_refl _) (.cells #[.int .i64 kl, .int .i64 z1, .int .i64 z2, .slice Ab bl cb, .slice Ak kl ck, .int .i64 sz] 104)
  have hv4 := (HV.out.2.1.stay H4.out.2.1).stay hal
  have hc4 := hv4.c0
  clear hrun hC' hA' hbw hcap hmx gk gC g1 g2 g3 g4 hal hv4
  go_wp2_with (first | (at_builtin; refine wpList_append_run rfl _ _ _ rfl _ _ _ _ rfl rfl HR.out ?_; have hz5 := (HV.out.2.2.stay H4.out.2.1).stay H5.out.2.2.2.2.2.1; clear hc4) | (refine wpList_store_h7 rfl _ _ rfl _ rfl rfl hz5 ?_; intro w7 ew7; have EW := Lib.hid ew7; clear ew7))
  have hz7 := hz5.put A' (0 + 1 + 1) c'
  rw [← EW.out] at hz7
  have t0 := hz7.c0
  refine bodyPost_ret (v := .tuple #[.agg #[.slice A' (0 + 1 + 1) c'], .int .i64 1]) (by simp [results, Tryz.results27, go_sem, t0]) rfl ?_
  obtain ⟨e1, e2, e3, e4⟩ := H4.out.1.1
  have hR := H4.out.1.2.stay H5.out.2.2.2.2.2.1
  subst e1 e2 e3
  have hat := HAt.cons hR (H5.out.2.2.2.2.1.far (Far.below H5.out.2.2.2.2.2.1)) H5.out.2.2.2.2.2.2 H5.out.2.2.1 H5.out.2.2.2.1 H5.out.2.1 (by rw [e4]; exact H5.out.1)
  refine ⟨A', 0 + 1 + 1, c', rfl, by rw [EW.out]; exact HAt.set hat _, ?_⟩
  rw [EW.out]
  exact (H4.out.2.2.trans (H5.out.2.2.2.2.2.1.mono H4.out.2.2.size)).setCell (p := ⟨b2, 0, none⟩) (by have := HO.out; show _ ≤ b2; omega) _

set_option maxRecDepth 100000 in
set_option maxHeartbeats 8000000 in
theorem refIns_ne (F : Nat → Prop) (f g : Tre) (r : List Tre) (hq : f.rank ≠ g.rank) (x1 x2 : Int) (A : Option Addr) (n c : Nat) (w : World) (hF : ∀ k, w.heap.size ≤ k → F k) (hs : bSize (f :: g :: r) < 134217728) (h : HAt F w (f :: g :: r) A n c) :
    Calls Tryz.prog 27 #[.agg #[.int .i64 x1, .int .i64 x2], .agg #[.slice A n c]] w (GaveH F (sIns (f :: g :: r) (x1, x2)) 1 w) := by
  have hb0 := (((Below.refl w.heap.size w).alloc (Nat.le_refl _) (.cells #[.int .i64 x1, .int .i64 x2] 32)).alloc (by simp) (.cells #[.slice A n c] 35)).alloc (by simp; omega) (.cells #[.slice none 0 0] 35)
  have st : ∀ (u : World) (k : Nat) (o o' : Obj), u.heap[k]? = some o → (u.alloc o').heap[k]? = some o := fun u k o o' h => (((Below.refl u.heap.size u).alloc (Nat.le_refl _) o').block k (lt_of_heap h)).trans h
  have he0 : (((w.alloc (.cells #[.int .i64 x1, .int .i64 x2] 32)).alloc (.cells #[.slice A n c] 35)).alloc (.cells #[.slice none 0 0] 35)).heap[w.heap.size]? = some (.cells #[.int .i64 x1, .int .i64 x2] 32 (0, 0)) := st _ _ _ _ (st _ _ _ _ (new_at rfl))
  have hh1 : HV7 (((w.alloc (.cells #[.int .i64 x1, .int .i64 x2] 32)).alloc (.cells #[.slice A n c] 35)).alloc (.cells #[.slice none 0 0] 35)) (w.heap.size + 1) A n c := st _ _ _ _ (new_at (by simp))
  have hz2 : HV7 (((w.alloc (.cells #[.int .i64 x1, .int .i64 x2] 32)).alloc (.cells #[.slice A n c] 35)).alloc (.cells #[.slice none 0 0] 35)) (w.heap.size + 1 + 1) none 0 0 := new_at (by simp)
  have hsz : (((w.alloc (.cells #[.int .i64 x1, .int .i64 x2] 32)).alloc (.cells #[.slice A n c] 35)).alloc (.cells #[.slice none 0 0] 35)).heap.size = w.heap.size + 3 := by simp
  have hn := h.1
  have hcn := h.2.1
  have hcm := h.2.2.1
  simp only [List.length_cons] at hn
  obtain ⟨bb, ob, fl, i1, i2, Db, dl0, db0, Dk, dk0, fz, rfl, -, ⟨p0, p1, p2, p3, p4, p5⟩, hf⟩ := h.firstT
  obtain ⟨ul, y1, y2, Bb, dl, db, Bk, dk, uz, ⟨q0, q1, q2, q3, q4, q5⟩, hg⟩ := h.atJ (j := 1) (by simp)
  change TIs F w g ul y1 y2 Bb dl db Bk dk uz at hg
  have HE := Lib.hid (show fl = f.rank ∧ ul = g.rank from ⟨hf.1.1, hg.1.1⟩)
  have z1_ : decide ((1 : Int) < (n : Int)) = true := by simp; omega
  have z2_ : (1 : Int) < (n : Int) := by omega
  have z3_ : (0 : Int) < (n : Int) := by omega
  have z4_ : 0 < n := by omega
  have z5_ : 1 < n := by omega
  have g1_ : ((fl : Int) == (ul : Int)) = false := by have := HE.out; simp; omega
  have g2_ : ¬ (fl : Int) = (ul : Int) := by have := HE.out; omega
  have HTF := Lib.hid (And.intro hf hg)
  have PP := Lib.hid (And.intro p0 (And.intro p1 (And.intro p2 (And.intro p3 (And.intro p4 p5)))))
  have PQ := Lib.hid (And.intro q0 (And.intro q1 (And.intro q2 (And.intro q3 (And.intro q4 q5)))))
  have r0 := (hb0.cell (p := ⟨bb, ob, none⟩) (block_lt_of_cell p0)).trans p0
  have r1 := (hb0.cell (p := ⟨bb, ob + 1 * 6, none⟩) (block_lt_of_cell q0)).trans q0
  have r2 : (((w.alloc (.cells #[.int .i64 x1, .int .i64 x2] 32)).alloc (.cells #[.slice (some ⟨bb, ob, none⟩) n c] 35)).alloc (.cells #[.slice none 0 0] 35)).cell? ⟨bb, ob + 6, none⟩ = some (.int .i64 ul) := r1
  have HQE := Lib.hid hq
  clear p0 p1 p2 p3 p4 p5 q0 q1 q2 q3 q4 q5 hf hg hq
  have H := Lib.hid (And.intro hF (And.intro hs (And.intro h hb0)))
  have HN := Lib.hid (And.intro hn (And.intro hcn hcm))
  have hll := bSize_len (f :: g :: r)
  simp only [List.length_cons] at hll
  have HLL := Lib.hid hll
  clear hF hs h hb0 st hn hcn hcm hll
  go_enter Tryz.func27, Tryz.ntmps27
  go_wp2_with fail
  generalize ((w.alloc (.cells #[.int .i64 x1, .int .i64 x2] 32)).alloc (.cells #[.slice (some ⟨bb, ob, none⟩) n c] 35)).alloc (.cells #[.slice none 0 0] 35) = w1 at *
  obtain ⟨b2, hb2⟩ : ∃ b, b = w.heap.size + 1 + 1 := ⟨_, rfl⟩
  obtain ⟨b1, hb1⟩ : ∃ b, b = w.heap.size + 1 := ⟨_, rfl⟩
  obtain ⟨b0, hb0⟩ : ∃ b, b = w.heap.size := ⟨_, rfl⟩
  rw [← hb2] at hz2 ⊢
  rw [← hb1] at hh1 ⊢
  rw [← hb0] at he0 ⊢
  have HO := Lib.hid (show b0 = w.heap.size ∧ b1 = w.heap.size + 1 ∧ b2 = w.heap.size + 2 ∧ w1.heap.size = w.heap.size + 3 from ⟨hb0, hb1, by omega, hsz⟩)
  clear hb0 hb1 hb2 hsz
  have HV := Lib.hid (And.intro he0 (And.intro hh1 hz2))
  have kc0 := fun d os => cell_regrown hh1.c0 d os
  have kc1 := fun d os => cell_regrown r0 d os
  have kc2 := fun d os => cell_regrown r1 d os
  have kc3 := fun d os => cell_regrown r2 d os
  rw [world_self w1]
  generalize w1.drawn = d0
  generalize (#[] : Array Obj) = os0
  refine wp_region_class (by kernel_rfl) (by kernel_rfl) ?_
  repeat (go_big_quiet_step (fail))
  refine wpQuiet_nil ?_
  intro _ hw'
  obtain ⟨⟨dq, osq⟩, hw''⟩ := hw'
  subst hw''
  have hbq := below_regrown w1 dq osq
  clear kc0 kc1 kc2 kc3
  generalize grow (redrawn w1 dq) osq = wq at *
  clear he0 hh1 hz2 r0 r1 r2
  have HQ := Lib.hid (And.intro hbq (H.out.2.2.2.trans (hbq.mono H.out.2.2.2.size)))
  have HFA := Lib.hid (show Far F (Fb F b2) w wq from ⟨fun k hk _ => HQ.out.2.block k hk, fun k hk hf => Fb.of hf (by have := HO.out; omega)⟩)
  have HFB := Lib.hid (show ∀ k, wq.heap.size ≤ k → Fb F b2 k from fun k hk => Fb.of (H.out.1 k (by have := HO.out; have := HQ.out.1.size; omega)) (by have := HO.out; have := HQ.out.1.size; omega))
  clear hbq
  have ec := elem_cells HV.out.1 HQ.out.1
  have ec0 := ec.1
  have ec1 := ec.2
  clear ec
  go_wp2_with fail
  ((with_reducible refine (refLeafT (Fb F b2) x1 x2 _).mono ?_); rintro e w4 ⟨kl, z1, z2, Ab, bl, cb, Ak, ck, sz, rfl, ht, hb4⟩)
  have H4 := Lib.hid (And.intro ht (And.intro (HQ.out.1.trans (hb4.mono HQ.out.1.size)) (HQ.out.2.trans (hb4.mono HQ.out.2.size))))
  have hl4 := (H.out.2.2.1.far HFA.out).stay hb4
  clear ht hb4 ec0 ec1
  obtain ⟨g1, g2, g3, g4, kc, gk, gC⟩ := hl4
  obtain ⟨A', c', w', hrun, hC', hA', hbw, hcap, hmx⟩ := append_kids2 (Fb F b2) w4 (fun k hk => Fb.of (H.out.1 k (by have h8 := H4.out.2.1.size; have := HO.out; omega)) (by have h8 := H4.out.2.1.size; have := HO.out; omega)) kl (z1, z2) (.slice Ab bl cb) (.slice Ak kl ck) sz (some ⟨bb, ob, none⟩) n c kc (by rw [gk.length, wood_len, ← g1]) gk.one gC g4 (by have := HN.out; have := HLL.out; have := H.out.2.1; omega)
  have HR := Lib.hid hrun
  have H5 := Lib.hid (And.intro hC' (And.intro hA' (And.intro hcap (And.intro hmx (And.intro gk (And.intro hbw g1))))))
  have hal := (Below.refl w4.heap.size w4).alloc (Nat.le_refl _) (.cells #[.int .i64 kl, .int .i64 z1, .int .i64 z2, .slice Ab bl cb, .slice Ak kl ck, .int .i64 sz] 104)
  have hv4 := (HV.out.2.1.stay H4.out.2.1).stay hal
  have hc4 := hv4.c0
  clear hrun hC' hA' hbw hcap hmx gk gC g1 g2 g3 g4 hal hv4
  go_wp2_with (first | (at_builtin; refine wpList_append_run rfl _ _ _ rfl _ _ _ _ rfl rfl HR.out ?_; have hz5 := (HV.out.2.2.stay H4.out.2.1).stay H5.out.2.2.2.2.2.1; clear hc4) | (refine wpList_store_h7 rfl _ _ rfl _ rfl rfl hz5 ?_; intro w7 ew7; have EW := Lib.hid ew7; clear ew7))
  have hz7 := hz5.put A' (n + 1) c'
  rw [← EW.out] at hz7
  have t0 := hz7.c0
  refine bodyPost_ret (v := .tuple #[.agg #[.slice A' (n + 1) c'], .int .i64 1]) (by simp [results, Tryz.results27, go_sem, t0]) rfl ?_
  obtain ⟨e1, e2, e3, e4⟩ := H4.out.1.1
  have hR := H4.out.1.2.stay H5.out.2.2.2.2.2.1
  subst e1 e2 e3
  have hat := HAt.cons hR (H5.out.2.2.2.2.1.far (Far.below H5.out.2.2.2.2.2.1)) H5.out.2.2.2.2.2.2 H5.out.2.2.1 H5.out.2.2.2.1 H5.out.2.1 (by rw [e4]; exact H5.out.1)
  refine ⟨A', n + 1, c', rfl, by rw [EW.out]; exact HAt.set (sIns_ne (x1, x2) HQE.out ▸ hat) _, ?_⟩
  rw [EW.out]
  exact (H4.out.2.2.trans (H5.out.2.2.2.2.2.1.mono H4.out.2.2.size)).setCell (p := ⟨b2, 0, none⟩) (by have := HO.out; show _ ≤ b2; omega) _

set_option maxRecDepth 100000 in
set_option maxHeartbeats 8000000 in
theorem refIns_eq (F : Nat → Prop) (f g : Tre) (r : List Tre) (hq : f.rank = g.rank) (x1 x2 : Int) (A : Option Addr) (n c : Nat) (w : World) (hF : ∀ k, w.heap.size ≤ k → F k) (hs : bSize (f :: g :: r) < 134217728) (h : HAt F w (f :: g :: r) A n c) :
    Calls Tryz.prog 27 #[.agg #[.int .i64 x1, .int .i64 x2], .agg #[.slice A n c]] w (GaveH F (sIns (f :: g :: r) (x1, x2)) 4 w) := by
  have hb0 := (((Below.refl w.heap.size w).alloc (Nat.le_refl _) (.cells #[.int .i64 x1, .int .i64 x2] 32)).alloc (by simp) (.cells #[.slice A n c] 35)).alloc (by simp; omega) (.cells #[.slice none 0 0] 35)
  have st : ∀ (u : World) (k : Nat) (o o' : Obj), u.heap[k]? = some o → (u.alloc o').heap[k]? = some o := fun u k o o' h => (((Below.refl u.heap.size u).alloc (Nat.le_refl _) o').block k (lt_of_heap h)).trans h
  have he0 : (((w.alloc (.cells #[.int .i64 x1, .int .i64 x2] 32)).alloc (.cells #[.slice A n c] 35)).alloc (.cells #[.slice none 0 0] 35)).heap[w.heap.size]? = some (.cells #[.int .i64 x1, .int .i64 x2] 32 (0, 0)) := st _ _ _ _ (st _ _ _ _ (new_at rfl))
  have hh1 : HV7 (((w.alloc (.cells #[.int .i64 x1, .int .i64 x2] 32)).alloc (.cells #[.slice A n c] 35)).alloc (.cells #[.slice none 0 0] 35)) (w.heap.size + 1) A n c := st _ _ _ _ (new_at (by simp))
  have hz2 : HV7 (((w.alloc (.cells #[.int .i64 x1, .int .i64 x2] 32)).alloc (.cells #[.slice A n c] 35)).alloc (.cells #[.slice none 0 0] 35)) (w.heap.size + 1 + 1) none 0 0 := new_at (by simp)
  have hsz : (((w.alloc (.cells #[.int .i64 x1, .int .i64 x2] 32)).alloc (.cells #[.slice A n c] 35)).alloc (.cells #[.slice none 0 0] 35)).heap.size = w.heap.size + 3 := by simp
  have hn := h.1
  have hcn := h.2.1
  have hcm := h.2.2.1
  simp only [List.length_cons] at hn
  obtain ⟨bb, ob, kl, z1, z2, Ab, bl, cb, Ak, ck, sz, rfl, -, ⟨p0, p1, p2, p3, p4, p5⟩, hf⟩ := h.firstT
  obtain ⟨ul, y1, y2, Bb, dl, db, Bk, dk, uz, ⟨q0, q1, q2, q3, q4, q5⟩, hg⟩ := h.atJ (j := 1) (by simp)
  change TIs F w g ul y1 y2 Bb dl db Bk dk uz at hg
  have HE := Lib.hid (show kl = f.rank ∧ ul = g.rank from ⟨hf.1.1, hg.1.1⟩)
  have z1_ : decide ((1 : Int) < (n : Int)) = true := by simp; omega
  have z2_ : (1 : Int) < (n : Int) := by omega
  have z3_ : (0 : Int) < (n : Int) := by omega
  have z4_ : 0 < n := by omega
  have z5_ : 1 < n := by omega
  have g1_ : ((kl : Int) == (ul : Int)) = true := by have := HE.out; simp; omega
  have g2_ : (kl : Int) = (ul : Int) := by have := HE.out; omega
  have HTF := Lib.hid (And.intro hf hg)
  have PP := Lib.hid (And.intro p0 (And.intro p1 (And.intro p2 (And.intro p3 (And.intro p4 p5)))))
  have PQ := Lib.hid (And.intro q0 (And.intro q1 (And.intro q2 (And.intro q3 (And.intro q4 q5)))))
  have r0 := (hb0.cell (p := ⟨bb, ob, none⟩) (block_lt_of_cell p0)).trans p0
  have r1 := (hb0.cell (p := ⟨bb, ob + 1 * 6, none⟩) (block_lt_of_cell q0)).trans q0
  have r2 : (((w.alloc (.cells #[.int .i64 x1, .int .i64 x2] 32)).alloc (.cells #[.slice (some ⟨bb, ob, none⟩) n c] 35)).alloc (.cells #[.slice none 0 0] 35)).cell? ⟨bb, ob + 6, none⟩ = some (.int .i64 ul) := r1
  have HQE := Lib.hid hq
  clear p0 p1 p2 p3 p4 p5 q0 q1 q2 q3 q4 q5 hf hg hq
  have H := Lib.hid (And.intro hF (And.intro hs (And.intro h hb0)))
  have HN := Lib.hid (And.intro hn (And.intro hcn hcm))
  have hll := bSize_len (f :: g :: r)
  simp only [List.length_cons] at hll
  have HLL := Lib.hid hll
  clear hF hs h hb0 st hn hcn hcm hll
  go_enter Tryz.func27, Tryz.ntmps27
  go_wp2_with fail
  generalize ((w.alloc (.cells #[.int .i64 x1, .int .i64 x2] 32)).alloc (.cells #[.slice (some ⟨bb, ob, none⟩) n c] 35)).alloc (.cells #[.slice none 0 0] 35) = w1 at *
  obtain ⟨b2, hb2⟩ : ∃ b, b = w.heap.size + 1 + 1 := ⟨_, rfl⟩
  obtain ⟨b1, hb1⟩ : ∃ b, b = w.heap.size + 1 := ⟨_, rfl⟩
  obtain ⟨b0, hb0⟩ : ∃ b, b = w.heap.size := ⟨_, rfl⟩
  rw [← hb2] at hz2 ⊢
  rw [← hb1] at hh1 ⊢
  rw [← hb0] at he0 ⊢
  have HO := Lib.hid (show b0 = w.heap.size ∧ b1 = w.heap.size + 1 ∧ b2 = w.heap.size + 2 ∧ w1.heap.size = w.heap.size + 3 from ⟨hb0, hb1, by omega, hsz⟩)
  clear hb0 hb1 hb2 hsz
  have HV := Lib.hid (And.intro he0 (And.intro hh1 hz2))
  have kc0 := fun d os => cell_regrown hh1.c0 d os
  have kc1 := fun d os => cell_regrown r0 d os
  have kc2 := fun d os => cell_regrown r1 d os
  have kc3 := fun d os => cell_regrown r2 d os
  rw [world_self w1]
  generalize w1.drawn = d0
  generalize (#[] : Array Obj) = os0
  refine wp_region_class (by kernel_rfl) (by kernel_rfl) ?_
  repeat (go_big_quiet_step (fail))
  refine wpQuiet_nil ?_
  intro _ hw'
  obtain ⟨⟨dq, osq⟩, hw''⟩ := hw'
  subst hw''
  have hbq := below_regrown w1 dq osq
  clear kc0 kc1 kc2 kc3
  generalize grow (redrawn w1 dq) osq = wq at *
  clear he0 hh1 hz2 r0 r1 r2
  have HQ := Lib.hid (And.intro hbq (H.out.2.2.2.trans (hbq.mono H.out.2.2.2.size)))
  have HFA := Lib.hid (show Far F (Fb F b2) w wq from ⟨fun k hk _ => HQ.out.2.block k hk, fun k hk hf => Fb.of hf (by have := HO.out; omega)⟩)
  have HFB := Lib.hid (show ∀ k, wq.heap.size ≤ k → Fb F b2 k from fun k hk => Fb.of (H.out.1 k (by have := HO.out; have := HQ.out.1.size; omega)) (by have := HO.out; have := HQ.out.1.size; omega))
  clear hbq
  have HS := Lib.hid (fun (w' : World) (hz : Below wq.heap.size wq w') => (show w'.cell? ⟨b0, 0, none⟩ = some (.int .i64 x1) ∧ w'.cell? ⟨b0, 1, none⟩ = some (.int .i64 x2) ∧ w'.cell? ⟨b1, 0, none⟩ = some (.slice (some ⟨bb, ob, none⟩) n c) ∧ w'.cell? ⟨bb, ob, none⟩ = some (.int .i64 kl) ∧ w'.cell? ⟨bb, ob + 1, none⟩ = some (.int .i64 z1) ∧ w'.cell? ⟨bb, ob + 2, none⟩ = some (.int .i64 z2) ∧ w'.cell? ⟨bb, ob + 3, none⟩ = some (.slice Ab bl cb) ∧ w'.cell? ⟨bb, ob + 4, none⟩ = some (.slice Ak kl ck) ∧ w'.cell? ⟨bb, ob + 5, none⟩ = some (.int .i64 sz) ∧ w'.cell? ⟨bb, ob + 1 * 6, none⟩ = some (.int .i64 ul) ∧ w'.cell? ⟨bb, ob + 1 * 6 + 1, none⟩ = some (.int .i64 y1) ∧ w'.cell? ⟨bb, ob + 1 * 6 + 2, none⟩ = some (.int .i64 y2) ∧ w'.cell? ⟨bb, ob + 1 * 6 + 3, none⟩ = some (.slice Bb dl db) ∧ w'.cell? ⟨bb, ob + 1 * 6 + 4, none⟩ = some (.slice Bk ul dk) ∧ w'.cell? ⟨bb, ob + 1 * 6 + 5, none⟩ = some (.int .i64 uz) from by
    have ec := elem_cells HV.out.1 (HQ.out.1.trans (hz.mono HQ.out.1.size))
    have hz1 := HQ.out.2.trans (hz.mono HQ.out.2.size)
    obtain ⟨p0, p1, p2, p3, p4, p5⟩ := PP.out
    obtain ⟨q0, q1, q2, q3, q4, q5⟩ := PQ.out
    exact ⟨ec.1, ec.2, (HV.out.2.1.stay (HQ.out.1.trans (hz.mono HQ.out.1.size))).c0, (hz1.cell (p := ⟨bb, ob, none⟩) (block_lt_of_cell p0)).trans p0, (hz1.cell (p := ⟨bb, ob + 1, none⟩) (block_lt_of_cell p1)).trans p1, (hz1.cell (p := ⟨bb, ob + 2, none⟩) (block_lt_of_cell p2)).trans p2, (hz1.cell (p := ⟨bb, ob + 3, none⟩) (block_lt_of_cell p3)).trans p3, (hz1.cell (p := ⟨bb, ob + 4, none⟩) (block_lt_of_cell p4)).trans p4, (hz1.cell (p := ⟨bb, ob + 5, none⟩) (block_lt_of_cell p5)).trans p5, (hz1.cell (p := ⟨bb, ob + 1 * 6, none⟩) (block_lt_of_cell q0)).trans q0, (hz1.cell (p := ⟨bb, ob + 1 * 6 + 1, none⟩) (block_lt_of_cell q1)).trans q1, (hz1.cell (p := ⟨bb, ob + 1 * 6 + 2, none⟩) (block_lt_of_cell q2)).trans q2, (hz1.cell (p := ⟨bb, ob + 1 * 6 + 3, none⟩) (block_lt_of_cell q3)).trans q3, (hz1.cell (p := ⟨bb, ob + 1 * 6 + 4, none⟩) (block_lt_of_cell q4)).trans q4, (hz1.cell (p := ⟨bb, ob + 1 * 6 + 5, none⟩) (block_lt_of_cell q5)).trans q5⟩))
  go_wp2_with fail
  clear g1_ g2_
  refine wp_after (R := fun a a' w' => ∃ (u28 u29 u30 u31 u32 u33 u34 u35 u36 u37 u27 u38 u39 : Value) (bv : Nat) (vl : Nat) (v1 v2 : Int) (Cb : Option Addr) (el eb : Nat) (Ck : Option Addr) (ek vz : Nat), a' = (((((((((((((((a.put (some 28) u28).put (some 29) u29).put (some 30) u30).put (some 31) u31).put (some 32) u32).put (some 33) u33).put (some 34) u34).put (some 35) u35).put (some 36) u36).put (some 37) u37).put (some 27) u27).put (some 38) u38).put (some 39) u39).put (some 6) (.pointer (some ⟨bv, 0, none⟩))).put (some 7) (.int .i64 4)) ∧ Below wq.heap.size wq w' ∧ TVar w' bv vl v1 v2 Cb el eb Ck ek vz ∧ TIs (Fb F b2) w' (skT (x1, x2) f g) vl v1 v2 Cb el eb Ck ek vz) ?_ ?_
  · have hd0 : Below wq.heap.size wq wq.drew := (Below.refl _ _).drew
    refine wp_region_noPanic ?_
    refine wp_region_held_drew (S := fun w' => w'.cell? ⟨b0, 0, none⟩ = some (.int .i64 x1) ∧ w'.cell? ⟨b0, 1, none⟩ = some (.int .i64 x2) ∧ w'.cell? ⟨b1, 0, none⟩ = some (.slice (some ⟨bb, ob, none⟩) n c) ∧ w'.cell? ⟨bb, ob, none⟩ = some (.int .i64 kl) ∧ w'.cell? ⟨bb, ob + 1, none⟩ = some (.int .i64 z1) ∧ w'.cell? ⟨bb, ob + 2, none⟩ = some (.int .i64 z2) ∧ w'.cell? ⟨bb, ob + 3, none⟩ = some (.slice Ab bl cb) ∧ w'.cell? ⟨bb, ob + 4, none⟩ = some (.slice Ak kl ck) ∧ w'.cell? ⟨bb, ob + 5, none⟩ = some (.int .i64 sz) ∧ w'.cell? ⟨bb, ob + 1 * 6, none⟩ = some (.int .i64 ul) ∧ w'.cell? ⟨bb, ob + 1 * 6 + 1, none⟩ = some (.int .i64 y1) ∧ w'.cell? ⟨bb, ob + 1 * 6 + 2, none⟩ = some (.int .i64 y2) ∧ w'.cell? ⟨bb, ob + 1 * 6 + 3, none⟩ = some (.slice Bb dl db) ∧ w'.cell? ⟨bb, ob + 1 * 6 + 4, none⟩ = some (.slice Bk ul dk) ∧ w'.cell? ⟨bb, ob + 1 * 6 + 5, none⟩ = some (.int .i64 uz)) (by kernel_rfl) (HS.out _ hd0) (fun hH => ?_)
    generalize wq.drew = wd at *
    refine wpAnyH_take (i := 0) (oi := { dst := some 28, op := Go.Op.load 32 (Go.Operand.tmp 2), type := 32, pos := "ref.go:16", after := #[], guard := none }) (v := ?v1_0_0) rfl (by as_aux_lemma => kernel_rfl) (by as_aux_lemma => kernel_rfl) (by as_aux_lemma => kernel_rfl) (fun _ _ _ h => h) (Or.inl ⟨(by as_aux_lemma => kernel_rfl), ?hy1_0_0⟩) hH ?rest1_0_0
    case hy1_0_0 => (intro w hSw; (try dsimp only at hSw); go_simp; try with_reducible rfl)
    try simp only [Act.put, List.setIfInBounds_toArray, List.set_cons_zero, List.set_cons_succ]
    refine wpAnyH_take (i := 1) (oi := { dst := some 29, op := Go.Op.fieldAddr 35 (Go.Operand.tmp 3) 0, type := 0, pos := "ref.go:16", after := #[], guard := none }) (v := ?v1_0_1) rfl (by as_aux_lemma => kernel_rfl) (by as_aux_lemma => kernel_rfl) (by as_aux_lemma => kernel_rfl) (fun _ _ _ h => h) (Or.inl ⟨(by as_aux_lemma => kernel_rfl), ?hy1_0_1⟩) hH ?rest1_0_1
    case hy1_0_1 => (intro w hSw; (try dsimp only at hSw); go_simp; try with_reducible rfl)
    try simp only [Act.put, List.setIfInBounds_toArray, List.set_cons_zero, List.set_cons_succ]
    refine wpAnyH_take (i := 2) (oi := { dst := some 30, op := Go.Op.load 33 (Go.Operand.tmp 29), type := 33, pos := "ref.go:16", after := #[{ on := 1, ground := Go.Ground.data }], guard := none }) (v := ?v1_0_2) rfl (by as_aux_lemma => kernel_rfl) (by as_aux_lemma => kernel_rfl) (by as_aux_lemma => kernel_rfl) (fun _ _ _ h => h) (Or.inl ⟨(by as_aux_lemma => kernel_rfl), ?hy1_0_2⟩) hH ?rest1_0_2
    case hy1_0_2 => (intro w hSw; (try dsimp only at hSw); go_simp; try with_reducible rfl)
    try simp only [Act.put, List.setIfInBounds_toArray, List.set_cons_zero, List.set_cons_succ]
    refine wpAnyH_take (i := 3) (oi := { dst := some 31, op := Go.Op.indexAddr 33 (Go.Operand.tmp 30) (Go.Operand.const (Go.Value.int Go.IntKind.i64 0)), type := 0, pos := "ref.go:16", after := #[{ on := 2, ground := Go.Ground.data }], guard := none }) (v := ?v1_0_3) rfl (by as_aux_lemma => kernel_rfl) (by as_aux_lemma => kernel_rfl) (by as_aux_lemma => kernel_rfl) (fun _ _ _ h => h) (Or.inl ⟨(by as_aux_lemma => kernel_rfl), ?hy1_0_3⟩) hH ?rest1_0_3
    case hy1_0_3 => (intro w hSw; (try dsimp only at hSw); go_simp; try with_reducible rfl)
    try simp only [Act.put, List.setIfInBounds_toArray, List.set_cons_zero, List.set_cons_succ]
    refine wpAnyH_take (i := 4) (oi := { dst := some 32, op := Go.Op.load 104 (Go.Operand.tmp 31), type := 104, pos := "ref.go:16", after := #[{ on := 3, ground := Go.Ground.data }], guard := none }) (v := ?v1_0_4) rfl (by as_aux_lemma => kernel_rfl) (by as_aux_lemma => kernel_rfl) (by as_aux_lemma => kernel_rfl) (fun _ _ _ h => h) (Or.inl ⟨(by as_aux_lemma => kernel_rfl), ?hy1_0_4⟩) hH ?rest1_0_4
    case hy1_0_4 => (intro w hSw; (try dsimp only at hSw); go_simp; try with_reducible rfl)
    try simp only [Act.put, List.setIfInBounds_toArray, List.set_cons_zero, List.set_cons_succ]
    refine wpAnyH_take (i := 5) (oi := { dst := some 33, op := Go.Op.fieldAddr 35 (Go.Operand.tmp 3) 0, type := 0, pos := "ref.go:16", after := #[], guard := none }) (v := ?v1_0_5) rfl (by as_aux_lemma => kernel_rfl) (by as_aux_lemma => kernel_rfl) (by as_aux_lemma => kernel_rfl) (fun _ _ _ h => h) (Or.inl ⟨(by as_aux_lemma => kernel_rfl), ?hy1_0_5⟩) hH ?rest1_0_5
    case hy1_0_5 => (intro w hSw; (try dsimp only at hSw); go_simp; try with_reducible rfl)
    try simp only [Act.put, List.setIfInBounds_toArray, List.set_cons_zero, List.set_cons_succ]
    refine wpAnyH_take (i := 6) (oi := { dst := some 34, op := Go.Op.load 33 (Go.Operand.tmp 33), type := 33, pos := "ref.go:16", after := #[{ on := 5, ground := Go.Ground.data }], guard := none }) (v := ?v1_0_6) rfl (by as_aux_lemma => kernel_rfl) (by as_aux_lemma => kernel_rfl) (by as_aux_lemma => kernel_rfl) (fun _ _ _ h => h) (Or.inl ⟨(by as_aux_lemma => kernel_rfl), ?hy1_0_6⟩) hH ?rest1_0_6
    case hy1_0_6 => (intro w hSw; (try dsimp only at hSw); go_simp; try with_reducible rfl)
    try simp only [Act.put, List.setIfInBounds_toArray, List.set_cons_zero, List.set_cons_succ]
    refine wpAnyH_take (i := 7) (oi := { dst := some 35, op := Go.Op.indexAddr 33 (Go.Operand.tmp 34) (Go.Operand.const (Go.Value.int Go.IntKind.i64 1)), type := 0, pos := "ref.go:16", after := #[{ on := 6, ground := Go.Ground.data }], guard := none }) (v := ?v1_0_7) rfl (by as_aux_lemma => kernel_rfl) (by as_aux_lemma => kernel_rfl) (by as_aux_lemma => kernel_rfl) (fun _ _ _ h => h) (Or.inl ⟨(by as_aux_lemma => kernel_rfl), ?hy1_0_7⟩) hH ?rest1_0_7
    case hy1_0_7 => (intro w hSw; (try dsimp only at hSw); go_simp; try with_reducible rfl)
    try simp only [Act.put, List.setIfInBounds_toArray, List.set_cons_zero, List.set_cons_succ]
    refine wpAnyH_take (i := 8) (oi := { dst := some 36, op := Go.Op.load 104 (Go.Operand.tmp 35), type := 104, pos := "ref.go:16", after := #[{ on := 7, ground := Go.Ground.data }], guard := none }) (v := ?v1_0_8) rfl (by as_aux_lemma => kernel_rfl) (by as_aux_lemma => kernel_rfl) (by as_aux_lemma => kernel_rfl) (fun _ _ _ h => h) (Or.inl ⟨(by as_aux_lemma => kernel_rfl), ?hy1_0_8⟩) hH ?rest1_0_8
    case hy1_0_8 => (intro w hSw; (try dsimp only at hSw); go_simp; try with_reducible rfl)
    try simp only [Act.put, List.setIfInBounds_toArray, List.set_cons_zero, List.set_cons_succ]
    refine wpAnyH_ready (rs := [9, 13]) (by as_aux_lemma => kernel_rfl) (by simp) ?_
    refine AllReadyH.cons (o := { dst := some 37, op := Go.Op.call { callee := Go.Callee.value (Go.Operand.func 50), args := #[Go.Operand.tmp 28, Go.Operand.tmp 32, Go.Operand.tmp 36], argTypes := #[32, 104, 104] }, type := 105, pos := "ref.go:16", after := #[{ on := 0, ground := Go.Ground.data }, { on := 4, ground := Go.Ground.data }, { on := 8, ground := Go.Ground.data }], guard := none }) rfl (fun K hK => ?_) (AllReadyH.cons (o := { dst := some 6, op := Go.Op.alloc 104, type := 0, pos := "ref.go:16", after := #[], guard := none }) rfl (fun K hK => ?_) AllReadyH.nil)
    · have hdw := HQ.out.2.trans (hd0.mono HQ.out.2.size)
      have hFoA : ∀ k, wd.heap.size ≤ k → Fb F b2 k := fun k hk => HFB.out k (Nat.le_trans hd0.size hk)
      have rA := (HTF.out.1.far HFA.out).stay hd0
      have rB := (HTF.out.2.far HFA.out).stay hd0
      go_simp
      go_at_call 50
      (with_reducible refine (refSkewT _ hFoA rA rB (by have := H.out.2.1; simp only [bSize] at this; omega)).mono ?_)
      rintro e w9 ⟨vl, v1, v2, Cb, el, eb, Ck, ek, vz, rfl, ht9, hb9⟩
      refine hK.out _ _ ?_ (fun hH2 => ?_)
      · exact HS.out _ (hd0.trans (hb9.mono hd0.size))
      clear hK K hH
      have hH := hH2
      clear hH2
      have hbx0 := hd0.trans (hb9.mono hd0.size)
      try simp only [Act.put, List.setIfInBounds_toArray, List.set_cons_zero, List.set_cons_succ]
      refine wpAnyH_take (i := 10) (oi := { dst := some 27, op := Go.Op.move (Go.Operand.tmp 37), type := 105, pos := "ref.go:16", after := #[{ on := 9, ground := Go.Ground.data }], guard := none }) (v := ?v1_1_10) rfl (by as_aux_lemma => kernel_rfl) (by as_aux_lemma => kernel_rfl) (by as_aux_lemma => kernel_rfl) (fun _ _ _ h => h) (Or.inl ⟨(by as_aux_lemma => kernel_rfl), ?hy1_1_10⟩) hH ?rest1_1_10
      case hy1_1_10 => (intro w hSw; (try dsimp only at hSw); go_simp; try with_reducible rfl)
      try simp only [Act.put, List.setIfInBounds_toArray, List.set_cons_zero, List.set_cons_succ]
      refine wpAnyH_take (i := 11) (oi := { dst := some 38, op := Go.Op.extract (Go.Operand.tmp 27) 0, type := 104, pos := "ref.go:16", after := #[{ on := 10, ground := Go.Ground.data }], guard := none }) (v := ?v1_1_11) rfl (by as_aux_lemma => kernel_rfl) (by as_aux_lemma => kernel_rfl) (by as_aux_lemma => kernel_rfl) (fun _ _ _ h => h) (Or.inl ⟨(by as_aux_lemma => kernel_rfl), ?hy1_1_11⟩) hH ?rest1_1_11
      case hy1_1_11 => (intro w hSw; (try dsimp only at hSw); go_simp; try with_reducible rfl)
      try simp only [Act.put, List.setIfInBounds_toArray, List.set_cons_zero, List.set_cons_succ]
      refine wpAnyH_take (i := 12) (oi := { dst := some 39, op := Go.Op.extract (Go.Operand.tmp 27) 1, type := 3, pos := "ref.go:16", after := #[{ on := 10, ground := Go.Ground.data }, { on := 14, ground := Go.Ground.gcOnly Go.Departure.lateStores }], guard := none }) (v := ?v1_1_12) rfl (by as_aux_lemma => kernel_rfl) (by as_aux_lemma => kernel_rfl) (by as_aux_lemma => kernel_rfl) (fun _ _ _ h => h) (Or.inl ⟨(by as_aux_lemma => kernel_rfl), ?hy1_1_12⟩) hH ?rest1_1_12
      case hy1_1_12 => (intro w hSw; (try dsimp only at hSw); go_simp; try with_reducible rfl)
      try simp only [Act.put, List.setIfInBounds_toArray, List.set_cons_zero, List.set_cons_succ]
      refine wpAnyH_ready (rs := [13]) (by as_aux_lemma => kernel_rfl) (by simp) ?_
      refine AllReadyH.cons (o := { dst := some 6, op := Go.Op.alloc 104, type := 0, pos := "ref.go:16", after := #[], guard := none }) rfl (fun K hK => ?_) AllReadyH.nil
      go_simp
      refine hK.out _ _ ?_ (fun hH2 => ?_)
      · exact HS.out _ (hbx0.alloc hbx0.size _)
      clear hK K hH
      have hH := hH2
      clear hH2
      have hv : TVar (w9.alloc (.cells #[.int .i64 0, .int .i64 0, .int .i64 0, .slice none 0 0, .slice none 0 0, .int .i64 0] 104)) w9.heap.size 0 0 0 none 0 0 none 0 0 := new_at rfl
      have hbx := hbx0.alloc hbx0.size (.cells #[.int .i64 0, .int .i64 0, .int .i64 0, .slice none 0 0, .slice none 0 0, .int .i64 0] 104)
      have htx := ht9.far (F' := Fb (Fb F b2) w9.heap.size) (W' := w9.alloc (.cells #[.int .i64 0, .int .i64 0, .int .i64 0, .slice none 0 0, .slice none 0 0, .int .i64 0] 104)) ⟨fun k hk _ => ((Below.refl _ w9).alloc (Nat.le_refl _) _).block k hk, fun k hk hf => Fb.of hf (by omega)⟩
      have hSR0 : wq.heap.size ≤ w9.heap.size := hbx0.size
      obtain ⟨bv, hbv⟩ : ∃ b, b = w9.heap.size := ⟨_, rfl⟩
      rw [← hbv] at hv htx hSR0 ⊢
      have hSR := hSR0
      clear hbv hb9 ht9 hbx0 hSR0
      generalize w9.alloc (.cells #[.int .i64 0, .int .i64 0, .int .i64 0, .slice none 0 0, .slice none 0 0, .int .i64 0] 104) = w10 at *
      try simp only [Act.put, List.setIfInBounds_toArray, List.set_cons_zero, List.set_cons_succ]
      have sv0 := hv.hex.c0
      have sz0 := hv.hex.z0
      have sv1 := hv.hex.c1
      have sz1 := hv.hex.z1
      have sv2 := hv.hex.c2
      have sz2 := hv.hex.z2
      have sv3 := hv.hex.c3
      have sz3 := hv.hex.z3
      have sv4 := hv.hex.c4
      have sz4 := hv.hex.z4
      have sv5 := hv.hex.c5
      have sz5 := hv.hex.z5
      refine wpAnyH_ready (rs := [14]) (by as_aux_lemma => kernel_rfl) (by simp) ?_
      refine AllReadyH.cons (o := { dst := none, op := Go.Op.store 104 (Go.Operand.tmp 6) (Go.Operand.tmp 38), type := 0, pos := "ref.go:16", after := #[{ on := 13, ground := Go.Ground.data }, { on := 11, ground := Go.Ground.data }, { on := 9, ground := Go.Ground.chain }, { on := 0, ground := Go.Ground.phase }, { on := 1, ground := Go.Ground.phase }, { on := 2, ground := Go.Ground.phase }, { on := 3, ground := Go.Ground.phase }, { on := 4, ground := Go.Ground.phase }, { on := 5, ground := Go.Ground.phase }, { on := 6, ground := Go.Ground.phase }, { on := 7, ground := Go.Ground.phase }, { on := 8, ground := Go.Ground.phase }, { on := 9, ground := Go.Ground.phase }, { on := 10, ground := Go.Ground.phase }, { on := 11, ground := Go.Ground.phase }, { on := 12, ground := Go.Ground.textOnly Go.Departure.lateStores }, { on := 13, ground := Go.Ground.phase }], guard := none }) rfl (fun K hK => ?_) AllReadyH.nil
      go_simp
      refine hK.out _ _ ?_ (fun hH2 => ?_)
      · exact HS.out _ (set6_below hbx hSR _ _ _ _ _ _)
      clear hK K hH
      have hH := hH2
      clear hH2
      have hvz := hv.wrote vl v1 v2 Cb el eb Ck ek vz
      have hbz := set6_below hbx hSR (.int .i64 vl) (.int .i64 v1) (.int .i64 v2) (.slice Cb el eb) (.slice Ck vl ek) (.int .i64 vz)
      have htz := htx.far (F' := Fb F b2) (W' := set6 w10 bv (.int .i64 vl) (.int .i64 v1) (.int .i64 v2) (.slice Cb el eb) (.slice Ck vl ek) (.int .i64 vz)) ⟨fun k hk hf => set6_far _ _ _ _ _ _ _ _ k hf.2, fun _ _ hf => hf.1⟩
      simp only [set6] at hvz hbz htz
      clear sv0 sz0 sv1 sz1 sv2 sz2 sv3 sz3 sv4 sz4 sv5 sz5
      generalize (((((w10.setCell ⟨bv, 0, none⟩ (.int .i64 vl)).setCell ⟨bv, 1, none⟩ (.int .i64 v1)).setCell ⟨bv, 2, none⟩ (.int .i64 v2)).setCell ⟨bv, 3, none⟩ (.slice Cb el eb)).setCell ⟨bv, 4, none⟩ (.slice Ck vl ek)).setCell ⟨bv, 5, none⟩ (.int .i64 vz) = w11 at *
      try simp only [Act.put, List.setIfInBounds_toArray, List.set_cons_zero, List.set_cons_succ]
      refine wpAnyH_ready (rs := [15]) (by as_aux_lemma => kernel_rfl) (by simp) ?_
      refine AllReadyH.cons (o := { dst := some 7, op := Go.Op.assign (Go.Operand.tmp 39), type := 3, pos := "ref.go:16", after := #[{ on := 12, ground := Go.Ground.data }, { on := 14, ground := Go.Ground.chain }, { on := 0, ground := Go.Ground.phase }, { on := 1, ground := Go.Ground.phase }, { on := 2, ground := Go.Ground.phase }, { on := 3, ground := Go.Ground.phase }, { on := 4, ground := Go.Ground.phase }, { on := 5, ground := Go.Ground.phase }, { on := 6, ground := Go.Ground.phase }, { on := 7, ground := Go.Ground.phase }, { on := 8, ground := Go.Ground.phase }, { on := 9, ground := Go.Ground.phase }, { on := 10, ground := Go.Ground.phase }, { on := 11, ground := Go.Ground.phase }, { on := 12, ground := Go.Ground.phase }, { on := 13, ground := Go.Ground.phase }, { on := 14, ground := Go.Ground.phase }], guard := none }) rfl (fun K hK => ?_) AllReadyH.nil
      go_simp
      refine hK.out _ _ ?_ (fun hH2 => ?_)
      · exact HS.out _ hbz
      clear hK K hH
      have hH := hH2
      clear hH2
      try simp only [Act.put, List.setIfInBounds_toArray, List.set_cons_zero, List.set_cons_succ]
      refine wpAnyH_done (by as_aux_lemma => kernel_rfl) ?_ _
      refine NoPanic.normal ?_
      clear hH
      exact ⟨rfl, _, _, _, _, _, _, _, _, _, _, _, _, _, bv, vl, v1, v2, Cb, el, eb, Ck, ek, vz, by (try simp only [Act.put, List.setIfInBounds_toArray, List.set_cons_zero, List.set_cons_succ]); rfl, hbz, hvz, htz⟩
    · go_simp
      refine hK.out _ _ ?_ (fun hH2 => ?_)
      · exact HS.out _ (hd0.alloc hd0.size _)
      clear hK K hH
      have hH := hH2
      clear hH2
      have hv : TVar (wd.alloc (.cells #[.int .i64 0, .int .i64 0, .int .i64 0, .slice none 0 0, .slice none 0 0, .int .i64 0] 104)) wd.heap.size 0 0 0 none 0 0 none 0 0 := new_at rfl
      have hdx := hd0.alloc hd0.size (.cells #[.int .i64 0, .int .i64 0, .int .i64 0, .slice none 0 0, .slice none 0 0, .int .i64 0] 104)
      have hsx : (wd.alloc (.cells #[.int .i64 0, .int .i64 0, .int .i64 0, .slice none 0 0, .slice none 0 0, .int .i64 0] 104)).heap.size = wd.heap.size + 1 := by simp
      obtain ⟨bv, hbv⟩ : ∃ b, b = wd.heap.size := ⟨_, rfl⟩
      rw [← hbv] at hv hsx ⊢
      have hFo2 : ∀ k, (wd.alloc (.cells #[.int .i64 0, .int .i64 0, .int .i64 0, .slice none 0 0, .slice none 0 0, .int .i64 0] 104)).heap.size ≤ k → Fb (Fb F b2) bv k := fun k hk => Fb.of (HFB.out k (by have := hd0.size; omega)) (by omega)
      have hSR : wq.heap.size ≤ bv := by have := hd0.size; omega
      have r9a := ((HTF.out.1.far HFA.out).stay hd0).far (F' := Fb (Fb F b2) bv) (W' := wd.alloc (.cells #[.int .i64 0, .int .i64 0, .int .i64 0, .slice none 0 0, .slice none 0 0, .int .i64 0] 104)) ⟨fun k hk _ => ((Below.refl _ wd).alloc (Nat.le_refl _) _).block k hk, fun k hk hf => Fb.of hf (by omega)⟩
      have r9b := ((HTF.out.2.far HFA.out).stay hd0).far (F' := Fb (Fb F b2) bv) (W' := wd.alloc (.cells #[.int .i64 0, .int .i64 0, .int .i64 0, .slice none 0 0, .slice none 0 0, .int .i64 0] 104)) ⟨fun k hk _ => ((Below.refl _ wd).alloc (Nat.le_refl _) _).block k hk, fun k hk hf => Fb.of hf (by omega)⟩
      clear hbv hsx
      generalize wd.alloc (.cells #[.int .i64 0, .int .i64 0, .int .i64 0, .slice none 0 0, .slice none 0 0, .int .i64 0] 104) = wx at *
      try simp only [Act.put, List.setIfInBounds_toArray, List.set_cons_zero, List.set_cons_succ]
      refine wpAnyH_ready (rs := [9]) (by as_aux_lemma => kernel_rfl) (by simp) ?_
      refine AllReadyH.cons (o := { dst := some 37, op := Go.Op.call { callee := Go.Callee.value (Go.Operand.func 50), args := #[Go.Operand.tmp 28, Go.Operand.tmp 32, Go.Operand.tmp 36], argTypes := #[32, 104, 104] }, type := 105, pos := "ref.go:16", after := #[{ on := 0, ground := Go.Ground.data }, { on := 4, ground := Go.Ground.data }, { on := 8, ground := Go.Ground.data }], guard := none }) rfl (fun K hK => ?_) AllReadyH.nil
      go_simp
      go_at_call 50
      (with_reducible refine (refSkewT _ hFo2 r9a r9b (by have := H.out.2.1; simp only [bSize] at this; omega)).mono ?_)
      rintro e w9 ⟨vl, v1, v2, Cb, el, eb, Ck, ek, vz, rfl, ht9, hb9⟩
      refine hK.out _ _ ?_ (fun hH2 => ?_)
      · exact HS.out _ (hdx.trans (hb9.mono hdx.size))
      clear hK K hH
      have hH := hH2
      clear hH2
      have hbx := hdx.trans (hb9.mono hdx.size)
      replace hv := hv.stay hb9
      have htx := ht9
      clear hb9 ht9
      try simp only [Act.put, List.setIfInBounds_toArray, List.set_cons_zero, List.set_cons_succ]
      refine wpAnyH_take (i := 10) (oi := { dst := some 27, op := Go.Op.move (Go.Operand.tmp 37), type := 105, pos := "ref.go:16", after := #[{ on := 9, ground := Go.Ground.data }], guard := none }) (v := ?v1_2_10) rfl (by as_aux_lemma => kernel_rfl) (by as_aux_lemma => kernel_rfl) (by as_aux_lemma => kernel_rfl) (fun _ _ _ h => h) (Or.inl ⟨(by as_aux_lemma => kernel_rfl), ?hy1_2_10⟩) hH ?rest1_2_10
      case hy1_2_10 => (intro w hSw; (try dsimp only at hSw); go_simp; try with_reducible rfl)
      try simp only [Act.put, List.setIfInBounds_toArray, List.set_cons_zero, List.set_cons_succ]
      refine wpAnyH_take (i := 11) (oi := { dst := some 38, op := Go.Op.extract (Go.Operand.tmp 27) 0, type := 104, pos := "ref.go:16", after := #[{ on := 10, ground := Go.Ground.data }], guard := none }) (v := ?v1_2_11) rfl (by as_aux_lemma => kernel_rfl) (by as_aux_lemma => kernel_rfl) (by as_aux_lemma => kernel_rfl) (fun _ _ _ h => h) (Or.inl ⟨(by as_aux_lemma => kernel_rfl), ?hy1_2_11⟩) hH ?rest1_2_11
      case hy1_2_11 => (intro w hSw; (try dsimp only at hSw); go_simp; try with_reducible rfl)
      try simp only [Act.put, List.setIfInBounds_toArray, List.set_cons_zero, List.set_cons_succ]
      refine wpAnyH_take (i := 12) (oi := { dst := some 39, op := Go.Op.extract (Go.Operand.tmp 27) 1, type := 3, pos := "ref.go:16", after := #[{ on := 10, ground := Go.Ground.data }, { on := 14, ground := Go.Ground.gcOnly Go.Departure.lateStores }], guard := none }) (v := ?v1_2_12) rfl (by as_aux_lemma => kernel_rfl) (by as_aux_lemma => kernel_rfl) (by as_aux_lemma => kernel_rfl) (fun _ _ _ h => h) (Or.inl ⟨(by as_aux_lemma => kernel_rfl), ?hy1_2_12⟩) hH ?rest1_2_12
      case hy1_2_12 => (intro w hSw; (try dsimp only at hSw); go_simp; try with_reducible rfl)
      try simp only [Act.put, List.setIfInBounds_toArray, List.set_cons_zero, List.set_cons_succ]
      have sv0 := hv.hex.c0
      have sz0 := hv.hex.z0
      have sv1 := hv.hex.c1
      have sz1 := hv.hex.z1
      have sv2 := hv.hex.c2
      have sz2 := hv.hex.z2
      have sv3 := hv.hex.c3
      have sz3 := hv.hex.z3
      have sv4 := hv.hex.c4
      have sz4 := hv.hex.z4
      have sv5 := hv.hex.c5
      have sz5 := hv.hex.z5
      generalize w9 = w10 at *
      refine wpAnyH_ready (rs := [14]) (by as_aux_lemma => kernel_rfl) (by simp) ?_
      refine AllReadyH.cons (o := { dst := none, op := Go.Op.store 104 (Go.Operand.tmp 6) (Go.Operand.tmp 38), type := 0, pos := "ref.go:16", after := #[{ on := 13, ground := Go.Ground.data }, { on := 11, ground := Go.Ground.data }, { on := 9, ground := Go.Ground.chain }, { on := 0, ground := Go.Ground.phase }, { on := 1, ground := Go.Ground.phase }, { on := 2, ground := Go.Ground.phase }, { on := 3, ground := Go.Ground.phase }, { on := 4, ground := Go.Ground.phase }, { on := 5, ground := Go.Ground.phase }, { on := 6, ground := Go.Ground.phase }, { on := 7, ground := Go.Ground.phase }, { on := 8, ground := Go.Ground.phase }, { on := 9, ground := Go.Ground.phase }, { on := 10, ground := Go.Ground.phase }, { on := 11, ground := Go.Ground.phase }, { on := 12, ground := Go.Ground.textOnly Go.Departure.lateStores }, { on := 13, ground := Go.Ground.phase }], guard := none }) rfl (fun K hK => ?_) AllReadyH.nil
      go_simp
      refine hK.out _ _ ?_ (fun hH2 => ?_)
      · exact HS.out _ (set6_below hbx hSR _ _ _ _ _ _)
      clear hK K hH
      have hH := hH2
      clear hH2
      have hvz := hv.wrote vl v1 v2 Cb el eb Ck ek vz
      have hbz := set6_below hbx hSR (.int .i64 vl) (.int .i64 v1) (.int .i64 v2) (.slice Cb el eb) (.slice Ck vl ek) (.int .i64 vz)
      have htz := htx.far (F' := Fb F b2) (W' := set6 w10 bv (.int .i64 vl) (.int .i64 v1) (.int .i64 v2) (.slice Cb el eb) (.slice Ck vl ek) (.int .i64 vz)) ⟨fun k hk hf => set6_far _ _ _ _ _ _ _ _ k hf.2, fun _ _ hf => hf.1⟩
      simp only [set6] at hvz hbz htz
      clear sv0 sz0 sv1 sz1 sv2 sz2 sv3 sz3 sv4 sz4 sv5 sz5
      generalize (((((w10.setCell ⟨bv, 0, none⟩ (.int .i64 vl)).setCell ⟨bv, 1, none⟩ (.int .i64 v1)).setCell ⟨bv, 2, none⟩ (.int .i64 v2)).setCell ⟨bv, 3, none⟩ (.slice Cb el eb)).setCell ⟨bv, 4, none⟩ (.slice Ck vl ek)).setCell ⟨bv, 5, none⟩ (.int .i64 vz) = w11 at *
      try simp only [Act.put, List.setIfInBounds_toArray, List.set_cons_zero, List.set_cons_succ]
      refine wpAnyH_ready (rs := [15]) (by as_aux_lemma => kernel_rfl) (by simp) ?_
      refine AllReadyH.cons (o := { dst := some 7, op := Go.Op.assign (Go.Operand.tmp 39), type := 3, pos := "ref.go:16", after := #[{ on := 12, ground := Go.Ground.data }, { on := 14, ground := Go.Ground.chain }, { on := 0, ground := Go.Ground.phase }, { on := 1, ground := Go.Ground.phase }, { on := 2, ground := Go.Ground.phase }, { on := 3, ground := Go.Ground.phase }, { on := 4, ground := Go.Ground.phase }, { on := 5, ground := Go.Ground.phase }, { on := 6, ground := Go.Ground.phase }, { on := 7, ground := Go.Ground.phase }, { on := 8, ground := Go.Ground.phase }, { on := 9, ground := Go.Ground.phase }, { on := 10, ground := Go.Ground.phase }, { on := 11, ground := Go.Ground.phase }, { on := 12, ground := Go.Ground.phase }, { on := 13, ground := Go.Ground.phase }, { on := 14, ground := Go.Ground.phase }], guard := none }) rfl (fun K hK => ?_) AllReadyH.nil
      go_simp
      refine hK.out _ _ ?_ (fun hH2 => ?_)
      · exact HS.out _ hbz
      clear hK K hH
      have hH := hH2
      clear hH2
      try simp only [Act.put, List.setIfInBounds_toArray, List.set_cons_zero, List.set_cons_succ]
      refine wpAnyH_done (by as_aux_lemma => kernel_rfl) ?_ _
      refine NoPanic.normal ?_
      clear hH
      exact ⟨rfl, _, _, _, _, _, _, _, _, _, _, _, _, _, bv, vl, v1, v2, Cb, el, eb, Ck, ek, vz, by (try simp only [Act.put, List.setIfInBounds_toArray, List.set_cons_zero, List.set_cons_succ]); rfl, hbz, hvz, htz⟩
  rintro a' w' ⟨u28, u29, u30, u31, u32, u33, u34, u35, u36, u37, u27, u38, u39, bv, vl, v1, v2, Cb, el, eb, Ck, ek, vz, rfl, hbz, hvz, htz⟩
  try simp only [Act.put, List.setIfInBounds_toArray, List.set_cons_zero, List.set_cons_succ]
  have Z := Lib.hid (And.intro (HQ.out.1.trans (hbz.mono HQ.out.1.size)) (And.intro (HQ.out.2.trans (hbz.mono HQ.out.2.size)) (And.intro hvz (And.intro htz hbz))))
  have hrest := ((H.out.2.2.1.far HFA.out).stay hbz).rest2
  have HREST := Lib.hid hrest
  clear hbz hrest
  have cv0 := hvz.hex.c0
  have cv1 := hvz.hex.c1
  have cv2 := hvz.hex.c2
  have cv3 := hvz.hex.c3
  have cv4 := hvz.hex.c4
  have cv5 := hvz.hex.c5
  clear hvz htz
  by_cases hc2 : c = 2
  · subst hc2
    have hn2 : n = 2 := by have := HN.out; omega
    subst hn2
    have hl4 := HREST.out.1 rfl
    obtain ⟨g1, g2, g3, g4, kc, gk, gC⟩ := hl4
    obtain ⟨A', c', w5, hrun, hC', hA', hbw, hcap, hmx⟩ := append_kids2 (Fb F b2) w' (fun k hk => HFB.out k (Nat.le_trans Z.out.2.2.2.2.size hk)) vl (v1, v2) (.slice Cb el eb) (.slice Ck vl ek) vz (some ⟨bb, ob, none⟩) 0 0 kc (by rw [gk.length, wood_len, ← g1]) gk.one gC g4 (by have := HN.out; have := HLL.out; have := H.out.2.1; omega)
    have HR := Lib.hid hrun
    have H5 := Lib.hid (And.intro hC' (And.intro hA' (And.intro hcap (And.intro hmx (And.intro gk (And.intro hbw g1))))))
    have hal := (Below.refl w'.heap.size w').alloc (Nat.le_refl _) (.cells #[.int .i64 vl, .int .i64 v1, .int .i64 v2, .slice Cb el eb, .slice Ck vl ek, .int .i64 vz] 104)
    have hc4 := ((HV.out.2.1.stay Z.out.1).stay hal).c0
    clear hrun hC' hA' hbw hcap hmx gk gC g1 g2 g3 g4 hal
    go_wp2_with (first | (at_builtin; refine wpList_append_run rfl _ _ _ rfl _ _ _ _ rfl rfl HR.out ?_; have hz5 := (HV.out.2.2.stay Z.out.1).stay H5.out.2.2.2.2.2.1; clear hc4) | (refine wpList_store_h7 rfl _ _ rfl _ rfl rfl hz5 ?_; intro w7 ew7; have EW := Lib.hid ew7; clear ew7))
    have hz7 := hz5.put A' (0 + 1) c'
    rw [← EW.out] at hz7
    have t0 := hz7.c0
    refine bodyPost_ret (v := .tuple #[.agg #[.slice A' (0 + 1) c'], .int .i64 4]) (by simp [results, Tryz.results27, go_sem, t0]) rfl ?_
    obtain ⟨e1, e2, e3, e4⟩ := Z.out.2.2.2.1.1
    have hR := Z.out.2.2.2.1.2.stay H5.out.2.2.2.2.2.1
    subst e1 e2 e3
    have hat := HAt.cons hR (H5.out.2.2.2.2.1.far (Far.below H5.out.2.2.2.2.2.1)) H5.out.2.2.2.2.2.2 H5.out.2.2.1 H5.out.2.2.2.1 H5.out.2.1 (by rw [e4]; exact H5.out.1)
    refine ⟨A', 0 + 1, c', rfl, by rw [EW.out]; exact HAt.set (sIns_eq (x1, x2) HQE.out ▸ hat) _, ?_⟩
    rw [EW.out]
    exact (Z.out.2.1.trans (H5.out.2.2.2.2.2.1.mono Z.out.2.1.size)).setCell (p := ⟨b2, 0, none⟩) (by have := HO.out; show _ ≤ b2; omega) _
  · have hl4 := HREST.out.2
    have hcn := HN.out
    have m0 : ¬ n < 2 := by omega
    have m1 : 2 ≤ n := by omega
    have m2 : (2 : Int) ≤ (n : Int) := by omega
    have m3 : ¬ (n : Int) < 2 := by omega
    have m4 : ¬ 2 = c := by omega
    have m5 : 0 < c := by omega
    have m6 : (n : Int) ≤ (c : Int) := by omega
    have m7 : (2 : Int) ≤ (c : Int) := by omega
    have m8 : ¬ c - 2 = 0 := by omega
    have m9 : ¬ c ≤ 2 := by omega
    have m10 : 2 < c := by omega
    have m11 : 2 ≤ c := by omega
    clear hcn
    obtain ⟨g1, g2, g3, g4, kc, gk, gC⟩ := hl4
    obtain ⟨A', c', w5, hrun, hC', hA', hbw, hcap, hmx⟩ := append_kids2 (Fb F b2) w' (fun k hk => HFB.out k (Nat.le_trans Z.out.2.2.2.2.size hk)) vl (v1, v2) (.slice Cb el eb) (.slice Ck vl ek) vz (some ⟨bb, ob + 2 * 6, none⟩) (n - 2) (c - 2) kc (by rw [gk.length, wood_len, ← g1]) gk.one gC g4 (by have := HN.out; have := HLL.out; have := H.out.2.1; omega)
    have HR := Lib.hid hrun
    have H5 := Lib.hid (And.intro hC' (And.intro hA' (And.intro hcap (And.intro hmx (And.intro gk (And.intro hbw g1))))))
    have hal := (Below.refl w'.heap.size w').alloc (Nat.le_refl _) (.cells #[.int .i64 vl, .int .i64 v1, .int .i64 v2, .slice Cb el eb, .slice Ck vl ek, .int .i64 vz] 104)
    have hc4 := ((HV.out.2.1.stay Z.out.1).stay hal).c0
    clear hrun hC' hA' hbw hcap hmx gk gC g1 g2 g3 g4 hal
    go_wp2_with (first | (at_builtin; refine wpList_append_run rfl _ _ _ rfl _ _ _ _ rfl rfl HR.out ?_; have hz5 := (HV.out.2.2.stay Z.out.1).stay H5.out.2.2.2.2.2.1; clear hc4) | (refine wpList_store_h7 rfl _ _ rfl _ rfl rfl hz5 ?_; intro w7 ew7; have EW := Lib.hid ew7; clear ew7))
    have hz7 := hz5.put A' ((n - 2) + 1) c'
    rw [← EW.out] at hz7
    have t0 := hz7.c0
    refine bodyPost_ret (v := .tuple #[.agg #[.slice A' ((n - 2) + 1) c'], .int .i64 4]) (by simp [results, Tryz.results27, go_sem, t0]) rfl ?_
    obtain ⟨e1, e2, e3, e4⟩ := Z.out.2.2.2.1.1
    have hR := Z.out.2.2.2.1.2.stay H5.out.2.2.2.2.2.1
    subst e1 e2 e3
    have hat := HAt.cons hR (H5.out.2.2.2.2.1.far (Far.below H5.out.2.2.2.2.2.1)) H5.out.2.2.2.2.2.2 H5.out.2.2.1 H5.out.2.2.2.1 H5.out.2.1 (by rw [e4]; exact H5.out.1)
    refine ⟨A', (n - 2) + 1, c', rfl, by rw [EW.out]; exact HAt.set (sIns_eq (x1, x2) HQE.out ▸ hat) _, ?_⟩
    rw [EW.out]
    exact (Z.out.2.1.trans (H5.out.2.2.2.2.2.1.mono Z.out.2.1.size)).setCell (p := ⟨b2, 0, none⟩) (by have := HO.out; show _ ≤ b2; omega) _

theorem refInsert9 (F : Nat → Prop) (l : List Tre) (x1 x2 : Int) (A : Option Addr) (n c : Nat) (w : World) (hF : ∀ k, w.heap.size ≤ k → F k) (hs : bSize l < 134217728) (h : HAt F w l A n c) :
    Calls Tryz.prog 27 #[.agg #[.int .i64 x1, .int .i64 x2], .agg #[.slice A n c]] w (GaveH F (sIns l (x1, x2)) (sInsN l + sInsM l) w) := by
  match l, hs, h with
  | [], hs, h => exact refIns_nil F x1 x2 A n c w hF hs h
  | [f], hs, h => exact refIns_one F f x1 x2 A n c w hF hs h
  | f :: g :: r, hs, h =>
    by_cases hq : f.rank = g.rank
    · have e : sInsN (f :: g :: r) + sInsM (f :: g :: r) = 4 := by show (if f.rank = g.rank then 2 else 0) + (if f.rank = g.rank then 2 else 1) = 4; rw [if_pos hq, if_pos hq]
      rw [e]; exact refIns_eq F f g r hq x1 x2 A n c w hF hs h
    · have e : sInsN (f :: g :: r) + sInsM (f :: g :: r) = 1 := by show (if f.rank = g.rank then 2 else 0) + (if f.rank = g.rank then 2 else 1) = 1; rw [if_neg hq, if_neg hq]
      rw [e]; exact refIns_ne F f g r hq x1 x2 A n c w hF hs h

end Go.Proofs.YtaeainnkhjnlaaaGreatDoor.Hp
