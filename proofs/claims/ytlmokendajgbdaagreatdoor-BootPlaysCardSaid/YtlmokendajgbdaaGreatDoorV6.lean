/-
  Contract of a skew binomial heap's Insert: which heap, how many comparisons and trees the meter counts, that what was there stays but for the meter's block. Conditions: fewer than 2 to the 27th elements, counts below 2 to the 59th.
-/
import Derived.Test.YtlmokendajgbdaaGreatDoorV5b
import Derived.Test.YtlmokendajgbdaaGreatDoorUb5b
namespace Go.Proofs.YtlmokendajgbdaaGreatDoor.Hp
open Go.Sort Go.RowKit Go.Proofs.YtlmokendajgbdaaGreatDoor.Gn

/-- The variables of Insert: a heap, a thing, what it hands back. -/
structure Fi (W : World) (a : Nat) (p : HP) (x : Thing) : Prop where
  h : Box2 W a 85 (.pointer p.q) (.int .i64 p.n)
  r : Box2 W (a + 1) 85 (.pointer none) (.int .i64 0)
  k : KeyC W x
section
variable {W W' : World} {a : Nat} {p : HP} {x : Thing} {mo : Option Nat} {c m : Int}
theorem Fi.new (w : World) (p : HP) (x : Thing) (hx : KeyC w x) : Fi ((w.alloc (.cells #[.pointer p.q, .int .i64 p.n] 85)).alloc (.cells #[.pointer none, .int .i64 0] 85)) w.heap.size p x := by
  refine ⟨(Box2.new w 85 _ _).alloc _, ?_, hx.stay (new2_below w _ _)⟩
  have := Box2.new (w.alloc (.cells #[.pointer p.q, .int .i64 p.n] 85)) 85 (.pointer none) (.int .i64 0)
  simpa only [World.size_alloc] using this
theorem Fi.stay (h : Fi W a p x) (hb : Below W.heap.size W W') : Fi W' a p x := ⟨h.h.stay hb, h.r.stay hb, h.k.stay hb⟩
theorem Fi.bt (h : Fi W a p x) (hb : Bt mo W W') (hm : MAt W mo c m) : Fi W' a p x := ⟨h.h.bt hb hm (by decide), h.r.bt hb hm (by decide), h.k.kp (Kp.bt hb hm).tree⟩
end
/-- A heap's list without its first two trees. -/
theorem drop2_h {w : World} {f g : Tre} {r : List Tre} {p : HP} (h : LAt w ⟨f :: g :: r⟩ p) : Calls Tryz.prog 64 #[hp p, .int .i64 2] w fun e w' => ∃ p' : HP, e = .returned (.agg #[.pointer p'.q, .int .i64 p'.n]) ∧ LAt w' ⟨r⟩ p' ∧ Below w.heap.size w w' := drop_h h 2 (by decide)
theorem lnk_size28 (f g : Tre) : (lnk f g).size = f.size + g.size := lnk_size f g


set_option maxRecDepth 100000 in
set_option maxHeartbeats 4000000 in
theorem ins_nil (mo : Option Nat) (c m : Int) (x : Thing) (p : HP) (w : World) (hx : KeyC w x) (hs : bSize ([] : List Tre) < 134217728) (hm : MAt w mo c m) (h0 : 0 ≤ c) (h1 : c < 576460752303423488) (h2 : 0 ≤ m) (h3 : m < 576460752303423487)
    (hh : LAt w ⟨[]⟩ p) : Calls Tryz.prog 40 #[hp p, mAddr mo, .pointer (some ⟨x.a, 0, none⟩)] w (Gave mo (c + (sInsN ([] : List Tre) : Nat)) (m + (sInsM ([] : List Tre) : Nat)) ⟨sIns ([]) x⟩ w) := by
  have HF := Lib.hid (Fi.new w p x hx)
  have KK := Lib.hid ((Trk.refl (N := NodeT) hm).stay (new2_below w (.cells #[.pointer p.q, .int .i64 p.n] 85) (.cells #[.pointer none, .int .i64 0] 85)))
  have HH := Lib.hid (show LAt _ ⟨[]⟩ p from hh.stay (new2_below w (.cells #[.pointer p.q, .int .i64 p.n] 85) (.cells #[.pointer none, .int .i64 0] 85)))
  have HN := Lib.hid (And.intro hs (And.intro h0 (And.intro h1 (And.intro h2 h3))))
  have HO := Lib.hid (And.intro (show sOk ([] : List Tre) from hh.right) (sok_ins x (show sOk ([] : List Tre) from hh.right)))
  clear hh hs h0 h1 h2 h3 hm hx
  go_enter Tryz.func40, Tryz.ntmps40
  go_wp2_with fail
  generalize (w.alloc (.cells #[.pointer p.q, .int .i64 p.n] 85)).alloc (.cells #[.pointer none, .int .i64 0] 85) = w1 at *
  obtain ⟨a, ha⟩ : ∃ a, a = w.heap.size := ⟨_, rfl⟩
  rw [← ha] at HF ⊢
  have HA := Lib.hid ha
  clear ha
  have HE := Lib.hid (show sInsN ([] : List Tre) = 0 ∧ sInsM ([] : List Tre) = 1 ∧ sIns [] x = [leafT x] from ⟨rfl, rfl, rfl⟩)
  ((with_reducible refine (first_0 HH.out).mono ?_); rintro e w2 ⟨rfl, hb⟩)
  have F2 := Lib.hid (HF.out.stay hb)
  have K2 := Lib.hid (KK.out.stay hb)
  have L2 := Lib.hid ((show LAt _ ⟨[]⟩ p from HH.out.stay hb))
  clear hb
  have f20 := F2.out.h.c0
  have f21 := F2.out.h.c1
  go_wp2_with fail
  ((with_reducible refine (restL_h L2.out).mono ?_); rintro e w3 ⟨p3, rfl, ht3, hb⟩)
  have F3 := Lib.hid (F2.out.stay hb)
  have K3 := Lib.hid (K2.out.stay hb)
  have L3 := Lib.hid (And.intro (show LAt _ ⟨[]⟩ p from L2.out.stay hb) (show LAt _ ⟨[]⟩ p3 from ht3))
  clear ht3 hb f20 f21
  go_wp2_with fail
  ((with_reducible refine (first_0 L3.out.2).mono ?_); rintro e w4 ⟨rfl, hb⟩)
  have F4 := Lib.hid (F3.out.stay hb)
  have K4 := Lib.hid (K3.out.stay hb)
  have L4 := Lib.hid ((show LAt _ ⟨[]⟩ p from L3.out.1.stay hb))
  clear hb
  have f40 := F4.out.h.c0
  have f41 := F4.out.h.c1
  go_wp2_with fail
  have n1 : ¬ a = a + 1 := by omega
  have n2 : ¬ a + 1 = a := by omega
  go_region_held3 (fun w' => w'.cell? ⟨a, 0, none⟩ = some (.pointer p.q) ∧ w'.cell? ⟨a, 1, none⟩ = some (.int .i64 p.n)) (go_keep)
    (first | (go_at_call 65; ((with_reducible refine (push_h L5.out.1 (show TAt _ p5 (some (leafT x)) from L5.out.2) (by rw [leafT_size]; have := HN.out; (try simp only [bSize] at *); omega) (HE.out.2.2 ▸ HO.out.2)).mono ?_); rintro e w6 ⟨p6, rfl, ht6, hb6⟩; have F6 := Lib.hid (F5.out.stay hb6); have K6 := Lib.hid (K5.out.stay hb6); have L6 := Lib.hid ht6; have kF60 := F6.out.h.c0; have kF61 := F6.out.h.c1; have r6 := F6.out.r.c0; have r7 := F6.out.r.c1; have z6 := F6.out.r.z0; have z7 := F6.out.r.z1; clear ht6 hb6)) | (go_at_call 67; ((with_reducible refine (leaf_any mo c m x _ (F4.out.k.stay ((Below.refl _ _).drew)) K4.out.drew.mt (by have := HN.out; omega) (by have := HN.out; omega)).mono ?_); rintro e w5 ⟨p5, rfl, ht5, hm5, hb5⟩; have F5 := Lib.hid ((F4.out.stay ((Below.refl _ _).drew)).bt hb5 K4.out.drew.mt); have K5 := Lib.hid (K4.out.drew.turn hm5 hb5 node_ne); have L5 := Lib.hid (And.intro ((L4.out.stay ((Below.refl _ _).drew)).bt hb5 K4.out.drew.mt) ht5); have kF50 := F5.out.h.c0; have kF51 := F5.out.h.c1; clear ht5 hm5 hb5)))
  go_wp2_with fail
  have s0 := (F6.out.r.set (.pointer p6.q) (.int .i64 p6.n)).c0
  have s1 := (F6.out.r.set (.pointer p6.q) (.int .i64 p6.n)).c1
  have hk := K6.out.put2 F6.out.r heapT_ne (by decide) (by have := HA.out; omega) (.pointer p6.q) (.int .i64 p6.n)
  have eN := HE.out.1
  have eM := HE.out.2.1
  have eI := HE.out.2.2
  exact bodyPost_ret (v := hp p6) (by simp [results, Tryz.results40, go_sem, s0, s1]) rfl ⟨p6, rfl, by rw [eI]; exact L6.out.set2 F6.out.r heapT_ne _ _, by rw [eN, eM]; simpa using hk.mt, hk.bt⟩

set_option maxRecDepth 100000 in
set_option maxHeartbeats 4000000 in
theorem ins_one (mo : Option Nat) (c m : Int) (f : Tre) (x : Thing) (p : HP) (w : World) (hx : KeyC w x) (hs : bSize ([f]) < 134217728) (hm : MAt w mo c m) (h0 : 0 ≤ c) (h1 : c < 576460752303423488) (h2 : 0 ≤ m) (h3 : m < 576460752303423487)
    (hh : LAt w ⟨[f]⟩ p) : Calls Tryz.prog 40 #[hp p, mAddr mo, .pointer (some ⟨x.a, 0, none⟩)] w (Gave mo (c + (sInsN ([f]) : Nat)) (m + (sInsM ([f]) : Nat)) ⟨sIns ([f]) x⟩ w) := by
  have HF := Lib.hid (Fi.new w p x hx)
  have KK := Lib.hid ((Trk.refl (N := NodeT) hm).stay (new2_below w (.cells #[.pointer p.q, .int .i64 p.n] 85) (.cells #[.pointer none, .int .i64 0] 85)))
  have HH := Lib.hid (show LAt _ ⟨[f]⟩ p from hh.stay (new2_below w (.cells #[.pointer p.q, .int .i64 p.n] 85) (.cells #[.pointer none, .int .i64 0] 85)))
  have HN := Lib.hid (And.intro hs (And.intro h0 (And.intro h1 (And.intro h2 h3))))
  have HO := Lib.hid (And.intro (show sOk ([f]) from hh.right) (sok_ins x (show sOk ([f]) from hh.right)))
  clear hh hs h0 h1 h2 h3 hm hx
  go_enter Tryz.func40, Tryz.ntmps40
  go_wp2_with fail
  generalize (w.alloc (.cells #[.pointer p.q, .int .i64 p.n] 85)).alloc (.cells #[.pointer none, .int .i64 0] 85) = w1 at *
  obtain ⟨a, ha⟩ : ∃ a, a = w.heap.size := ⟨_, rfl⟩
  rw [← ha] at HF ⊢
  have HA := Lib.hid ha
  clear ha
  have HE := Lib.hid (show sInsN [f] = 0 ∧ sInsM [f] = 1 ∧ sIns [f] x = [leafT x, f] from ⟨rfl, rfl, rfl⟩)
  obtain ⟨fa, hfa, hc⟩ := first_h HH.out
  have HC := Lib.hid hc
  have Hfa := Lib.hid hfa
  clear hc hfa
  ((with_reducible refine HC.out.mono ?_); rintro e w2 ⟨rfl, hb⟩)
  have F2 := Lib.hid (HF.out.stay hb)
  have K2 := Lib.hid (KK.out.stay hb)
  have L2 := Lib.hid (And.intro (show LAt _ ⟨[f]⟩ p from HH.out.stay hb) (Hfa.out.stay hb))
  clear hb HC Hfa
  have f20 := F2.out.h.c0
  have f21 := F2.out.h.c1
  go_wp2_with fail
  ((with_reducible refine (restL_h L2.out.1).mono ?_); rintro e w3 ⟨p3, rfl, ht3, hb⟩)
  have F3 := Lib.hid (F2.out.stay hb)
  have K3 := Lib.hid (K2.out.stay hb)
  have L3 := Lib.hid (And.intro (show LAt _ ⟨[f]⟩ p from L2.out.1.stay hb) (show LAt _ ⟨[]⟩ p3 from ht3))
  clear ht3 hb f20 f21
  go_wp2_with fail
  ((with_reducible refine (first_0 L3.out.2).mono ?_); rintro e w4 ⟨rfl, hb⟩)
  have F4 := Lib.hid (F3.out.stay hb)
  have K4 := Lib.hid (K3.out.stay hb)
  have L4 := Lib.hid ((show LAt _ ⟨[f]⟩ p from L3.out.1.stay hb))
  clear hb
  have f40 := F4.out.h.c0
  have f41 := F4.out.h.c1
  go_wp2_with fail
  have n1 : ¬ a = a + 1 := by omega
  have n2 : ¬ a + 1 = a := by omega
  go_region_held3 (fun w' => w'.cell? ⟨a, 0, none⟩ = some (.pointer p.q) ∧ w'.cell? ⟨a, 1, none⟩ = some (.int .i64 p.n)) (go_keep)
    (first | (go_at_call 65; ((with_reducible refine (push_h L5.out.1 (show TAt _ p5 (some (leafT x)) from L5.out.2) (by rw [leafT_size]; have := HN.out; (try simp only [bSize] at *); omega) (HE.out.2.2 ▸ HO.out.2)).mono ?_); rintro e w6 ⟨p6, rfl, ht6, hb6⟩; have F6 := Lib.hid (F5.out.stay hb6); have K6 := Lib.hid (K5.out.stay hb6); have L6 := Lib.hid ht6; have kF60 := F6.out.h.c0; have kF61 := F6.out.h.c1; have r6 := F6.out.r.c0; have r7 := F6.out.r.c1; have z6 := F6.out.r.z0; have z7 := F6.out.r.z1; clear ht6 hb6)) | (go_at_call 67; ((with_reducible refine (leaf_any mo c m x _ (F4.out.k.stay ((Below.refl _ _).drew)) K4.out.drew.mt (by have := HN.out; omega) (by have := HN.out; omega)).mono ?_); rintro e w5 ⟨p5, rfl, ht5, hm5, hb5⟩; have F5 := Lib.hid ((F4.out.stay ((Below.refl _ _).drew)).bt hb5 K4.out.drew.mt); have K5 := Lib.hid (K4.out.drew.turn hm5 hb5 node_ne); have L5 := Lib.hid (And.intro ((L4.out.stay ((Below.refl _ _).drew)).bt hb5 K4.out.drew.mt) ht5); have kF50 := F5.out.h.c0; have kF51 := F5.out.h.c1; clear ht5 hm5 hb5)))
  go_wp2_with fail
  have s0 := (F6.out.r.set (.pointer p6.q) (.int .i64 p6.n)).c0
  have s1 := (F6.out.r.set (.pointer p6.q) (.int .i64 p6.n)).c1
  have hk := K6.out.put2 F6.out.r heapT_ne (by decide) (by have := HA.out; omega) (.pointer p6.q) (.int .i64 p6.n)
  have eN := HE.out.1
  have eM := HE.out.2.1
  have eI := HE.out.2.2
  exact bodyPost_ret (v := hp p6) (by simp [results, Tryz.results40, go_sem, s0, s1]) rfl ⟨p6, rfl, by rw [eI]; exact L6.out.set2 F6.out.r heapT_ne _ _, by rw [eN, eM]; simpa using hk.mt, hk.bt⟩

set_option maxRecDepth 100000 in
set_option maxHeartbeats 4000000 in
theorem ins_ne (mo : Option Nat) (c m : Int) (f g : Tre) (r : List Tre) (hq : f.rank ≠ g.rank) (x : Thing) (p : HP) (w : World) (hx : KeyC w x) (hs : bSize (f :: g :: r) < 134217728) (hm : MAt w mo c m) (h0 : 0 ≤ c) (h1 : c < 576460752303423488) (h2 : 0 ≤ m) (h3 : m < 576460752303423487)
    (hh : LAt w ⟨f :: g :: r⟩ p) : Calls Tryz.prog 40 #[hp p, mAddr mo, .pointer (some ⟨x.a, 0, none⟩)] w (Gave mo (c + (sInsN (f :: g :: r) : Nat)) (m + (sInsM (f :: g :: r) : Nat)) ⟨sIns (f :: g :: r) x⟩ w) := by
  have HF := Lib.hid (Fi.new w p x hx)
  have KK := Lib.hid ((Trk.refl (N := NodeT) hm).stay (new2_below w (.cells #[.pointer p.q, .int .i64 p.n] 85) (.cells #[.pointer none, .int .i64 0] 85)))
  have HH := Lib.hid (show LAt _ ⟨f :: g :: r⟩ p from hh.stay (new2_below w (.cells #[.pointer p.q, .int .i64 p.n] 85) (.cells #[.pointer none, .int .i64 0] 85)))
  have HN := Lib.hid (And.intro hs (And.intro h0 (And.intro h1 (And.intro h2 h3))))
  have HO := Lib.hid (And.intro (show sOk (f :: g :: r) from hh.right) (sok_ins x (show sOk (f :: g :: r) from hh.right)))
  clear hh hs h0 h1 h2 h3 hm hx
  go_enter Tryz.func40, Tryz.ntmps40
  go_wp2_with fail
  generalize (w.alloc (.cells #[.pointer p.q, .int .i64 p.n] 85)).alloc (.cells #[.pointer none, .int .i64 0] 85) = w1 at *
  obtain ⟨a, ha⟩ : ∃ a, a = w.heap.size := ⟨_, rfl⟩
  rw [← ha] at HF ⊢
  have HA := Lib.hid ha
  clear ha
  have HE := Lib.hid (show sInsN (f :: g :: r) = 0 ∧ sInsM (f :: g :: r) = 1 ∧ sIns (f :: g :: r) x = leafT x :: f :: g :: r from ⟨by show (if f.rank = g.rank then 2 else 0) = 0; rw [if_neg hq], by show (if f.rank = g.rank then 2 else 1) = 1; rw [if_neg hq], sIns_ne _ hq⟩)
  obtain ⟨fa, hfa, hc⟩ := first_h HH.out
  have HC := Lib.hid hc
  have Hfa := Lib.hid hfa
  clear hc hfa
  ((with_reducible refine HC.out.mono ?_); rintro e w2 ⟨rfl, hb⟩)
  have F2 := Lib.hid (HF.out.stay hb)
  have K2 := Lib.hid (KK.out.stay hb)
  have L2 := Lib.hid (And.intro (show LAt _ ⟨f :: g :: r⟩ p from HH.out.stay hb) (Hfa.out.stay hb))
  clear hb HC Hfa
  have f20 := F2.out.h.c0
  have f21 := F2.out.h.c1
  go_wp2_with fail
  ((with_reducible refine (restL_h L2.out.1).mono ?_); rintro e w3 ⟨p3, rfl, ht3, hb⟩)
  have F3 := Lib.hid (F2.out.stay hb)
  have K3 := Lib.hid (K2.out.stay hb)
  have L3 := Lib.hid (And.intro (show LAt _ ⟨f :: g :: r⟩ p from L2.out.1.stay hb) (And.intro (L2.out.2.stay hb) (show LAt _ ⟨g :: r⟩ p3 from ht3)))
  clear ht3 hb f20 f21
  go_wp2_with fail
  obtain ⟨ga, hga, hc⟩ := first_h L3.out.2.2
  have HC := Lib.hid hc
  have Hga := Lib.hid hga
  clear hc hga
  ((with_reducible refine HC.out.mono ?_); rintro e w4 ⟨rfl, hb⟩)
  have F4 := Lib.hid (F3.out.stay hb)
  have K4 := Lib.hid (K3.out.stay hb)
  have L4 := Lib.hid (And.intro (show LAt _ ⟨f :: g :: r⟩ p from L3.out.1.stay hb) (And.intro (L3.out.2.1.stay hb) (Hga.out.stay hb)))
  clear hb HC Hga
  have f40 := F4.out.h.c0
  have f41 := F4.out.h.c1
  obtain ⟨rf, hrf⟩ : ∃ r, r = f.rank := ⟨_, rfl⟩
  obtain ⟨rg, hrg⟩ : ∃ r, r = g.rank := ⟨_, rfl⟩
  have HR := Lib.hid (And.intro hrf hrg)
  rw [← hrf, ← hrg] at hq
  clear hrf hrg
  go_wp2_with fail
  ((with_reducible refine (rank_at L4.out.2.1 rf HR.out.1).mono ?_); rintro e w5 ⟨rfl, hw⟩)
  subst hw
  go_wp2_with fail
  ((with_reducible refine (rank_at L4.out.2.2 rg HR.out.2).mono ?_); rintro e w5 ⟨rfl, hw⟩)
  subst hw
  have g1 : ((rf : Int) == (rg : Int)) = false := by simp; omega
  have g2 : ¬ (rf : Int) = (rg : Int) := by omega
  clear hq
  have L4b := L4
  clear L4
  have L4 := Lib.hid L4b.out.1
  clear L4b
  go_wp2_with fail
  have n1 : ¬ a = a + 1 := by omega
  have n2 : ¬ a + 1 = a := by omega
  go_region_held3 (fun w' => w'.cell? ⟨a, 0, none⟩ = some (.pointer p.q) ∧ w'.cell? ⟨a, 1, none⟩ = some (.int .i64 p.n)) (go_keep)
    (first | (go_at_call 65; ((with_reducible refine (push_h L5.out.1 (show TAt _ p5 (some (leafT x)) from L5.out.2) (by rw [leafT_size]; have := HN.out; (try simp only [bSize] at *); omega) (HE.out.2.2 ▸ HO.out.2)).mono ?_); rintro e w6 ⟨p6, rfl, ht6, hb6⟩; have F6 := Lib.hid (F5.out.stay hb6); have K6 := Lib.hid (K5.out.stay hb6); have L6 := Lib.hid ht6; have kF60 := F6.out.h.c0; have kF61 := F6.out.h.c1; have r6 := F6.out.r.c0; have r7 := F6.out.r.c1; have z6 := F6.out.r.z0; have z7 := F6.out.r.z1; clear ht6 hb6)) | (go_at_call 67; ((with_reducible refine (leaf_any mo c m x _ (F4.out.k.stay ((Below.refl _ _).drew)) K4.out.drew.mt (by have := HN.out; omega) (by have := HN.out; omega)).mono ?_); rintro e w5 ⟨p5, rfl, ht5, hm5, hb5⟩; have F5 := Lib.hid ((F4.out.stay ((Below.refl _ _).drew)).bt hb5 K4.out.drew.mt); have K5 := Lib.hid (K4.out.drew.turn hm5 hb5 node_ne); have L5 := Lib.hid (And.intro ((L4.out.stay ((Below.refl _ _).drew)).bt hb5 K4.out.drew.mt) ht5); have kF50 := F5.out.h.c0; have kF51 := F5.out.h.c1; clear ht5 hm5 hb5)))
  go_wp2_with fail
  have s0 := (F6.out.r.set (.pointer p6.q) (.int .i64 p6.n)).c0
  have s1 := (F6.out.r.set (.pointer p6.q) (.int .i64 p6.n)).c1
  have hk := K6.out.put2 F6.out.r heapT_ne (by decide) (by have := HA.out; omega) (.pointer p6.q) (.int .i64 p6.n)
  have eN := HE.out.1
  have eM := HE.out.2.1
  have eI := HE.out.2.2
  exact bodyPost_ret (v := hp p6) (by simp [results, Tryz.results40, go_sem, s0, s1]) rfl ⟨p6, rfl, by rw [eI]; exact L6.out.set2 F6.out.r heapT_ne _ _, by rw [eN, eM]; simpa using hk.mt, hk.bt⟩

set_option maxRecDepth 100000 in
set_option maxHeartbeats 4000000 in
theorem ins_eq (mo : Option Nat) (c m : Int) (f g : Tre) (r : List Tre) (hq : f.rank = g.rank) (x : Thing) (p : HP) (w : World) (hx : KeyC w x) (hs : bSize (f :: g :: r) < 134217728) (hm : MAt w mo c m) (h0 : 0 ≤ c) (h1 : c < 576460752303423488) (h2 : 0 ≤ m) (h3 : m < 576460752303423487)
    (hh : LAt w ⟨f :: g :: r⟩ p) : Calls Tryz.prog 40 #[hp p, mAddr mo, .pointer (some ⟨x.a, 0, none⟩)] w (Gave mo (c + (sInsN (f :: g :: r) : Nat)) (m + (sInsM (f :: g :: r) : Nat)) ⟨sIns (f :: g :: r) x⟩ w) := by
  have HF := Lib.hid (Fi.new w p x hx)
  have KK := Lib.hid ((Trk.refl (N := NodeT) hm).stay (new2_below w (.cells #[.pointer p.q, .int .i64 p.n] 85) (.cells #[.pointer none, .int .i64 0] 85)))
  have HH := Lib.hid (show LAt _ ⟨f :: g :: r⟩ p from hh.stay (new2_below w (.cells #[.pointer p.q, .int .i64 p.n] 85) (.cells #[.pointer none, .int .i64 0] 85)))
  have HN := Lib.hid (And.intro hs (And.intro h0 (And.intro h1 (And.intro h2 h3))))
  have HO := Lib.hid (And.intro (show sOk (f :: g :: r) from hh.right) (sok_ins x (show sOk (f :: g :: r) from hh.right)))
  clear hh hs h0 h1 h2 h3 hm hx
  go_enter Tryz.func40, Tryz.ntmps40
  go_wp2_with fail
  generalize (w.alloc (.cells #[.pointer p.q, .int .i64 p.n] 85)).alloc (.cells #[.pointer none, .int .i64 0] 85) = w1 at *
  obtain ⟨a, ha⟩ : ∃ a, a = w.heap.size := ⟨_, rfl⟩
  rw [← ha] at HF ⊢
  have HA := Lib.hid ha
  clear ha
  have HE := Lib.hid (show sInsN (f :: g :: r) = 2 ∧ sInsM (f :: g :: r) = 2 ∧ sIns (f :: g :: r) x = skT x f g :: r from ⟨by show (if f.rank = g.rank then 2 else 0) = 2; rw [if_pos hq], by show (if f.rank = g.rank then 2 else 1) = 2; rw [if_pos hq], sIns_eq _ hq⟩)
  obtain ⟨fa, hfa, hc⟩ := first_h HH.out
  have HC := Lib.hid hc
  have Hfa := Lib.hid hfa
  clear hc hfa
  ((with_reducible refine HC.out.mono ?_); rintro e w2 ⟨rfl, hb⟩)
  have F2 := Lib.hid (HF.out.stay hb)
  have K2 := Lib.hid (KK.out.stay hb)
  have L2 := Lib.hid (And.intro (show LAt _ ⟨f :: g :: r⟩ p from HH.out.stay hb) (Hfa.out.stay hb))
  clear hb HC Hfa
  have f20 := F2.out.h.c0
  have f21 := F2.out.h.c1
  go_wp2_with fail
  ((with_reducible refine (restL_h L2.out.1).mono ?_); rintro e w3 ⟨p3, rfl, ht3, hb⟩)
  have F3 := Lib.hid (F2.out.stay hb)
  have K3 := Lib.hid (K2.out.stay hb)
  have L3 := Lib.hid (And.intro (show LAt _ ⟨f :: g :: r⟩ p from L2.out.1.stay hb) (And.intro (L2.out.2.stay hb) (show LAt _ ⟨g :: r⟩ p3 from ht3)))
  clear ht3 hb f20 f21
  go_wp2_with fail
  obtain ⟨ga, hga, hc⟩ := first_h L3.out.2.2
  have HC := Lib.hid hc
  have Hga := Lib.hid hga
  clear hc hga
  ((with_reducible refine HC.out.mono ?_); rintro e w4 ⟨rfl, hb⟩)
  have F4 := Lib.hid (F3.out.stay hb)
  have K4 := Lib.hid (K3.out.stay hb)
  have L4 := Lib.hid (And.intro (show LAt _ ⟨f :: g :: r⟩ p from L3.out.1.stay hb) (And.intro (L3.out.2.1.stay hb) (Hga.out.stay hb)))
  clear hb HC Hga
  have f40 := F4.out.h.c0
  have f41 := F4.out.h.c1
  obtain ⟨rf, hrf⟩ : ∃ r, r = f.rank := ⟨_, rfl⟩
  obtain ⟨rg, hrg⟩ : ∃ r, r = g.rank := ⟨_, rfl⟩
  have HR := Lib.hid (And.intro hrf hrg)
  rw [← hrf, ← hrg] at hq
  clear hrf hrg
  go_wp2_with fail
  ((with_reducible refine (rank_at L4.out.2.1 rf HR.out.1).mono ?_); rintro e w5 ⟨rfl, hw⟩)
  subst hw
  go_wp2_with fail
  ((with_reducible refine (rank_at L4.out.2.2 rg HR.out.2).mono ?_); rintro e w5 ⟨rfl, hw⟩)
  subst hw
  have g1 : ((rf : Int) == (rg : Int)) = true := by simp; omega
  have g2 : (rf : Int) = (rg : Int) := by omega
  clear hq
  go_wp2_with fail
  ((with_reducible refine (drop2_h L4.out.1).mono ?_); rintro e w6 ⟨p8, rfl, ht6, hb6⟩)
  have hb7 : Below w5.heap.size w5 (w6.alloc (.cells #[.pointer p8.q, .int .i64 p8.n] 83)) := hb6.alloc hb6.size (.cells #[.pointer p8.q, .int .i64 p8.n] 83)
  have bV := Box2.new w6 83 (.pointer p8.q) (.int .i64 p8.n)
  have F7 := Lib.hid (F4.out.stay hb7)
  have K7 := Lib.hid (K4.out.stay hb7)
  have L7 := Lib.hid (And.intro (show LAt (w6.alloc (.cells #[.pointer p8.q, .int .i64 p8.n] 83)) ⟨r⟩ p8 from LAt.stay (show LAt w6 ⟨r⟩ p8 from ht6) ((Below.refl _ _).alloc (Nat.le_refl _) _)) (And.intro (L4.out.2.1.stay hb7) (L4.out.2.2.stay hb7)))
  have HVL := Lib.hid (Nat.lt_of_lt_of_le F4.out.r.lt hb6.size)
  clear ht6 hb6 hb7 f40 f41 F4 K4 L4
  have V7 := Lib.hid bV
  clear bV
  go_wp2_with fail
  generalize w6.alloc (.cells #[.pointer p8.q, .int .i64 p8.n] 83) = w7 at *
  obtain ⟨v, hv⟩ : ∃ v, v = w6.heap.size := ⟨_, rfl⟩
  rw [← hv] at V7 HVL ⊢
  clear hv
  have v0 := V7.out.c0
  have v1 := V7.out.c1
  have n1 : ¬ v = a + 1 := by have := HVL.out; omega
  have n2 : ¬ a + 1 = v := by have := HVL.out; omega
  go_region_held3 (fun w' => w'.cell? ⟨v, 0, none⟩ = some (.pointer p8.q) ∧ w'.cell? ⟨v, 1, none⟩ = some (.int .i64 p8.n)) (go_keep)
    (first | (go_at_call 65; ((with_reducible refine (push_h L8.out.1 L8.out.2 (by rw [skT_size]; have := HN.out; (try simp only [bSize] at *); omega) (HE.out.2.2 ▸ HO.out.2)).mono ?_); rintro e w9 ⟨p6, rfl, ht6, hb6⟩; have F9 := Lib.hid (F8.out.stay hb6); have V9 := Lib.hid (V8.out.stay hb6); have K9 := Lib.hid (K8.out.stay hb6); have L9 := Lib.hid ht6; have kV90 := V9.out.c0; have kV91 := V9.out.c1; have r6 := F9.out.r.c0; have r7 := F9.out.r.c1; have z6 := F9.out.r.z0; have z7 := F9.out.r.z1; clear ht6 hb6)) | (go_at_call 66; ((with_reducible refine (skew_any mo c m x fa ga (some f) (some g) _ (F7.out.k.stay ((Below.refl _ _).drew)) K7.out.drew.mt HN.out.2.1 (by have := HN.out; omega) HN.out.2.2.2.1 (by have := HN.out; omega) (L7.out.2.1.stay ((Below.refl _ _).drew)) (L7.out.2.2.stay ((Below.refl _ _).drew)) (by have := HN.out; simp only [osize, bSize] at *; omega) (by have := HN.out; simp only [osize, bSize] at *; omega)).mono ?_); rintro e w8 ⟨p5, rfl, ht5, hm5, hb5⟩; have F8 := Lib.hid ((F7.out.stay ((Below.refl _ _).drew)).bt hb5 K7.out.drew.mt); have V8 := Lib.hid ((V7.out.stay ((Below.refl _ _).drew)).bt hb5 K7.out.drew.mt (by decide)); have K8 := Lib.hid (K7.out.drew.turn hm5 hb5 node_ne); have L8 := Lib.hid (And.intro ((L7.out.1.stay ((Below.refl _ _).drew)).bt hb5 K7.out.drew.mt) (show TAt _ p5 (some (skT x f g)) from ht5)); have kV80 := V8.out.c0; have kV81 := V8.out.c1; clear ht5 hm5 hb5)))
  go_wp2_with fail
  have s0 := (F9.out.r.set (.pointer p6.q) (.int .i64 p6.n)).c0
  have s1 := (F9.out.r.set (.pointer p6.q) (.int .i64 p6.n)).c1
  have hk := K9.out.put2 F9.out.r heapT_ne (by decide) (by have := HA.out; omega) (.pointer p6.q) (.int .i64 p6.n)
  have eN := HE.out.1
  have eM := HE.out.2.1
  have eI := HE.out.2.2
  have hmt := hk.mt
  rw [show c + (lnkN (some f) (some g) : Nat) + (skwN (some f) (some g) : Nat) = c + ((2 : Nat) : Int) from by simp only [lnkN, skwN]; omega, show m + (lnkN (some f) (some g) : Nat) + 1 = m + ((2 : Nat) : Int) from by simp only [lnkN]; omega] at hmt
  exact bodyPost_ret (v := hp p6) (by simp [results, Tryz.results40, go_sem, s0, s1]) rfl ⟨p6, rfl, by rw [eI]; exact L9.out.set2 F9.out.r heapT_ne _ _, by rw [eN, eM]; exact hmt, hk.bt⟩

theorem insert_any (mo : Option Nat) (c m : Int) (h : Lh) (x : Thing) (p : HP) (w : World) (hx : KeyC w x) (hs : h.size < 134217728) (hm : MAt w mo c m) (h0 : 0 ≤ c) (h1 : c < 576460752303423488) (h2 : 0 ≤ m) (h3 : m < 576460752303423487)
    (hh : LAt w h p) : Calls Tryz.prog 40 #[hp p, mAddr mo, hv x] w (Gave mo (c + h.insC) (m + h.insM) (h.insert x) w) := by
  obtain ⟨l⟩ := h
  match l, hs, hh with
  | [], hs, hh => exact ins_nil mo c m x p w hx hs hm h0 h1 h2 h3 hh
  | [f], hs, hh => exact ins_one mo c m f x p w hx hs hm h0 h1 h2 h3 hh
  | f :: g :: r, hs, hh =>
    by_cases hq : f.rank = g.rank
    · exact ins_eq mo c m f g r hq x p w hx hs hm h0 h1 h2 h3 hh
    · exact ins_ne mo c m f g r hq x p w hx hs hm h0 h1 h2 h3 hh

end Go.Proofs.YtlmokendajgbdaaGreatDoor.Hp
