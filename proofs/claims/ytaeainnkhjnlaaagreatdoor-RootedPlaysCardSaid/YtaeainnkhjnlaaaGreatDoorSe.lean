/-
  Contract of a skew binomial heap's Insert: which heap, how many comparisons and trees the meter counts, that what was there stays but for the meter's block. Conditions: fewer than 2 to the 27th elements, counts below 2 to the 59th.
  Contract of a skew binomial heap's with: things put in one by one: which heap, how many comparisons and trees the meter counts, that what was there stays but for the meter's block. Conditions: fewer than 2 to the 27th elements, counts below 2 to the 58th, a row that lies in another block than the meter.
-/
import Derived.Test.YtaeainnkhjnlaaaGreatDoorSd
import Derived.Test.YtaeainnkhjnlaaaGreatDoorTk
import Derived.Test.YtaeainnkhjnlaaaGreatDoorMb
import Derived.Deep.LoopGhost
namespace Go.Proofs.YtaeainnkhjnlaaaGreatDoor.Hp
open Go.Sort Go.RowKit

/-- The variables of Insert: a heap, an element, what it hands back. -/
structure Fi (W : World) (a : Nat) (p : HP) (x : Int × Int) : Prop where
  h : Box2 W a 73 (.pointer p.q) (.int .i64 p.n)
  e : Box2 W (a + 1) 32 (.int .i64 x.1) (.int .i64 x.2)
  r : Box2 W (a + 2) 73 (.pointer none) (.int .i64 0)
section
variable {W W' : World} {a : Nat} {p : HP} {x : Int × Int} {mo : Option Nat} {c m : Int}
theorem Fi.new (w : World) (p : HP) (x : Int × Int) : Fi (((w.alloc (.cells #[.pointer p.q, .int .i64 p.n] 73)).alloc (.cells #[.int .i64 x.1, .int .i64 x.2] 32)).alloc (.cells #[.pointer none, .int .i64 0] 73)) w.heap.size p x := by
  refine ⟨((Box2.new w 73 _ _).alloc _).alloc _, ?_, ?_⟩
  · have := (Box2.new (w.alloc (.cells #[.pointer p.q, .int .i64 p.n] 73)) 32 (.int .i64 x.1) (.int .i64 x.2)).alloc (.cells #[.pointer none, .int .i64 0] 73)
    simpa only [World.size_alloc] using this
  · have := Box2.new ((w.alloc (.cells #[.pointer p.q, .int .i64 p.n] 73)).alloc (.cells #[.int .i64 x.1, .int .i64 x.2] 32)) 73 (.pointer none) (.int .i64 0)
    simpa only [World.size_alloc] using this
theorem Fi.stay (h : Fi W a p x) (hb : Below W.heap.size W W') : Fi W' a p x := ⟨h.h.stay hb, h.e.stay hb, h.r.stay hb⟩
theorem Fi.bt (h : Fi W a p x) (hb : Bt mo W W') (hm : MAt W mo c m) : Fi W' a p x := ⟨h.h.bt hb hm (by decide), h.e.bt hb hm (by decide), h.r.bt hb hm (by decide)⟩
end
/-- A heap's list without its first two trees. -/
theorem drop2_h {w : World} {f g : Tre} {r : List Tre} {p : HP} (h : LAt w ⟨f :: g :: r⟩ p) : Calls Tryz.prog 46 #[hp p, .int .i64 2] w fun e w' => ∃ p' : HP, e = .returned (.agg #[.pointer p'.q, .int .i64 p'.n]) ∧ LAt w' ⟨r⟩ p' ∧ Below w.heap.size w w' := drop_h h 2 (by decide)
set_option maxRecDepth 100000 in
set_option maxHeartbeats 4000000 in
theorem ins_nil (mo : Option Nat) (c m : Int) (x1 x2 : Int) (p : HP) (w : World) (hs : bSize ([]) < 134217728) (hm : MAt w mo c m) (h0 : 0 ≤ c) (h1 : c < 576460752303423488) (h2 : 0 ≤ m) (h3 : m < 576460752303423487)
    (hh : LAt w ⟨[]⟩ p) : Calls Tryz.prog 25 #[hp p, mAddr mo, el (x1, x2)] w (Gave mo (c + (sInsN ([]) : Nat)) (m + (sInsM ([]) : Nat)) ⟨sIns ([]) (x1, x2)⟩ w) := by
  have HF := Lib.hid (Fi.new w p (x1, x2))
  have KK := Lib.hid ((Trk.refl (N := NodeT) hm).stay (new3_below w (.cells #[.pointer p.q, .int .i64 p.n] 73) (.cells #[.int .i64 x1, .int .i64 x2] 32) (.cells #[.pointer none, .int .i64 0] 73)))
  have HH := Lib.hid (show LAt _ ⟨[]⟩ p from hh.stay (new3_below w (.cells #[.pointer p.q, .int .i64 p.n] 73) (.cells #[.int .i64 x1, .int .i64 x2] 32) (.cells #[.pointer none, .int .i64 0] 73)))
  have HN := Lib.hid (And.intro hs (And.intro h0 (And.intro h1 (And.intro h2 h3))))
  have HO := Lib.hid (And.intro (show sOk ([]) from hh.right) (sok_ins (x1, x2) (show sOk ([]) from hh.right)))
  clear hh hs h0 h1 h2 h3 hm
  go_enter Tryz.func25, Tryz.ntmps25
  go_wp2_with fail
  generalize ((w.alloc (.cells #[.pointer p.q, .int .i64 p.n] 73)).alloc (.cells #[.int .i64 x1, .int .i64 x2] 32)).alloc (.cells #[.pointer none, .int .i64 0] 73) = w1 at *
  obtain ⟨a, ha⟩ : ∃ a, a = w.heap.size := ⟨_, rfl⟩
  rw [← ha] at HF ⊢
  have HA := Lib.hid ha
  clear ha
  have HE := Lib.hid (show sInsN [] = 0 ∧ sInsM [] = 1 ∧ sIns [] (x1, x2) = [leafT (x1, x2)] from ⟨rfl, rfl, rfl⟩)
  ((with_reducible refine (first_0 HH.out).mono ?_); rintro e w2 ⟨rfl, hb⟩)
  have F2 := Lib.hid (HF.out.stay hb)
  have K2 := Lib.hid (KK.out.stay hb)
  have L2 := Lib.hid ((show LAt _ ⟨[]⟩ p from HH.out.stay hb))
  clear hb
  have f20 := F2.out.h.c0
  have f21 := F2.out.h.c1
  go_wp2_with fail
  ((with_reducible refine (restL_h L2.out).mono ?_); rintro e w3 ⟨p3, rfl, ht3, hb⟩)
  have F3 := Lib.hid (F2.out.stay hb)
  have K3 := Lib.hid (K2.out.stay hb)
  have L3 := Lib.hid (And.intro (show LAt _ ⟨[]⟩ p from L2.out.stay hb) (show LAt _ ⟨[]⟩ p3 from ht3))
  clear ht3 hb f20 f21
  go_wp2_with fail
  ((with_reducible refine (first_0 L3.out.2).mono ?_); rintro e w4 ⟨rfl, hb⟩)
  have F4 := Lib.hid (F3.out.stay hb)
  have K4 := Lib.hid (K3.out.stay hb)
  have L4 := Lib.hid ((show LAt _ ⟨[]⟩ p from L3.out.1.stay hb))
  clear hb
  have f40 := F4.out.h.c0
  have f41 := F4.out.h.c1
  go_wp2_with fail
  have f2 := F4.out.e.c0
  have f3 := F4.out.e.c1
  have n1 : ¬ a = a + 1 + 1 := by omega
  have n2 : ¬ a + 1 + 1 = a := by omega
  have n3 : ¬ a + 1 = a + 1 + 1 := by omega
  have n4 : ¬ a + 1 + 1 = a + 1 := by omega
  go_region_held3 (fun w' => w'.cell? ⟨a, 0, none⟩ = some (.pointer p.q) ∧ w'.cell? ⟨a, 1, none⟩ = some (.int .i64 p.n) ∧ w'.cell? ⟨a + 1, 0, none⟩ = some (.int .i64 x1) ∧ w'.cell? ⟨a + 1, 1, none⟩ = some (.int .i64 x2)) (go_keep)
    (first | (go_at_call 47; ((with_reducible refine (push_h L5.out.1 (show TAt _ p5 (some (leafT (x1, x2))) from L5.out.2) (by rw [leafT_size]; have := HN.out; (try simp only [bSize] at *); omega) (HE.out.2.2 ▸ HO.out.2)).mono ?_); rintro e w6 ⟨p6, rfl, ht6, hb6⟩; have F6 := Lib.hid (F5.out.stay hb6); have K6 := Lib.hid (K5.out.stay hb6); have L6 := Lib.hid ht6; have kF60 := F6.out.h.c0; have kF61 := F6.out.h.c1; have kF62 := F6.out.e.c0; have kF63 := F6.out.e.c1; have r6 := F6.out.r.c0; have r7 := F6.out.r.c1; have z6 := F6.out.r.z0; have z7 := F6.out.r.z1; clear ht6 hb6)) | (go_at_call 49; ((with_reducible refine (leaf_any mo c m (x1, x2) _ K4.out.drew.mt (by have := HN.out; omega) (by have := HN.out; omega)).mono ?_); rintro e w5 ⟨p5, rfl, ht5, hm5, hb5⟩; have F5 := Lib.hid ((F4.out.stay ((Below.refl _ _).drew)).bt hb5 K4.out.drew.mt); have K5 := Lib.hid (K4.out.drew.turn hm5 hb5 node_ne); have L5 := Lib.hid (And.intro ((L4.out.stay ((Below.refl _ _).drew)).bt hb5 K4.out.drew.mt) ht5); have kF50 := F5.out.h.c0; have kF51 := F5.out.h.c1; have kF52 := F5.out.e.c0; have kF53 := F5.out.e.c1; clear ht5 hm5 hb5)))
  go_wp2_with fail
  have s0 := (F6.out.r.set (.pointer p6.q) (.int .i64 p6.n)).c0
  have s1 := (F6.out.r.set (.pointer p6.q) (.int .i64 p6.n)).c1
  have hk := K6.out.put2 F6.out.r heapT_ne (by decide) (by have := HA.out; omega) (.pointer p6.q) (.int .i64 p6.n)
  have eN := HE.out.1
  have eM := HE.out.2.1
  have eI := HE.out.2.2
  exact bodyPost_ret (v := hp p6) (by simp [results, Tryz.results25, go_sem, s0, s1]) rfl ⟨p6, rfl, by rw [eI]; exact L6.out.set2 F6.out.r heapT_ne _ _, by rw [eN, eM]; simpa using hk.mt, hk.bt⟩

set_option maxRecDepth 100000 in
set_option maxHeartbeats 4000000 in
theorem ins_one (mo : Option Nat) (c m : Int) (f : Tre) (x1 x2 : Int) (p : HP) (w : World) (hs : bSize ([f]) < 134217728) (hm : MAt w mo c m) (h0 : 0 ≤ c) (h1 : c < 576460752303423488) (h2 : 0 ≤ m) (h3 : m < 576460752303423487)
    (hh : LAt w ⟨[f]⟩ p) : Calls Tryz.prog 25 #[hp p, mAddr mo, el (x1, x2)] w (Gave mo (c + (sInsN ([f]) : Nat)) (m + (sInsM ([f]) : Nat)) ⟨sIns ([f]) (x1, x2)⟩ w) := by
  have HF := Lib.hid (Fi.new w p (x1, x2))
  have KK := Lib.hid ((Trk.refl (N := NodeT) hm).stay (new3_below w (.cells #[.pointer p.q, .int .i64 p.n] 73) (.cells #[.int .i64 x1, .int .i64 x2] 32) (.cells #[.pointer none, .int .i64 0] 73)))
  have HH := Lib.hid (show LAt _ ⟨[f]⟩ p from hh.stay (new3_below w (.cells #[.pointer p.q, .int .i64 p.n] 73) (.cells #[.int .i64 x1, .int .i64 x2] 32) (.cells #[.pointer none, .int .i64 0] 73)))
  have HN := Lib.hid (And.intro hs (And.intro h0 (And.intro h1 (And.intro h2 h3))))
  have HO := Lib.hid (And.intro (show sOk ([f]) from hh.right) (sok_ins (x1, x2) (show sOk ([f]) from hh.right)))
  clear hh hs h0 h1 h2 h3 hm
  go_enter Tryz.func25, Tryz.ntmps25
  go_wp2_with fail
  generalize ((w.alloc (.cells #[.pointer p.q, .int .i64 p.n] 73)).alloc (.cells #[.int .i64 x1, .int .i64 x2] 32)).alloc (.cells #[.pointer none, .int .i64 0] 73) = w1 at *
  obtain ⟨a, ha⟩ : ∃ a, a = w.heap.size := ⟨_, rfl⟩
  rw [← ha] at HF ⊢
  have HA := Lib.hid ha
  clear ha
  have HE := Lib.hid (show sInsN [f] = 0 ∧ sInsM [f] = 1 ∧ sIns [f] (x1, x2) = [leafT (x1, x2), f] from ⟨rfl, rfl, rfl⟩)
  obtain ⟨fa, hfa, hc⟩ := first_h HH.out
  have HC := Lib.hid hc
  have Hfa := Lib.hid hfa
  clear hc hfa
  ((with_reducible refine HC.out.mono ?_); rintro e w2 ⟨rfl, hb⟩)
  have F2 := Lib.hid (HF.out.stay hb)
  have K2 := Lib.hid (KK.out.stay hb)
  have L2 := Lib.hid (And.intro (show LAt _ ⟨[f]⟩ p from HH.out.stay hb) (Hfa.out.stay hb))
  clear hb HC Hfa
  have f20 := F2.out.h.c0
  have f21 := F2.out.h.c1
  go_wp2_with fail
  ((with_reducible refine (restL_h L2.out.1).mono ?_); rintro e w3 ⟨p3, rfl, ht3, hb⟩)
  have F3 := Lib.hid (F2.out.stay hb)
  have K3 := Lib.hid (K2.out.stay hb)
  have L3 := Lib.hid (And.intro (show LAt _ ⟨[f]⟩ p from L2.out.1.stay hb) (show LAt _ ⟨[]⟩ p3 from ht3))
  clear ht3 hb f20 f21
  go_wp2_with fail
  ((with_reducible refine (first_0 L3.out.2).mono ?_); rintro e w4 ⟨rfl, hb⟩)
  have F4 := Lib.hid (F3.out.stay hb)
  have K4 := Lib.hid (K3.out.stay hb)
  have L4 := Lib.hid ((show LAt _ ⟨[f]⟩ p from L3.out.1.stay hb))
  clear hb
  have f40 := F4.out.h.c0
  have f41 := F4.out.h.c1
  go_wp2_with fail
  have f2 := F4.out.e.c0
  have f3 := F4.out.e.c1
  have n1 : ¬ a = a + 1 + 1 := by omega
  have n2 : ¬ a + 1 + 1 = a := by omega
  have n3 : ¬ a + 1 = a + 1 + 1 := by omega
  have n4 : ¬ a + 1 + 1 = a + 1 := by omega
  go_region_held3 (fun w' => w'.cell? ⟨a, 0, none⟩ = some (.pointer p.q) ∧ w'.cell? ⟨a, 1, none⟩ = some (.int .i64 p.n) ∧ w'.cell? ⟨a + 1, 0, none⟩ = some (.int .i64 x1) ∧ w'.cell? ⟨a + 1, 1, none⟩ = some (.int .i64 x2)) (go_keep)
    (first | (go_at_call 47; ((with_reducible refine (push_h L5.out.1 (show TAt _ p5 (some (leafT (x1, x2))) from L5.out.2) (by rw [leafT_size]; have := HN.out; (try simp only [bSize] at *); omega) (HE.out.2.2 ▸ HO.out.2)).mono ?_); rintro e w6 ⟨p6, rfl, ht6, hb6⟩; have F6 := Lib.hid (F5.out.stay hb6); have K6 := Lib.hid (K5.out.stay hb6); have L6 := Lib.hid ht6; have kF60 := F6.out.h.c0; have kF61 := F6.out.h.c1; have kF62 := F6.out.e.c0; have kF63 := F6.out.e.c1; have r6 := F6.out.r.c0; have r7 := F6.out.r.c1; have z6 := F6.out.r.z0; have z7 := F6.out.r.z1; clear ht6 hb6)) | (go_at_call 49; ((with_reducible refine (leaf_any mo c m (x1, x2) _ K4.out.drew.mt (by have := HN.out; omega) (by have := HN.out; omega)).mono ?_); rintro e w5 ⟨p5, rfl, ht5, hm5, hb5⟩; have F5 := Lib.hid ((F4.out.stay ((Below.refl _ _).drew)).bt hb5 K4.out.drew.mt); have K5 := Lib.hid (K4.out.drew.turn hm5 hb5 node_ne); have L5 := Lib.hid (And.intro ((L4.out.stay ((Below.refl _ _).drew)).bt hb5 K4.out.drew.mt) ht5); have kF50 := F5.out.h.c0; have kF51 := F5.out.h.c1; have kF52 := F5.out.e.c0; have kF53 := F5.out.e.c1; clear ht5 hm5 hb5)))
  go_wp2_with fail
  have s0 := (F6.out.r.set (.pointer p6.q) (.int .i64 p6.n)).c0
  have s1 := (F6.out.r.set (.pointer p6.q) (.int .i64 p6.n)).c1
  have hk := K6.out.put2 F6.out.r heapT_ne (by decide) (by have := HA.out; omega) (.pointer p6.q) (.int .i64 p6.n)
  have eN := HE.out.1
  have eM := HE.out.2.1
  have eI := HE.out.2.2
  exact bodyPost_ret (v := hp p6) (by simp [results, Tryz.results25, go_sem, s0, s1]) rfl ⟨p6, rfl, by rw [eI]; exact L6.out.set2 F6.out.r heapT_ne _ _, by rw [eN, eM]; simpa using hk.mt, hk.bt⟩

set_option maxRecDepth 100000 in
set_option maxHeartbeats 4000000 in
theorem ins_ne (mo : Option Nat) (c m : Int) (f g : Tre) (r : List Tre) (hq : f.rank ≠ g.rank) (x1 x2 : Int) (p : HP) (w : World) (hs : bSize (f :: g :: r) < 134217728) (hm : MAt w mo c m) (h0 : 0 ≤ c) (h1 : c < 576460752303423488) (h2 : 0 ≤ m) (h3 : m < 576460752303423487)
    (hh : LAt w ⟨f :: g :: r⟩ p) : Calls Tryz.prog 25 #[hp p, mAddr mo, el (x1, x2)] w (Gave mo (c + (sInsN (f :: g :: r) : Nat)) (m + (sInsM (f :: g :: r) : Nat)) ⟨sIns (f :: g :: r) (x1, x2)⟩ w) := by
  have HF := Lib.hid (Fi.new w p (x1, x2))
  have KK := Lib.hid ((Trk.refl (N := NodeT) hm).stay (new3_below w (.cells #[.pointer p.q, .int .i64 p.n] 73) (.cells #[.int .i64 x1, .int .i64 x2] 32) (.cells #[.pointer none, .int .i64 0] 73)))
  have HH := Lib.hid (show LAt _ ⟨f :: g :: r⟩ p from hh.stay (new3_below w (.cells #[.pointer p.q, .int .i64 p.n] 73) (.cells #[.int .i64 x1, .int .i64 x2] 32) (.cells #[.pointer none, .int .i64 0] 73)))
  have HN := Lib.hid (And.intro hs (And.intro h0 (And.intro h1 (And.intro h2 h3))))
  have HO := Lib.hid (And.intro (show sOk (f :: g :: r) from hh.right) (sok_ins (x1, x2) (show sOk (f :: g :: r) from hh.right)))
  clear hh hs h0 h1 h2 h3 hm
  go_enter Tryz.func25, Tryz.ntmps25
  go_wp2_with fail
  generalize ((w.alloc (.cells #[.pointer p.q, .int .i64 p.n] 73)).alloc (.cells #[.int .i64 x1, .int .i64 x2] 32)).alloc (.cells #[.pointer none, .int .i64 0] 73) = w1 at *
  obtain ⟨a, ha⟩ : ∃ a, a = w.heap.size := ⟨_, rfl⟩
  rw [← ha] at HF ⊢
  have HA := Lib.hid ha
  clear ha
  have HE := Lib.hid (show sInsN (f :: g :: r) = 0 ∧ sInsM (f :: g :: r) = 1 ∧ sIns (f :: g :: r) (x1, x2) = leafT (x1, x2) :: f :: g :: r from ⟨by show (if f.rank = g.rank then 2 else 0) = 0; rw [if_neg hq], by show (if f.rank = g.rank then 2 else 1) = 1; rw [if_neg hq], sIns_ne _ hq⟩)
  obtain ⟨fa, hfa, hc⟩ := first_h HH.out
  have HC := Lib.hid hc
  have Hfa := Lib.hid hfa
  clear hc hfa
  ((with_reducible refine HC.out.mono ?_); rintro e w2 ⟨rfl, hb⟩)
  have F2 := Lib.hid (HF.out.stay hb)
  have K2 := Lib.hid (KK.out.stay hb)
  have L2 := Lib.hid (And.intro (show LAt _ ⟨f :: g :: r⟩ p from HH.out.stay hb) (Hfa.out.stay hb))
  clear hb HC Hfa
  have f20 := F2.out.h.c0
  have f21 := F2.out.h.c1
  go_wp2_with fail
  ((with_reducible refine (restL_h L2.out.1).mono ?_); rintro e w3 ⟨p3, rfl, ht3, hb⟩)
  have F3 := Lib.hid (F2.out.stay hb)
  have K3 := Lib.hid (K2.out.stay hb)
  have L3 := Lib.hid (And.intro (show LAt _ ⟨f :: g :: r⟩ p from L2.out.1.stay hb) (And.intro (L2.out.2.stay hb) (show LAt _ ⟨g :: r⟩ p3 from ht3)))
  clear ht3 hb f20 f21
  go_wp2_with fail
  obtain ⟨ga, hga, hc⟩ := first_h L3.out.2.2
  have HC := Lib.hid hc
  have Hga := Lib.hid hga
  clear hc hga
  ((with_reducible refine HC.out.mono ?_); rintro e w4 ⟨rfl, hb⟩)
  have F4 := Lib.hid (F3.out.stay hb)
  have K4 := Lib.hid (K3.out.stay hb)
  have L4 := Lib.hid (And.intro (show LAt _ ⟨f :: g :: r⟩ p from L3.out.1.stay hb) (And.intro (L3.out.2.1.stay hb) (Hga.out.stay hb)))
  clear hb HC Hga
  have f40 := F4.out.h.c0
  have f41 := F4.out.h.c1
  obtain ⟨rf, hrf⟩ : ∃ r, r = f.rank := ⟨_, rfl⟩
  obtain ⟨rg, hrg⟩ : ∃ r, r = g.rank := ⟨_, rfl⟩
  have HR := Lib.hid (And.intro hrf hrg)
  rw [← hrf, ← hrg] at hq
  clear hrf hrg
  go_wp2_with fail
  ((with_reducible refine (rank_at L4.out.2.1 rf HR.out.1).mono ?_); rintro e w5 ⟨rfl, hw⟩)
  subst hw
  go_wp2_with fail
  ((with_reducible refine (rank_at L4.out.2.2 rg HR.out.2).mono ?_); rintro e w5 ⟨rfl, hw⟩)
  subst hw
  have g1 : ((rf : Int) == (rg : Int)) = false := by simp; omega
  have g2 : ¬ (rf : Int) = (rg : Int) := by omega
  clear hq
  have L4b := L4
  clear L4
  have L4 := Lib.hid L4b.out.1
  clear L4b
  go_wp2_with fail
  have f2 := F4.out.e.c0
  have f3 := F4.out.e.c1
  have n1 : ¬ a = a + 1 + 1 := by omega
  have n2 : ¬ a + 1 + 1 = a := by omega
  have n3 : ¬ a + 1 = a + 1 + 1 := by omega
  have n4 : ¬ a + 1 + 1 = a + 1 := by omega
  go_region_held3 (fun w' => w'.cell? ⟨a, 0, none⟩ = some (.pointer p.q) ∧ w'.cell? ⟨a, 1, none⟩ = some (.int .i64 p.n) ∧ w'.cell? ⟨a + 1, 0, none⟩ = some (.int .i64 x1) ∧ w'.cell? ⟨a + 1, 1, none⟩ = some (.int .i64 x2)) (go_keep)
    (first | (go_at_call 47; ((with_reducible refine (push_h L5.out.1 (show TAt _ p5 (some (leafT (x1, x2))) from L5.out.2) (by rw [leafT_size]; have := HN.out; (try simp only [bSize] at *); omega) (HE.out.2.2 ▸ HO.out.2)).mono ?_); rintro e w6 ⟨p6, rfl, ht6, hb6⟩; have F6 := Lib.hid (F5.out.stay hb6); have K6 := Lib.hid (K5.out.stay hb6); have L6 := Lib.hid ht6; have kF60 := F6.out.h.c0; have kF61 := F6.out.h.c1; have kF62 := F6.out.e.c0; have kF63 := F6.out.e.c1; have r6 := F6.out.r.c0; have r7 := F6.out.r.c1; have z6 := F6.out.r.z0; have z7 := F6.out.r.z1; clear ht6 hb6)) | (go_at_call 49; ((with_reducible refine (leaf_any mo c m (x1, x2) _ K4.out.drew.mt (by have := HN.out; omega) (by have := HN.out; omega)).mono ?_); rintro e w5 ⟨p5, rfl, ht5, hm5, hb5⟩; have F5 := Lib.hid ((F4.out.stay ((Below.refl _ _).drew)).bt hb5 K4.out.drew.mt); have K5 := Lib.hid (K4.out.drew.turn hm5 hb5 node_ne); have L5 := Lib.hid (And.intro ((L4.out.stay ((Below.refl _ _).drew)).bt hb5 K4.out.drew.mt) ht5); have kF50 := F5.out.h.c0; have kF51 := F5.out.h.c1; have kF52 := F5.out.e.c0; have kF53 := F5.out.e.c1; clear ht5 hm5 hb5)))
  go_wp2_with fail
  have s0 := (F6.out.r.set (.pointer p6.q) (.int .i64 p6.n)).c0
  have s1 := (F6.out.r.set (.pointer p6.q) (.int .i64 p6.n)).c1
  have hk := K6.out.put2 F6.out.r heapT_ne (by decide) (by have := HA.out; omega) (.pointer p6.q) (.int .i64 p6.n)
  have eN := HE.out.1
  have eM := HE.out.2.1
  have eI := HE.out.2.2
  exact bodyPost_ret (v := hp p6) (by simp [results, Tryz.results25, go_sem, s0, s1]) rfl ⟨p6, rfl, by rw [eI]; exact L6.out.set2 F6.out.r heapT_ne _ _, by rw [eN, eM]; simpa using hk.mt, hk.bt⟩

set_option maxRecDepth 100000 in
set_option maxHeartbeats 4000000 in
theorem ins_eq (mo : Option Nat) (c m : Int) (f g : Tre) (r : List Tre) (hq : f.rank = g.rank) (x1 x2 : Int) (p : HP) (w : World) (hs : bSize (f :: g :: r) < 134217728) (hm : MAt w mo c m) (h0 : 0 ≤ c) (h1 : c < 576460752303423488) (h2 : 0 ≤ m) (h3 : m < 576460752303423487)
    (hh : LAt w ⟨f :: g :: r⟩ p) : Calls Tryz.prog 25 #[hp p, mAddr mo, el (x1, x2)] w (Gave mo (c + (sInsN (f :: g :: r) : Nat)) (m + (sInsM (f :: g :: r) : Nat)) ⟨sIns (f :: g :: r) (x1, x2)⟩ w) := by
  have HF := Lib.hid (Fi.new w p (x1, x2))
  have KK := Lib.hid ((Trk.refl (N := NodeT) hm).stay (new3_below w (.cells #[.pointer p.q, .int .i64 p.n] 73) (.cells #[.int .i64 x1, .int .i64 x2] 32) (.cells #[.pointer none, .int .i64 0] 73)))
  have HH := Lib.hid (show LAt _ ⟨f :: g :: r⟩ p from hh.stay (new3_below w (.cells #[.pointer p.q, .int .i64 p.n] 73) (.cells #[.int .i64 x1, .int .i64 x2] 32) (.cells #[.pointer none, .int .i64 0] 73)))
  have HN := Lib.hid (And.intro hs (And.intro h0 (And.intro h1 (And.intro h2 h3))))
  have HO := Lib.hid (And.intro (show sOk (f :: g :: r) from hh.right) (sok_ins (x1, x2) (show sOk (f :: g :: r) from hh.right)))
  clear hh hs h0 h1 h2 h3 hm
  go_enter Tryz.func25, Tryz.ntmps25
  go_wp2_with fail
  generalize ((w.alloc (.cells #[.pointer p.q, .int .i64 p.n] 73)).alloc (.cells #[.int .i64 x1, .int .i64 x2] 32)).alloc (.cells #[.pointer none, .int .i64 0] 73) = w1 at *
  obtain ⟨a, ha⟩ : ∃ a, a = w.heap.size := ⟨_, rfl⟩
  rw [← ha] at HF ⊢
  have HA := Lib.hid ha
  clear ha
  have HE := Lib.hid (show sInsN (f :: g :: r) = 2 ∧ sInsM (f :: g :: r) = 2 ∧ sIns (f :: g :: r) (x1, x2) = skT (x1, x2) f g :: r from ⟨by show (if f.rank = g.rank then 2 else 0) = 2; rw [if_pos hq], by show (if f.rank = g.rank then 2 else 1) = 2; rw [if_pos hq], sIns_eq _ hq⟩)
  obtain ⟨fa, hfa, hc⟩ := first_h HH.out
  have HC := Lib.hid hc
  have Hfa := Lib.hid hfa
  clear hc hfa
  ((with_reducible refine HC.out.mono ?_); rintro e w2 ⟨rfl, hb⟩)
  have F2 := Lib.hid (HF.out.stay hb)
  have K2 := Lib.hid (KK.out.stay hb)
  have L2 := Lib.hid (And.intro (show LAt _ ⟨f :: g :: r⟩ p from HH.out.stay hb) (Hfa.out.stay hb))
  clear hb HC Hfa
  have f20 := F2.out.h.c0
  have f21 := F2.out.h.c1
  go_wp2_with fail
  ((with_reducible refine (restL_h L2.out.1).mono ?_); rintro e w3 ⟨p3, rfl, ht3, hb⟩)
  have F3 := Lib.hid (F2.out.stay hb)
  have K3 := Lib.hid (K2.out.stay hb)
  have L3 := Lib.hid (And.intro (show LAt _ ⟨f :: g :: r⟩ p from L2.out.1.stay hb) (And.intro (L2.out.2.stay hb) (show LAt _ ⟨g :: r⟩ p3 from ht3)))
  clear ht3 hb f20 f21
  go_wp2_with fail
  obtain ⟨ga, hga, hc⟩ := first_h L3.out.2.2
  have HC := Lib.hid hc
  have Hga := Lib.hid hga
  clear hc hga
  ((with_reducible refine HC.out.mono ?_); rintro e w4 ⟨rfl, hb⟩)
  have F4 := Lib.hid (F3.out.stay hb)
  have K4 := Lib.hid (K3.out.stay hb)
  have L4 := Lib.hid (And.intro (show LAt _ ⟨f :: g :: r⟩ p from L3.out.1.stay hb) (And.intro (L3.out.2.1.stay hb) (Hga.out.stay hb)))
  clear hb HC Hga
  have f40 := F4.out.h.c0
  have f41 := F4.out.h.c1
  obtain ⟨rf, hrf⟩ : ∃ r, r = f.rank := ⟨_, rfl⟩
  obtain ⟨rg, hrg⟩ : ∃ r, r = g.rank := ⟨_, rfl⟩
  have HR := Lib.hid (And.intro hrf hrg)
  rw [← hrf, ← hrg] at hq
  clear hrf hrg
  go_wp2_with fail
  ((with_reducible refine (rank_at L4.out.2.1 rf HR.out.1).mono ?_); rintro e w5 ⟨rfl, hw⟩)
  subst hw
  go_wp2_with fail
  ((with_reducible refine (rank_at L4.out.2.2 rg HR.out.2).mono ?_); rintro e w5 ⟨rfl, hw⟩)
  subst hw
  have g1 : ((rf : Int) == (rg : Int)) = true := by simp; omega
  have g2 : (rf : Int) = (rg : Int) := by omega
  clear hq
  go_wp2_with fail
  ((with_reducible refine (drop2_h L4.out.1).mono ?_); rintro e w6 ⟨p8, rfl, ht6, hb6⟩)
  have hb7 : Below w5.heap.size w5 (w6.alloc (.cells #[.pointer p8.q, .int .i64 p8.n] 71)) := hb6.alloc hb6.size (.cells #[.pointer p8.q, .int .i64 p8.n] 71)
  have bV := Box2.new w6 71 (.pointer p8.q) (.int .i64 p8.n)
  have F7 := Lib.hid (F4.out.stay hb7)
  have K7 := Lib.hid (K4.out.stay hb7)
  have L7 := Lib.hid (And.intro (show LAt (w6.alloc (.cells #[.pointer p8.q, .int .i64 p8.n] 71)) ⟨r⟩ p8 from LAt.stay (show LAt w6 ⟨r⟩ p8 from ht6) ((Below.refl _ _).alloc (Nat.le_refl _) _)) (And.intro (L4.out.2.1.stay hb7) (L4.out.2.2.stay hb7)))
  have HVL := Lib.hid (Nat.lt_of_lt_of_le F4.out.r.lt hb6.size)
  clear ht6 hb6 hb7 f40 f41 F4 K4 L4
  have V7 := Lib.hid bV
  clear bV
  go_wp2_with fail
  generalize w6.alloc (.cells #[.pointer p8.q, .int .i64 p8.n] 71) = w7 at *
  obtain ⟨v, hv⟩ : ∃ v, v = w6.heap.size := ⟨_, rfl⟩
  rw [← hv] at V7 HVL ⊢
  clear hv
  have v0 := V7.out.c0
  have v1 := V7.out.c1
  have f2 := F7.out.e.c0
  have f3 := F7.out.e.c1
  have n1 : ¬ v = a + 1 + 1 := by have := HVL.out; omega
  have n2 : ¬ a + 1 + 1 = v := by have := HVL.out; omega
  have n3 : ¬ a + 1 = a + 1 + 1 := by have := HVL.out; omega
  have n4 : ¬ a + 1 + 1 = a + 1 := by have := HVL.out; omega
  go_region_held3 (fun w' => w'.cell? ⟨v, 0, none⟩ = some (.pointer p8.q) ∧ w'.cell? ⟨v, 1, none⟩ = some (.int .i64 p8.n) ∧ w'.cell? ⟨a + 1, 0, none⟩ = some (.int .i64 x1) ∧ w'.cell? ⟨a + 1, 1, none⟩ = some (.int .i64 x2)) (go_keep)
    (first | (go_at_call 47; ((with_reducible refine (push_h L8.out.1 L8.out.2 (by rw [skT_size]; have := HN.out; (try simp only [bSize] at *); omega) (HE.out.2.2 ▸ HO.out.2)).mono ?_); rintro e w9 ⟨p6, rfl, ht6, hb6⟩; have F9 := Lib.hid (F8.out.stay hb6); have V9 := Lib.hid (V8.out.stay hb6); have K9 := Lib.hid (K8.out.stay hb6); have L9 := Lib.hid ht6; have kV90 := V9.out.c0; have kV91 := V9.out.c1; have kF92 := F9.out.e.c0; have kF93 := F9.out.e.c1; have r6 := F9.out.r.c0; have r7 := F9.out.r.c1; have z6 := F9.out.r.z0; have z7 := F9.out.r.z1; clear ht6 hb6)) | (go_at_call 48; ((with_reducible refine (skew_any mo c m (x1, x2) fa ga (some f) (some g) _ K7.out.drew.mt HN.out.2.1 (by have := HN.out; omega) HN.out.2.2.2.1 (by have := HN.out; omega) (L7.out.2.1.stay ((Below.refl _ _).drew)) (L7.out.2.2.stay ((Below.refl _ _).drew)) (by have := HN.out; simp only [osize, bSize] at *; omega) (by have := HN.out; simp only [osize, bSize] at *; omega)).mono ?_); rintro e w8 ⟨p5, rfl, ht5, hm5, hb5⟩; have F8 := Lib.hid ((F7.out.stay ((Below.refl _ _).drew)).bt hb5 K7.out.drew.mt); have V8 := Lib.hid ((V7.out.stay ((Below.refl _ _).drew)).bt hb5 K7.out.drew.mt (by decide)); have K8 := Lib.hid (K7.out.drew.turn hm5 hb5 node_ne); have L8 := Lib.hid (And.intro ((L7.out.1.stay ((Below.refl _ _).drew)).bt hb5 K7.out.drew.mt) (show TAt _ p5 (some (skT (x1, x2) f g)) from ht5)); have kV80 := V8.out.c0; have kV81 := V8.out.c1; have kF82 := F8.out.e.c0; have kF83 := F8.out.e.c1; clear ht5 hm5 hb5)))
  go_wp2_with fail
  have s0 := (F9.out.r.set (.pointer p6.q) (.int .i64 p6.n)).c0
  have s1 := (F9.out.r.set (.pointer p6.q) (.int .i64 p6.n)).c1
  have hk := K9.out.put2 F9.out.r heapT_ne (by decide) (by have := HA.out; omega) (.pointer p6.q) (.int .i64 p6.n)
  have eN := HE.out.1
  have eM := HE.out.2.1
  have eI := HE.out.2.2
  have hmt := hk.mt
  rw [show c + (lnkN (some f) (some g) : Nat) + (skwN (some f) (some g) : Nat) = c + ((2 : Nat) : Int) from by simp only [lnkN, skwN]; omega, show m + (lnkN (some f) (some g) : Nat) + 1 = m + ((2 : Nat) : Int) from by simp only [lnkN]; omega] at hmt
  exact bodyPost_ret (v := hp p6) (by simp [results, Tryz.results25, go_sem, s0, s1]) rfl ⟨p6, rfl, by rw [eI]; exact L9.out.set2 F9.out.r heapT_ne _ _, by rw [eN, eM]; exact hmt, hk.bt⟩

theorem insert_any (mo : Option Nat) (c m : Int) (h : Lh) (x : Int × Int) (p : HP) (w : World) (hs : h.size < 134217728) (hm : MAt w mo c m) (h0 : 0 ≤ c) (h1 : c < 576460752303423488) (h2 : 0 ≤ m) (h3 : m < 576460752303423487)
    (hh : LAt w h p) : Calls Tryz.prog 25 #[hp p, mAddr mo, el x] w (Gave mo (c + h.insC) (m + h.insM) (h.insert x) w) := by
  obtain ⟨l⟩ := h
  obtain ⟨x1, x2⟩ := x
  match l, hs, hh with
  | [], hs, hh => exact ins_nil mo c m x1 x2 p w hs hm h0 h1 h2 h3 hh
  | [f], hs, hh => exact ins_one mo c m f x1 x2 p w hs hm h0 h1 h2 h3 hh
  | f :: g :: r, hs, hh =>
    by_cases hq : f.rank = g.rank
    · exact ins_eq mo c m f g r hq x1 x2 p w hs hm h0 h1 h2 h3 hh
    · exact ins_ne mo c m f g r hq x1 x2 p w hs hm h0 h1 h2 h3 hh

end Go.Proofs.YtaeainnkhjnlaaaGreatDoor.Hp
namespace Go.Proofs.YtaeainnkhjnlaaaGreatDoor.Hp
open Go.Sort Go.RowKit

theorem alloc_old {w : World} {k : Nat} (o : Obj) (h : k < w.heap.size) : (w.alloc o).heap[k]? = w.heap[k]? := ((Below.refl w.heap.size w).alloc (Nat.le_refl _) o).block k h
theorem heap_other {W : World} {b k : Nat} (j : Nat) (v : Value) (h : k ≠ b) : (W.setCell ⟨b, j, none⟩ v).heap[k]? = W.heap[k]? := Below.heap_setCell W ⟨b, j, none⟩ v k h
theorem cell_old {w : World} {q : Addr} {v : Value} (h : w.cell? q = some v) (o : Obj) : (w.alloc o).cell? q = some v := (((Below.refl w.heap.size w).alloc (Nat.le_refl _) o).cell (block_lt_of_cell h)).trans h
/-- A heap with a row put in. -/
abbrev puts (h : Lh) (xs : List (Int × Int)) : Lh := xs.foldl Lh.insert h
theorem puts_size : ∀ (xs : List (Int × Int)) (h : Lh), (puts h xs).size = h.size + xs.length
  | [], _ => rfl
  | x :: r, h => by
    show (puts (h.insert x) r).size = _
    rw [puts_size r (h.insert x), insert_size, List.length_cons]; omega
theorem putC_take (h : Lh) (xs : List (Int × Int)) (k : Nat) (hk : k < xs.length) : putC h (xs.take (k + 1)) = putC h (xs.take k) + (puts h (xs.take k)).insC ∧ putM h (xs.take (k + 1)) = putM h (xs.take k) + (puts h (xs.take k)).insM := by
  rw [List.take_succ_eq_append_getElem hk]
  exact ⟨putC_snoc _ _ _, putM_snoc _ _ _⟩
theorem puts_take (h : Lh) (xs : List (Int × Int)) (k : Nat) (hk : k < xs.length) : puts h (xs.take (k + 1)) = (puts h (xs.take k)).insert xs[k] := by
  rw [List.take_succ_eq_append_getElem hk, puts, List.foldl_append]; rfl

set_option maxRecDepth 100000 in
set_option maxHeartbeats 4000000 in
theorem with_any (mo : Option Nat) (c m : Int) (h : Lh) (p0 : HP) (A : Option Addr) (xs : List (Int × Int)) (cap : Nat) (w : World) (hm : MAt w mo c m) (h0 : 0 ≤ c) (h1 : c < 288230376151711744) (h2 : 0 ≤ m) (h3 : m < 288230376151711744) (hr : Row w A xs) (hn : h.size + xs.length < 134217728)
    (hne : 0 < xs.length → ∀ b, mo = some b → ∀ q, A = some q → q.block ≠ b) (hh : LAt w h p0) :
    Calls Tryz.prog 63 #[hp p0, mAddr mo, .slice A xs.length cap] w (Gave mo (c + putC h xs) (m + putM h xs) (puts h xs) w) := by
  have HF := Lib.hid (F2.new w p0)
  have KK := Lib.hid ((Trk.refl (N := NodeT) hm).stay (new2_below w (.cells #[.pointer p0.q, .int .i64 p0.n] 73) (.cells #[.pointer none, .int .i64 0] 73)))
  have HL := Lib.hid (hh.stay (new2_below w (.cells #[.pointer p0.q, .int .i64 p0.n] 73) (.cells #[.pointer none, .int .i64 0] 73)))
  have HR := Lib.hid (And.intro hr hne)
  have HN := Lib.hid (And.intro h0 (And.intro h1 (And.intro h2 h3)))
  obtain ⟨n, hnn⟩ : ∃ n, n = xs.length := ⟨_, rfl⟩
  rw [← hnn] at hn ⊢
  have HX := Lib.hid (And.intro hnn hn)
  clear hr hne h0 h1 h2 h3 hm hnn hn hh
  go_enter Tryz.func63, Tryz.ntmps63
  go_wp2_with fail
  generalize (w.alloc (.cells #[.pointer p0.q, .int .i64 p0.n] 73)).alloc (.cells #[.pointer none, .int .i64 0] 73) = w1 at *
  obtain ⟨a, ha⟩ : ∃ a, a = w.heap.size := ⟨_, rfl⟩
  rw [← ha] at HF ⊢
  have HA := Lib.hid ha
  clear ha
  go_loopg [11] n (fun k i wr => ∃ (j : Nat) (p : HP), i = .int .i64 (j : Int) ∧ j + k = n ∧ Box2 wr a 73 (.pointer p.q) (.int .i64 p.n) ∧ Box2 wr (a + 1) 73 (.pointer none) (.int .i64 0) ∧ LAt wr (puts h (xs.take j)) p ∧ Trk NodeT mo w (c + putC h (xs.take j)) (m + putM h (xs.take j)) wr)
  case atStart => exact ⟨0, p0, rfl, by omega, HF.out.h, HF.out.r, HL.out, by simpa [putC, putM] using KK.out⟩
  case round =>
    obtain ⟨j, p, rfl, hj, hra, hrb, ht, hk⟩ := hrel
    by_cases hlt : j < n
    · have hjx : j < xs.length := by rw [← HX.out.1]; exact hlt
      obtain ⟨b, o, rfl, hc⟩ := HR.out.1 (by omega)
      have hx := row_at hc j hjx
      have hne := fun bb (eb : mo = some bb) => HR.out.2 (by omega) bb eb _ rfl
      have x0 := hk.bt.cell hx.1 hne
      have x1 := hk.bt.cell hx.2 hne
      have hpl := put_le (xs.take j) h
      have htl : (xs.take j).length = j := by rw [List.length_take]; omega
      rw [htl] at hpl
      have hsz : (puts h (xs.take j)).size = h.size + j := by rw [puts_size, htl]
      have eP := putC_take h xs j hjx
      have eO := puts_take h xs j hjx
      generalize xs[j] = x at *
      obtain ⟨y1, y2⟩ := x
      have q1 : (j : Int) < (n : Int) := by omega
      have q2 : (0 : Int) ≤ (j : Int) := by omega
      have h1c := hra.c0
      have h1d := hra.c1
      have h2c := (hra.alloc (.cells #[.int .i64 y1, .int .i64 y2] 32)).c0
      have h2d := (hra.alloc (.cells #[.int .i64 y1, .int .i64 y2] 32)).c1
      have X := Lib.hid (And.intro hra (And.intro hrb (And.intro ht (And.intro hk (And.intro eP (And.intro eO (And.intro hpl (And.intro hsz hj))))))))
      clear hra hrb ht hk eP eO hpl htl hsz hj hc hx hne hjx
      go_wp2_with fail
      clear h1c h2c h1d h2d x0 x1
      ((with_reducible refine (insert_any mo _ _ (puts h (xs.take j)) (y1, y2) p _ (by rw [X.out.2.2.2.2.2.2.2.1]; have := HX.out; omega) (X.out.2.2.2.1.alloc _).mt (by have := HN.out; omega) (by have := HN.out; have := X.out.2.2.2.2.2.2.1; have := HX.out; omega) (by have := HN.out; omega) (by have := HN.out; have := X.out.2.2.2.2.2.2.1; have := HX.out; omega) (X.out.2.2.1.stay ((Below.refl _ _).alloc (Nat.le_refl _) _))).mono ?_); rintro e w2 ⟨p2, rfl, ht2, hm2, hb2⟩)
      obtain ⟨hra, hrb, ht, hk, eP, eO, hpl, hsz, hj⟩ := X.out
      have hk2 := (hk.alloc (.cells #[.int .i64 y1, .int .i64 y2] 32)).turn hm2 hb2 node_ne
      have ra2 := (hra.alloc (.cells #[.int .i64 y1, .int .i64 y2] 32)).bt hb2 (hk.alloc _).mt (by decide)
      have rb2 := (hrb.alloc (.cells #[.int .i64 y1, .int .i64 y2] 32)).bt hb2 (hk.alloc _).mt (by decide)
      have e1 : c + ((putC h (xs.take (j + 1)) : Nat) : Int) = c + (putC h (xs.take j) : Nat) + ((puts h (xs.take j)).insC : Nat) := by rw [eP.1]; omega
      have e2 : m + ((putM h (xs.take (j + 1)) : Nat) : Int) = m + (putM h (xs.take j) : Nat) + ((puts h (xs.take j)).insM : Nat) := by rw [eP.2]; omega
      rw [← e1, ← e2] at hk2
      rw [← eO] at ht2
      have z2 := ra2.z0
      have z3 := ra2.z1
      have r2 := ra2.c0
      have r3 := ra2.c1
      have Y := Lib.hid (And.intro (ra2.set (.pointer p2.q) (.int .i64 p2.n)) (And.intro (rb2.aside (g := a) (by omega) (.pointer p2.q) (.int .i64 p2.n)) (And.intro (ht2.set2 ra2 heapT_ne (.pointer p2.q) (.int .i64 p2.n)) (hk2.put2 ra2 heapT_ne (by decide) (by rw [← HA.out]; omega) (.pointer p2.q) (.int .i64 p2.n)))))
      clear hra hrb ht hk eP eO hpl hsz hk2 ra2 rb2 e1 e2 ht2 hm2 hb2 X
      go_wp2_with fail
      go_roundg (n - 1 - j)
      case measure => omega
      case rel => exact ⟨j + 1, p2, by have h5 := HX.out; congr 1; unfold wrap64; omega, by omega, Y.out.1, Y.out.2.1, Y.out.2.2.1, Y.out.2.2.2⟩
    · have hjn : j = n := by omega
      subst hjn
      rw [HX.out.1, List.take_length] at ht hk
      have h1c := hra.c0
      have h1d := hra.c1
      have r6 := hrb.c0
      have r7 := hrb.c1
      have z6 := hrb.z0
      have z7 := hrb.z1
      have s0 := (hrb.set (.pointer p.q) (.int .i64 p.n)).c0
      have s1 := (hrb.set (.pointer p.q) (.int .i64 p.n)).c1
      have hk2 := hk.put2 hrb heapT_ne (by decide) (by rw [← HA.out]; omega) (.pointer p.q) (.int .i64 p.n)
      have X := Lib.hid (And.intro (ht.set2 hrb heapT_ne (.pointer p.q) (.int .i64 p.n)) hk2)
      clear hra hrb ht hk hk2 hlt hj
      go_wp2_with fail
      exact bodyPost_ret (v := hp p) (by simp [results, Tryz.results63, go_sem, s0, s1]) rfl ⟨p, rfl, X.out.1, X.out.2.mt, X.out.2.bt⟩

end Go.Proofs.YtaeainnkhjnlaaaGreatDoor.Hp
