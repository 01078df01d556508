/-
  Contract of a pairing heap's Insert, by a meter or none: which heap it makes, how many comparisons and nodes the meter counts, that what was there stays but for the meter's block. Conditions: fewer than 2 to the 27th elements, counts below 2 to the 59th.
-/
import Derived.Test.YtpclafbolppgcaaDoorPd2b
namespace Go.Proofs.YtpclafbolppgcaaDoor
open Go.Sort Go.RowKit

/-- A node of one element. -/
theorem build_one (mo : Option Nat) (c m : Int) (x1 x2 : Int) (w : World) (hm : MAt w mo c m) (h2 : 0 ≤ m) (h3 : m < 4611686018427387904) :
    Calls Tryd.prog 38 #[mAddr mo, .agg #[.int .i64 x1, .int .i64 x2, .pointer none, .int .i64 0, .int .i64 1]] w (Gave mo c (m + 1) (.one (x1, x2)) w) :=
  build_any mo c m x1 x2 .nil none 0 1 w hm h2 h3 rfl rfl rfl

/-- The variables of Insert: a heap, an element, what it hands back. -/
structure Fi (W : World) (a : Nat) (p : Option Addr) (x : Int × Int) : Prop where
  h : W.heap[a]? = some (.cells #[.pointer p] 29 (0, 0))
  e : W.heap[a + 1]? = some (.cells #[.int .i64 x.1, .int .i64 x.2] 32 (0, 0))
  r : W.heap[a + 2]? = some (.cells #[.pointer none] 29 (0, 0))
section
variable {W W' : World} {a : Nat} {p : Option Addr} {x : Int × Int} {mo : Option Nat} {c m : Int}
theorem Fi.new (w : World) (p : Option Addr) (x : Int × Int) : Fi (((w.alloc (.cells #[.pointer p] 29)).alloc (.cells #[.int .i64 x.1, .int .i64 x.2] 32)).alloc (.cells #[.pointer none] 29)) w.heap.size p x := by
  refine ⟨?_, ?_, ?_⟩
  · rw [alloc_old _ (by simp only [World.size_alloc]; omega), alloc_old _ (by simp only [World.size_alloc]; omega)]; exact new_at rfl
  · rw [alloc_old _ (by simp only [World.size_alloc]; omega)]; exact new_at (by simp)
  · exact new_at (by simp)
theorem Fi.turn (h : Fi W a p x) (hb : Bt mo W W') (hm : MAt W mo c m) : Fi W' a p x :=
  ⟨hb.row hm h.h (by decide), hb.row hm h.e (by decide), hb.row hm h.r (by decide)⟩
theorem Fi.stay (h : Fi W a p x) (hb : Below W.heap.size W W') : Fi W' a p x :=
  ⟨(hb.block _ (lt_of_heap h.h)).trans h.h, (hb.block _ (lt_of_heap h.e)).trans h.e, (hb.block _ (lt_of_heap h.r)).trans h.r⟩
theorem Fi.h0 (h : Fi W a p x) : W.cell? ⟨a, 0, none⟩ = some (.pointer p) := by simp [World.cell?, h.h]
theorem Fi.e0 (h : Fi W a p x) : W.cell? ⟨a + 1, 0, none⟩ = some (.int .i64 x.1) := by simp [World.cell?, h.e]
theorem Fi.e1 (h : Fi W a p x) : W.cell? ⟨a + 1, 1, none⟩ = some (.int .i64 x.2) := by simp [World.cell?, h.e]
theorem Fi.r0 (h : Fi W a p x) : W.cell? ⟨a + 2, 0, none⟩ = some (.pointer none) := by simp [World.cell?, h.r]
theorem Fi.zr (h : Fi W a p x) : W.frozen? ⟨a + 2, 0, none⟩ = false := by simp [World.frozen?, h.r]
end

set_option maxRecDepth 100000 in
set_option maxHeartbeats 4000000 in
theorem insert_any (mo : Option Nat) (c m : Int) (h : Lh) (x : Int × Int) (p : Option Addr) (w : World) (hs : h.size < 134217728) (hm : MAt w mo c m) (h0 : 0 ≤ c) (h1 : c < 576460752303423488) (h2 : 0 ≤ m) (h3 : m < 576460752303423487)
    (hh : LAt w h p) : Calls Tryd.prog 18 #[hp p, mAddr mo, el x] w (Gave mo (c + meldN (.one x) h) (m + 1 + meldN (.one x) h) (h.insert x) w) := by
  obtain ⟨x1, x2⟩ := x
  have F1 : Fi (((w.alloc (.cells #[.pointer p] 29)).alloc (.cells #[.int .i64 x1, .int .i64 x2] 32)).alloc (.cells #[.pointer none] 29)) w.heap.size p (x1, x2) := Fi.new w p (x1, x2)
  have hb1 : Below w.heap.size w (((w.alloc (.cells #[.pointer p] 29)).alloc (.cells #[.int .i64 x1, .int .i64 x2] 32)).alloc (.cells #[.pointer none] 29)) :=
    (((Below.refl _ _).alloc (Nat.le_refl _) _).alloc (by simp) _).alloc (by simp only [World.size_alloc]; omega) _
  have K1 : Trk NodeT mo w c m (((w.alloc (.cells #[.pointer p] 29)).alloc (.cells #[.int .i64 x1, .int .i64 x2] 32)).alloc (.cells #[.pointer none] 29)) := (Trk.refl hm).stay hb1
  have HH := Lib.hid hh
  have HN := Lib.hid (And.intro hs (And.intro h0 (And.intro h1 (And.intro h2 h3))))
  have HF := Lib.hid F1
  have KK := Lib.hid K1
  clear hh hs h0 h1 h2 h3 F1 K1 hb1 hm
  go_enter Tryd.func18, Tryd.ntmps18
  go_wp2_with fail
  generalize ((w.alloc (.cells #[.pointer p] 29)).alloc (.cells #[.int .i64 x1, .int .i64 x2] 32)).alloc (.cells #[.pointer none] 29) = w1 at *
  obtain ⟨a, ha⟩ : ∃ a, a = w.heap.size := ⟨_, rfl⟩
  rw [← ha] at HF ⊢
  have HA := Lib.hid ha
  clear ha
  have F4 := HF
  have K4 := KK
  have f0 := F4.out.h0
  have f1 := F4.out.e0
  have f2 := F4.out.e1
  have n1 : ¬ a = a + 1 + 1 := by omega
  have n2 : ¬ a + 1 + 1 = a := by omega
  go_region_held3 (fun w' => w'.cell? ⟨a, 0, none⟩ = some (.pointer p) ∧ w'.cell? ⟨a + 1, 0, none⟩ = some (.int .i64 x1) ∧ w'.cell? ⟨a + 1, 1, none⟩ = some (.int .i64 x2)) (go_keep)
    (first | (go_at_call 20; ((with_reducible refine (meld_any mo (.one (x1, x2)) h c (m + 1) p5 p _ (by rw [one_size]; have := HN.out; omega) K5.out.mt HN.out.2.1 (by have := HN.out; omega) (by have := HN.out; omega) (by have := HN.out; omega) T5.out (HH.out.kp K5.out.kp)).mono ?_); rintro e w6 ⟨p6, rfl, ht6, hm6, hb6⟩; have F6 := Lib.hid (F5.out.turn hb6 K5.out.mt); have K6 := Lib.hid (K5.out.turn hm6 hb6 node_ne); have T6 := Lib.hid ht6; have k0 := F6.out.h0; have k1 := F6.out.e0; have k2 := F6.out.e1; have r6 := F6.out.r0; have z6 := F6.out.zr; clear ht6 hm6 hb6)) | (go_at_call 38; ((with_reducible refine (build_one mo c m x1 x2 _ K4.out.drew.mt HN.out.2.2.2.1 (by have := HN.out; omega)).mono ?_); rintro e w5 ⟨p5, rfl, ht5, hm5, hb5⟩; have F5 := Lib.hid ((F4.out.stay ((Below.refl _ _).drew)).turn hb5 K4.out.drew.mt); have K5 := Lib.hid (K4.out.drew.turn hm5 hb5 node_ne); have T5 := Lib.hid ht5; have g0 := F5.out.h0; have g1 := F5.out.e0; have g2 := F5.out.e1; clear ht5 hm5 hb5)))
  go_wp2_with fail
  have hk := (K6.out.put F6.out.r heapT_ne (by decide) (by rw [← HA.out]; omega) 0 (.pointer p6))
  exact bodyPost_ret (v := hp p6) (by simp [results, Tryd.results18, go_sem, r6]) rfl ⟨_, rfl, T6.out.kp (Kpt.set F6.out.r heapT_ne 0 _), hk.mt, hk.bt⟩


end Go.Proofs.YtpclafbolppgcaaDoor
