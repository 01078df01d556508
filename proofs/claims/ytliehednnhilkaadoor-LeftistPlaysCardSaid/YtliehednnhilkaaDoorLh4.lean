/-
  Contracts of a leftist heap's Insert and Pop and of Of, by a meter or none: which heap each makes, how many comparisons and nodes the meter counts, that what was there stays but for the meter's block. Conditions: fewer than 2 to the 24th elements, counts below 2 to the 58th.
-/
import Derived.Test.YtliehednnhilkaaDoorLh3
import Derived.Test.YtliehednnhilkaaDoorRow
import Derived.Deep.LoopGhost
namespace Go.Proofs.YtliehednnhilkaaDoor
open Go.Sort Go.RowKit

theorem Kept.drew {w : World} {mo : Option Nat} {g : Nat} (h : Kept w mo g) : Kept w.drew mo g := h
theorem LAt.none (w : World) : LAt w .nil Option.none := rfl
theorem mkH_one (x : Int × Int) : mkH x .nil .nil = .one x := rfl

/-- The variables of Insert: a heap, an element, what it hands back. -/
structure Fi (W : World) (a : Nat) (p : Option Addr) (x : Int × Int) : Prop where
  h : W.heap[a]? = some (.cells #[.pointer p] 29 (0, 0))
  e : W.heap[a + 1]? = some (.cells #[.int .i64 x.1, .int .i64 x.2] 32 (0, 0))
  r : W.heap[a + 2]? = some (.cells #[.pointer none] 29 (0, 0))
section
variable {W W' : World} {a : Nat} {p : Option Addr} {x : Int × Int} {mo : Option Nat} {c m : Int}
theorem Fi.new (w : World) (p : Option Addr) (x : Int × Int) : Fi (((w.alloc (.cells #[.pointer p] 29)).alloc (.cells #[.int .i64 x.1, .int .i64 x.2] 32)).alloc (.cells #[.pointer none] 29)) w.heap.size p x := by
  refine ⟨?_, ?_, ?_⟩
  · rw [alloc_old _ (by simp only [World.size_alloc]; omega), alloc_old _ (by simp only [World.size_alloc]; omega)]; exact new_at rfl
  · rw [alloc_old _ (by simp only [World.size_alloc]; omega)]; exact new_at (by simp)
  · exact new_at (by simp)
theorem Fi.turn (h : Fi W a p x) (hb : Bt mo W W') (hm : MAt W mo c m) : Fi W' a p x :=
  ⟨hb.row hm h.h (by decide), hb.row hm h.e (by decide), hb.row hm h.r (by decide)⟩
theorem Fi.stay (h : Fi W a p x) (hb : Below W.heap.size W W') : Fi W' a p x :=
  ⟨(hb.block _ (lt_of_heap h.h)).trans h.h, (hb.block _ (lt_of_heap h.e)).trans h.e, (hb.block _ (lt_of_heap h.r)).trans h.r⟩
theorem Fi.h0 (h : Fi W a p x) : W.cell? ⟨a, 0, none⟩ = some (.pointer p) := by simp [World.cell?, h.h]
theorem Fi.e0 (h : Fi W a p x) : W.cell? ⟨a + 1, 0, none⟩ = some (.int .i64 x.1) := by simp [World.cell?, h.e]
theorem Fi.e1 (h : Fi W a p x) : W.cell? ⟨a + 1, 1, none⟩ = some (.int .i64 x.2) := by simp [World.cell?, h.e]
theorem Fi.r0 (h : Fi W a p x) : W.cell? ⟨a + 2, 0, none⟩ = some (.pointer none) := by simp [World.cell?, h.r]
theorem Fi.zr (h : Fi W a p x) : W.frozen? ⟨a + 2, 0, none⟩ = false := by simp [World.frozen?, h.r]
end

set_option maxRecDepth 100000 in
set_option maxHeartbeats 4000000 in
theorem insert_any (mo : Option Nat) (c m : Int) (h : Lh) (x : Int × Int) (p : Option Addr) (w : World) (hs : h.size < 134217728) (hm : MAt w mo c m) (h0 : 0 ≤ c) (h1 : c < 576460752303423488) (h2 : 0 ≤ m) (h3 : m < 576460752303423487)
    (hh : LAt w h p) : Calls Tryd.prog 18 #[hp p, mAddr mo, el x] w (Gave mo (c + meldN (.one x) h) (m + 1 + meldN (.one x) h) (h.insert x) w) := by
  obtain ⟨x1, x2⟩ := x
  have F1 : Fi (((w.alloc (.cells #[.pointer p] 29)).alloc (.cells #[.int .i64 x1, .int .i64 x2] 32)).alloc (.cells #[.pointer none] 29)) w.heap.size p (x1, x2) := Fi.new w p (x1, x2)
  have hb1 : Below w.heap.size w (((w.alloc (.cells #[.pointer p] 29)).alloc (.cells #[.int .i64 x1, .int .i64 x2] 32)).alloc (.cells #[.pointer none] 29)) :=
    (((Below.refl _ _).alloc (Nat.le_refl _) _).alloc (by simp) _).alloc (by simp only [World.size_alloc]; omega) _
  have K1 : Trk NodeT mo w c m (((w.alloc (.cells #[.pointer p] 29)).alloc (.cells #[.int .i64 x1, .int .i64 x2] 32)).alloc (.cells #[.pointer none] 29)) := (Trk.refl hm).stay hb1
  have HH := Lib.hid hh
  have HN := Lib.hid (And.intro hs (And.intro h0 (And.intro h1 (And.intro h2 h3))))
  have HF := Lib.hid F1
  have KK := Lib.hid K1
  clear hh hs h0 h1 h2 h3 F1 K1 hb1 hm
  go_enter Tryd.func18, Tryd.ntmps18
  go_wp2_with fail
  generalize ((w.alloc (.cells #[.pointer p] 29)).alloc (.cells #[.int .i64 x1, .int .i64 x2] 32)).alloc (.cells #[.pointer none] 29) = w1 at *
  obtain ⟨a, ha⟩ : ∃ a, a = w.heap.size := ⟨_, rfl⟩
  rw [← ha] at HF ⊢
  have HA := Lib.hid ha
  clear ha
  ((with_reducible refine (builder_any mo _).mono ?_); rintro e w4 ⟨rfl, hg4, hb4⟩)
  have F4 := Lib.hid (HF.out.stay hb4)
  have K4 := Lib.hid (KK.out.stay hb4)
  have G4 := Lib.hid hg4
  obtain ⟨g, hg⟩ : ∃ g, g = w1.heap.size := ⟨_, rfl⟩
  rw [← hg] at G4 ⊢
  clear hg hg4 hb4
  have f0 := F4.out.h0
  have f1 := F4.out.e0
  have f2 := F4.out.e1
  go_wp2_with fail
  have n1 : ¬ a = a + 1 + 1 := by omega
  have n2 : ¬ a + 1 + 1 = a := by omega
  go_region_held3 (fun w' => w'.cell? ⟨a, 0, none⟩ = some (.pointer p) ∧ w'.cell? ⟨a + 1, 0, none⟩ = some (.int .i64 x1) ∧ w'.cell? ⟨a + 1, 1, none⟩ = some (.int .i64 x2)) (go_keep)
    (first | (go_at_call 20; ((with_reducible refine (meld_any mo (.one (x1, x2)) h c (m + 1) p5 p _ (by rw [one_size]; have := HN.out; omega) K5.out.mt HN.out.2.1 HN.out.2.2.1 (by have := HN.out; omega) (by have := HN.out; omega) T5.out (HH.out.kp K5.out.kp)).mono ?_); rintro e w6 ⟨p6, rfl, ht6, hm6, hb6⟩; have F6 := Lib.hid (F5.out.turn hb6 K5.out.mt); have K6 := Lib.hid (K5.out.turn hm6 hb6 node_ne); have T6 := Lib.hid ht6; have k0 := F6.out.h0; have k1 := F6.out.e0; have k2 := F6.out.e1; have r6 := F6.out.r0; have z6 := F6.out.zr; clear ht6 hm6 hb6)) | (go_at_call 45; ((with_reducible refine (node_any mo c m (x1, x2) .nil .nil none none g _ (Kept.drew G4.out) K4.out.drew.mt HN.out.2.2.2.1 (by have := HN.out; omega) (LAt.none _) (LAt.none _) (by decide)).mono ?_); rintro e w5 ⟨p5, rfl, ht5, hm5, hb5⟩; have F5 := Lib.hid ((F4.out.stay ((Below.refl _ _).drew)).turn hb5 K4.out.drew.mt); have K5 := Lib.hid (K4.out.drew.turn hm5 hb5 node_ne); have T5 := Lib.hid (show LAt w5 (.one (x1, x2)) p5 from mkH_one (x1, x2) ▸ ht5); have g0 := F5.out.h0; have g1 := F5.out.e0; have g2 := F5.out.e1; clear ht5 hm5 hb5)))
  go_wp2_with fail
  have hk := (K6.out.put F6.out.r (by unfold NodeT; decide) (by decide) (by rw [← HA.out]; omega) 0 (.pointer p6))
  exact bodyPost_ret (v := hp p6) (by simp [results, Tryd.results18, go_sem, r6]) rfl ⟨_, rfl, T6.out.kp (Kpt.set F6.out.r (by unfold NodeT; decide) 0 _), hk.mt, hk.bt⟩

/-- What Pop hands back. -/
def Popped (mo : Option Nat) (c m : Int) (t : Lh) (is : Bool) (w : World) (e : Ending) (w' : World) : Prop := ∃ p, e = .returned (.tuple #[hp p, .bool is]) ∧ LAt w' t p ∧ MAt w' mo c m ∧ Bt mo w w'

/-- Is there an element? -/
def Lh.some : Lh → Bool
  | .nil => false
  | .node _ _ _ => true

set_option maxRecDepth 100000 in
set_option maxHeartbeats 4000000 in
theorem pop_any (mo : Option Nat) (c m : Int) (h : Lh) (p : Option Addr) (w : World) (hs : h.size < 268435456) (hm : MAt w mo c m) (h0 : 0 ≤ c) (h1 : c < 576460752303423488) (h2 : 0 ≤ m) (h3 : m < 576460752303423487)
    (hh : LAt w h p) : Calls Tryd.prog 22 #[hp p, mAddr mo] w (Popped mo (c + h.popN) (m + h.popN) h.pop h.some w) := by
  cases h with
  | nil =>
    obtain rfl := hh
    have hb1 : Below w.heap.size w ((w.alloc (.cells #[.pointer none] 29)).alloc (.cells #[.pointer none] 29)) := ((Below.refl _ _).alloc (Nat.le_refl _) _).alloc (by simp) _
    have KK := Lib.hid (hm.stay hb1)
    have HB := Lib.hid (Bt.ofBelow (mo := mo) hb1)
    clear hm hb1 hs h0 h1 h2 h3
    go_enter Tryd.func22, Tryd.ntmps22
    go_wp2_with fail
    exact bodyPost_ret (v := .tuple #[hp none, .bool false]) (by simp [results, Tryd.results22, go_sem]) rfl ⟨_, rfl, rfl, by simpa [Lh.popN] using KK.out, HB.out⟩
  | node x l r =>
    obtain ⟨b, lp, rp, rfl, hbh, hl, hr⟩ := hh
    have K1 : Trk NodeT mo w c m ((w.alloc (.cells #[.pointer (some ⟨b, 0, none⟩)] 29)).alloc (.cells #[.pointer none] 29)) := ((Trk.refl hm).alloc _).alloc _
    have e1 : ((w.alloc (.cells #[.pointer (some ⟨b, 0, none⟩)] 29)).alloc (.cells #[.pointer none] 29)).heap[w.heap.size]? = some (.cells #[.pointer (some ⟨b, 0, none⟩)] 29 (0, 0)) := by
      rw [alloc_old _ (by simp only [World.size_alloc]; omega)]; exact new_at rfl
    have e2 : ((w.alloc (.cells #[.pointer (some ⟨b, 0, none⟩)] 29)).alloc (.cells #[.pointer none] 29)).heap[w.heap.size + 1]? = some (.cells #[.pointer none] 29 (0, 0)) := new_at (by simp)
    have HL := Lib.hid (And.intro hbh (And.intro hl hr))
    have HN := Lib.hid (And.intro hs (And.intro h0 (And.intro h1 (And.intro h2 h3))))
    have HE := Lib.hid (And.intro e1 e2)
    have KK := Lib.hid K1
    have HLT := Lib.hid (lt_of_heap hbh)
    clear hbh hl hr hs h0 h1 h2 h3 K1 hm e1 e2
    go_enter Tryd.func22, Tryd.ntmps22
    go_wp2_with fail
    generalize (w.alloc (.cells #[.pointer (some ⟨b, 0, none⟩)] 29)).alloc (.cells #[.pointer none] 29) = w1 at *
    obtain ⟨a, ha⟩ : ∃ a, a = w.heap.size := ⟨_, rfl⟩
    rw [← ha] at HE ⊢
    have HA := Lib.hid ha
    clear ha
    have f0 : w1.cell? ⟨a, 0, none⟩ = some (.pointer (some ⟨b, 0, none⟩)) := by have := HE.out.1; simp [World.cell?, this]
    have c2 := (six_kp HL.out.1 KK.out.kp).c2
    have c3 := (six_kp HL.out.1 KK.out.kp).c3
    have n1 : ¬ b = a + 1 := by rw [HA.out]; have := HLT.out; omega
    have n2 : ¬ a + 1 = b := by rw [HA.out]; have := HLT.out; omega
    go_region_held3 (fun w' => w'.cell? ⟨a, 0, none⟩ = some (.pointer (some ⟨b, 0, none⟩)) ∧ w'.cell? ⟨b, 2, none⟩ = some (.pointer lp) ∧ w'.cell? ⟨b, 3, none⟩ = some (.pointer rp)) (go_keep)
      (first | (go_at_call 20; ((with_reducible refine (meld_any mo l r c m lp rp _ (by have := HN.out.1; simp only [Lh.size] at this; omega) KK.out.drew.mt HN.out.2.1 HN.out.2.2.1 HN.out.2.2.2.1 (by have := HN.out; omega) (HL.out.2.1.kp KK.out.drew.kp) (HL.out.2.2.kp KK.out.drew.kp)).mono ?_); rintro e w6 ⟨p6, rfl, ht6, hm6, hb6⟩; have E6 := Lib.hid (hb6.row KK.out.drew.mt (show w1.drew.heap[a]? = _ from HE.out.1) (by decide)); have R6 := Lib.hid (hb6.row KK.out.drew.mt (show w1.drew.heap[a + 1]? = _ from HE.out.2) (by decide)); have K6 := Lib.hid (KK.out.drew.turn hm6 hb6 node_ne); have T6 := Lib.hid ht6; have k0 : w6.cell? ⟨a, 0, none⟩ = some (.pointer (some ⟨b, 0, none⟩)) := (by have := E6.out; simp [World.cell?, this]); have k1 := (six_kp HL.out.1 K6.out.kp).c2; have k2 := (six_kp HL.out.1 K6.out.kp).c3; have r6 : w6.cell? ⟨a + 1, 0, none⟩ = some (.pointer none) := (by have := R6.out; simp [World.cell?, this]); have z6 : w6.frozen? ⟨a + 1, 0, none⟩ = false := (by have := R6.out; simp [World.frozen?, this]); clear ht6 hm6 hb6)))
    go_wp2_with fail
    have hk := (K6.out.put R6.out (by unfold NodeT; decide) (by decide) (by rw [← HA.out]; omega) 0 (.pointer p6))
    exact bodyPost_ret (v := .tuple #[hp p6, .bool true]) (by simp [results, Tryd.results22, go_sem, r6]) rfl ⟨_, rfl, T6.out.kp (Kpt.set R6.out (by unfold NodeT; decide) 0 _), hk.mt, hk.bt⟩

end Go.Proofs.YtliehednnhilkaaDoor
