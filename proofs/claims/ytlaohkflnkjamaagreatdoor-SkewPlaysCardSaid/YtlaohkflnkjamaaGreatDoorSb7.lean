/-
  Contracts of skew.Of, by a meter or none, and of Pop, Meld, Insert, Min, Of without a meter: which heap each makes, how many comparisons and trees the meter counts, that what was there stays but for the meter's block. Conditions: fewer than 2 to the 24th elements, counts below 2 to the 58th, a row that lies in another block than the meter.
-/
import Derived.Test.YtlaohkflnkjamaaGreatDoorSb6b
import Derived.Test.YtlaohkflnkjamaaGreatDoorMb
import Derived.Deep.LoopGhost
namespace Go.Proofs.YtlaohkflnkjamaaGreatDoor.Hp
open Go.Sort Go.RowKit

theorem put_small (xs : List (Int × Int)) (h : xs.length < 16777216) : putC .nil xs < 33554432 ∧ putM .nil xs < 33554432 := by
  have := put_le xs .nil
  omega
set_option maxRecDepth 100000 in
set_option maxHeartbeats 4000000 in
theorem of_any (mo : Option Nat) (c m : Int) (A : Option Addr) (xs : List (Int × Int)) (cap : Nat) (w : World) (hm : MAt w mo c m) (h0 : 0 ≤ c) (h1 : c < 288230376151711744) (h2 : 0 ≤ m) (h3 : m < 288230376151711744) (hr : Row w A xs) (hn : xs.length < 16777216)
    (hne : 0 < xs.length → ∀ b, mo = some b → ∀ q, A = some q → q.block ≠ b) :
    Calls Tryz.prog 14 #[mAddr mo, .slice A xs.length cap] w (Gave mo (c + putC .nil xs) (m + putM .nil xs) (ofL xs) w) := by
  have e1 : Box2 (w.alloc (.cells #[.pointer none, .int .i64 0] 31)) w.heap.size 31 (.pointer none) (.int .i64 0) := Box2.new w 31 _ _
  have K1 : Trk NodeT mo w c m (w.alloc (.cells #[.pointer none, .int .i64 0] 31)) := (Trk.refl hm).alloc _
  have HE := Lib.hid e1
  have KK := Lib.hid K1
  have HW := Lib.hid (with_any mo c m .nil ⟨none, 0⟩ A xs cap (w.alloc (.cells #[.pointer none, .int .i64 0] 31)) K1.mt h0 h1 h2 h3 (hr.below ((Below.refl _ _).alloc (Nat.le_refl _) _)) (by show 0 + _ < _; omega) hne (LAt.nil _))
  clear hm h0 h1 h2 h3 hr hn hne e1 K1
  generalize xs.length = n at *
  go_enter Tryz.func14, Tryz.ntmps14
  go_wp2_with fail
  generalize w.alloc (.cells #[.pointer none, .int .i64 0] 31) = w1 at *
  obtain ⟨a, ha⟩ : ∃ a, a = w.heap.size := ⟨_, rfl⟩
  rw [← ha] at HE ⊢
  have HA := Lib.hid ha
  clear ha
  ((with_reducible refine HW.out.mono ?_); rintro e w2 ⟨p2, rfl, ht2, hm2, hb2⟩)
  have F6 := Lib.hid (HE.out.bt hb2 KK.out.mt (by decide))
  have K6 := Lib.hid (KK.out.turn hm2 hb2 node_ne)
  have L6 := Lib.hid ht2
  have z0 := F6.out.z0
  have z1 := F6.out.z1
  have r0 := F6.out.c0
  have r1 := F6.out.c1
  have s0 := (F6.out.set (.pointer p2.q) (.int .i64 p2.n)).c0
  have s1 := (F6.out.set (.pointer p2.q) (.int .i64 p2.n)).c1
  clear ht2 hm2 hb2
  go_wp2_with fail
  have hk := K6.out.put2 F6.out heapT_ne (by decide) (by have := HA.out; omega) (.pointer p2.q) (.int .i64 p2.n)
  exact bodyPost_ret (v := hp p2) (by simp [results, Tryz.results14, go_sem, s0, s1]) rfl ⟨p2, rfl, L6.out.set2 F6.out heapT_ne _ _, hk.mt, hk.bt⟩

theorem _root_.Go.Proofs.YtlaohkflnkjamaaGreatDoor.Own.kind {w : World} {base : Nat} {v : Value} {xs : List (Int × Int)} (h : Own w base v xs) : ∀ k, v.ownBlock = some k → base ≤ k ∧ k < w.heap.size ∧ ∃ cs, w.heap[k]? = some (.cells cs 38 (0, 0)) := by
  intro k hk
  rcases h.2 with ⟨rfl, -⟩ | ⟨g, cap, cur, rfl, hb, hg, -⟩
  · cases hk
  · cases hk
    exact ⟨hb, lt_of_heap hg, cur, hg⟩
/-- One thing more behind a slice of the call's own. -/
theorem append_one (w : World) (base : Nat) (v : Value) (xs : List (Int × Int)) (x : Int × Int) (hown : Own w base v xs) (hlen : xs.length < 1073741824) (hb : base ≤ w.heap.size) :
    ∃ v' w', (Builtin.append_ #[39, 39] 39 #[v, .slice (some ⟨w.heap.size, 0, none⟩) 1 1]).run Tryz.prog (w.alloc (.cells #[.int .i64 x.1, .int .i64 x.2] 38)) = .ok v' w' ∧ Own w' base v' (xs ++ [x]) ∧ Below base w w' ∧ Kp w w' := by
  have hb1 := (Below.refl w.heap.size w).alloc (Nat.le_refl _) (.cells #[.int .i64 x.1, .int .i64 x.2] 38)
  obtain ⟨v', w', h1, h2, h3⟩ := append_row (w.alloc (.cells #[.int .i64 x.1, .int .i64 x.2] 38)) base v xs [x] (some ⟨w.heap.size, 0, none⟩) 1 (hown.below hb1) (row_new w [x] _) (fun e => by cases e) (by simp; omega) (by simp; omega)
  refine ⟨v', w', h1, h2, below_grown ((Below.refl _ _).alloc hb _) h3 (by simp; omega) (fun g hg => hown.block g hg), (Kpt.below hb1).trans (Kpt.grown h3 (fun g hg cs t ht => ?_))⟩
  obtain ⟨-, -, cs', hk⟩ := (hown.below hb1).kind g hg
  rw [hk] at ht
  cases ht
  exact elemT_ne
theorem _root_.Go.Proofs.YtlaohkflnkjamaaGreatDoor.Own.lower {w : World} {base base' : Nat} {v : Value} {xs : List (Int × Int)} (h : Own w base v xs) (hb : base' ≤ base) : Own w base' v xs :=
  ⟨h.1, h.2.imp id (fun ⟨g, cap, cur, a, b, r⟩ => ⟨g, cap, cur, a, Nat.le_trans hb b, r⟩)⟩
/-- A row of the call's own, where another block is written. -/
theorem _root_.Go.Proofs.YtlaohkflnkjamaaGreatDoor.Own.other {w : World} {base : Nat} {v : Value} {xs : List (Int × Int)} (h : Own w base v xs) {b : Nat} (hb : b < base) (j : Nat) (u : Value) : Own (w.setCell ⟨b, j, Option.none⟩ u) base v xs := by
  refine ⟨h.1, ?_⟩
  rcases h.2 with hn | ⟨g, cap, cur, rfl, hg1, hg, rest⟩
  · exact .inl hn
  · exact .inr ⟨g, cap, cur, rfl, hg1, (heap_other _ _ (by omega)).trans hg, rest⟩

/-- What a call hands back that makes a heap, without a meter. -/
def GaveN (t : Lh) (w : World) (e : Ending) (w' : World) : Prop := ∃ p : HP, e = .returned (.agg #[.pointer p.q, .int .i64 p.n]) ∧ LAt w' t p ∧ Below w.heap.size w w'
def PoppedN (t : Lh) (is : Bool) (w : World) (e : Ending) (w' : World) : Prop := ∃ p : HP, e = .returned (.tuple #[.agg #[.pointer p.q, .int .i64 p.n], .bool is]) ∧ LAt w' t p ∧ Below w.heap.size w w'
theorem minN (t : Lh) (p : HP) (w : World) (h : LAt w t p) : Calls Tryz.prog 16 #[hp p, .pointer none] w fun e w' => e = .returned (minV t) ∧ Below w.heap.size w w' :=
  (min_any none 0 0 t p w trivial (by decide) (by decide) h).mono fun _ _ ⟨he, _, hb⟩ => ⟨he, hb.toBelow⟩
theorem popN (t : Lh) (p : HP) (w : World) (h : LAt w t p) (hs : t.size < 16777216) : Calls Tryz.prog 12 #[hp p, .pointer none] w (PoppedN t.pop t.some w) :=
  (pop_any none 0 0 t p w (by omega) trivial (by decide) (by decide) (by decide) (by decide) h).mono fun _ _ ⟨p, he, ht, _, hb⟩ => ⟨p, he, ht, hb.toBelow⟩
theorem meldNm (a b : Lh) (p q : HP) (w : World) (ha : LAt w a p) (hb : LAt w b q) (hs : a.size + b.size < 268435456) : Calls Tryz.prog 10 #[hp p, .pointer none, hp q] w (GaveN (meld a b) w) :=
  (meld_any none a b 0 0 p q w hs trivial (by decide) (by decide) (by decide) (by decide) ha hb).mono fun _ _ ⟨p, he, ht, _, hb⟩ => ⟨p, he, ht, hb.toBelow⟩
theorem insertNm (t : Lh) (x : Int × Int) (p : HP) (w : World) (h : LAt w t p) (hs : t.size < 16777216) : Calls Tryz.prog 8 #[hp p, .pointer none, el x] w (GaveN (t.insert x) w) :=
  (insert_any none 0 0 t x p w (by omega) trivial (by decide) (by decide) (by decide) (by decide) h).mono fun _ _ ⟨p, he, ht, _, hb⟩ => ⟨p, he, ht, hb.toBelow⟩
theorem ofN (A : Option Addr) (xs : List (Int × Int)) (cap : Nat) (w : World) (hr : Row w A xs) (hn : xs.length < 16777216) : Calls Tryz.prog 14 #[.pointer none, .slice A xs.length cap] w (GaveN (ofL xs) w) :=
  (of_any none 0 0 A xs cap w trivial (by decide) (by decide) (by decide) (by decide) hr hn (fun _ _ e => by cases e)).mono fun _ _ ⟨p, he, ht, _, hb⟩ => ⟨p, he, ht, hb.toBelow⟩

end Go.Proofs.YtlaohkflnkjamaaGreatDoor.Hp
