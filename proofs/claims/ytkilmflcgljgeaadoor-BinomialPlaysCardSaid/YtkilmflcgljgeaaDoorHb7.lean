/-
  Contracts of binomial.Of, by a meter or none, and of Pop, Meld, Insert, Min, Of without a meter: which heap each makes, how many comparisons and trees the meter counts, that what was there stays but for the meter's block. Conditions: fewer than 2 to the 24th elements, counts below 2 to the 58th, a row that lies in another block than the meter.
-/
import Derived.Test.YtkilmflcgljgeaaDoorHb6
import Derived.Test.YtkilmflcgljgeaaDoorMb
import Derived.Deep.LoopGhost
namespace Go.Proofs.YtkilmflcgljgeaaDoor.Hp
open Go.Sort Go.RowKit

theorem alloc_old {w : World} {k : Nat} (o : Obj) (h : k < w.heap.size) : (w.alloc o).heap[k]? = w.heap[k]? := ((Below.refl w.heap.size w).alloc (Nat.le_refl _) o).block k h
theorem heap_other {W : World} {b k : Nat} (j : Nat) (v : Value) (h : k ≠ b) : (W.setCell ⟨b, j, none⟩ v).heap[k]? = W.heap[k]? := Below.heap_setCell W ⟨b, j, none⟩ v k h
theorem cell_old {w : World} {q : Addr} {v : Value} (h : w.cell? q = some v) (o : Obj) : (w.alloc o).cell? q = some v := (((Below.refl w.heap.size w).alloc (Nat.le_refl _) o).cell (block_lt_of_cell h)).trans h
theorem putN_take (xs : List (Int × Int)) (k : Nat) (h : k < xs.length) : putN .nil (xs.take (k + 1)) = putN .nil (xs.take k) + meldN (.one xs[k]) (ofL (xs.take k)) := by
  rw [List.take_succ_eq_append_getElem h, putN_snoc]
  rfl
theorem ofL_take (xs : List (Int × Int)) (k : Nat) (h : k < xs.length) : ofL (xs.take (k + 1)) = (ofL (xs.take k)).insert xs[k] := by
  rw [List.take_succ_eq_append_getElem h, ofL_snoc]
theorem putN_small (xs : List (Int × Int)) (h : xs.length < 16777216) : putN .nil xs < 562949953421312 := by
  have h1 := putN_le xs .nil
  have h0 : Lh.nil.size = 0 := rfl
  rw [h0] at h1
  have h2 : xs.length * (0 + xs.length + 1) ≤ 16777216 * 16777216 := Nat.mul_le_mul (by omega) (by omega)
  omega

set_option maxRecDepth 100000 in
set_option maxHeartbeats 4000000 in
theorem of_any (mo : Option Nat) (c m : Int) (A : Option Addr) (xs : List (Int × Int)) (cap : Nat) (w : World) (hm : MAt w mo c m) (h0 : 0 ≤ c) (h1 : c < 288230376151711744) (h2 : 0 ≤ m) (h3 : m < 288230376151711744) (hr : Row w A xs) (hn : xs.length < 16777216)
    (hne : 0 < xs.length → ∀ b, mo = some b → ∀ q, A = some q → q.block ≠ b) :
    Calls Tryd.prog 24 #[mAddr mo, .slice A xs.length cap] w (Gave mo (c + putN .nil xs) (m + (xs.length : Nat) + putN .nil xs) (ofL xs) w) := by
  have K1 : Trk NodeT mo w c m ((w.alloc (.cells #[.pointer none, .int .i64 0] 31)).alloc (.cells #[.pointer none, .int .i64 0] 31)) := ((Trk.refl hm).alloc _).alloc _
  have e1 : Box2 ((w.alloc (.cells #[.pointer none, .int .i64 0] 31)).alloc (.cells #[.pointer none, .int .i64 0] 31)) w.heap.size 31 (.pointer none) (.int .i64 0) := (Box2.new w 31 _ _).alloc _
  have e2 : Box2 ((w.alloc (.cells #[.pointer none, .int .i64 0] 31)).alloc (.cells #[.pointer none, .int .i64 0] 31)) (w.heap.size + 1) 31 (.pointer none) (.int .i64 0) := by
    have := Box2.new (w.alloc (.cells #[.pointer none, .int .i64 0] 31)) 31 (.pointer none) (.int .i64 0)
    simpa only [World.size_alloc] using this
  have HR := Lib.hid (And.intro hr hne)
  have HN := Lib.hid (And.intro h0 (And.intro h1 (And.intro h2 h3)))
  have HE := Lib.hid (And.intro e1 e2)
  have KK := Lib.hid K1
  obtain ⟨n, hnn⟩ : ∃ n, n = xs.length := ⟨_, rfl⟩
  rw [← hnn] at hn ⊢
  have HX := Lib.hid hnn
  clear hr hne h0 h1 h2 h3 K1 hm e1 e2 hnn
  go_enter Tryd.func24, Tryd.ntmps24
  go_wp2_with fail
  generalize (w.alloc (.cells #[.pointer none, .int .i64 0] 31)).alloc (.cells #[.pointer none, .int .i64 0] 31) = w1 at *
  obtain ⟨a, ha⟩ : ∃ a, a = w.heap.size := ⟨_, rfl⟩
  rw [← ha] at HE ⊢
  have HA := Lib.hid ha
  clear ha
  go_loopg [10] n (fun k i wr => ∃ (j : Nat) (p : HP), i = .int .i64 (j : Int) ∧ j + k = n ∧ Box2 wr a 31 (.pointer none) (.int .i64 0) ∧ Box2 wr (a + 1) 31 (.pointer p.q) (.int .i64 p.n) ∧ LAt wr (ofL (xs.take j)) p ∧ Trk NodeT mo w (c + putN .nil (xs.take j)) (m + (j : Nat) + putN .nil (xs.take j)) wr)
  case atStart => exact ⟨0, ⟨none, 0⟩, rfl, by omega, HE.out.1, HE.out.2, LAt.nil _, by simpa [putN] using KK.out⟩
  case round =>
    obtain ⟨j, p, rfl, hj, hra, hrb, ht, hk⟩ := hrel
    by_cases hlt : j < n
    · have hjx : j < xs.length := by rw [← HX.out]; exact hlt
      obtain ⟨b, o, rfl, hc⟩ := HR.out.1 (by omega)
      have hx := row_at hc j hjx
      have hne := fun bb (eb : mo = some bb) => HR.out.2 (by omega) bb eb _ rfl
      have x0 := hk.bt.cell hx.1 hne
      have x1 := hk.bt.cell hx.2 hne
      have hp := putN_small (xs.take j) (by rw [List.length_take]; omega)
      have hsz : (ofL (xs.take j)).size = j := by rw [ofL_size, List.length_take]; omega
      have eP := putN_take xs j hjx
      have eO := ofL_take xs j hjx
      generalize xs[j] = x at *
      obtain ⟨y1, y2⟩ := x
      have q1 : (j : Int) < (n : Int) := by omega
      have q2 : (0 : Int) ≤ (j : Int) := by omega
      have h1c := hrb.c0
      have h1d := hrb.c1
      have h2c := (hrb.alloc (.cells #[.int .i64 y1, .int .i64 y2] 38)).c0
      have h2d := (hrb.alloc (.cells #[.int .i64 y1, .int .i64 y2] 38)).c1
      have X := Lib.hid (And.intro hra (And.intro hrb (And.intro ht (And.intro hk (And.intro eP (And.intro eO (And.intro hp (And.intro hsz hj))))))))
      clear hra hrb ht hk eP eO hp hsz hj hc hx hne hjx
      go_wp2_with fail
      clear h1c h2c h1d h2d x0 x1
      ((with_reducible refine (insert_any mo _ _ (ofL (xs.take j)) (y1, y2) p _ (by rw [X.out.2.2.2.2.2.2.2.1]; omega) (X.out.2.2.2.1.alloc _).mt (by have := HN.out; omega) (by have := HN.out; have := X.out.2.2.2.2.2.2.1; omega) (by have := HN.out; omega) (by have := HN.out; have := X.out.2.2.2.2.2.2.1; omega) (X.out.2.2.1.stay ((Below.refl _ _).alloc (Nat.le_refl _) _))).mono ?_); rintro e w2 ⟨p2, rfl, ht2, hm2, hb2⟩)
      obtain ⟨hra, hrb, ht, hk, eP, eO, hp, hsz, hj⟩ := X.out
      have hk2 := (hk.alloc (.cells #[.int .i64 y1, .int .i64 y2] 38)).turn hm2 hb2 node_ne
      have ra2 := (hra.alloc (.cells #[.int .i64 y1, .int .i64 y2] 38)).bt hb2 (hk.alloc _).mt (by decide)
      have rb2 := (hrb.alloc (.cells #[.int .i64 y1, .int .i64 y2] 38)).bt hb2 (hk.alloc _).mt (by decide)
      have e1 : c + ((putN .nil (xs.take (j + 1)) : Nat) : Int) = c + (putN .nil (xs.take j) : Nat) + (meldN (.one (y1, y2)) (ofL (xs.take j)) : Nat) := by rw [eP]; omega
      have e2 : m + ((j + 1 : Nat) : Int) + (putN .nil (xs.take (j + 1)) : Nat) = m + (j : Nat) + (putN .nil (xs.take j) : Nat) + 1 + (meldN (.one (y1, y2)) (ofL (xs.take j)) : Nat) := by rw [eP]; omega
      rw [← e1, ← e2] at hk2
      rw [← eO] at ht2
      have z2 := rb2.z0
      have z3 := rb2.z1
      have r2 := rb2.c0
      have r3 := rb2.c1
      have Y := Lib.hid (And.intro (ra2.aside (g := a + 1) (by omega) (.pointer p2.q) (.int .i64 p2.n)) (And.intro (rb2.set (.pointer p2.q) (.int .i64 p2.n)) (And.intro (ht2.set2 rb2 heapT_ne (.pointer p2.q) (.int .i64 p2.n)) (hk2.put2 rb2 heapT_ne (by decide) (by rw [← HA.out]; omega) (.pointer p2.q) (.int .i64 p2.n)))))
      clear hra hrb ht hk eP eO hp hsz hk2 ra2 rb2 e1 e2 ht2 hm2 hb2 X
      go_wp2_with fail
      go_roundg (n - 1 - j)
      case measure => omega
      case rel => exact ⟨j + 1, p2, by congr 1, by omega, Y.out.1, Y.out.2.1, Y.out.2.2.1, Y.out.2.2.2⟩
    · have hjn : j = n := by omega
      subst hjn
      rw [HX.out, List.take_length] at ht hk
      rw [← HX.out] at hk
      have h1c := hrb.c0
      have h1d := hrb.c1
      have r6 := hra.c0
      have r7 := hra.c1
      have z6 := hra.z0
      have z7 := hra.z1
      have s0 := (hra.set (.pointer p.q) (.int .i64 p.n)).c0
      have s1 := (hra.set (.pointer p.q) (.int .i64 p.n)).c1
      have hk2 := hk.put2 hra heapT_ne (by decide) (by rw [← HA.out]; omega) (.pointer p.q) (.int .i64 p.n)
      have X := Lib.hid (And.intro (ht.set2 hra heapT_ne (.pointer p.q) (.int .i64 p.n)) hk2)
      clear hra hrb ht hk hk2 hlt hj
      go_wp2_with fail
      exact bodyPost_ret (v := hp p) (by simp [results, Tryd.results24, go_sem, s0, s1]) rfl ⟨p, rfl, X.out.1, X.out.2.mt, X.out.2.bt⟩

theorem _root_.Go.Proofs.YtkilmflcgljgeaaDoor.Own.kind {w : World} {base : Nat} {v : Value} {xs : List (Int × Int)} (h : Own w base v xs) : ∀ k, v.ownBlock = some k → base ≤ k ∧ k < w.heap.size ∧ ∃ cs, w.heap[k]? = some (.cells cs 38 (0, 0)) := by
  intro k hk
  rcases h.2 with ⟨rfl, -⟩ | ⟨g, cap, cur, rfl, hb, hg, -⟩
  · cases hk
  · cases hk
    exact ⟨hb, lt_of_heap hg, cur, hg⟩
/-- One thing more behind a slice of the call's own. -/
theorem append_one (w : World) (base : Nat) (v : Value) (xs : List (Int × Int)) (x : Int × Int) (hown : Own w base v xs) (hlen : xs.length < 1073741824) (hb : base ≤ w.heap.size) :
    ∃ v' w', (Builtin.append_ #[39, 39] 39 #[v, .slice (some ⟨w.heap.size, 0, none⟩) 1 1]).run Tryd.prog (w.alloc (.cells #[.int .i64 x.1, .int .i64 x.2] 38)) = .ok v' w' ∧ Own w' base v' (xs ++ [x]) ∧ Below base w w' ∧ Kp w w' := by
  have hb1 := (Below.refl w.heap.size w).alloc (Nat.le_refl _) (.cells #[.int .i64 x.1, .int .i64 x.2] 38)
  obtain ⟨v', w', h1, h2, h3⟩ := append_row (w.alloc (.cells #[.int .i64 x.1, .int .i64 x.2] 38)) base v xs [x] (some ⟨w.heap.size, 0, none⟩) 1 (hown.below hb1) (row_new w [x] _) (fun e => by cases e) (by simp; omega) (by simp; omega)
  refine ⟨v', w', h1, h2, below_grown ((Below.refl _ _).alloc hb _) h3 (by simp; omega) (fun g hg => hown.block g hg), (Kpt.below hb1).trans (Kpt.grown h3 (fun g hg cs t ht => ?_))⟩
  obtain ⟨-, -, cs', hk⟩ := (hown.below hb1).kind g hg
  rw [hk] at ht
  cases ht
  exact elemT_ne
theorem _root_.Go.Proofs.YtkilmflcgljgeaaDoor.Own.lower {w : World} {base base' : Nat} {v : Value} {xs : List (Int × Int)} (h : Own w base v xs) (hb : base' ≤ base) : Own w base' v xs :=
  ⟨h.1, h.2.imp id (fun ⟨g, cap, cur, a, b, r⟩ => ⟨g, cap, cur, a, Nat.le_trans hb b, r⟩)⟩
/-- A row of the call's own, where another block is written. -/
theorem _root_.Go.Proofs.YtkilmflcgljgeaaDoor.Own.other {w : World} {base : Nat} {v : Value} {xs : List (Int × Int)} (h : Own w base v xs) {b : Nat} (hb : b < base) (j : Nat) (u : Value) : Own (w.setCell ⟨b, j, Option.none⟩ u) base v xs := by
  refine ⟨h.1, ?_⟩
  rcases h.2 with hn | ⟨g, cap, cur, rfl, hg1, hg, rest⟩
  · exact .inl hn
  · exact .inr ⟨g, cap, cur, rfl, hg1, (heap_other _ _ (by omega)).trans hg, rest⟩

/-- What a call hands back that makes a heap, without a meter. -/
def GaveN (t : Lh) (w : World) (e : Ending) (w' : World) : Prop := ∃ p : HP, e = .returned (.agg #[.pointer p.q, .int .i64 p.n]) ∧ LAt w' t p ∧ Below w.heap.size w w'
def PoppedN (t : Lh) (is : Bool) (w : World) (e : Ending) (w' : World) : Prop := ∃ p : HP, e = .returned (.tuple #[.agg #[.pointer p.q, .int .i64 p.n], .bool is]) ∧ LAt w' t p ∧ Below w.heap.size w w'
theorem minN (t : Lh) (p : HP) (w : World) (h : LAt w t p) : Calls Tryd.prog 26 #[hp p, .pointer none] w fun e w' => e = .returned (minV t) ∧ Below w.heap.size w w' :=
  (min_any none 0 0 t p w trivial (by decide) (by decide) h).mono fun _ _ ⟨he, _, hb⟩ => ⟨he, hb.toBelow⟩
theorem popN (t : Lh) (p : HP) (w : World) (h : LAt w t p) (hs : t.size < 16777216) : Calls Tryd.prog 22 #[hp p, .pointer none] w (PoppedN t.pop t.some w) :=
  (pop_any none 0 0 t p w (by omega) trivial (by decide) (by decide) (by decide) (by decide) h).mono fun _ _ ⟨p, he, ht, _, hb⟩ => ⟨p, he, ht, hb.toBelow⟩
theorem meldNm (a b : Lh) (p q : HP) (w : World) (ha : LAt w a p) (hb : LAt w b q) (hs : a.size + b.size < 268435456) : Calls Tryd.prog 20 #[hp p, .pointer none, hp q] w (GaveN (meld a b) w) :=
  (meld_any none a b 0 0 p q w hs trivial (by decide) (by decide) (by decide) (by decide) ha hb).mono fun _ _ ⟨p, he, ht, _, hb⟩ => ⟨p, he, ht, hb.toBelow⟩
theorem insertNm (t : Lh) (x : Int × Int) (p : HP) (w : World) (h : LAt w t p) (hs : t.size < 16777216) : Calls Tryd.prog 18 #[hp p, .pointer none, el x] w (GaveN (t.insert x) w) :=
  (insert_any none 0 0 t x p w (by omega) trivial (by decide) (by decide) (by decide) (by decide) h).mono fun _ _ ⟨p, he, ht, _, hb⟩ => ⟨p, he, ht, hb.toBelow⟩
theorem ofN (A : Option Addr) (xs : List (Int × Int)) (cap : Nat) (w : World) (hr : Row w A xs) (hn : xs.length < 16777216) : Calls Tryd.prog 24 #[.pointer none, .slice A xs.length cap] w (GaveN (ofL xs) w) :=
  (of_any none 0 0 A xs cap w trivial (by decide) (by decide) (by decide) (by decide) hr hn (fun _ _ e => by cases e)).mono fun _ _ ⟨p, he, ht, _, hb⟩ => ⟨p, he, ht, hb.toBelow⟩

end Go.Proofs.YtkilmflcgljgeaaDoor.Hp
