/-
  Contracts of boot.Of, by a meter or none, and of Pop, Meld, Insert, Of without a meter: which heap each makes, how many comparisons and things the meter counts, that what was there stays but for the meter's block. Conditions: fewer than 2 to the 24th elements, counts below 2 to the 57th, a row that lies in another block than the meter.
  Contract of the statement's own drain: all elements of a heap, in order, as a slice of the call's own; nothing that was there has changed. Conditions: a heap in order, of no more elements than are asked for, fewer than 2 to the 24th.
  What the walks of layer 11's statements carry on: heaps, elements, rows and variables, wherever only a meter's block turns; contracts in the one form that they use. No conditions beyond what each theorem says.
-/
import Derived.Test.YtlmokendajgbdaaGreatDoorWb3
import Derived.Test.YtlmokendajgbdaaGreatDoorMb
import Derived.Deep.LoopGhost
import Derived.Test.YtlmokendajgbdaaGreatDoorMc
namespace Go.Proofs.YtlmokendajgbdaaGreatDoor.Bo
open Go.Sort Go.RowKit

theorem put_take (xs : List (Int × Int)) (k : Nat) (h : k < xs.length) : putC .nil (xs.take (k + 1)) = putC .nil (xs.take k) + (ofL (xs.take k)).insC xs[k] ∧ putM .nil (xs.take (k + 1)) = putM .nil (xs.take k) + (ofL (xs.take k)).insM xs[k] := by
  rw [List.take_succ_eq_append_getElem h, putC_snoc, putM_snoc]
  exact ⟨rfl, rfl⟩
theorem ofL_take (xs : List (Int × Int)) (k : Nat) (h : k < xs.length) : ofL (xs.take (k + 1)) = (ofL (xs.take k)).insert xs[k] := by
  rw [List.take_succ_eq_append_getElem h, ofL_snoc]
theorem put_small (xs : List (Int × Int)) (h : xs.length < 16777216) : putC .nil xs < 67108864 ∧ putM .nil xs < 67108864 := by
  have := put_le xs .nil
  omega
theorem cell_old {w : World} {q : Addr} {v : Value} (h : w.cell? q = some v) (o : Obj) : (w.alloc o).cell? q = some v := (((Below.refl w.heap.size w).alloc (Nat.le_refl _) o).cell (block_lt_of_cell h)).trans h

set_option maxRecDepth 100000 in
set_option maxHeartbeats 4000000 in
theorem of_any (mo : Option Nat) (c m : Int) (A : Option Addr) (xs : List (Int × Int)) (cap : Nat) (w : World) (hm : MAt w mo c m) (h0 : 0 ≤ c) (h1 : c < 72057594037927936) (h2 : 0 ≤ m) (h3 : m < 72057594037927936) (hr : Row w A xs) (hn : xs.length < 16777216)
    (hne : 0 < xs.length → ∀ b, mo = some b → ∀ q, A = some q → q.block ≠ b) :
    Calls Tryz.prog 23 #[mAddr mo, .slice A xs.length cap] w (Gave mo (c + putC .nil xs) (m + putM .nil xs) (ofL xs) w) := by
  have K1 : Trk NodeT mo w c m ((w.alloc (.cells #[.pointer none] 29)).alloc (.cells #[.pointer none] 29)) := ((Trk.refl hm).alloc _).alloc _
  have e1 : ((w.alloc (.cells #[.pointer none] 29)).alloc (.cells #[.pointer none] 29)).heap[w.heap.size]? = some (.cells #[.pointer none] 29 (0, 0)) := by
    rw [alloc_old _ (by simp only [World.size_alloc]; omega)]; exact new_at rfl
  have e2 : ((w.alloc (.cells #[.pointer none] 29)).alloc (.cells #[.pointer none] 29)).heap[w.heap.size + 1]? = some (.cells #[.pointer none] 29 (0, 0)) := new_at (by simp)
  have HR := Lib.hid (And.intro hr hne)
  have HN := Lib.hid (And.intro h0 (And.intro h1 (And.intro h2 h3)))
  have HE := Lib.hid (And.intro e1 e2)
  have KK := Lib.hid K1
  obtain ⟨n, hnn⟩ : ∃ n, n = xs.length := ⟨_, rfl⟩
  rw [← hnn] at hn ⊢
  have HX := Lib.hid hnn
  clear hr hne h0 h1 h2 h3 K1 hm e1 e2 hnn
  go_enter Tryz.func23, Tryz.ntmps23
  go_wp2_with fail
  generalize (w.alloc (.cells #[.pointer none] 29)).alloc (.cells #[.pointer none] 29) = w1 at *
  obtain ⟨a, ha⟩ : ∃ a, a = w.heap.size := ⟨_, rfl⟩
  rw [← ha] at HE ⊢
  have HA := Lib.hid ha
  clear ha
  go_loopg [10] n (fun k i wr => ∃ (j : Nat) (p : Option Addr), i = .int .i64 (j : Int) ∧ j + k = n ∧ wr.heap[a]? = some (.cells #[.pointer none] 29 (0, 0)) ∧ wr.heap[a + 1]? = some (.cells #[.pointer p] 29 (0, 0)) ∧ LAt wr (ofL (xs.take j)) p ∧ Trk NodeT mo w (c + putC .nil (xs.take j)) (m + putM .nil (xs.take j)) wr)
  case atStart => exact ⟨0, none, rfl, by omega, HE.out.1, HE.out.2, LAt.none _, by simpa [putC, putM] using KK.out⟩
  case round =>
    obtain ⟨j, p, rfl, hj, hra, hrb, ht, hk⟩ := hrel
    by_cases hlt : j < n
    · have hjx : j < xs.length := by rw [← HX.out]; exact hlt
      obtain ⟨b, o, rfl, hc⟩ := HR.out.1 (by omega)
      have hx := row_at hc j hjx
      have hne := fun bb (eb : mo = some bb) => HR.out.2 (by omega) bb eb _ rfl
      have x0 := hk.bt.cell hx.1 hne
      have x1 := hk.bt.cell hx.2 hne
      have hp := put_small (xs.take j) (by rw [List.length_take]; omega)
      have hsz : (ofL (xs.take j)).size = j := by rw [ofL_size, List.length_take]; omega
      have eP := put_take xs j hjx
      have eO := ofL_take xs j hjx
      generalize xs[j] = x at *
      obtain ⟨y1, y2⟩ := x
      have q1 : (j : Int) < (n : Int) := by omega
      have q2 : (0 : Int) ≤ (j : Int) := by omega
      have h1c : wr.cell? ⟨a + 1, 0, none⟩ = some (.pointer p) := by simp [World.cell?, hrb]
      have h2c : (wr.alloc (.cells #[.int .i64 y1, .int .i64 y2] 32)).cell? ⟨a + 1, 0, none⟩ = some (.pointer p) := cell_old h1c _
      have X := Lib.hid (And.intro hra (And.intro hrb (And.intro ht (And.intro hk (And.intro eP (And.intro eO (And.intro hp (And.intro hsz hj))))))))
      clear hra hrb ht hk eP eO hp hsz hj hc hx hne hjx
      go_wp2_with fail
      clear h1c h2c x0 x1
      ((with_reducible refine (insert_any mo _ _ (ofL (xs.take j)) (y1, y2) p _ (by rw [X.out.2.2.2.2.2.2.2.1]; omega) (X.out.2.2.2.1.alloc _).mt (by have := HN.out; omega) (by have := HN.out; have := X.out.2.2.2.2.2.2.1; omega) (by have := HN.out; omega) (by have := HN.out; have := X.out.2.2.2.2.2.2.1; omega) (X.out.2.2.1.stay ((Below.refl _ _).alloc (Nat.le_refl _) _))).mono ?_); rintro e w2 ⟨p2, rfl, ht2, hm2, hb2⟩)
      obtain ⟨hra, hrb, ht, hk, eP, eO, hp, hsz, hj⟩ := X.out
      have hk2 := (hk.alloc (.cells #[.int .i64 y1, .int .i64 y2] 32)).turn hm2 hb2 node_ne
      have ra2 := hb2.row (hk.alloc _).mt ((alloc_old (.cells #[.int .i64 y1, .int .i64 y2] 32) (lt_of_heap hra)).trans hra) (by decide)
      have rb2 := hb2.row (hk.alloc _).mt ((alloc_old (.cells #[.int .i64 y1, .int .i64 y2] 32) (lt_of_heap hrb)).trans hrb) (by decide)
      have e1 : c + ((putC .nil (xs.take (j + 1)) : Nat) : Int) = c + (putC .nil (xs.take j) : Nat) + ((ofL (xs.take j)).insC (y1, y2) : Nat) := by rw [eP.1]; omega
      have e2 : m + ((putM .nil (xs.take (j + 1)) : Nat) : Int) = m + (putM .nil (xs.take j) : Nat) + ((ofL (xs.take j)).insM (y1, y2) : Nat) := by rw [eP.2]; omega
      rw [← e1, ← e2] at hk2
      rw [← eO] at ht2
      have z2 : w2.frozen? ⟨a + 1, 0, none⟩ = false := by simp [World.frozen?, rb2]
      have r2 : w2.cell? ⟨a + 1, 0, none⟩ = some (.pointer p) := by simp [World.cell?, rb2]
      have Y := Lib.hid (And.intro (show (w2.setCell ⟨a + 1, 0, none⟩ (.pointer p2)).heap[a]? = _ from (heap_other _ _ (by omega)).trans ra2) (And.intro (show (w2.setCell ⟨a + 1, 0, none⟩ (.pointer p2)).heap[a + 1]? = some (.cells #[.pointer p2] 29 (0, 0)) from heap_put (j := 0) rb2 (.pointer p2)) (And.intro (ht2.wrote rb2 heapT_ne 0 (.pointer p2)) (hk2.put rb2 heapT_ne (by decide) (by rw [← HA.out]; omega) 0 (.pointer p2)))))
      clear hra hrb ht hk eP eO hp hsz hk2 ra2 rb2 e1 e2 ht2 hm2 hb2 X
      go_wp2_with fail
      go_roundg (n - 1 - j)
      case measure => omega
      case rel => exact ⟨j + 1, p2, by congr 1, by omega, Y.out.1, Y.out.2.1, Y.out.2.2.1, Y.out.2.2.2⟩
    · have hjn : j = n := by omega
      subst hjn
      rw [HX.out, List.take_length] at ht hk
      have h1c : wr.cell? ⟨a + 1, 0, none⟩ = some (.pointer p) := by simp [World.cell?, hrb]
      have r6 : wr.cell? ⟨a, 0, none⟩ = some (.pointer none) := by simp [World.cell?, hra]
      have z6 : wr.frozen? ⟨a, 0, none⟩ = false := by simp [World.frozen?, hra]
      have hk2 := hk.put hra heapT_ne (by decide) (by rw [← HA.out]; omega) 0 (.pointer p)
      have X := Lib.hid (And.intro (ht.wrote hra heapT_ne 0 (.pointer p)) hk2)
      clear hra hrb ht hk hk2 hlt hj
      go_wp2_with fail
      exact bodyPost_ret (v := hp p) (by simp [results, Tryz.results23, go_sem, r6]) rfl ⟨_, rfl, X.out.1, X.out.2.mt, X.out.2.bt⟩

/-- What a call hands back that makes a heap, without a meter. -/
def GaveN (t : Lh) (w : World) (e : Ending) (w' : World) : Prop := ∃ p, e = .returned (hp p) ∧ LAt w' t p ∧ Below w.heap.size w w'
def PoppedN (t : Lh) (is : Bool) (w : World) (e : Ending) (w' : World) : Prop := ∃ p, e = .returned (.tuple #[hp p, .bool is]) ∧ LAt w' t p ∧ Below w.heap.size w w'
theorem popN (t : Lh) (p : Option Addr) (w : World) (h : LAt w t p) (hs : t.size < 16777216) : Calls Tryz.prog 21 #[hp p, .pointer none] w (PoppedN t.pop t.some w) :=
  (pop_any none 0 0 t p w (by omega) trivial (by decide) (by decide) (by decide) (by decide) h).mono fun _ _ ⟨p, he, ht, _, hb⟩ => ⟨p, he, ht, hb.toBelow⟩
theorem meldNm (a b : Lh) (p q : Option Addr) (w : World) (ha : LAt w a p) (hb : LAt w b q) (hs : a.size + b.size < 134217728) : Calls Tryz.prog 19 #[hp p, .pointer none, hp q] w (GaveN (meld a b) w) :=
  (meld_any none a b 0 0 p q w hs trivial (by decide) (by decide) (by decide) (by decide) ha hb).mono fun _ _ ⟨p, he, ht, _, hb⟩ => ⟨p, he, ht, hb.toBelow⟩
theorem insertNm (t : Lh) (x : Int × Int) (p : Option Addr) (w : World) (h : LAt w t p) (hs : t.size < 16777216) : Calls Tryz.prog 17 #[hp p, .pointer none, el x] w (GaveN (t.insert x) w) :=
  (insert_any none 0 0 t x p w (by omega) trivial (by decide) (by decide) (by decide) (by decide) h).mono fun _ _ ⟨p, he, ht, _, hb⟩ => ⟨p, he, ht, hb.toBelow⟩
theorem ofN (A : Option Addr) (xs : List (Int × Int)) (cap : Nat) (w : World) (hr : Row w A xs) (hn : xs.length < 16777216) : Calls Tryz.prog 23 #[.pointer none, .slice A xs.length cap] w (GaveN (ofL xs) w) :=
  (of_any none 0 0 A xs cap w trivial (by decide) (by decide) (by decide) (by decide) hr hn (fun _ _ e => by cases e)).mono fun _ _ ⟨p, he, ht, _, hb⟩ => ⟨p, he, ht, hb.toBelow⟩

end Go.Proofs.YtlmokendajgbdaaGreatDoor.Bo
namespace Go.Proofs.YtlmokendajgbdaaGreatDoor.Bo
open Go.Sort Go.RowKit

theorem _root_.Go.Proofs.YtlmokendajgbdaaGreatDoor.Own.kind {w : World} {base : Nat} {v : Value} {xs : List (Int × Int)} (h : Own w base v xs) : ∀ k, v.ownBlock = some k → base ≤ k ∧ k < w.heap.size ∧ ∃ cs, w.heap[k]? = some (.cells cs 32 (0, 0)) := by
  intro k hk
  rcases h.2 with ⟨rfl, -⟩ | ⟨g, cap, cur, rfl, hb, hg, -⟩
  · cases hk
  · cases hk
    exact ⟨hb, lt_of_heap hg, cur, hg⟩
theorem _root_.Go.Proofs.YtlmokendajgbdaaGreatDoor.Own.lower {w : World} {base base' : Nat} {v : Value} {xs : List (Int × Int)} (h : Own w base v xs) (hb : base' ≤ base) : Own w base' v xs :=
  ⟨h.1, h.2.imp id (fun ⟨g, cap, cur, a, b, r⟩ => ⟨g, cap, cur, a, Nat.le_trans hb b, r⟩)⟩
/-- A row of the call's own, where another block is written. -/
theorem _root_.Go.Proofs.YtlmokendajgbdaaGreatDoor.Own.other {w : World} {base : Nat} {v : Value} {xs : List (Int × Int)} (h : Own w base v xs) {b : Nat} (hb : b < base) (j : Nat) (u : Value) : Own (w.setCell ⟨b, j, Option.none⟩ u) base v xs := by
  refine ⟨h.1, ?_⟩
  rcases h.2 with hn | ⟨g, cap, cur, rfl, hg1, hg, rest⟩
  · exact .inl hn
  · exact .inr ⟨g, cap, cur, rfl, hg1, (heap_other _ _ (by omega)).trans hg, rest⟩

/-- One thing more behind a slice of the call's own. -/
theorem append_one (w : World) (base : Nat) (v : Value) (xs : List (Int × Int)) (x : Int × Int) (hown : Own w base v xs) (hlen : xs.length < 1073741824) (hb : base ≤ w.heap.size) :
    ∃ v' w', (Builtin.append_ #[37, 37] 37 #[v, .slice (some ⟨w.heap.size, 0, none⟩) 1 1]).run Tryz.prog (w.alloc (.cells #[.int .i64 x.1, .int .i64 x.2] 32)) = .ok v' w' ∧ Own w' base v' (xs ++ [x]) ∧ Below base w w' ∧ Kp w w' ∧ w.heap.size ≤ w'.heap.size := by
  have hb1 := (Below.refl w.heap.size w).alloc (Nat.le_refl _) (.cells #[.int .i64 x.1, .int .i64 x.2] 32)
  obtain ⟨v', w', h1, h2, h3⟩ := append_row (w.alloc (.cells #[.int .i64 x.1, .int .i64 x.2] 32)) base v xs [x] (some ⟨w.heap.size, 0, none⟩) 1 (hown.below hb1) (row_new w [x] _) (fun e => by cases e) (by simp; omega) (by simp; omega)
  have hsz9 : w.heap.size ≤ w'.heap.size := Nat.le_trans (by simp) h3.size
  refine ⟨v', w', h1, h2, below_grown ((Below.refl _ _).alloc hb _) h3 (by simp; omega) (fun g hg => hown.block g hg), (Kpt.below hb1).trans (Kpt.grown h3 (fun g hg cs t ht => ?_)), hsz9⟩
  obtain ⟨-, -, cs', hk⟩ := (hown.below hb1).kind g hg
  rw [hk] at ht
  cases ht
  exact elemT_ne
/-- The variables of drain: a heap, an element. -/
structure Fd (w0 W : World) (a b : Nat) (p : Option Addr) (x : Int × Int) : Prop where
  h : W.heap[a]? = some (.cells #[.pointer p] 29 (0, 0))
  e : W.heap[b]? = some (.cells #[.int .i64 x.1, .int .i64 x.2] 32 (0, 0))
  bl : Below w0.heap.size w0 W
  ab : a < b
  wa : w0.heap.size ≤ a
section
variable {w0 W W' : World} {a b : Nat} {p : Option Addr} {x : Int × Int}
theorem Fd.stay (h : Fd w0 W a b p x) {B : Nat} (hb : Below B W W') (hB : b + 1 ≤ B) : Fd w0 W' a b p x :=
  ⟨(hb.block _ (by have := h.ab; omega)).trans h.h, (hb.block _ (by omega)).trans h.e, h.bl.trans (hb.mono (by have := h.ab; have := h.wa; omega)), h.ab, h.wa⟩
theorem Fd.lt (h : Fd w0 W a b p x) : b + 1 ≤ W.heap.size := lt_of_heap h.e
theorem Fd.c0 (h : Fd w0 W a b p x) : W.cell? ⟨a, 0, none⟩ = some (.pointer p) := by simp [World.cell?, h.h]
theorem Fd.z0 (h : Fd w0 W a b p x) : W.frozen? ⟨a, 0, none⟩ = false := by simp [World.frozen?, h.h]
theorem Fd.e0 (h : Fd w0 W a b p x) : W.cell? ⟨b, 0, none⟩ = some (.int .i64 x.1) := by simp [World.cell?, h.e]
theorem Fd.e1 (h : Fd w0 W a b p x) : W.cell? ⟨b, 1, none⟩ = some (.int .i64 x.2) := by simp [World.cell?, h.e]
theorem Fd.f0 (h : Fd w0 W a b p x) : W.frozen? ⟨b, 0, none⟩ = false := by simp [World.frozen?, h.e]
theorem Fd.f1 (h : Fd w0 W a b p x) : W.frozen? ⟨b, 1, none⟩ = false := by simp [World.frozen?, h.e]
theorem Fd.put (h : Fd w0 W a b p x) (q : Option Addr) : Fd w0 (W.setCell ⟨a, 0, none⟩ (.pointer q)) a b q x :=
  ⟨heap_put (j := 0) h.h _, (heap_other _ _ (by have := h.ab; omega)).trans h.e, h.bl.setCell (p := ⟨a, 0, none⟩) h.wa _, h.ab, h.wa⟩
theorem Fd.puts (h : Fd w0 W a b p x) (y : Int × Int) : Fd w0 ((W.setCell ⟨b, 0, none⟩ (.int .i64 y.1)).setCell ⟨b, 1, none⟩ (.int .i64 y.2)) a b p y :=
  ⟨(heap_other _ _ (by have := h.ab; omega)).trans ((heap_other _ _ (by have := h.ab; omega)).trans h.h), heap_put (j := 1) (heap_put (j := 0) h.e _) _, (h.bl.setCell (p := ⟨b, 0, none⟩) (by have := h.ab; have := h.wa; show w0.heap.size ≤ b; omega) _).setCell (p := ⟨b, 1, none⟩) (by have := h.ab; have := h.wa; show w0.heap.size ≤ b; omega) _, h.ab, h.wa⟩
end

set_option maxRecDepth 100000 in
set_option maxHeartbeats 4000000 in
theorem drain_any (t0 : Lh) (p0 : Option Addr) (N : Int) (w : World) (h : LAt w t0 p0) (hok : t0.ok) (hn : (t0.size : Int) ≤ N) (hN : N < 1073741824) (hs : t0.size < 16777216) :
    Calls Tryz.prog 32 #[hp p0, .int .i64 N] w fun e w' => ∃ v, e = .returned v ∧ Own w' w.heap.size v (srt t0.all) ∧ Below w.heap.size w w' := by
  have hb1 : Below w.heap.size w (w.alloc (.cells #[.pointer p0] 29)) := (Below.refl _ _).alloc (Nat.le_refl _) _
  have e1 : (w.alloc (.cells #[.pointer p0] 29)).heap[w.heap.size]? = some (.cells #[.pointer p0] 29 (0, 0)) := new_at rfl
  have H0 := Lib.hid (And.intro (h.stay hb1) (And.intro hok (And.intro hn (And.intro hN hs))))
  have HE := Lib.hid (And.intro hb1 e1)
  clear h hok hn hN hs hb1 e1
  go_enter Tryz.func32, Tryz.ntmps32
  go_wp2_with fail
  ((with_reducible refine (min_any t0 p0 _ _ H0.out.1).mono ?_); rintro e w2 ⟨rfl, hb2⟩)
  obtain ⟨⟨⟨m1, m2⟩, mb⟩, hmm⟩ : ∃ mm, t0.min = mm := ⟨_, rfl⟩
  rw [show minV t0 = .tuple #[el (m1, m2), .bool mb] by simp only [minV, hmm]]
  have hrow2 := (hb2.block _ (lt_of_heap HE.out.2)).trans HE.out.2
  have hF2 : Fd w (w2.alloc (.cells #[.int .i64 m1, .int .i64 m2] 32)) w.heap.size w2.heap.size p0 (m1, m2) :=
    ⟨(alloc_old _ (lt_of_heap hrow2)).trans hrow2, new_at rfl, (HE.out.1.trans (hb2.mono HE.out.1.size)).alloc (Nat.le_of_lt (lt_of_heap hrow2)) _, lt_of_heap hrow2, Nat.le_refl _⟩
  have F2 := Lib.hid hF2
  have L2 := Lib.hid ((H0.out.1.stay hb2).stay ((Below.refl _ _).alloc (Nat.le_refl _) (.cells #[.int .i64 m1, .int .i64 m2] 32)))
  have HM := Lib.hid hmm
  clear hrow2 hb2 HE hF2 hmm
  go_wp2_with fail
  generalize w2.alloc (.cells #[.int .i64 m1, .int .i64 m2] 32) = w3 at *
  obtain ⟨b, hb⟩ : ∃ b, b = w2.heap.size := ⟨_, rfl⟩
  obtain ⟨a, ha⟩ : ∃ a, a = w.heap.size := ⟨_, rfl⟩
  rw [← hb, ← ha] at F2
  rw [← hb, ← ha]
  have HA := Lib.hid ha
  clear hb ha
  go_loopg [5, 7, 8] t0.size (fun k v is i wr => ∃ (t : Lh) (p : Option Addr) (pre : List (Int × Int)), Own wr (b + 1) v pre ∧ is = .bool t.min.2 ∧ i = .int .i64 (pre.length : Nat) ∧ k = t.size ∧ Fd w wr a b p t.min.1 ∧ LAt wr t p ∧ t.ok ∧ pre ++ srt t.all = srt t0.all ∧ pre.length + t.size = t0.size)
  case atStart => exact ⟨t0, p0, [], Own.none _ _, by rw [HM.out], rfl, rfl, by rw [HM.out]; exact F2.out, L2.out, H0.out.2.1, rfl, by simp⟩
  case round =>
    obtain ⟨t, p, pre, hown, rfl, rfl, hk, hF, hL, hok, hall, hsz⟩ := hrel
    cases t with
    | nil =>
      obtain ⟨A, c, rfl, -⟩ := hown.form
      have X := Lib.hid (And.intro hown (And.intro hF (And.intro hall hsz)))
      simp only [Lh.min]
      clear hown hk hF hL hok hall hsz
      have hfin : ∀ v W, Own W (b + 1) v pre → Fd w W a b p (0, 0) → Own W w.heap.size v (srt t0.all) ∧ Below w.heap.size w W := fun v W ho hf => by
        have h1 := X.out.2.2.1
        rw [show Lh.nil.all = [] from rfl, srt_nil, List.append_nil] at h1
        rw [← h1]
        exact ⟨ho.lower (by have := hf.ab; have := hf.wa; omega), hf.bl⟩
      have HF := Lib.hid hfin
      clear hfin
      by_cases hlt : (pre.length : Int) < N
      · have g1 : decide ((pre.length : Int) < N) = true := by simpa using hlt
        go_wp2_with fail
        go_ret
        exact ⟨_, rfl, HF.out _ _ X.out.1 X.out.2.1⟩
      · have g1 : decide ((pre.length : Int) < N) = false := by simpa using hlt
        go_wp2_with fail
        go_ret
        exact ⟨_, rfl, HF.out _ _ X.out.1 X.out.2.1⟩
    | node x o =>
      obtain ⟨x1, x2⟩ := x
      simp only [Lh.min] at hF ⊢
      rw [show (Lh.node (x1, x2) o).size = ((Gn.bAll o).flatMap Lh.els).length + 1 from rfl] at hsz hk
      have hlt : (pre.length : Int) < N := by have := H0.out.2.2.1; omega
      have g1 : decide ((pre.length : Int) < N) = true := by simpa using hlt
      have hsm : pre.length < 16777216 := by have := H0.out.2.2.2.2; omega
      have hB : b + 1 ≤ wr.heap.size := hF.lt
      obtain ⟨v4, w4, hrun, hown4, hb4, hkp4, hsz4⟩ := append_one wr (b + 1) _ pre (x1, x2) hown (by omega) hB
      have hF4 := hF.stay hb4 (Nat.le_refl _)
      have hL4 := hL.kps hkp4 hsz4
      have e0 := hF.e0
      have e1 := hF.e1
      have c4 := hF4.c0
      have z4 := hF4.z0
      have X := Lib.hid (And.intro hown4 (And.intro hF4 (And.intro hL4 (And.intro hok (And.intro hall (And.intro hsz hk))))))
      have HR := Lib.hid hrun
      have HS := Lib.hid hsm
      clear hown hk hF hL hok hall hsz hB hown4 hb4 hF4 hL4 hrun hsm hkp4 hsz4
      obtain ⟨np, hnp⟩ : ∃ np, np = pre.length := ⟨_, rfl⟩
      rw [← hnp] at g1 hlt ⊢
      have HNP := Lib.hid hnp
      clear hnp
      go_wp2_with (at_builtin; refine wpList_append_run rfl _ _ _ rfl _ _ _ _ rfl rfl HR.out ?_)
      clear e0 e1 c4
      ((with_reducible refine (popN (.node (x1, x2) o) p _ X.out.2.2.1 (by have := X.out.2.2.2.2.2.1; have := H0.out.2.2.2.2; rw [show (Lh.node (x1, x2) o).size = ((Gn.bAll o).flatMap Lh.els).length + 1 from rfl]; omega)).mono ?_); rintro e w5 ⟨p5, rfl, ht5, hb5⟩)
      have F5 := X.out.2.1.stay hb5 X.out.2.1.lt
      have O5 := X.out.1.below hb5
      have z5 := F5.z0
      have c5 := F5.c0
      have F6 := F5.put p5
      have L6 := ht5.wrote F5.h heapT_ne 0 (.pointer p5)
      have O6 := O5.other (b := a) (by have := F5.ab; omega) 0 (.pointer p5)
      have c6 := F6.c0
      have Y := Lib.hid (And.intro F6 (And.intro L6 O6))
      clear hb5 ht5 F5 O5 F6 L6 O6 z4
      go_wp2_with fail
      clear z5 c5 c6
      generalize w5.setCell ⟨a, 0, none⟩ (.pointer p5) = w6 at *
      ((with_reducible refine (min_any ((Lh.node (x1, x2) o).pop) p5 _ _ Y.out.2.1).mono ?_); rintro e w7 ⟨rfl, hb7⟩)
      have F7 := Y.out.1.stay hb7 Y.out.1.lt
      have O7 := Y.out.2.2.below hb7
      have L7 := Y.out.2.1.stay hb7
      obtain ⟨⟨⟨k1, k2⟩, kb⟩, hkk⟩ : ∃ mm, ((Lh.node (x1, x2) o).pop).min = mm := ⟨_, rfl⟩
      rw [show minV ((Lh.node (x1, x2) o).pop) = .tuple #[el (k1, k2), .bool kb] by simp only [minV, hkk]]
      have y0 := F7.e0
      have y1 := F7.e1
      have y2 := F7.f0
      have y3 := F7.f1
      have F8 := F7.puts (k1, k2)
      have L8 := (L7.wrote F7.e elemT_ne 0 (.int .i64 k1)).wrote (heap_put (j := 0) F7.e (.int .i64 k1)) elemT_ne 1 (.int .i64 k2)
      have O8 := (O7.other (b := b) (by omega) 0 (.int .i64 k1)).other (b := b) (by omega) 1 (.int .i64 k2)
      have Z := Lib.hid (And.intro F8 (And.intro L8 O8))
      have HK := Lib.hid hkk
      clear hb7 F7 O7 L7 F8 L8 O8 hkk
      go_wp2_with fail
      obtain ⟨-, -, -, hok, hall, hsz, hk⟩ := X.out
      go_roundg ((Lh.node (x1, x2) o).pop).size
      case measure => rw [pop_size hok, show (Lh.node (x1, x2) o).size = ((Gn.bAll o).flatMap Lh.els).length + 1 from rfl]; omega
      case rel => exact ⟨((Lh.node (x1, x2) o).pop), p5, pre ++ [(x1, x2)], Z.out.2.2, by rw [HK.out], by congr 1; have h1 := HNP.out; have h2 := HS.out; rw [List.length_append, ← h1]; simp only [List.length_cons, List.length_nil]; unfold wrap64; omega, rfl, by rw [HK.out]; exact Z.out.1, Z.out.2.1, pop_ok hok, by rw [← hall, ok_srt hok rfl]; simp [Lh.pop, Lh.min], by rw [pop_size hok, show (Lh.node (x1, x2) o).size = ((Gn.bAll o).flatMap Lh.els).length + 1 from rfl, List.length_append]; simp only [List.length_cons, List.length_nil]; omega⟩

end Go.Proofs.YtlmokendajgbdaaGreatDoor.Bo
namespace Go.Proofs.YtlmokendajgbdaaGreatDoor.Bo
open Go.Sort Go.RowKit

section
variable {W W' : World} {mo : Option Nat} {c m : Int}
theorem HVar.new (W : World) (p : Option Addr) {n : Nat} (h : n = W.heap.size) : HVar (W.alloc (.cells #[.pointer p] 29)) n p := new_at h
theorem HVar.lt {b : Nat} {p : Option Addr} (h : HVar W b p) : b < W.heap.size := lt_of_heap h

/-- What stays where a heap's variable is written. -/
theorem LAt.set {t : Lh} {p : Option Addr} (h : LAt W t p) {b : Nat} {q : Option Addr} (hv : HVar W b q) (u : Value) : LAt (W.setCell ⟨b, 0, Option.none⟩ u) t p := h.wrote hv heapT_ne 0 u
theorem _root_.Go.Proofs.YtlmokendajgbdaaGreatDoor.Rw.set {v : Value} {xs : List (Int × Int)} (h : Rw W v xs) {b : Nat} {q : Option Addr} (hv : HVar W b q) (u : Value) : Rw (W.setCell ⟨b, 0, Option.none⟩ u) v xs := by
  rcases h with h | ⟨g, o, k, cs, hv', h1, h2, h3, h4⟩
  · exact .inl h
  · exact .inr ⟨g, o, k, cs, hv', h1, h2, (heap_other _ _ (fun e => by subst e; have hz := h3.symm.trans hv; injection hz with hz; injection hz with _ hz; exact absurd hz (by decide))).trans h3, h4⟩
theorem EVar.set {b' : Nat} {x : Int × Int} (h : EVar W b' x) {b : Nat} (hne : b' ≠ b) (off : Nat) (u : Value) : EVar (W.setCell ⟨b, off, none⟩ u) b' x := (heap_other _ _ hne).trans h
theorem _root_.Go.Proofs.YtlmokendajgbdaaGreatDoor.MAt.set (h : MAt W mo c m) {b : Nat} {q : Option Addr} (hv : HVar W b q) (u : Value) : MAt (W.setCell ⟨b, 0, none⟩ u) mo c m := h.other hv (by decide) 0 u
/-- .. an element's variable. -/
theorem LAt.setE {t : Lh} {p : Option Addr} (h : LAt W t p) {b : Nat} {x : Int × Int} (hv : EVar W b x) (u u' : Value) : LAt ((W.setCell ⟨b, 0, Option.none⟩ u).setCell ⟨b, 1, Option.none⟩ u') t p :=
  (h.wrote hv elemT_ne 0 u).wrote (heap_put (j := 0) hv u) elemT_ne 1 u'
/-- What holds from here on, and what is new. -/
theorem on_inv {P Q : World → Prop} {w1 w2 : World} (h : ∀ W, Bt mo w1 W → P W) (hb : Bt mo w1 w2) (new : ∀ W, Bt mo w2 W → Q W) : ∀ W, Bt mo w2 W → Q W ∧ P W := fun W k => ⟨new W k, h W (hb.trans k)⟩

/-- What was there ahead of the call, and the library's table. -/
structure Bas (w W : World) : Prop where
  below : Below w.heap.size w W
  env : Env W
theorem Bas.bt {w : World} (h : Bas w W) (he : Env w) (hb : Bt mo W W') (hB : ∀ b, mo = some b → w.heap.size ≤ b) : Bas w W' :=
  ⟨hb.below h.below hB h.below.size, he.below (hb.below h.below hB h.below.size)⟩
theorem Bas.set {w : World} (h : Bas w W) (he : Env w) {b : Nat} (hb : w.heap.size ≤ b) (off : Nat) (u : Value) : Bas w (W.setCell ⟨b, off, none⟩ u) :=
  ⟨h.below.setCell (p := ⟨b, off, none⟩) hb u, he.below (h.below.setCell (p := ⟨b, off, none⟩) hb u)⟩
theorem Bas.first {w : World} (he : Env w) : Bas w w := ⟨Below.refl _ _, he⟩
end

theorem drainRw (t : Lh) (p : Option Addr) (N : Int) (w : World) (h : LAt w t p) (hok : t.ok) (hn : (t.size : Int) ≤ N) (hN : N < 1073741824) (hs : t.size < 16777216) :
    Calls Tryz.prog 32 #[hp p, .int .i64 N] w fun e w' => ∃ v, e = .returned v ∧ Rw w' v (srt t.all) ∧ Below w.heap.size w w' :=
  (drain_any t p N w h hok hn hN hs).mono fun _ _ ⟨v, he, ho, hb⟩ => ⟨v, he, ho.rw, hb⟩

theorem ofRow (A : Option Addr) (xs : List (Int × Int)) (n cap : Nat) (w W : World) (hr : Row w A xs) (hn : n = xs.length) (hs : n < 16777216) (hb : Below w.heap.size w W) : Calls Tryz.prog 23 #[.pointer none, .slice A n cap] W (GaveN (ofL xs) W) := by
  subst hn; exact ofN A xs cap W (hr.below hb) hs
theorem sortRow (A : Option Addr) (xs : List (Int × Int)) (n cap : Nat) (w W : World) (hr : Row w A xs) (hn : n = xs.length) (hs : n < 16777216) (hb : Below w.heap.size w W) : Calls Tryz.prog 31 #[.slice A n cap] W fun e w' => ∃ v', e = .returned v' ∧ Rw w' v' (srt xs) ∧ Below W.heap.size W w' := by
  subst hn; exact sortRw A xs cap W (hr.below hb) hs
/-- Same, of rows that are the same. -/
theorem sameIs (u v : Value) (xs ys : List (Int × Int)) (w : World) (hx : Rw w u xs) (hy : Rw w v ys) (hs : xs.length < 16777216) (h : xs = ys) : Calls Tryz.prog 33 #[u, v] w fun e w' => e = .returned (.bool true) ∧ Below w.heap.size w w' :=
  (sameRw u v xs ys w hx hy hs).mono fun _ _ ⟨he, hb⟩ => ⟨by rw [he]; simp [h], hb⟩

/-- A row that is not empty, and what is behind its first one. -/
theorem _root_.Go.Proofs.YtlmokendajgbdaaGreatDoor.Rw.rest {W : World} {v : Value} {xs : List (Int × Int)} (h : Rw W v xs) (hx : xs ≠ []) : ∃ (b o c : Nat), v = .slice (some ⟨b, o, Option.none⟩) xs.length c ∧ xs.length ≤ c ∧ c ≤ 9223372036854775807 ∧
    ∀ W', Below W.heap.size W W' → Rw W' (.slice (some ⟨b, o, Option.none⟩) 0 0) [] ∧ Rw W' (.slice (some ⟨b, o + 1 * 2, Option.none⟩) (xs.length - 1) (c - 1)) xs.tail := by
  rcases h with ⟨-, rfl⟩ | ⟨b, o, c, cs, rfl, h1, h2, h3, h4⟩
  · exact absurd rfl hx
  · refine ⟨b, o, c, rfl, h1, h2, fun W' hb => ⟨.inr ⟨b, o, 0, cs, rfl, Nat.le_refl _, by omega, (hb.block b (lt_of_heap h3)).trans h3, fun j u hu => by simp [cellsE] at hu⟩, .inr ⟨b, o + 1 * 2, c - 1, cs, by rw [List.length_tail], by rw [List.length_tail]; omega, by omega, (hb.block b (lt_of_heap h3)).trans h3, fun j u hu => ?_⟩⟩⟩
    have e1 : xs.tail = xs.drop 1 := by cases xs <;> rfl
    rw [e1, cellsE_drop, List.getElem?_drop] at hu
    rw [Nat.add_assoc]
    exact h4 _ u hu
theorem half_step {N v q : Nat} (h : N < (v + 1) * 2 ^ q) : N < (v / 2 + 1) * 2 ^ (q + 1) := by
  have h1 : (v / 2 + 1) * 2 ^ (q + 1) = (2 * (v / 2) + 2) * 2 ^ q := by rw [Nat.pow_succ, Nat.mul_comm (2 ^ q) 2, ← Nat.mul_assoc]; congr 1; omega
  rw [h1]
  exact Nat.lt_of_lt_of_le h (Nat.mul_le_mul_right _ (by omega))

end Go.Proofs.YtlmokendajgbdaaGreatDoor.Bo
