/-
  Contracts of boot.Of, by a meter or none, and of Pop, Meld, Insert, Of without a meter: which heap each makes, how many comparisons and things the meter counts, that what was there stays but for the meter's block. Conditions: fewer than 2 to the 24th elements, counts below 2 to the 57th, a row that lies in another block than the meter.
-/
import Derived.Test.YtlmokendajgbdaaGreatDoorWb3
import Derived.Test.YtlmokendajgbdaaGreatDoorMb
import Derived.Deep.LoopGhost
namespace Go.Proofs.YtlmokendajgbdaaGreatDoor.Bo
open Go.Sort Go.RowKit

theorem put_take (xs : List (Int × Int)) (k : Nat) (h : k < xs.length) : putC .nil (xs.take (k + 1)) = putC .nil (xs.take k) + (ofL (xs.take k)).insC xs[k] ∧ putM .nil (xs.take (k + 1)) = putM .nil (xs.take k) + (ofL (xs.take k)).insM xs[k] := by
  rw [List.take_succ_eq_append_getElem h, putC_snoc, putM_snoc]
  exact ⟨rfl, rfl⟩
theorem ofL_take (xs : List (Int × Int)) (k : Nat) (h : k < xs.length) : ofL (xs.take (k + 1)) = (ofL (xs.take k)).insert xs[k] := by
  rw [List.take_succ_eq_append_getElem h, ofL_snoc]
theorem put_small (xs : List (Int × Int)) (h : xs.length < 16777216) : putC .nil xs < 67108864 ∧ putM .nil xs < 67108864 := by
  have := put_le xs .nil
  omega
theorem cell_old {w : World} {q : Addr} {v : Value} (h : w.cell? q = some v) (o : Obj) : (w.alloc o).cell? q = some v := (((Below.refl w.heap.size w).alloc (Nat.le_refl _) o).cell (block_lt_of_cell h)).trans h

set_option maxRecDepth 100000 in
set_option maxHeartbeats 4000000 in
theorem of_any (mo : Option Nat) (c m : Int) (A : Option Addr) (xs : List (Int × Int)) (cap : Nat) (w : World) (hm : MAt w mo c m) (h0 : 0 ≤ c) (h1 : c < 72057594037927936) (h2 : 0 ≤ m) (h3 : m < 72057594037927936) (hr : Row w A xs) (hn : xs.length < 16777216)
    (hne : 0 < xs.length → ∀ b, mo = some b → ∀ q, A = some q → q.block ≠ b) :
    Calls Tryz.prog 23 #[mAddr mo, .slice A xs.length cap] w (Gave mo (c + putC .nil xs) (m + putM .nil xs) (ofL xs) w) := by
  have K1 : Trk NodeT mo w c m ((w.alloc (.cells #[.pointer none] 29)).alloc (.cells #[.pointer none] 29)) := ((Trk.refl hm).alloc _).alloc _
  have e1 : ((w.alloc (.cells #[.pointer none] 29)).alloc (.cells #[.pointer none] 29)).heap[w.heap.size]? = some (.cells #[.pointer none] 29 (0, 0)) := by
    rw [alloc_old _ (by simp only [World.size_alloc]; omega)]; exact new_at rfl
  have e2 : ((w.alloc (.cells #[.pointer none] 29)).alloc (.cells #[.pointer none] 29)).heap[w.heap.size + 1]? = some (.cells #[.pointer none] 29 (0, 0)) := new_at (by simp)
  have HR := Lib.hid (And.intro hr hne)
  have HN := Lib.hid (And.intro h0 (And.intro h1 (And.intro h2 h3)))
  have HE := Lib.hid (And.intro e1 e2)
  have KK := Lib.hid K1
  obtain ⟨n, hnn⟩ : ∃ n, n = xs.length := ⟨_, rfl⟩
  rw [← hnn] at hn ⊢
  have HX := Lib.hid hnn
  clear hr hne h0 h1 h2 h3 K1 hm e1 e2 hnn
  go_enter Tryz.func23, Tryz.ntmps23
  go_wp2_with fail
  generalize (w.alloc (.cells #[.pointer none] 29)).alloc (.cells #[.pointer none] 29) = w1 at *
  obtain ⟨a, ha⟩ : ∃ a, a = w.heap.size := ⟨_, rfl⟩
  rw [← ha] at HE ⊢
  have HA := Lib.hid ha
  clear ha
  go_loopg [10] n (fun k i wr => ∃ (j : Nat) (p : Option Addr), i = .int .i64 (j : Int) ∧ j + k = n ∧ wr.heap[a]? = some (.cells #[.pointer none] 29 (0, 0)) ∧ wr.heap[a + 1]? = some (.cells #[.pointer p] 29 (0, 0)) ∧ LAt wr (ofL (xs.take j)) p ∧ Trk NodeT mo w (c + putC .nil (xs.take j)) (m + putM .nil (xs.take j)) wr)
  case atStart => exact ⟨0, none, rfl, by omega, HE.out.1, HE.out.2, LAt.none _, by simpa [putC, putM] using KK.out⟩
  case round =>
    obtain ⟨j, p, rfl, hj, hra, hrb, ht, hk⟩ := hrel
    by_cases hlt : j < n
    · have hjx : j < xs.length := by rw [← HX.out]; exact hlt
      obtain ⟨b, o, rfl, hc⟩ := HR.out.1 (by omega)
      have hx := row_at hc j hjx
      have hne := fun bb (eb : mo = some bb) => HR.out.2 (by omega) bb eb _ rfl
      have x0 := hk.bt.cell hx.1 hne
      have x1 := hk.bt.cell hx.2 hne
      have hp := put_small (xs.take j) (by rw [List.length_take]; omega)
      have hsz : (ofL (xs.take j)).size = j := by rw [ofL_size, List.length_take]; omega
      have eP := put_take xs j hjx
      have eO := ofL_take xs j hjx
      generalize xs[j] = x at *
      obtain ⟨y1, y2⟩ := x
      have q1 : (j : Int) < (n : Int) := by omega
      have q2 : (0 : Int) ≤ (j : Int) := by omega
      have h1c : wr.cell? ⟨a + 1, 0, none⟩ = some (.pointer p) := by simp [World.cell?, hrb]
      have h2c : (wr.alloc (.cells #[.int .i64 y1, .int .i64 y2] 32)).cell? ⟨a + 1, 0, none⟩ = some (.pointer p) := cell_old h1c _
      have X := Lib.hid (And.intro hra (And.intro hrb (And.intro ht (And.intro hk (And.intro eP (And.intro eO (And.intro hp (And.intro hsz hj))))))))
      clear hra hrb ht hk eP eO hp hsz hj hc hx hne hjx
      go_wp2_with fail
      clear h1c h2c x0 x1
      ((with_reducible refine (insert_any mo _ _ (ofL (xs.take j)) (y1, y2) p _ (by rw [X.out.2.2.2.2.2.2.2.1]; omega) (X.out.2.2.2.1.alloc _).mt (by have := HN.out; omega) (by have := HN.out; have := X.out.2.2.2.2.2.2.1; omega) (by have := HN.out; omega) (by have := HN.out; have := X.out.2.2.2.2.2.2.1; omega) (X.out.2.2.1.stay ((Below.refl _ _).alloc (Nat.le_refl _) _))).mono ?_); rintro e w2 ⟨p2, rfl, ht2, hm2, hb2⟩)
      obtain ⟨hra, hrb, ht, hk, eP, eO, hp, hsz, hj⟩ := X.out
      have hk2 := (hk.alloc (.cells #[.int .i64 y1, .int .i64 y2] 32)).turn hm2 hb2 node_ne
      have ra2 := hb2.row (hk.alloc _).mt ((alloc_old (.cells #[.int .i64 y1, .int .i64 y2] 32) (lt_of_heap hra)).trans hra) (by decide)
      have rb2 := hb2.row (hk.alloc _).mt ((alloc_old (.cells #[.int .i64 y1, .int .i64 y2] 32) (lt_of_heap hrb)).trans hrb) (by decide)
      have e1 : c + ((putC .nil (xs.take (j + 1)) : Nat) : Int) = c + (putC .nil (xs.take j) : Nat) + ((ofL (xs.take j)).insC (y1, y2) : Nat) := by rw [eP.1]; omega
      have e2 : m + ((putM .nil (xs.take (j + 1)) : Nat) : Int) = m + (putM .nil (xs.take j) : Nat) + ((ofL (xs.take j)).insM (y1, y2) : Nat) := by rw [eP.2]; omega
      rw [← e1, ← e2] at hk2
      rw [← eO] at ht2
      have z2 : w2.frozen? ⟨a + 1, 0, none⟩ = false := by simp [World.frozen?, rb2]
      have r2 : w2.cell? ⟨a + 1, 0, none⟩ = some (.pointer p) := by simp [World.cell?, rb2]
      have Y := Lib.hid (And.intro (show (w2.setCell ⟨a + 1, 0, none⟩ (.pointer p2)).heap[a]? = _ from (heap_other _ _ (by omega)).trans ra2) (And.intro (show (w2.setCell ⟨a + 1, 0, none⟩ (.pointer p2)).heap[a + 1]? = some (.cells #[.pointer p2] 29 (0, 0)) from heap_put (j := 0) rb2 (.pointer p2)) (And.intro (ht2.wrote rb2 heapT_ne 0 (.pointer p2)) (hk2.put rb2 heapT_ne (by decide) (by rw [← HA.out]; omega) 0 (.pointer p2)))))
      clear hra hrb ht hk eP eO hp hsz hk2 ra2 rb2 e1 e2 ht2 hm2 hb2 X
      go_wp2_with fail
      go_roundg (n - 1 - j)
      case measure => omega
      case rel => exact ⟨j + 1, p2, by congr 1, by omega, Y.out.1, Y.out.2.1, Y.out.2.2.1, Y.out.2.2.2⟩
    · have hjn : j = n := by omega
      subst hjn
      rw [HX.out, List.take_length] at ht hk
      have h1c : wr.cell? ⟨a + 1, 0, none⟩ = some (.pointer p) := by simp [World.cell?, hrb]
      have r6 : wr.cell? ⟨a, 0, none⟩ = some (.pointer none) := by simp [World.cell?, hra]
      have z6 : wr.frozen? ⟨a, 0, none⟩ = false := by simp [World.frozen?, hra]
      have hk2 := hk.put hra heapT_ne (by decide) (by rw [← HA.out]; omega) 0 (.pointer p)
      have X := Lib.hid (And.intro (ht.wrote hra heapT_ne 0 (.pointer p)) hk2)
      clear hra hrb ht hk hk2 hlt hj
      go_wp2_with fail
      exact bodyPost_ret (v := hp p) (by simp [results, Tryz.results23, go_sem, r6]) rfl ⟨_, rfl, X.out.1, X.out.2.mt, X.out.2.bt⟩

/-- What a call hands back that makes a heap, without a meter. -/
def GaveN (t : Lh) (w : World) (e : Ending) (w' : World) : Prop := ∃ p, e = .returned (hp p) ∧ LAt w' t p ∧ Below w.heap.size w w'
def PoppedN (t : Lh) (is : Bool) (w : World) (e : Ending) (w' : World) : Prop := ∃ p, e = .returned (.tuple #[hp p, .bool is]) ∧ LAt w' t p ∧ Below w.heap.size w w'
theorem popN (t : Lh) (p : Option Addr) (w : World) (h : LAt w t p) (hs : t.size < 16777216) : Calls Tryz.prog 21 #[hp p, .pointer none] w (PoppedN t.pop t.some w) :=
  (pop_any none 0 0 t p w (by omega) trivial (by decide) (by decide) (by decide) (by decide) h).mono fun _ _ ⟨p, he, ht, _, hb⟩ => ⟨p, he, ht, hb.toBelow⟩
theorem meldNm (a b : Lh) (p q : Option Addr) (w : World) (ha : LAt w a p) (hb : LAt w b q) (hs : a.size + b.size < 134217728) : Calls Tryz.prog 19 #[hp p, .pointer none, hp q] w (GaveN (meld a b) w) :=
  (meld_any none a b 0 0 p q w hs trivial (by decide) (by decide) (by decide) (by decide) ha hb).mono fun _ _ ⟨p, he, ht, _, hb⟩ => ⟨p, he, ht, hb.toBelow⟩
theorem insertNm (t : Lh) (x : Int × Int) (p : Option Addr) (w : World) (h : LAt w t p) (hs : t.size < 16777216) : Calls Tryz.prog 17 #[hp p, .pointer none, el x] w (GaveN (t.insert x) w) :=
  (insert_any none 0 0 t x p w (by omega) trivial (by decide) (by decide) (by decide) (by decide) h).mono fun _ _ ⟨p, he, ht, _, hb⟩ => ⟨p, he, ht, hb.toBelow⟩
theorem ofN (A : Option Addr) (xs : List (Int × Int)) (cap : Nat) (w : World) (hr : Row w A xs) (hn : xs.length < 16777216) : Calls Tryz.prog 23 #[.pointer none, .slice A xs.length cap] w (GaveN (ofL xs) w) :=
  (of_any none 0 0 A xs cap w trivial (by decide) (by decide) (by decide) (by decide) hr hn (fun _ _ e => by cases e)).mono fun _ _ ⟨p, he, ht, _, hb⟩ => ⟨p, he, ht, hb.toBelow⟩

end Go.Proofs.YtlmokendajgbdaaGreatDoor.Bo
