/-
  Contract of pairing.Of by a meter, for a row that was there ahead of the meter; two meters beside each other. Conditions: fewer than 2 to the 24th elements, counts below 2 to the 58th.
-/
import Derived.Test.YtpclafbolppgcaaDoorPd7
import Derived.Deep.LoopGhost
namespace Go.Proofs.YtpclafbolppgcaaDoor
open Go.Sort Go.RowKit

/-- A meter, where another one turns. -/
theorem MAt.bt2 {W W' : World} {a b : Nat} {c m : Int} (h : MAt W (some a) c m) (hb : Bt (some b) W W') (hne : a ≠ b) : MAt W' (some a) c m :=
  (hb.block a h.lt (fun e => hne (by injection e with e; exact e.symm))).trans h

set_option maxRecDepth 100000 in
set_option maxHeartbeats 4000000 in
theorem of_meter (mo : Option Nat) (c m : Int) (A : Option Addr) (xs : List (Int × Int)) (cap : Nat) (w : World) (hm : MAt w mo c m) (h0 : 0 ≤ c) (h1 : c < 288230376151711744) (h2 : 0 ≤ m) (h3 : m < 288230376151711744) (hr : Row w A xs) (hn : xs.length < 16777216)
    (hne : 0 < xs.length → ∀ b, mo = some b → ∀ q, A = some q → q.block ≠ b) :
    Calls Tryd.prog 24 #[mAddr mo, .slice A xs.length cap] w (Gave mo (c + putN .nil xs) (m + (xs.length : Nat) + putN .nil xs) (ofL xs) w) := by
  have K1 : Trk NodeT mo w c m ((w.alloc (.cells #[.pointer none] 29)).alloc (.cells #[.pointer none] 29)) := ((Trk.refl hm).alloc _).alloc _
  have e1 : ((w.alloc (.cells #[.pointer none] 29)).alloc (.cells #[.pointer none] 29)).heap[w.heap.size]? = some (.cells #[.pointer none] 29 (0, 0)) := by
    rw [alloc_old _ (by simp only [World.size_alloc]; omega)]; exact new_at rfl
  have e2 : ((w.alloc (.cells #[.pointer none] 29)).alloc (.cells #[.pointer none] 29)).heap[w.heap.size + 1]? = some (.cells #[.pointer none] 29 (0, 0)) := new_at (by simp)
  have HR := Lib.hid (And.intro hr hne)
  have HN := Lib.hid (And.intro h0 (And.intro h1 (And.intro h2 h3)))
  have HE := Lib.hid (And.intro e1 e2)
  have KK := Lib.hid K1
  obtain ⟨n, hnn⟩ : ∃ n, n = xs.length := ⟨_, rfl⟩
  rw [← hnn] at hn ⊢
  have HX := Lib.hid hnn
  clear hr hne h0 h1 h2 h3 K1 hm e1 e2 hnn
  go_enter Tryd.func24, Tryd.ntmps24
  go_wp2_with fail
  generalize (w.alloc (.cells #[.pointer none] 29)).alloc (.cells #[.pointer none] 29) = w1 at *
  obtain ⟨a, ha⟩ : ∃ a, a = w.heap.size := ⟨_, rfl⟩
  rw [← ha] at HE ⊢
  have HA := Lib.hid ha
  clear ha
  go_loopg [10] n (fun k i wr => ∃ (j : Nat) (p : Option Addr), i = .int .i64 (j : Int) ∧ j + k = n ∧ wr.heap[a]? = some (.cells #[.pointer none] 29 (0, 0)) ∧ wr.heap[a + 1]? = some (.cells #[.pointer p] 29 (0, 0)) ∧ LAt wr (ofL (xs.take j)) p ∧ Trk NodeT mo w (c + putN .nil (xs.take j)) (m + (j : Nat) + putN .nil (xs.take j)) wr)
  case atStart => exact ⟨0, none, rfl, by omega, HE.out.1, HE.out.2, rfl, by simpa [putN] using KK.out⟩
  case round =>
    obtain ⟨j, p, rfl, hj, hra, hrb, ht, hk⟩ := hrel
    by_cases hlt : j < n
    · have hjx : j < xs.length := by rw [← HX.out]; exact hlt
      obtain ⟨b, o, rfl, hc⟩ := HR.out.1 (by omega)
      have hx := row_at hc j hjx
      have hne := fun bb (eb : mo = some bb) => HR.out.2 (by omega) bb eb _ rfl
      have x0 := hk.bt.cell hx.1 hne
      have x1 := hk.bt.cell hx.2 hne
      have hp := putN_small (xs.take j) (by rw [List.length_take]; omega)
      have hsz : (ofL (xs.take j)).size = j := by rw [ofL_size, List.length_take]; omega
      have eP := putN_take xs j hjx
      have eO := ofL_take xs j hjx
      generalize xs[j] = x at *
      obtain ⟨y1, y2⟩ := x
      have q1 : (j : Int) < (n : Int) := by omega
      have q2 : (0 : Int) ≤ (j : Int) := by omega
      have h1c : wr.cell? ⟨a + 1, 0, none⟩ = some (.pointer p) := by simp [World.cell?, hrb]
      have h2c : (wr.alloc (.cells #[.int .i64 y1, .int .i64 y2] 32)).cell? ⟨a + 1, 0, none⟩ = some (.pointer p) := cell_old h1c _
      have X := Lib.hid (And.intro hra (And.intro hrb (And.intro ht (And.intro hk (And.intro eP (And.intro eO (And.intro hp (And.intro hsz hj))))))))
      clear hra hrb ht hk eP eO hp hsz hj hc hx hne hjx
      go_wp2_with fail
      clear h1c h2c x0 x1
      ((with_reducible refine (insert_any mo _ _ (ofL (xs.take j)) (y1, y2) p _ (by rw [X.out.2.2.2.2.2.2.2.1]; omega) (X.out.2.2.2.1.alloc _).mt (by have := HN.out; omega) (by have := HN.out; have := X.out.2.2.2.2.2.2.1; omega) (by have := HN.out; omega) (by have := HN.out; have := X.out.2.2.2.2.2.2.1; omega) (X.out.2.2.1.stay ((Below.refl _ _).alloc (Nat.le_refl _) _))).mono ?_); rintro e w2 ⟨p2, rfl, ht2, hm2, hb2⟩)
      obtain ⟨hra, hrb, ht, hk, eP, eO, hp, hsz, hj⟩ := X.out
      have hk2 := (hk.alloc (.cells #[.int .i64 y1, .int .i64 y2] 32)).turn hm2 hb2 node_ne
      have ra2 := hb2.row (hk.alloc _).mt ((alloc_old (.cells #[.int .i64 y1, .int .i64 y2] 32) (lt_of_heap hra)).trans hra) (by decide)
      have rb2 := hb2.row (hk.alloc _).mt ((alloc_old (.cells #[.int .i64 y1, .int .i64 y2] 32) (lt_of_heap hrb)).trans hrb) (by decide)
      have e1 : c + ((putN .nil (xs.take (j + 1)) : Nat) : Int) = c + (putN .nil (xs.take j) : Nat) + (meldN (.one (y1, y2)) (ofL (xs.take j)) : Nat) := by rw [eP]; omega
      have e2 : m + ((j + 1 : Nat) : Int) + (putN .nil (xs.take (j + 1)) : Nat) = m + (j : Nat) + (putN .nil (xs.take j) : Nat) + 1 + (meldN (.one (y1, y2)) (ofL (xs.take j)) : Nat) := by rw [eP]; omega
      rw [← e1, ← e2] at hk2
      rw [← eO] at ht2
      have z2 : w2.frozen? ⟨a + 1, 0, none⟩ = false := by simp [World.frozen?, rb2]
      have r2 : w2.cell? ⟨a + 1, 0, none⟩ = some (.pointer p) := by simp [World.cell?, rb2]
      have Y := Lib.hid (And.intro (show (w2.setCell ⟨a + 1, 0, none⟩ (.pointer p2)).heap[a]? = _ from (heap_other _ _ (by omega)).trans ra2) (And.intro (show (w2.setCell ⟨a + 1, 0, none⟩ (.pointer p2)).heap[a + 1]? = some (.cells #[.pointer p2] 29 (0, 0)) from heap_put (j := 0) rb2 (.pointer p2)) (And.intro (ht2.kp (Kpt.set rb2 heapT_ne 0 (.pointer p2))) (hk2.put rb2 heapT_ne (by decide) (by rw [← HA.out]; omega) 0 (.pointer p2)))))
      clear hra hrb ht hk eP eO hp hsz hk2 ra2 rb2 e1 e2 ht2 hm2 hb2 X
      go_wp2_with fail
      go_roundg (n - 1 - j)
      case measure => omega
      case rel => exact ⟨j + 1, p2, by congr 1, by omega, Y.out.1, Y.out.2.1, Y.out.2.2.1, Y.out.2.2.2⟩
    · have hjn : j = n := by omega
      subst hjn
      rw [HX.out, List.take_length] at ht hk
      rw [← HX.out] at hk
      have h1c : wr.cell? ⟨a + 1, 0, none⟩ = some (.pointer p) := by simp [World.cell?, hrb]
      have r6 : wr.cell? ⟨a, 0, none⟩ = some (.pointer none) := by simp [World.cell?, hra]
      have z6 : wr.frozen? ⟨a, 0, none⟩ = false := by simp [World.frozen?, hra]
      have hk2 := hk.put hra heapT_ne (by decide) (by rw [← HA.out]; omega) 0 (.pointer p)
      have X := Lib.hid (And.intro (ht.kp (Kpt.set hra heapT_ne 0 (.pointer p))) hk2)
      clear hra hrb ht hk hk2 hlt hj
      go_wp2_with fail
      exact bodyPost_ret (v := hp p) (by simp [results, Tryd.results24, go_sem, r6]) rfl ⟨_, rfl, X.out.1, X.out.2.mt, X.out.2.bt⟩

theorem three_vars (W : World) (p q r : Option Addr) : HVar (((W.alloc (.cells #[.pointer p] 29)).alloc (.cells #[.pointer q] 29)).alloc (.cells #[.pointer r] 29)) W.heap.size p ∧
    HVar (((W.alloc (.cells #[.pointer p] 29)).alloc (.cells #[.pointer q] 29)).alloc (.cells #[.pointer r] 29)) (W.heap.size + 1) q ∧
    HVar (((W.alloc (.cells #[.pointer p] 29)).alloc (.cells #[.pointer q] 29)).alloc (.cells #[.pointer r] 29)) (W.heap.size + 1 + 1) r := by
  unfold HVar
  refine ⟨?_, ?_, ?_⟩
  · rw [alloc_old _ (by simp only [World.size_alloc]; omega), alloc_old _ (by simp only [World.size_alloc]; omega)]; exact new_at rfl
  · rw [alloc_old _ (by simp only [World.size_alloc]; omega)]; exact new_at (by simp)
  · exact new_at (by simp)
theorem two_vars (W : World) (p q : Option Addr) : HVar ((W.alloc (.cells #[.pointer p] 29)).alloc (.cells #[.pointer q] 29)) W.heap.size p ∧
    HVar ((W.alloc (.cells #[.pointer p] 29)).alloc (.cells #[.pointer q] 29)) (W.heap.size + 1) q := by
  unfold HVar
  refine ⟨?_, ?_⟩
  · rw [alloc_old _ (by simp only [World.size_alloc]; omega)]; exact new_at rfl
  · exact new_at (by simp)
theorem one_of (x : Int × Int) : ofL [x] = .one x := by show meld (.one x) .nil = _; exact meld_right _
/-- Of one element, that was laid for the call. -/
theorem ofOne (x1 x2 : Int) (w : World) : Calls Tryd.prog 24 #[.pointer none, .slice (some ⟨w.heap.size, 0, none⟩) 1 1] (w.alloc (.cells #[.int .i64 x1, .int .i64 x2] 32)) fun e w' => ∃ p, e = .returned (hp p) ∧ LAt w' (.one (x1, x2)) p ∧ Below w.heap.size w w' :=
  (ofN (some ⟨w.heap.size, 0, none⟩) [(x1, x2)] 1 _ (row_new w [(x1, x2)] 32) (by simp)).mono fun _ _ ⟨p, he, ht, hb⟩ => ⟨p, he, one_of (x1, x2) ▸ ht, ((Below.refl _ _).alloc (Nat.le_refl _) _).trans (hb.mono (by simp))⟩

/-- .. behind the draw of a region's order. -/
theorem ofOneD (x1 x2 : Int) (w : World) : Calls Tryd.prog 24 #[.pointer none, .slice (some ⟨w.heap.size, 0, none⟩) 1 1] (w.alloc (.cells #[.int .i64 x1, .int .i64 x2] 32)).drew fun e w' => ∃ p, e = .returned (hp p) ∧ LAt w' (.one (x1, x2)) p ∧ Below w.heap.size w w' :=
  (ofN (some ⟨w.heap.size, 0, none⟩) [(x1, x2)] 1 _ ((row_new w [(x1, x2)] 32).below ((Below.refl _ _).drew)) (by simp)).mono fun _ _ ⟨p, he, ht, hb⟩ => ⟨p, he, one_of (x1, x2) ▸ ht, (((Below.refl _ _).alloc (Nat.le_refl _) _).drew).trans (hb.mono (show w.heap.size ≤ (w.alloc _).heap.size by simp))⟩

theorem ofMeter (mb : Nat) (c m : Int) (A : Option Addr) (xs : List (Int × Int)) (n cap : Nat) (w W : World) (hr : Row w A xs) (hn : n = xs.length) (hs : n < 16777216) (hb : Below w.heap.size w W) (hB : w.heap.size ≤ mb) (hm : MAt W (some mb) c m)
    (h0 : 0 ≤ c) (h1 : c < 288230376151711744) (h2 : 0 ≤ m) (h3 : m < 288230376151711744) :
    Calls Tryd.prog 24 #[mAddr (some mb), .slice A n cap] W (Gave (some mb) (c + putN .nil xs) (m + (n : Nat) + putN .nil xs) (ofL xs) W) := by
  subst hn
  refine of_meter (some mb) c m A xs cap W hm h0 h1 h2 h3 (hr.below hb) hs (fun hpos b e q eq => ?_)
  cases e
  obtain ⟨bb, o, rfl, hc⟩ := hr hpos
  cases eq
  have h5 := block_lt_of_cell (row_at hc 0 hpos).1
  show bb ≠ mb
  have h6 : bb < w.heap.size := h5
  omega

end Go.Proofs.YtpclafbolppgcaaDoor
