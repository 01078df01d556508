/-
  Contracts of rooted.Of, by a meter or none, and of Pop, Meld, Insert, Of without a meter: which heap each makes, how many comparisons and things the meter counts, that what was there stays but for the meter's block. Conditions: fewer than 2 to the 24th elements, counts below 2 to the 57th, a row that lies in another block than the meter.
  Contract of the statement's own drain: all elements of a heap, in order, as a slice of the call's own; nothing that was there has changed. Conditions: a heap in order, of no more elements than are asked for, fewer than 2 to the 24th.
  Contract of a rooted heap's Show: its text; nothing that was there has changed. Conditions: elements of 64-bit numbers, fewer than 2 to the 28th, the library's table as it is laid.
  What the walks of layer 10's statements carry on: heaps, elements, rows and variables, wherever only a meter's block turns; contracts in the one form that they use. No conditions beyond what each theorem says.
-/
import Derived.Test.YtaeainnkhjnlaaaGreatDoorRb3
import Derived.Test.YtaeainnkhjnlaaaGreatDoorMb
import Derived.Deep.LoopGhost
import Derived.Test.YtaeainnkhjnlaaaGreatDoorRg
import Derived.Test.YtaeainnkhjnlaaaGreatDoorSb9
import Derived.Test.YtaeainnkhjnlaaaGreatDoorMc
namespace Go.Proofs.YtaeainnkhjnlaaaGreatDoor.Ro
open Go.Sort Go.RowKit

theorem put_take (xs : List (Int × Int)) (k : Nat) (h : k < xs.length) : putC .nil (xs.take (k + 1)) = putC .nil (xs.take k) + (ofL (xs.take k)).insC ∧ putM .nil (xs.take (k + 1)) = putM .nil (xs.take k) + (ofL (xs.take k)).insM := by
  rw [List.take_succ_eq_append_getElem h, putC_snoc, putM_snoc]
  exact ⟨rfl, rfl⟩
theorem ofL_take (xs : List (Int × Int)) (k : Nat) (h : k < xs.length) : ofL (xs.take (k + 1)) = (ofL (xs.take k)).insert xs[k] := by
  rw [List.take_succ_eq_append_getElem h, ofL_snoc]
theorem put_small (xs : List (Int × Int)) (h : xs.length < 16777216) : putC .nil xs < 67108864 ∧ putM .nil xs < 67108864 := by
  have := put_le xs .nil
  omega
theorem cell_old {w : World} {q : Addr} {v : Value} (h : w.cell? q = some v) (o : Obj) : (w.alloc o).cell? q = some v := (((Below.refl w.heap.size w).alloc (Nat.le_refl _) o).cell (block_lt_of_cell h)).trans h

set_option maxRecDepth 100000 in
set_option maxHeartbeats 4000000 in
theorem of_any (mo : Option Nat) (c m : Int) (A : Option Addr) (xs : List (Int × Int)) (cap : Nat) (w : World) (hm : MAt w mo c m) (h0 : 0 ≤ c) (h1 : c < 72057594037927936) (h2 : 0 ≤ m) (h3 : m < 72057594037927936) (hr : Row w A xs) (hn : xs.length < 16777216)
    (hne : 0 < xs.length → ∀ b, mo = some b → ∀ q, A = some q → q.block ≠ b) :
    Calls Tryz.prog 14 #[mAddr mo, .slice A xs.length cap] w (Gave mo (c + putC .nil xs) (m + putM .nil xs) (ofL xs) w) := by
  have K1 : Trk NodeT mo w c m ((w.alloc (.cells #[.pointer none] 29)).alloc (.cells #[.pointer none] 29)) := ((Trk.refl hm).alloc _).alloc _
  have e1 : ((w.alloc (.cells #[.pointer none] 29)).alloc (.cells #[.pointer none] 29)).heap[w.heap.size]? = some (.cells #[.pointer none] 29 (0, 0)) := by
    rw [alloc_old _ (by simp only [World.size_alloc]; omega)]; exact new_at rfl
  have e2 : ((w.alloc (.cells #[.pointer none] 29)).alloc (.cells #[.pointer none] 29)).heap[w.heap.size + 1]? = some (.cells #[.pointer none] 29 (0, 0)) := new_at (by simp)
  have HR := Lib.hid (And.intro hr hne)
  have HN := Lib.hid (And.intro h0 (And.intro h1 (And.intro h2 h3)))
  have HE := Lib.hid (And.intro e1 e2)
  have KK := Lib.hid K1
  obtain ⟨n, hnn⟩ : ∃ n, n = xs.length := ⟨_, rfl⟩
  rw [← hnn] at hn ⊢
  have HX := Lib.hid hnn
  clear hr hne h0 h1 h2 h3 K1 hm e1 e2 hnn
  go_enter Tryz.func14, Tryz.ntmps14
  go_wp2_with fail
  generalize (w.alloc (.cells #[.pointer none] 29)).alloc (.cells #[.pointer none] 29) = w1 at *
  obtain ⟨a, ha⟩ : ∃ a, a = w.heap.size := ⟨_, rfl⟩
  rw [← ha] at HE ⊢
  have HA := Lib.hid ha
  clear ha
  go_loopg [10] n (fun k i wr => ∃ (j : Nat) (p : Option Addr), i = .int .i64 (j : Int) ∧ j + k = n ∧ wr.heap[a]? = some (.cells #[.pointer none] 29 (0, 0)) ∧ wr.heap[a + 1]? = some (.cells #[.pointer p] 29 (0, 0)) ∧ LAt wr (ofL (xs.take j)) p ∧ Trk NodeT mo w (c + putC .nil (xs.take j)) (m + putM .nil (xs.take j)) wr)
  case atStart => exact ⟨0, none, rfl, by omega, HE.out.1, HE.out.2, rfl, by simpa [putC, putM] using KK.out⟩
  case round =>
    obtain ⟨j, p, rfl, hj, hra, hrb, ht, hk⟩ := hrel
    by_cases hlt : j < n
    · have hjx : j < xs.length := by rw [← HX.out]; exact hlt
      obtain ⟨b, o, rfl, hc⟩ := HR.out.1 (by omega)
      have hx := row_at hc j hjx
      have hne := fun bb (eb : mo = some bb) => HR.out.2 (by omega) bb eb _ rfl
      have x0 := hk.bt.cell hx.1 hne
      have x1 := hk.bt.cell hx.2 hne
      have hp := put_small (xs.take j) (by rw [List.length_take]; omega)
      have hsz : (ofL (xs.take j)).size = j := by rw [ofL_size, List.length_take]; omega
      have eP := put_take xs j hjx
      have eO := ofL_take xs j hjx
      generalize xs[j] = x at *
      obtain ⟨y1, y2⟩ := x
      have q1 : (j : Int) < (n : Int) := by omega
      have q2 : (0 : Int) ≤ (j : Int) := by omega
      have h1c : wr.cell? ⟨a + 1, 0, none⟩ = some (.pointer p) := by simp [World.cell?, hrb]
      have h2c : (wr.alloc (.cells #[.int .i64 y1, .int .i64 y2] 32)).cell? ⟨a + 1, 0, none⟩ = some (.pointer p) := cell_old h1c _
      have X := Lib.hid (And.intro hra (And.intro hrb (And.intro ht (And.intro hk (And.intro eP (And.intro eO (And.intro hp (And.intro hsz hj))))))))
      clear hra hrb ht hk eP eO hp hsz hj hc hx hne hjx
      go_wp2_with fail
      clear h1c h2c x0 x1
      ((with_reducible refine (insert_any mo _ _ (ofL (xs.take j)) (y1, y2) p _ (by rw [X.out.2.2.2.2.2.2.2.1]; omega) (X.out.2.2.2.1.alloc _).mt (by have := HN.out; omega) (by have := HN.out; have := X.out.2.2.2.2.2.2.1; omega) (by have := HN.out; omega) (by have := HN.out; have := X.out.2.2.2.2.2.2.1; omega) (X.out.2.2.1.stay ((Below.refl _ _).alloc (Nat.le_refl _) _))).mono ?_); rintro e w2 ⟨p2, rfl, ht2, hm2, hb2⟩)
      obtain ⟨hra, hrb, ht, hk, eP, eO, hp, hsz, hj⟩ := X.out
      have hk2 := (hk.alloc (.cells #[.int .i64 y1, .int .i64 y2] 32)).turn hm2 hb2 node_ne
      have ra2 := hb2.row (hk.alloc _).mt ((alloc_old (.cells #[.int .i64 y1, .int .i64 y2] 32) (lt_of_heap hra)).trans hra) (by decide)
      have rb2 := hb2.row (hk.alloc _).mt ((alloc_old (.cells #[.int .i64 y1, .int .i64 y2] 32) (lt_of_heap hrb)).trans hrb) (by decide)
      have e1 : c + ((putC .nil (xs.take (j + 1)) : Nat) : Int) = c + (putC .nil (xs.take j) : Nat) + ((ofL (xs.take j)).insC : Nat) := by rw [eP.1]; omega
      have e2 : m + ((putM .nil (xs.take (j + 1)) : Nat) : Int) = m + (putM .nil (xs.take j) : Nat) + ((ofL (xs.take j)).insM : Nat) := by rw [eP.2]; omega
      rw [← e1, ← e2] at hk2
      rw [← eO] at ht2
      have z2 : w2.frozen? ⟨a + 1, 0, none⟩ = false := by simp [World.frozen?, rb2]
      have r2 : w2.cell? ⟨a + 1, 0, none⟩ = some (.pointer p) := by simp [World.cell?, rb2]
      have Y := Lib.hid (And.intro (show (w2.setCell ⟨a + 1, 0, none⟩ (.pointer p2)).heap[a]? = _ from (heap_other _ _ (by omega)).trans ra2) (And.intro (show (w2.setCell ⟨a + 1, 0, none⟩ (.pointer p2)).heap[a + 1]? = some (.cells #[.pointer p2] 29 (0, 0)) from heap_put (j := 0) rb2 (.pointer p2)) (And.intro (ht2.wrote rb2 heapT_ne 0 (.pointer p2)) (hk2.put rb2 heapT_ne (by decide) (by rw [← HA.out]; omega) 0 (.pointer p2)))))
      clear hra hrb ht hk eP eO hp hsz hk2 ra2 rb2 e1 e2 ht2 hm2 hb2 X
      go_wp2_with fail
      go_roundg (n - 1 - j)
      case measure => omega
      case rel => exact ⟨j + 1, p2, by congr 1, by omega, Y.out.1, Y.out.2.1, Y.out.2.2.1, Y.out.2.2.2⟩
    · have hjn : j = n := by omega
      subst hjn
      rw [HX.out, List.take_length] at ht hk
      have h1c : wr.cell? ⟨a + 1, 0, none⟩ = some (.pointer p) := by simp [World.cell?, hrb]
      have r6 : wr.cell? ⟨a, 0, none⟩ = some (.pointer none) := by simp [World.cell?, hra]
      have z6 : wr.frozen? ⟨a, 0, none⟩ = false := by simp [World.frozen?, hra]
      have hk2 := hk.put hra heapT_ne (by decide) (by rw [← HA.out]; omega) 0 (.pointer p)
      have X := Lib.hid (And.intro (ht.wrote hra heapT_ne 0 (.pointer p)) hk2)
      clear hra hrb ht hk hk2 hlt hj
      go_wp2_with fail
      exact bodyPost_ret (v := hp p) (by simp [results, Tryz.results14, go_sem, r6]) rfl ⟨_, rfl, X.out.1, X.out.2.mt, X.out.2.bt⟩

end Go.Proofs.YtaeainnkhjnlaaaGreatDoor.Ro
namespace Go.Proofs.YtaeainnkhjnlaaaGreatDoor.Ro
open Go.Sort Go.RowKit

/-- One thing more behind a slice of the call's own. -/
theorem append_one (w : World) (base : Nat) (v : Value) (xs : List (Int × Int)) (x : Int × Int) (hown : Own w base v xs) (hlen : xs.length < 1073741824) (hb : base ≤ w.heap.size) :
    ∃ v' w', (Builtin.append_ #[39, 39] 39 #[v, .slice (some ⟨w.heap.size, 0, none⟩) 1 1]).run Tryz.prog (w.alloc (.cells #[.int .i64 x.1, .int .i64 x.2] 32)) = .ok v' w' ∧ Own w' base v' (xs ++ [x]) ∧ Below base w w' ∧ Kp w w' ∧ w.heap.size ≤ w'.heap.size := by
  have hb1 := (Below.refl w.heap.size w).alloc (Nat.le_refl _) (.cells #[.int .i64 x.1, .int .i64 x.2] 32)
  obtain ⟨v', w', h1, h2, h3⟩ := append_row (w.alloc (.cells #[.int .i64 x.1, .int .i64 x.2] 32)) base v xs [x] (some ⟨w.heap.size, 0, none⟩) 1 (hown.below hb1) (row_new w [x] _) (fun e => by cases e) (by simp; omega) (by simp; omega)
  have hsz9 : w.heap.size ≤ w'.heap.size := Nat.le_trans (by simp) h3.size
  refine ⟨v', w', h1, h2, below_grown ((Below.refl _ _).alloc hb _) h3 (by simp; omega) (fun g hg => hown.block g hg), (Kpt.below hb1).trans (Kpt.grown h3 (fun g hg cs t ht => ?_)), hsz9⟩
  obtain ⟨-, -, cs', hk⟩ := (hown.below hb1).kind g hg
  rw [hk] at ht
  cases ht
  exact elemT_ne
section
variable {w0 W W' : World} {a b : Nat} {p : Option Addr} {x : Int × Int}
end

end Go.Proofs.YtaeainnkhjnlaaaGreatDoor.Ro
namespace Go.Proofs.YtaeainnkhjnlaaaGreatDoor.Ro
open Go.Sort Go.RowKit

theorem sk_show_length (o : Sk) (h : fits o.all) : o.show.length ≤ 47 * o.size + 1 := by
  obtain ⟨l⟩ := o
  cases l with
  | nil => show 1 ≤ _; omega
  | cons t r =>
    have h1 := Hp.tre_show_length t (show fits (t.all ++ bAll r) from h).append.1
    have h2 := Hp.bTail_length r (show fits (t.all ++ bAll r) from h).append.2
    show (t.show ++ bTail r).length ≤ 47 * (t.size + bSize r) + 1
    rw [List.length_append]
    omega
set_option maxRecDepth 100000 in
set_option maxHeartbeats 2000000 in
theorem show_any (t : Lh) (p : Option Addr) (w : World) (he : Env w) (h : LAt w t p) (hf : fits t.all) (hs : t.size < 268435456) : Calls Tryz.prog 18 #[hp p] w fun e w' => e = .returned (.string ⟨t.show.toArray⟩) ∧ Below w.heap.size w w' := by
  have hb1 : Below w.heap.size w (w.alloc (.cells #[.pointer p] 29)) := (Below.refl _ _).alloc (Nat.le_refl _) _
  have hv : HVar (w.alloc (.cells #[.pointer p] 29)) w.heap.size p := new_at rfl
  cases t with
  | nil =>
    obtain rfl := h
    go_enter Tryz.func18, Tryz.ntmps18
    go_wp2_with fail
    go_ret
    exact ⟨rfl, hb1⟩
  | node x o =>
    obtain ⟨x1, x2⟩ := x
    obtain ⟨b, q, rfl, hb, ho⟩ := h
    have hx : in64 x1 ∧ in64 x2 := (show fits ((x1, x2) :: o.all) from hf).cons.1
    have hfo : fits o.all := (show fits ((x1, x2) :: o.all) from hf).cons.2
    have hso : o.size < 268435456 := by simp only [Lh.size] at hs; omega
    have hlt := textOf_length x1 x2 hx.1 hx.2
    have hlo := sk_show_length o hfo
    have k := four_kp hb (Kpt.below hb1)
    have c0 := hv.c0
    have c1 := k.c0
    have c2 := k.c1
    have H := Lib.hid (And.intro hb1 (And.intro (he.below hb1) (Hp.LAt.stay ho hb1)))
    have HX := Lib.hid (And.intro hx (And.intro hfo hso))
    have HV := Lib.hid hv
    have HK := Lib.hid k
    have HS := Lib.hid (show (Lh.node (x1, x2) o).show = textOf x1 x2 ++ 32 :: o.show from rfl)
    obtain ⟨u, hu⟩ : ∃ u, u = textOf x1 x2 := ⟨_, rfl⟩
    obtain ⟨v, hv2⟩ : ∃ u, u = o.show := ⟨_, rfl⟩
    rw [← hu] at hlt
    rw [← hv2] at hlo
    have HU := Lib.hid (And.intro hu hv2)
    have n1 : ¬ 9223372036854775807 < u.length + 1 := by omega
    have n2 : ¬ 9223372036854775807 < u.length + 1 + v.length := by omega
    clear k hv hb1 hb ho he hf hs hx hfo hso hlt hlo hu hv2
    go_enter Tryz.func18, Tryz.ntmps18
    go_wp2_with fail
    obtain ⟨a, ha⟩ : ∃ a, a = w.heap.size := ⟨_, rfl⟩
    rw [← ha] at HV c0 ⊢
    generalize w.alloc (.cells #[.pointer (some ⟨b, 0, none⟩)] 29) = w1 at *
    have HA := Lib.hid ha
    clear ha c0 c1 c2
    have kc0 := fun d os => cell_regrown HV.out.c0 d os
    have kc1 := fun d os => cell_regrown HK.out.c0 d os
    have kc2 := fun d os => cell_regrown HK.out.c1 d os
    have kc3 := fun d os => cell_regrown HK.out.c2 d os
    have kc4 := fun d os => cell_regrown HK.out.c3 d os
    have HC1 := Lib.hid (fun d os => in_class (w := w1) (fun W hb => ((text_any x1 x2 HX.out.1.1 HX.out.1.2 W (H.out.2.1.below hb)).mono fun _ _ ⟨he, hb2⟩ => ⟨(show _ = Ending.returned (.string ⟨u.toArray⟩) by rw [he, HU.out.1]), hb2⟩)) d os)
    have HC2 := Lib.hid (fun d os => in_class (w := w1) (fun W hb => ((Hp.show_any o q W (H.out.2.1.below hb) (Hp.LAt.stay H.out.2.2 hb) HX.out.2.1 HX.out.2.2).mono fun _ _ ⟨he, hb2⟩ => ⟨(show _ = Ending.returned (.string ⟨v.toArray⟩) by rw [he, HU.out.2]), hb2⟩)) d os)
    rw [world_self w1]
    generalize w1.drawn = d0
    generalize (#[] : Array Obj) = os0
    refine wp_region_class (by kernel_rfl) (by kernel_rfl) ?_
    repeat (go_big_quiet_step (first | (with_reducible exact HC1.out _ _) | (with_reducible exact HC2.out _ _) | fail))
    refine wpQuiet_nil ?_
    intro _ hw'
    obtain ⟨⟨dq, osq⟩, hw''⟩ := hw'
    subst hw''
    have HB := Lib.hid (H.out.1.trans ((below_regrown w1 dq osq).mono H.out.1.size))
    clear kc0 kc1 kc2 kc3 kc4
    go_wp2_with fail
    go_ret
    refine ⟨?_, HB.out⟩
    rw [HS.out, ← HU.out.1, ← HU.out.2, show (⟨#[32]⟩ : ByteArray) = ⟨[32].toArray⟩ from rfl, append_bytes, append_bytes]
    simp

end Go.Proofs.YtaeainnkhjnlaaaGreatDoor.Ro
namespace Go.Proofs.YtaeainnkhjnlaaaGreatDoor.Ro
open Go.Sort Go.RowKit

section
variable {W W' : World} {mo : Option Nat} {c m : Int}
theorem HVar.new (W : World) (p : Option Addr) {n : Nat} (h : n = W.heap.size) : HVar (W.alloc (.cells #[.pointer p] 29)) n p := new_at h
theorem HVar.lt {b : Nat} {p : Option Addr} (h : HVar W b p) : b < W.heap.size := lt_of_heap h

/-- What stays where a heap's variable is written. -/
theorem LAt.set {t : Lh} {p : Option Addr} (h : LAt W t p) {b : Nat} {q : Option Addr} (hv : HVar W b q) (u : Value) : LAt (W.setCell ⟨b, 0, Option.none⟩ u) t p := h.wrote hv heapT_ne 0 u
theorem _root_.Go.Proofs.YtaeainnkhjnlaaaGreatDoor.Rw.set {v : Value} {xs : List (Int × Int)} (h : Rw W v xs) {b : Nat} {q : Option Addr} (hv : HVar W b q) (u : Value) : Rw (W.setCell ⟨b, 0, Option.none⟩ u) v xs := by
  rcases h with h | ⟨g, o, k, cs, hv', h1, h2, h3, h4⟩
  · exact .inl h
  · exact .inr ⟨g, o, k, cs, hv', h1, h2, (heap_other _ _ (fun e => by subst e; have hz := h3.symm.trans hv; injection hz with hz; injection hz with _ hz; exact absurd hz (by decide))).trans h3, h4⟩
theorem EVar.set {b' : Nat} {x : Int × Int} (h : EVar W b' x) {b : Nat} (hne : b' ≠ b) (off : Nat) (u : Value) : EVar (W.setCell ⟨b, off, none⟩ u) b' x := (heap_other _ _ hne).trans h
theorem _root_.Go.Proofs.YtaeainnkhjnlaaaGreatDoor.MAt.set (h : MAt W mo c m) {b : Nat} {q : Option Addr} (hv : HVar W b q) (u : Value) : MAt (W.setCell ⟨b, 0, none⟩ u) mo c m := h.other hv (by decide) 0 u
/-- What holds from here on, and what is new. -/
theorem on_inv {P Q : World → Prop} {w1 w2 : World} (h : ∀ W, Bt mo w1 W → P W) (hb : Bt mo w1 w2) (new : ∀ W, Bt mo w2 W → Q W) : ∀ W, Bt mo w2 W → Q W ∧ P W := fun W k => ⟨new W k, h W (hb.trans k)⟩

/-- What was there ahead of the call, and the library's table. -/
structure Bas (w W : World) : Prop where
  below : Below w.heap.size w W
  env : Env W
theorem Bas.bt {w : World} (h : Bas w W) (he : Env w) (hb : Bt mo W W') (hB : ∀ b, mo = some b → w.heap.size ≤ b) : Bas w W' :=
  ⟨hb.below h.below hB h.below.size, he.below (hb.below h.below hB h.below.size)⟩
theorem Bas.set {w : World} (h : Bas w W) (he : Env w) {b : Nat} (hb : w.heap.size ≤ b) (off : Nat) (u : Value) : Bas w (W.setCell ⟨b, off, none⟩ u) :=
  ⟨h.below.setCell (p := ⟨b, off, none⟩) hb u, he.below (h.below.setCell (p := ⟨b, off, none⟩) hb u)⟩
theorem Bas.first {w : World} (he : Env w) : Bas w w := ⟨Below.refl _ _, he⟩
end

/-- A row that is not empty, and what is behind its first one. -/
theorem _root_.Go.Proofs.YtaeainnkhjnlaaaGreatDoor.Rw.rest {W : World} {v : Value} {xs : List (Int × Int)} (h : Rw W v xs) (hx : xs ≠ []) : ∃ (b o c : Nat), v = .slice (some ⟨b, o, Option.none⟩) xs.length c ∧ xs.length ≤ c ∧ c ≤ 9223372036854775807 ∧
    ∀ W', Below W.heap.size W W' → Rw W' (.slice (some ⟨b, o, Option.none⟩) 0 0) [] ∧ Rw W' (.slice (some ⟨b, o + 1 * 2, Option.none⟩) (xs.length - 1) (c - 1)) xs.tail := by
  rcases h with ⟨-, rfl⟩ | ⟨b, o, c, cs, rfl, h1, h2, h3, h4⟩
  · exact absurd rfl hx
  · refine ⟨b, o, c, rfl, h1, h2, fun W' hb => ⟨.inr ⟨b, o, 0, cs, rfl, Nat.le_refl _, by omega, (hb.block b (lt_of_heap h3)).trans h3, fun j u hu => by simp [cellsE] at hu⟩, .inr ⟨b, o + 1 * 2, c - 1, cs, by rw [List.length_tail], by rw [List.length_tail]; omega, by omega, (hb.block b (lt_of_heap h3)).trans h3, fun j u hu => ?_⟩⟩⟩
    have e1 : xs.tail = xs.drop 1 := by cases xs <;> rfl
    rw [e1, cellsE_drop, List.getElem?_drop] at hu
    rw [Nat.add_assoc]
    exact h4 _ u hu
end Go.Proofs.YtaeainnkhjnlaaaGreatDoor.Ro
