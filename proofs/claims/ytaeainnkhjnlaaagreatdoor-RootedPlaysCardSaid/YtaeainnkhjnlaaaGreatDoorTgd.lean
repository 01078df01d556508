/-
  Contracts of the reference's Size, Least and Show (slagheapref07). Conditions: fewer than 2 to the 28th things; for Show 64-bit numbers; for Least at least one tree.
  Contract of the reference's Show (slagheapref07): a heap's text. Conditions: 64-bit numbers; fewer than 2 to the 28th things.
-/
import Derived.Test.YtaeainnkhjnlaaaGreatDoorTga
import Derived.Test.YtaeainnkhjnlaaaGreatDoorTe
import Derived.Deep.LoopGhost
import Derived.Deep.RegionHeld3
namespace Go.Proofs.YtaeainnkhjnlaaaGreatDoor
open Go.Sort Go.RowKit

theorem cell_one {W : World} {b : Nat} {v : Value} {t : TypeId} (h : W.heap[b]? = some (.cells #[v] t (0, 0))) : W.cell? ⟨b, 0, none⟩ = some v := by simp [World.cell?, h]
theorem KL.dropW {F : Nat → Prop} {W : World} : ∀ (l : List Tre) (kc : List Value) (j : Nat), KL F W (wood l) kc → KL F W (wood (l.drop j)) (kc.drop (j * 6))
  | l, kc, 0, h => by simpa using h
  | [], kc, j + 1, h => by
    have : kc = [] := h
    subst this
    simp only [List.drop_nil]
    exact h
  | t :: r, kc, j + 1, h => by
    obtain ⟨Ab, Ak, cb, ck, kc', cs', e, h1, h2, h3⟩ := h
    subst e
    have := KL.dropW r cs' j h3
    simpa [Nat.add_mul] using this
/-- The j-th tree of a row. -/
theorem HAt.atJ {F : Nat → Prop} {W : World} {l : List Tre} {b o n c : Nat} (h : HAt F W l (some ⟨b, o, none⟩) n c) {j : Nat} (hj : j < l.length) : ∃ (kl : Nat) (x1 x2 : Int) (Ab : Option Addr) (bl cb : Nat) (Ak : Option Addr) (ck sz : Nat),
    (W.cell? ⟨b, o + j * 6, none⟩ = some (.int .i64 kl) ∧ W.cell? ⟨b, o + j * 6 + 1, none⟩ = some (.int .i64 x1) ∧ W.cell? ⟨b, o + j * 6 + 2, none⟩ = some (.int .i64 x2) ∧ W.cell? ⟨b, o + j * 6 + 3, none⟩ = some (.slice Ab bl cb) ∧ W.cell? ⟨b, o + j * 6 + 4, none⟩ = some (.slice Ak kl ck) ∧ W.cell? ⟨b, o + j * 6 + 5, none⟩ = some (.int .i64 sz)) ∧
    TIs F W l[j] kl x1 x2 Ab bl cb Ak ck sz := by
  obtain ⟨-, -, -, -, kc, hk, hC⟩ := h
  have hd := KL.dropW l kc j hk
  rw [List.drop_eq_getElem_cons hj] at hd
  obtain ⟨b', o', Ab, Ak, cb, ck, e, h1, h2, -⟩ := kid_at (i := j) (rest := wood (l.drop (j + 1))) hC (by simpa [wood] using hd)
  cases e
  exact ⟨l[j].ks.len, l[j].x.1, l[j].x.2, Ab, l[j].bs.length, cb, Ak, ck, l[j].size, h1, ⟨rfl, rfl, rfl, rfl⟩, h2⟩
theorem HAt.some_at {F : Nat → Prop} {W : World} {l : List Tre} {A : Option Addr} {n c : Nat} (h : HAt F W l A n c) (hn : 0 < n) : ∃ b o, A = some ⟨b, o, none⟩ := by
  have hl := h.1
  match l, h, hl with
  | [], _, hl => simp at hl; omega
  | t :: r, h, _ => obtain ⟨b, o, -, -, -, -, e, -⟩ := h.first; exact ⟨b, o, e⟩
theorem bSize_take {l : List Tre} {i : Nat} (h : i < l.length) : bSize (l.take (i + 1)) = bSize (l.take i) + l[i].size := by
  have e : ∀ a b : List Tre, bSize (a ++ b) = bSize a + bSize b := fun a b => by
    induction a with
    | nil => simp [bSize]
    | cons t r ih => simp only [List.cons_append, bSize, ih]; omega
  rw [List.take_succ_eq_append_getElem h, e]
  simp [bSize]
theorem bSize_take_le (l : List Tre) (i : Nat) : bSize (l.take i) ≤ bSize l := by
  have e : ∀ a b : List Tre, bSize (a ++ b) = bSize a + bSize b := fun a b => by
    induction a with
    | nil => simp [bSize]
    | cons t r ih => simp only [List.cons_append, bSize, ih]; omega
  conv => rhs; rw [← List.take_append_drop i l]
  rw [e]; omega

set_option maxRecDepth 100000 in
set_option maxHeartbeats 1000000 in
theorem refSize7 (F : Nat → Prop) (l : List Tre) (A : Option Addr) (n c : Nat) (w : World) (hs : bSize l < 268435456) (h : HAt F w l A n c) :
    Calls Tryz.prog 40 #[.agg #[.slice A n c]] w fun e w' => e = .returned (.int .i64 (bSize l : Nat)) ∧ Below w.heap.size w w' := by
  have hb0 := (Below.refl w.heap.size w).alloc (Nat.le_refl _) (.cells #[.slice A n c] 93)
  have hv : (w.alloc (.cells #[.slice A n c] 93)).cell? ⟨w.heap.size, 0, none⟩ = some (.slice A n c) := cell_one (new_at rfl)
  have hl := bSize_len l
  have H := Lib.hid (And.intro (h.stay hb0) (And.intro hb0 (And.intro hs (And.intro h.1 hl))))
  have hn : n < 268435456 := by have := h.1; omega
  clear h hb0 hs hl
  go_enter Tryz.func40, Tryz.ntmps40
  go_wp2_with fail
  generalize w.alloc (.cells #[.slice A n c] 93) = w1 at *
  go_loopg [3, 4] n (fun k s iv wr => ∃ i q : Nat, iv = .int .i64 (i : Int) ∧ s = .int .i64 (q : Int) ∧ q = bSize (l.take i) ∧ i + k = n ∧ w1 = wr)
  case atStart => exact ⟨0, 0, rfl, rfl, rfl, by omega, rfl⟩
  case round =>
    obtain ⟨i, q, rfl, rfl, hq, hi, hw⟩ := hrel
    subst hw
    by_cases hlt : i < n
    · obtain ⟨b, o, rfl⟩ := H.out.1.some_at (by omega)
      have hil : i < l.length := by have := H.out.2.2.2.1; omega
      obtain ⟨kl, x1, x2, Ab, bl, cb, Ak, ck, sz, ⟨-, -, -, -, -, c5⟩, ht⟩ := H.out.1.atJ hil
      have hz := bSize_take hil
      have hz2 := bSize_take_le l (i + 1)
      have hsz : sz = l[i].size := ht.1.2.2.1
      have HZ := Lib.hid (show q + sz = bSize (l.take (i + 1)) ∧ q + sz < 268435456 ∧ i + gk = n from ⟨by omega, by have := H.out.2.2.1; omega, hi⟩)
      have q1 : (i : Int) < (n : Int) := by omega
      have q2 : (0 : Int) ≤ (i : Int) := by omega
      have q3 : decide ((i : Int) < (n : Int)) = true := by simp; omega
      have w1' : IntKind.i64.wrap ((i : Int) + 1) = (i : Int) + 1 := by rw [IntKind.wrap_i64]; omega
      have w2' : IntKind.i64.wrap ((q : Int) + (sz : Int)) = (q : Int) + (sz : Int) := by have := HZ.out; rw [IntKind.wrap_i64]; omega
      clear ht hz hz2 hsz hq hil hi
      go_wp2_with fail
      go_roundg (n - 1 - i)
      case measure => have := HZ.out; omega
      case rel => exact ⟨i + 1, q + sz, by first | rfl | (congr 1; unfold wrap64; omega), by rw [Int.natCast_add], HZ.out.1, by have := HZ.out; omega, rfl⟩
    · have q1 : ¬ (i : Int) < (n : Int) := by omega
      have q3 : decide ((i : Int) < (n : Int)) = false := by simp; omega
      have hql : q = bSize l := by rw [hq, show l.take i = l from List.take_of_length_le (by have := H.out.2.2.2.1; omega)]
      have HQ := Lib.hid hql
      clear hql hq hi
      go_wp2_with fail
      go_ret
      exact ⟨by rw [← HQ.out]; rfl, H.out.2.1⟩

set_option maxRecDepth 100000 in
set_option maxHeartbeats 1000000 in
theorem refLeast (F : Nat → Prop) (l : List Tre) (A : Option Addr) (n c : Nat) (w : World) (hs : bSize l < 268435456) (hn1 : 0 < n) (h : HAt F w l A n c) :
    Calls Tryz.prog 66 #[.slice A n c] w fun e w' => e = .returned (.int .i64 (leastI l : Nat)) ∧ Below w.heap.size w w' := by
  obtain ⟨b, o, rfl⟩ := h.some_at hn1
  have hl := bSize_len l
  have hnl := h.1
  have H := Lib.hid (And.intro h (And.intro hnl (And.intro (show n < 268435456 by omega) hn1)))
  have hn : n < 268435456 := by omega
  clear h hs hl hnl
  go_enter Tryz.func66, Tryz.ntmps66
  go_wp2_with fail
  go_loopg [3, 4] (n - 1) (fun k s iv wr => ∃ j q : Nat, iv = .int .i64 (j : Int) ∧ s = .int .i64 (q : Int) ∧ q = leastK l (j - 1) ∧ 1 ≤ j ∧ j + k = n ∧ Below w.heap.size w wr)
  case atStart => exact ⟨1, 0, rfl, rfl, rfl, Nat.le_refl _, by omega, Below.refl _ _⟩
  case round =>
    obtain ⟨j, q, rfl, rfl, hq, h1j, hj, hb⟩ := hrel
    by_cases hlt : j < n
    · have hql : q ≤ j - 1 := by rw [hq]; exact leastK_le l (j - 1)
      have hjl : j < l.length := by have := H.out; omega
      have hqn : q < l.length := by omega
      obtain ⟨kl, x1, x2, Ab, bl, cb, Ak, ck, sz, ⟨-, c1, c2, -, -, -⟩, ht⟩ := H.out.1.atJ hjl
      obtain ⟨ul, y1, y2, Bb, dl, db, Bk, dk, uz, ⟨-, d1, d2, -, -, -⟩, hu⟩ := H.out.1.atJ hqn
      have ej : rootAt l j = (x1, x2) := by unfold rootAt; rw [List.getElem?_eq_getElem hjl]; exact ht.1.2.2.2
      have eq' : rootAt l (leastK l (j - 1)) = (y1, y2) := by rw [← hq]; unfold rootAt; rw [List.getElem?_eq_getElem hqn]; exact hu.1.2.2.2
      have hst : leastK l j = if ltE (x1, x2) (y1, y2) = true then j else q := by
        obtain ⟨i, rfl⟩ : ∃ i, j = i + 1 := ⟨j - 1, by omega⟩
        simp only [Nat.add_sub_cancel] at eq' hq
        rw [leastK, ej, eq', ← hq]
      have q1 : (j : Int) < (n : Int) := by omega
      have q2 : (0 : Int) ≤ (j : Int) := by omega
      have q3 : decide ((j : Int) < (n : Int)) = true := by simp; omega
      have q4 : (0 : Int) ≤ (q : Int) := by omega
      have q5 : (q : Int) < (n : Int) := by omega
      have w1' : IntKind.i64.wrap ((j : Int) + 1) = (j : Int) + 1 := by rw [IntKind.wrap_i64]; omega
      have HC := Lib.hid (fun d os => in_class (w := wr) (fun W _ => refLessE (x1, x2) (y1, y2) W) d os)
      have k1 := fun d os => cell_regrown ((hb.cell (p := ⟨b, o + j * 6 + 1, none⟩) (block_lt_of_cell c1)).trans c1) d os
      have k2 := fun d os => cell_regrown ((hb.cell (p := ⟨b, o + j * 6 + 2, none⟩) (block_lt_of_cell c2)).trans c2) d os
      have k3 := fun d os => cell_regrown ((hb.cell (p := ⟨b, o + q * 6 + 1, none⟩) (block_lt_of_cell d1)).trans d1) d os
      have k4 := fun d os => cell_regrown ((hb.cell (p := ⟨b, o + q * 6 + 2, none⟩) (block_lt_of_cell d2)).trans d2) d os
      have HJ := Lib.hid (show leastK l j = (if ltE (x1, x2) (y1, y2) = true then j else q) ∧ j + gk = n from ⟨hst, hj⟩)
      have HB := Lib.hid hb
      clear c1 c2 d1 d2 ht hu ej eq' hst hq hql hjl hqn hb hj
      go_wp2_with fail
      rw [world_self wr]
      generalize wr.drawn = d0
      generalize (#[] : Array Obj) = os0
      refine wp_region_class (by kernel_rfl) (by kernel_rfl) ?_
      repeat (go_big_quiet_step (first | (with_reducible exact HC.out _ _) | fail))
      refine wpQuiet_nil ?_
      intro _ hw'
      obtain ⟨⟨dq, osq⟩, hw''⟩ := hw'
      subst hw''
      have hb2 := HB.out.trans ((below_regrown wr dq osq).mono HB.out.size)
      generalize grow (redrawn wr dq) osq = w2 at *
      have HB2 := Lib.hid hb2
      clear hb2 k1 k2 k3 k4 HC
      have hjj := HJ.out.1
      cases hv : ltE (x1, x2) (y1, y2) with
      | true =>
        rw [hv] at hjj
        have HJ2 := Lib.hid (show leastK l j = j by simpa using hjj)
        clear hjj hv
        go_wp2_with fail
        go_roundg (n - 1 - j)
        case measure => have := HJ.out; omega
        case rel => exact ⟨j + 1, j, by first | rfl | (congr 1; unfold wrap64; omega), rfl, by rw [Nat.add_sub_cancel]; exact HJ2.out.symm, by omega, by have := HJ.out; omega, HB2.out⟩
      | false =>
        rw [hv] at hjj
        have HJ2 := Lib.hid (show leastK l j = q by simpa using hjj)
        clear hjj hv
        go_wp2_with fail
        go_roundg (n - 1 - j)
        case measure => have := HJ.out; omega
        case rel => exact ⟨j + 1, q, by first | rfl | (congr 1; unfold wrap64; omega), rfl, by rw [Nat.add_sub_cancel]; exact HJ2.out.symm, by omega, by have := HJ.out; omega, HB2.out⟩
    · have q1 : ¬ (j : Int) < (n : Int) := by omega
      have q3 : decide ((j : Int) < (n : Int)) = false := by simp; omega
      have hql : leastI l = q := by rw [hq, leastI]; congr 1; have := H.out.2.1; omega
      have HQ := Lib.hid hql
      have HB := Lib.hid hb
      clear hql hq hj hb
      go_wp2_with fail
      go_ret
      exact ⟨by rw [HQ.out]; rfl, HB.out⟩

end Go.Proofs.YtaeainnkhjnlaaaGreatDoor
namespace Go.Proofs.YtaeainnkhjnlaaaGreatDoor
open Go.Sort Go.RowKit

theorem bTail_len : ∀ l : List Tre, fits (bAll l) → (bTail l).length ≤ 46 * bSize l
  | [], _ => by simp [bTail]
  | t :: r, h => by
    have h1 := t.show_length h.append.1
    have h2 := bTail_len r h.append.2
    simp only [bTail, bSize, List.length_cons, List.length_append]
    omega
theorem bTxt_len (l : List Tre) (h : fits (bAll l)) : (bTxt l).length ≤ 46 * bSize l := by
  cases l with
  | nil => simp [bTxt]
  | cons t r =>
    have h1 := t.show_length h.append.1
    have h2 := bTail_len r h.append.2
    simp only [bTxt, bSize, List.length_append]
    omega
theorem refShowT {F : Nat → Prop} {t : Tre} {kl : Nat} {x1 x2 : Int} {Ab Ak : Option Addr} {bl cb ck sz : Nat} (w : World) (hs : t.size < 268435456) (hf : fits t.all) (ht : TIs F w t kl x1 x2 Ab bl cb Ak ck sz) :
    Calls Tryz.prog 97 #[TVal kl x1 x2 Ab bl cb Ak ck sz] w fun e w' => e = .returned (.string ⟨t.show.toArray⟩) ∧ Below w.heap.size w w' := by
  obtain ⟨⟨rfl, rfl, rfl, e4⟩, h2⟩ := ht
  rw [e4] at h2
  exact refShow_some F _ t rfl hs _ w h2 hf

set_option maxRecDepth 100000 in
theorem refShow7_nil (F : Nat → Prop) (A : Option Addr) (n c : Nat) (w : World) (h : HAt F w [] A n c) :
    Calls Tryz.prog 73 #[.agg #[.slice A n c]] w fun e w' => e = .returned (.string ⟨(bShow []).toArray⟩) ∧ Below w.heap.size w w' := by
  obtain rfl : n = 0 := h.1
  clear h
  go_enter Tryz.func73, Tryz.ntmps73
  go_wp2_with fail
  go_ret
  exact ⟨rfl, (Below.refl _ _).alloc (Nat.le_refl _) _⟩

set_option maxRecDepth 100000 in
set_option maxHeartbeats 1000000 in
theorem refShow7_some (F : Nat → Prop) (l : List Tre) (A : Option Addr) (n c : Nat) (w : World) (hs : bSize l < 268435456) (hf : fits (bAll l)) (hn1 : 0 < n) (h : HAt F w l A n c) :
    Calls Tryz.prog 73 #[.agg #[.slice A n c]] w fun e w' => e = .returned (.string ⟨(bShow l).toArray⟩) ∧ Below w.heap.size w w' := by
  obtain ⟨b, o, rfl⟩ := h.some_at hn1
  have hb0 := (Below.refl w.heap.size w).alloc (Nat.le_refl _) (.cells #[.slice (some ⟨b, o, none⟩) n c] 93)
  have hv : (w.alloc (.cells #[.slice (some ⟨b, o, none⟩) n c] 93)).cell? ⟨w.heap.size, 0, none⟩ = some (.slice (some ⟨b, o, none⟩) n c) := cell_one (new_at rfl)
  have hl := bSize_len l
  have hsb : bShow l = bTxt l := by
    have := h.1
    cases l with
    | nil => simp at this; omega
    | cons t r => rfl
  have hnl := h.1
  have z1 : ((n : Int) == 0) = false := by simp; omega
  have z2 : ¬ n = 0 := by omega
  have hn : n < 268435456 := by omega
  have H := Lib.hid (And.intro (h.stay hb0) (And.intro hb0 (And.intro hs (And.intro hnl (And.intro hf (And.intro hsb hn))))))
  clear h hb0 hs hl hf hsb hnl
  go_enter Tryz.func73, Tryz.ntmps73
  go_wp2_with fail
  generalize w.alloc (.cells #[.slice (some ⟨b, o, none⟩) n c] 93) = w1 at *
  have HV := Lib.hid hv
  obtain ⟨b0, hb0⟩ : ∃ b, b = w.heap.size := ⟨_, rfl⟩
  rw [← hb0] at hv HV ⊢
  clear hb0 hv
  go_loopg [3, 4] n (fun k s iv wr => ∃ (i : Nat) (T : List UInt8), iv = .int .i64 (i : Int) ∧ s = .string ⟨T.toArray⟩ ∧ T = bTxt (l.take i) ∧ i + k = n ∧ Below w1.heap.size w1 wr)
  case atStart => exact ⟨0, [], rfl, rfl, rfl, by omega, Below.refl _ _⟩
  case round =>
    obtain ⟨i, T, rfl, rfl, hT, hi, hb⟩ := hrel
    have hv := (hb.cell (p := ⟨b0, 0, none⟩) (block_lt_of_cell HV.out)).trans HV.out
    by_cases hlt : i < n
    · have hil : i < l.length := by have := H.out.2.2.2.1; omega
      obtain ⟨kl, x1, x2, Ab, bl, cb, Ak, ck, sz, ⟨c0, c1, c2, c3, c4, c5⟩, ht⟩ := H.out.1.atJ hil
      have hz := bSize_take hil
      have hz2 := bSize_take_le l (i + 1)
      have hfit : fits l[i].all := fun e he => H.out.2.2.2.2.1 e (bAll_mem (List.getElem_mem hil) he)
      have hlen : T.length ≤ 46 * bSize (l.take i) := by
        rw [hT]
        refine bTxt_len _ (fun e he => ?_)
        obtain ⟨v, hvv, hev⟩ := mem_bAll he
        exact H.out.2.2.2.2.1 e (bAll_mem (List.mem_of_mem_take hvv) hev)
      have hsl := l[i].show_length hfit
      have hszl : l[i].size < 268435456 := by have := H.out.2.2.1; omega
      have hsn : l.take (i + 1) = l.take i ++ [l[i]] := List.take_succ_eq_append_getElem hil
      generalize l[i] = tt at *
      obtain ⟨U, hU⟩ : ∃ U, U = tt.show := ⟨_, rfl⟩
      have htu : T.length + 1 + U.length < 20000000000 := by rw [hU]; have := H.out.2.2.1; omega
      have p0 := (hb.cell (p := ⟨b, o + i * 6, none⟩) (block_lt_of_cell c0)).trans c0
      have p1 := (hb.cell (p := ⟨b, o + i * 6 + 1, none⟩) (block_lt_of_cell c1)).trans c1
      have p2 := (hb.cell (p := ⟨b, o + i * 6 + 2, none⟩) (block_lt_of_cell c2)).trans c2
      have p3 := (hb.cell (p := ⟨b, o + i * 6 + 3, none⟩) (block_lt_of_cell c3)).trans c3
      have p4 := (hb.cell (p := ⟨b, o + i * 6 + 4, none⟩) (block_lt_of_cell c4)).trans c4
      have p5 := (hb.cell (p := ⟨b, o + i * 6 + 5, none⟩) (block_lt_of_cell c5)).trans c5
      have q1 : (i : Int) < (n : Int) := by omega
      have q2 : (0 : Int) ≤ (i : Int) := by omega
      have q3 : decide ((i : Int) < (n : Int)) = true := by simp; omega
      have w1' : IntKind.i64.wrap ((i : Int) + 1) = (i : Int) + 1 := by rw [IntKind.wrap_i64]; omega
      have HT := Lib.hid (show TIs F w1 tt kl x1 x2 Ab bl cb Ak ck sz ∧ fits tt.all ∧ tt.size < 268435456 ∧ U = tt.show ∧ i + gk = n ∧ T = bTxt (l.take i) ∧ l.take (i + 1) = l.take i ++ [tt] from ⟨ht, hfit, hszl, hU, hi, hT, hsn⟩)
      have HB := Lib.hid hb
      have n1 : ¬ 9223372036854775807 < T.length + 1 := by omega
      have n2 : ¬ 9223372036854775807 < T.length + 1 + U.length := by omega
      have n3 : ¬ 9223372036854775807 < T.length + U.length := by omega
      clear ht hz hz2 hfit hlen hsl hszl hU htu c0 c1 c2 c3 c4 c5 hil hi hT hsn hb
      by_cases hi0 : i = 0
      · subst hi0
        simp only [Nat.zero_mul, Nat.add_zero] at p0 p1 p2 p3 p4 p5
        have hTn : T = [] := by rw [HT.out.2.2.2.2.2.1]; rfl
        subst hTn
        have g1 : decide ((0 : Int) < ((0 : Nat) : Int)) = false := by simp
        have n4 : ¬ 9223372036854775807 < U.length := by simp at n3; omega
        go_wp2_with fail
        ((with_reducible refine (refShowT wr HT.out.2.2.1 HT.out.2.1 (HT.out.1.stay HB.out)).mono ?_); rintro e w2 ⟨rfl, hb2⟩)
        rw [← HT.out.2.2.2.1]
        have HB2 := Lib.hid (HB.out.trans (hb2.mono HB.out.size))
        clear hb2 p0 p1 p2 p3 p4 p5
        go_wp2_with fail
        go_roundg (n - 1)
        case measure => have := HT.out; omega
        case rel => exact ⟨1, U, by first | rfl | (congr 1; unfold wrap64; omega), by rw [show (⟨#[]⟩ : ByteArray) = ⟨([] : List UInt8).toArray⟩ from rfl, append_bytes]; rfl, by rw [HT.out.2.2.2.2.2.2, HT.out.2.2.2.1]; simp [bTxt, bTail], by have := HT.out; omega, HB2.out⟩
      · have g1 : decide ((0 : Int) < (i : Int)) = true := by simp; omega
        have g2 : (0 : Int) < (i : Int) := by omega
        have g3 : 0 < i := by omega
        go_wp2_with fail
        ((with_reducible refine (refShowT wr HT.out.2.2.1 HT.out.2.1 (HT.out.1.stay HB.out)).mono ?_); rintro e w2 ⟨rfl, hb2⟩)
        rw [← HT.out.2.2.2.1]
        have HB2 := Lib.hid (HB.out.trans (hb2.mono HB.out.size))
        clear hb2 p0 p1 p2 p3 p4 p5
        go_wp2_with fail
        go_roundg (n - 1 - i)
        case measure => have := HT.out; omega
        case rel => exact ⟨i + 1, T ++ 32 :: U, by first | rfl | (congr 1; unfold wrap64; omega), by rw [append_bytes, append_bytes]; simp, by rw [HT.out.2.2.2.2.2.2, bTxt_snoc _ (by intro e; have h2 := congrArg List.length e; rw [List.length_take, List.length_nil] at h2; have := H.out.2.2.2.1; omega), ← HT.out.2.2.2.1, ← HT.out.2.2.2.2.2.1], by have := HT.out; omega, HB2.out⟩
    · have q1 : ¬ (i : Int) < (n : Int) := by omega
      have q3 : decide ((i : Int) < (n : Int)) = false := by simp; omega
      have hql : bShow l = T := by rw [hT, H.out.2.2.2.2.2.1, show l.take i = l from List.take_of_length_le (by have := H.out.2.2.2.1; omega)]
      have HQ := Lib.hid hql
      have HB := Lib.hid hb
      clear hql hT hi hb
      go_wp2_with fail
      go_ret
      exact ⟨by rw [HQ.out]; rfl, H.out.2.1.trans (HB.out.mono H.out.2.1.size)⟩

end Go.Proofs.YtaeainnkhjnlaaaGreatDoor
