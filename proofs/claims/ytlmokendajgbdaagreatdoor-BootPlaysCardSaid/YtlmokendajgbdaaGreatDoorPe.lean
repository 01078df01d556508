/-
  Contracts of the reference's digits, Number and Text: for any 64-bit number: its decimal text; nothing that was there has changed.
  Contracts of the reference's queue, Size and Show (slagheapref11), of any heap of heaps; nothing that was there has changed. Conditions: the heap is right, fewer than 2 to the 27th elements, of 64-bit numbers (Show).
  Contract of the reference's Show (slagheapref11), of any heap of heaps; nothing that was there has changed. Conditions: the heap is right, fewer than 2 to the 27th elements, of 64-bit numbers.
  The reference's contracts (slagheapref11) as BootPlays calls them: of right heaps of fewer than 2 to the 27th elements. No conditions beyond what each theorem says.
-/
import Derived.Test.YtlmokendajgbdaaGreatDoorMc
import Derived.Laws.IdiomStrings
import Derived.Laws.Rows
import Derived.Test.YtlmokendajgbdaaGreatDoorPd
import Derived.Test.YtlmokendajgbdaaGreatDoorBo2
namespace Go.Proofs.YtlmokendajgbdaaGreatDoor
open Go.Sort Go.RowKit

theorem tdiv_ten (n : Nat) : (-(n : Int)).tdiv 10 = -((n / 10 : Nat) : Int) := by
  rw [Int.neg_tdiv, Int.tdiv_eq_ediv_of_nonneg (by omega)]; omega
theorem tmod_ten (n : Nat) : (-(n : Int)).tmod 10 = -((n % 10 : Nat) : Int) := by
  rw [Int.neg_tmod, Int.tmod_eq_emod_of_nonneg (by omega)]; omega

/-- One byte that was just laid, as a text. -/
theorem byte_text (W : World) (z : Int) (c : UInt8) (hc : z = (c.toNat : Int)) (t9 : TypeId) (h9 : Tryz.prog.underlying t9 = some .string) :
    (convert 104 t9 (.slice (some ⟨W.heap.size, 0, none⟩) 1 1)).run Tryz.prog (W.alloc (.cells #[.int .u8 z] 5)) = .ok (.string ⟨[c].toArray⟩) (W.alloc (.cells #[.int .u8 z] 5)) := by
  refine run_convert_bytes_back (P := Tryz.prog) _ 104 t9 5 ⟨W.heap.size, 0, none⟩ 1 [c] Tryz.underlying104 Tryz.underlying5 h9 ?_
  intro j hj
  have hj0 : j = 0 := by simpa using hj
  subst hj0
  have e : (W.alloc (.cells #[.int .u8 z] 5)).heap[W.heap.size]? = some (.cells #[.int .u8 z] 5 (0, 0)) := heap_alloc_new W _
  show (W.alloc (.cells #[.int .u8 z] 5)).cell? ⟨W.heap.size, 0, none⟩ = _
  rw [cell_of_row _ _ 0 _ _ _ e, hc]
  rfl

theorem digits_length (u : Nat) (h : u ≤ 9223372036854775808) : (Lib.decDigits u).length ≤ 21 := by
  by_cases h0 : u = 9223372036854775808
  · have := Lib.itoa_length_le (-9223372036854775808) (by omega) (by omega)
    unfold Lib.itoa at this
    rw [if_pos (by omega)] at this
    rw [h0]
    have e : (-9223372036854775808 : Int).natAbs = 9223372036854775808 := rfl
    rw [e] at this
    simp only [List.length_cons] at this
    omega
  · have := Lib.itoa_length_le (u : Int) (by omega) (by omega)
    unfold Lib.itoa at this
    rw [if_neg (by omega), Int.toNat_natCast] at this
    exact this

set_option maxHeartbeats 1000000 in
set_option maxRecDepth 100000 in
theorem digits_any (n : Nat) : ∀ (x : Int) (w : World), x = -(n : Int) → n ≤ 9223372036854775808 →
    Calls Tryz.prog 112 #[.int .i64 x] w fun e w' => e = .returned (.string ⟨(Lib.decDigits n).toArray⟩) ∧ Below w.heap.size w w' := by
  induction n using Nat.strongRecOn with
  | ind n ih =>
    intro x w hx hn
    have hlo : -9223372036854775808 ≤ x := by omega
    have hhi : x ≤ 0 := by omega
    obtain ⟨r, hr⟩ : ∃ r : Int, r = ((n % 10 : Nat) : Int) := ⟨_, rfl⟩
    have hm : x.tmod 10 = -r := by rw [hx, hr]; exact tmod_ten n
    have hr0 : 0 ≤ r := by omega
    have hr9 : r ≤ 9 := by omega
    obtain ⟨c, hc⟩ : ∃ c : UInt8, c = UInt8.ofNat (48 + n % 10) := ⟨_, rfl⟩
    have hcv : ∀ W : World, (convert 104 9 (.slice (some ⟨W.heap.size, 0, none⟩) 1 1)).run Tryz.prog (W.alloc (.cells #[.int .u8 (48 + r)] 5)) = .ok (.string ⟨[c].toArray⟩) (W.alloc (.cells #[.int .u8 (48 + r)] 5)) := fun W =>
      byte_text W (48 + r) c (by rw [hc, digit_toNat _ (by omega)]; omega) _ Tryz.underlying9
    by_cases h : n < 10
    · have h1 : decide (x ≤ -10) = false := by simp; omega
      have hd : Lib.decDigits n = [c] := by
        rw [Lib.decDigits_one h, hc, Nat.mod_eq_of_lt h]
      have HD := Lib.hid hd
      clear ih hd hx hr hn h hc
      go_enter Tryz.func112, Tryz.ntmps112
      go_wp2_with fail
      go_ret
      refine ⟨?_, (Below.refl w.heap.size w).alloc (Nat.le_refl _) _⟩
      rw [HD.out]
      rfl
    · obtain ⟨q, hq⟩ : ∃ q : Int, q = -((n / 10 : Nat) : Int) := ⟨_, rfl⟩
      have hdv : x.tdiv 10 = q := by rw [hx, hq]; exact tdiv_ten n
      have hq0 : -9223372036854775808 ≤ q := by omega
      have hq1 : q ≤ 0 := by omega
      have h1 : decide (x ≤ -10) = true := by simp; omega
      have hd : Lib.decDigits n = Lib.decDigits (n / 10) ++ [c] := by
        rw [hc]; rw [Lib.decDigits, dif_neg h]
      have hl := digits_length (n / 10) (by omega)
      have HI := Lib.hid (fun W => ih (n / 10) (by omega) q W hq (by omega))
      have HD := Lib.hid hd
      have n1 : ¬ 9223372036854775807 < (Lib.decDigits (n / 10)).length + 1 := by omega
      clear ih hd hx hr hn h hc hq
      go_enter Tryz.func112, Tryz.ntmps112
      go_wp2_with fail
      ((with_reducible refine (HI.out _).mono ?_); rintro e w1 ⟨rfl, hb1⟩)
      have HB := Lib.hid hb1
      clear hb1
      go_wp2_with fail
      go_ret
      refine ⟨?_, HB.out.alloc HB.out.size _⟩
      rw [HD.out, ← append_bytes]
      rfl

set_option maxHeartbeats 1000000 in
set_option maxRecDepth 100000 in
theorem refNumber_any (v : Int) (h0 : -9223372036854775808 ≤ v) (h1 : v ≤ 9223372036854775807) (w : World) :
    Calls Tryz.prog 91 #[.int .i64 v] w fun e w' => e = .returned (.string ⟨(Lib.itoa v).toArray⟩) ∧ Below w.heap.size w w' := by
  by_cases h : v < 0
  · have hd : Lib.itoa v = 45 :: Lib.decDigits v.natAbs := by unfold Lib.itoa; rw [if_pos h]
    have hl := digits_length v.natAbs (by omega)
    have HI := Lib.hid (fun W => digits_any v.natAbs v W (by omega) (by omega))
    have HD := Lib.hid hd
    have n1 : ¬ 9223372036854775807 < 1 + (Lib.decDigits v.natAbs).length := by omega
    have h2 : decide (v < 0) = true := by simpa using h
    clear hd
    go_enter Tryz.func91, Tryz.ntmps91
    go_wp2_with fail
    ((with_reducible refine (HI.out _).mono ?_); rintro e w1 ⟨rfl, hb1⟩)
    go_wp2_with fail
    go_ret
    refine ⟨?_, hb1⟩
    rw [HD.out, show (45 :: Lib.decDigits v.natAbs) = [45] ++ Lib.decDigits v.natAbs from rfl, ← append_bytes]
    rfl
  · have hd : Lib.itoa v = Lib.decDigits v.toNat := by unfold Lib.itoa; rw [if_neg h]
    obtain ⟨x, hx⟩ : ∃ x : Int, x = -v := ⟨_, rfl⟩
    have HI := Lib.hid (fun W => digits_any v.toNat (-v) W (by omega) (by omega))
    have HD := Lib.hid hd
    have h2 : decide (v < 0) = false := by simpa using h
    clear hd hx
    go_enter Tryz.func91, Tryz.ntmps91
    go_wp2_with fail
    ((with_reducible refine (HI.out _).mono ?_); rintro e w1 ⟨rfl, hb1⟩)
    go_wp2_with fail
    go_ret
    refine ⟨?_, hb1⟩
    rw [HD.out]
    rfl

set_option maxHeartbeats 400000 in
theorem refText_any (p q : Int) (hp : -9223372036854775808 ≤ p ∧ p ≤ 9223372036854775807) (hq : -9223372036854775808 ≤ q ∧ q ≤ 9223372036854775807) (w : World) :
    Calls Tryz.prog 56 #[.agg #[.int .i64 p, .int .i64 q]] w fun e w' => e = .returned (.string ⟨(textOf p q).toArray⟩) ∧ Below w.heap.size w w' := by
  have lp := Lib.itoa_length_le p hp.1 hp.2
  have lq := Lib.itoa_length_le q hq.1 hq.2
  have hF : ∀ (n : Int) (h0 : -9223372036854775808 ≤ n) (h1 : n ≤ 9223372036854775807) (o : Obj) d os, Calls Tryz.prog 91 #[.int .i64 n] (grow (redrawn (w.alloc o) d) os) fun e w'' => e = .returned (.string ⟨(Lib.itoa n).toArray⟩) ∧ ∃ r : Regrown, w'' = grow (redrawn (w.alloc o) r.d) r.os :=
    fun n h0 h1 o d os => Calls.regrown_of (refNumber_any n h0 h1 _)
  have HF := Lib.hid hF
  clear hF
  obtain ⟨hp0, hp1⟩ := hp
  obtain ⟨hq0, hq1⟩ := hq
  obtain ⟨c0, c1, _, _, _, hb⟩ := pair_after (w := w) (x := .int .i64 p) (y := .int .i64 q) (t := 32) (Below.refl _ _)
  have k0 := fun d os => cell_regrown c0 d os
  have k1 := fun d os => cell_regrown c1 d os
  clear c0 c1
  have HB := Lib.hid hb
  clear hb
  have n1 : ¬ 9223372036854775807 < (Lib.itoa p).length + 1 := by omega
  have n2 : ¬ 9223372036854775807 < (Lib.itoa p).length + 1 + (Lib.itoa q).length := by omega
  go_enter Tryz.func56, Tryz.ntmps56
  go_wp2_with fail
  refine wp_region_quiet_below (by kernel_rfl) (by kernel_rfl) ?_
  repeat (go_big_quiet_step ((with_reducible exact HF.out _ (by assumption) (by assumption) _ _ _)))
  refine wpQuiet_nil ?_
  intro _ hw'
  obtain ⟨⟨dq, osq⟩, hw''⟩ := hw'
  subst hw''
  go_wp2
  go_ret
  refine ⟨?_, HB.out.trans ((below_regrown _ dq osq).mono HB.out.size)⟩
  rw [show (⟨#[58]⟩ : ByteArray) = ⟨[58].toArray⟩ from rfl, append_bytes, append_bytes]
  simp [textOf]

end Go.Proofs.YtlmokendajgbdaaGreatDoor
namespace Go.Proofs.YtlmokendajgbdaaGreatDoor.Bo.Zr
open Go.Sort Go.RowKit Go.Proofs.YtlmokendajgbdaaGreatDoor.Gn Go.Proofs.YtlmokendajgbdaaGreatDoor.Bo

theorem sizes_take {L : List Lh} {j : Nat} (hj : j < L.length) : sizes (L.take (j + 1)) = sizes (L.take j) + L[j].size := by
  unfold sizes
  rw [List.take_succ_eq_append_getElem hj, List.map_append, List.sum_append]
  simp
theorem sizes_mem : ∀ {L : List Lh} {b : Lh}, b ∈ L → b.size ≤ sizes L
  | c :: r, b, h => by
    rw [sizes_cons]
    rcases List.mem_cons.1 h with rfl | h
    · omega
    · have := sizes_mem h; omega
theorem sizes_part : ∀ (L : List Lh) (j : Nat), sizes (L.take j) ≤ sizes L
  | [], j => by simp
  | b :: r, 0 => by simp [sizes]
  | b :: r, j + 1 => by have := sizes_part r j; rw [List.take_succ_cons, sizes_cons, sizes_cons]; omega
theorem row_len {L : List Lh} (h : ∀ b ∈ L, b.some = true) : L.length ≤ sizes L := by
  have := queue_le L h
  rwa [← els_eq, flat_len] at this
/-- What a right heap's queue is like. -/
theorem ok_parts {x : Int × Int} {q : List (Gn.Tre Lh)} (hk : (Lh.node x q).ok) : (∀ b ∈ Gn.bAll q, b.ok ∧ b.some = true) ∧ Gn.bSize q ≤ sizes (Gn.bAll q) ∧ (Lh.node x q).size = sizes (Gn.bAll q) + 1 := by
  cases hk with
  | node hq hb hn => exact ⟨fun b h => ⟨hb b h, (hn b h).1⟩, by rw [← bAll_length]; exact row_len fun b h => (hn b h).1, node_size x q⟩

set_option maxRecDepth 100000 in
set_option maxHeartbeats 4000000 in
theorem refQueue (F : Nat → Prop) (t : Lh) (x1 x2 : Int) (A : Option Addr) (n c : Nat) (N : Bool) (w0 w : World) (hz : Below w0.heap.size w0 w) (hs : Gn.bSize t.queue < 134217728) (h : RAt F w0 t (x1, x2) A n c N) :
    Calls Tryz.prog 37 #[.agg #[.bool N, .int .i64 x1, .int .i64 x2, .slice A n c]] w (GaveHs F w0 (Gn.bAll t.queue) w) := by
  have hq := h.queue
  obtain ⟨q, hq0⟩ : ∃ q, q = t.queue := ⟨_, rfl⟩
  rw [← hq0] at hq hs ⊢
  have hnl : n = q.length := hq.1
  have hkle := bSize_len q
  have hv := qd_at (show (w.alloc (.cells #[.bool N, .int .i64 x1, .int .i64 x2, .slice A n c] 35)).heap[w.heap.size]? = some (.cells #[.bool N, .int .i64 x1, .int .i64 x2, .slice A n c] 35 (0, 0)) from new_at rfl)
  have hb0 := (Below.refl w.heap.size w).alloc (Nat.le_refl _) (.cells #[.bool N, .int .i64 x1, .int .i64 x2, .slice A n c] 35)
  have hbt : w.heap.size < (w.alloc (.cells #[.bool N, .int .i64 x1, .int .i64 x2, .slice A n c] 35)).heap.size := by simp
  have HV := Lib.hid hv
  have H := Lib.hid (And.intro hz (And.intro hs (And.intro hq (And.intro hnl (And.intro hkle hb0)))))
  have HBT := Lib.hid hbt
  clear h hq0 hq hz hs hnl hkle hv hb0 hbt
  go_enter Tryz.func37, Tryz.ntmps37
  go_wp2_with fail
  generalize w.alloc (.cells #[.bool N, .int .i64 x1, .int .i64 x2, .slice A n c] 35) = w1 at *
  go_loopg [3, 4] n (fun k ov iv wr => ∃ (j : Nat) (cs : List Value), iv = .int .i64 (j : Int) ∧ j + k = n ∧ OwnH wr w1.heap.size ov (Gn.bSize (q.take j)) cs ∧ RK F w0 (.hs (Gn.bAll (q.take j))) cs ∧ Below w1.heap.size w1 wr)
  case atStart => exact ⟨0, [], rfl, by omega, by simpa [Gn.bSize] using OwnH.nil _ _, by simpa [Gn.bAll] using RK.h0, Below.refl _ _⟩
  case round =>
    obtain ⟨j, cs, rfl, hj, hown, hk, hbe⟩ := hrel
    have a3 := (hbe.cell (p := ⟨w.heap.size, 3, none⟩) HBT.out).trans HV.out.c3
    have hbw1 := H.out.2.2.2.2.2.trans (hbe.mono H.out.2.2.2.2.2.size)
    have hbw := H.out.1.trans (hbw1.mono H.out.1.size)
    by_cases hlt : j < n
    · have hjl : j < q.length := by have := H.out; omega
      have hk0 := H.out.2.2.1
      obtain ⟨kb, ko, eAk⟩ := ts_some hk0 (by omega)
      subst eAk
      obtain ⟨Bx, Bb, Bk, bx, bb, bk, ⟨d0, d1, d2, d3⟩, hu⟩ := ts_at hk0 hjl
      replace d0 := stay_cell hbw d0
      replace d1 := stay_cell hbw d1
      replace d2 := stay_cell hbw d2
      replace d3 := stay_cell hbw d3
      have hta := bAll_take hjl
      have hsz : Gn.bSize (q.take (j + 1)) = Gn.bSize (q.take j) + q[j].size := by rw [← bAll_length, hta, List.length_append, bAll_length, Tre.all_length]
      have hsl := bSize_take q (j + 1)
      have hCA := refAll q[j] F Bx Bb Bk bx bb bk w0 wr hbw (by have := H.out; omega) hu
      generalize q[j] = u at *
      obtain ⟨ur, hur⟩ : ∃ k, k = u.rank := ⟨_, rfl⟩
      obtain ⟨ub, hub⟩ : ∃ k, k = u.bs.length := ⟨_, rfl⟩
      rw [← hur] at d0 d3 hCA
      rw [← hub] at d2 hCA
      have HCA := Lib.hid hCA
      have HB := Lib.hid (And.intro hbe (And.intro hown (And.intro hk (And.intro hta (And.intro hsz (And.intro hsl hj))))))
      have q1 : (j : Int) < (n : Int) := by omega
      have q2 : (0 : Int) ≤ (j : Int) := by omega
      have q3 : decide ((j : Int) < (n : Int)) = true := by simp; omega
      have wj : IntKind.i64.wrap ((j : Int) + 1) = (j : Int) + 1 := by have := H.out; rw [IntKind.wrap_i64]; omega
      have HJ := Lib.hid hlt
      clear hjl hk0 hu hta hsz hsl hCA hur hub hbw hbw1 hbe hown hk hj hlt
      go_wp2_with fail
      ((with_reducible refine (HCA.out).mono ?_); rintro e w4 ⟨A4, n4, c4, kc4, rfl, hn4, hcap4, hk4, hC4, hb4⟩)
      have hbz := HB.out.1.trans (hb4.mono HB.out.1.size)
      have hkl4 : kc4.length = n4 * 4 := by rw [hk4.length, hn4]; rfl
      have hn4' : n4 = u.size := by rw [hn4]; exact Tre.all_length u
      obtain ⟨v5, w5, hr5, ho5, hb5⟩ := append_H (fun _ => True) w4 w1.heap.size _ _ cs (HB.out.2.1.stay hb4) A4 n4 c4 kc4 hkl4 hk4.one hC4 hcap4.none hbz.size (by have := HB.out; have := H.out; omega)
      have hkk4 : RK F w0 (.hs (Gn.bAll (q.take (j + 1)))) (cs ++ kc4) := by
        rw [HB.out.2.2.2.1]
        exact RK.append_h _ _ _ _ HB.out.2.2.1 hk4
      have Y := Lib.hid (show OwnH w5 w1.heap.size v5 (Gn.bSize (q.take (j + 1))) (cs ++ kc4) ∧ RK F w0 (.hs (Gn.bAll (q.take (j + 1)))) (cs ++ kc4) ∧ Below w1.heap.size w1 w5 from ⟨by rw [HB.out.2.2.2.2.1, ← hn4']; exact ho5, hkk4, hbz.trans hb5⟩)
      clear hk4 hC4 hb4 hbz hkl4 hn4 hn4' ho5 hb5 hkk4 hcap4 d0 d1 d2 d3
      go_wp2_with (at_builtin; refine wpList_append_run rfl _ _ _ rfl _ _ _ _ rfl rfl hr5 ?_)
      go_roundg (n - 1 - j)
      case measure => have := HB.out; have := HJ.out; omega
      case rel => exact ⟨j + 1, cs ++ kc4, by first | rfl | (congr 1; (first | omega | (unfold wrap64; omega))), by have := HB.out; have := HJ.out; omega, Y.out.1, Y.out.2.1, Y.out.2.2⟩
    · have hjn : j = q.length := by have := H.out; omega
      have q1 : ¬ (j : Int) < (n : Int) := by omega
      have q3 : decide ((j : Int) < (n : Int)) = false := by simp; omega
      have htk : q.take j = q := List.take_of_length_le (by omega)
      rw [htk] at hown hk
      obtain ⟨A6, n6, c6, ev, hn6, hcap6, hC6⟩ := hown.hat
      subst ev
      have HF := Lib.hid (And.intro (hn6.trans (bAll_length q).symm) (And.intro hcap6 (And.intro hk (And.intro hC6.any hbw1))))
      clear hj hown hk hbe hbw hbw1 hlt hjn htk hn6 hcap6 hC6
      go_wp2_with fail
      refine bodyPost_ret (v := .slice A6 n6 c6) (by simp [results, Tryz.results37, go_sem]) rfl ?_
      exact ⟨A6, n6, c6, cs, rfl, HF.out⟩

/-- What Size does with a heap. -/
def SizeR (t : Lh) : Prop := ∀ (F : Nat → Prop) (x1 x2 : Int) (A : Option Addr) (n c : Nat) (N : Bool) (w0 w : World), Below w0.heap.size w0 w → t.ok → t.size < 134217728 → RAt F w0 t (x1, x2) A n c N →
  Calls Tryz.prog 16 #[.agg #[.bool N, .int .i64 x1, .int .i64 x2, .slice A n c]] w fun e w' => e = .returned (.int .i64 (t.size : Nat)) ∧ Below w.heap.size w w'
set_option maxRecDepth 100000 in
theorem refSize_nil : SizeR .nil := by
  intro F x1 x2 A n c N w0 w hz _ _ h
  obtain ⟨e, rfl, rfl, rfl, rfl⟩ := h
  cases e
  clear hz
  go_enter Tryz.func16, Tryz.ntmps16
  go_wp2_with fail
  go_ret
  exact ⟨rfl, (Below.refl _ _).alloc (Nat.le_refl _) _⟩
set_option maxRecDepth 100000 in
set_option maxHeartbeats 4000000 in
theorem refSize_node (y : Int × Int) (q : List (Gn.Tre Lh)) (hI : ∀ b ∈ Gn.bAll q, SizeR b) : SizeR (.node y q) := by
  intro F x1 x2 A n c N w0 w hz hk hs h
  have hp := ok_parts hk
  have h0 := h
  obtain ⟨rfl, rfl, -⟩ := h
  have hb0 := (Below.refl w.heap.size w).alloc (Nat.le_refl _) (.cells #[.bool true, .int .i64 x1, .int .i64 x2, .slice A n c] 35)
  have HQ := Lib.hid (refQueue F (.node (x1, x2) q) x1 x2 A n c true w0 (w.alloc (.cells #[.bool true, .int .i64 x1, .int .i64 x2, .slice A n c] 35)) (hz.trans (hb0.mono hz.size)) (show Gn.bSize q < 134217728 by omega) h0)
  obtain ⟨L, hL⟩ : ∃ L, L = Gn.bAll q := ⟨_, rfl⟩
  have HQ2 := Lib.hid (show Calls _ _ _ _ (GaveHs F w0 L _) from by rw [hL]; exact HQ.out)
  rw [← hL] at hp hI
  have H := Lib.hid (And.intro hz (And.intro hs (And.intro hp (And.intro hI hb0))))
  clear HQ hz hk hs h0 hp hI hb0 hL
  go_enter Tryz.func16, Tryz.ntmps16
  go_wp2_with fail
  generalize w.alloc (.cells #[.bool true, .int .i64 x1, .int .i64 x2, .slice A n c] 35) = w1 at *
  ((with_reducible refine (HQ2.out).mono ?_); rintro e w2 ⟨A2, n2, c2, cs, rfl, hn2, hcap2, hk2, hC2, hb2⟩)
  have hnl : n2 < 134217728 := by have h1 := row_len fun b h => (H.out.2.2.1.1 b h).2; have h2 := H.out.2.2.1.2.2; have h3 := H.out.2.1; omega
  have HR := Lib.hid (And.intro hn2 (And.intro hk2 (And.intro hC2 (And.intro hb2 hnl))))
  clear hn2 hcap2 hk2 hC2 hb2 hnl
  go_wp2_with fail
  go_loopg [3, 5] n2 (fun k sv iv wr => ∃ (j : Nat), iv = .int .i64 (j : Int) ∧ sv = .int .i64 ((1 + sizes (L.take j) : Nat) : Int) ∧ j + k = n2 ∧ Below w2.heap.size w2 wr)
  case atStart => exact ⟨0, rfl, by simp [sizes], by omega, Below.refl _ _⟩
  case round =>
    obtain ⟨j, rfl, rfl, hj, hbe⟩ := hrel
    have hbw1 := H.out.2.2.2.2.trans ((HR.out.2.2.2.1.trans (hbe.mono HR.out.2.2.2.1.size)).mono H.out.2.2.2.2.size)
    by_cases hlt : j < n2
    · have hjl : j < L.length := by have := HR.out.1; omega
      obtain ⟨kb, ko, eA, -, -⟩ := HR.out.2.2.1 (by rw [HR.out.2.1.length]; simp only [Rows.len]; omega)
      subst eA
      obtain ⟨z1, z2, B, m, d, M, ⟨d0, d1, d2, d3⟩, hu⟩ := hs_at2 HR.out.2.1 HR.out.2.2.1 hjl
      replace d0 := stay_cell hbe d0
      replace d1 := stay_cell hbe d1
      replace d2 := stay_cell hbe d2
      replace d3 := stay_cell hbe d3
      have hst := sizes_take hjl
      have hsp := sizes_part L (j + 1)
      have hmem : L[j] ∈ L := List.getElem_mem hjl
      have hCA := H.out.2.2.2.1 _ hmem F z1 z2 B m d M w0 wr (H.out.1.trans (hbw1.mono H.out.1.size)) (H.out.2.2.1.1 _ hmem).1 (by have h1 := H.out.2.2.1.2.2; have h2 := H.out.2.1; omega) hu
      generalize L[j] = u at *
      have HCA := Lib.hid hCA
      obtain ⟨S, hS⟩ : ∃ S, S = 1 + sizes (L.take j) := ⟨_, rfl⟩
      obtain ⟨us, hus⟩ : ∃ S, S = u.size := ⟨_, rfl⟩
      have HB := Lib.hid (show Below w2.heap.size w2 wr ∧ S = 1 + sizes (L.take j) ∧ us = u.size ∧ sizes (L.take (j + 1)) = sizes (L.take j) + u.size ∧ S + us < 268435456 ∧ j + gk = n2 ∧ j < n2 from ⟨hbe, hS, hus, hst, by have h1 := H.out.2.2.1.2.2; have h2 := H.out.2.1; omega, hj, hlt⟩)
      have q1 : (j : Int) < (n2 : Int) := by omega
      have q2 : (0 : Int) ≤ (j : Int) := by omega
      have q3 : decide ((j : Int) < (n2 : Int)) = true := by simp; omega
      have wj : IntKind.i64.wrap ((j : Int) + 1) = (j : Int) + 1 := by have := HR.out; rw [IntKind.wrap_i64]; omega
      have wS : IntKind.i64.wrap ((S : Int) + (us : Int)) = (S : Int) + (us : Int) := by have := HB.out; rw [IntKind.wrap_i64]; omega
      rw [← hS]
      clear hjl hu hst hsp hmem hCA hbw1 hbe hj hlt hS hus
      go_wp2_with fail
      ((with_reducible refine (HCA.out).mono ?_); rintro e w4 ⟨rfl, hb4⟩)
      rw [← HB.out.2.2.1]
      have Y := Lib.hid (HB.out.1.trans (hb4.mono HB.out.1.size))
      clear hb4 d0 d1 d2 d3
      go_wp2_with fail
      go_roundg (n2 - 1 - j)
      case measure => have := HB.out; omega
      case rel => exact ⟨j + 1, by first | rfl | (congr 1; (first | omega | (unfold wrap64; omega))), by have := HB.out; first | (congr 1; (first | omega | (unfold wrap64; omega))), by have := HB.out; omega, Y.out⟩
    · have hjn : j = n2 := by omega
      have q1 : ¬ (j : Int) < (n2 : Int) := by omega
      have q3 : decide ((j : Int) < (n2 : Int)) = false := by simp; omega
      have htk : L.take j = L := List.take_of_length_le (by have := HR.out.1; omega)
      have hfin : 1 + sizes (L.take j) = (Lh.node (x1, x2) q).size := by rw [htk, H.out.2.2.1.2.2]; omega
      rw [hfin]
      have HF := Lib.hid hbw1
      clear hj hbe hbw1 hlt hjn htk hfin
      go_wp2_with fail
      go_ret
      exact ⟨rfl, HF.out⟩
theorem refSize_le : ∀ (m : Nat) (t : Lh), t.ok → t.size ≤ m → SizeR t
  | _, .nil, _, _ => refSize_nil
  | 0, .node y q, hk, h => absurd h (by have := (ok_parts hk).2.2; omega)
  | m + 1, .node y q, hk, h => refSize_node y q (fun b hb => refSize_le m b ((ok_parts hk).1 b hb).1 (by have := (ok_parts hk).2.2; have := sizes_mem hb; omega))
theorem refSize (F : Nat → Prop) (t : Lh) (x1 x2 : Int) (A : Option Addr) (n c : Nat) (N : Bool) (w : World) (hk : t.ok) (hs : t.size < 134217728) (h : RAt F w t (x1, x2) A n c N) :
    Calls Tryz.prog 16 #[.agg #[.bool N, .int .i64 x1, .int .i64 x2, .slice A n c]] w fun e w' => e = .returned (.int .i64 (t.size : Nat)) ∧ Below w.heap.size w w' :=
  refSize_le t.size t hk (Nat.le_refl _) F x1 x2 A n c N w w (Below.refl _ _) hk hs h

end Go.Proofs.YtlmokendajgbdaaGreatDoor.Bo.Zr
namespace Go.Proofs.YtlmokendajgbdaaGreatDoor.Bo.Zr
open Go.Sort Go.RowKit Go.Proofs.YtlmokendajgbdaaGreatDoor.Gn Go.Proofs.YtlmokendajgbdaaGreatDoor.Bo

theorem refTextZ (x1 x2 : Int) (h : in64 x1 ∧ in64 x2) (w : World) : Calls Tryz.prog 56 #[.agg #[.int .i64 x1, .int .i64 x2]] w fun e w' => e = .returned (.string ⟨(textOf x1 x2).toArray⟩) ∧ Below w.heap.size w w' := refText_any x1 x2 h.1 h.2 w
/-- What the heaps of a row add to the text. -/
def rowTxt (L : List Lh) : List UInt8 := L.flatMap fun b => 32 :: b.show
theorem rowTxt_take {L : List Lh} {j : Nat} (hj : j < L.length) : rowTxt (L.take (j + 1)) = rowTxt (L.take j) ++ 32 :: L[j].show := by
  unfold rowTxt
  rw [List.take_succ_eq_append_getElem hj, List.flatMap_append]
  simp
theorem rowTxt_len : ∀ (L : List Lh), (∀ b ∈ L, b.show.length + 1 ≤ 50 * b.size) → (rowTxt L).length ≤ 50 * sizes L
  | [], _ => by simp [rowTxt]
  | b :: r, h => by
    have h1 := rowTxt_len r fun c hc => h c (List.mem_cons_of_mem _ hc)
    have h2 := h b (List.mem_cons_self ..)
    rw [sizes_cons]
    have e : rowTxt (b :: r) = 32 :: b.show ++ rowTxt r := rfl
    rw [e]
    simp only [List.cons_append, List.length_cons, List.length_append]
    omega
theorem show_len_le : ∀ (m : Nat) (t : Lh), t.ok → fits t.all → t.some = true → t.size ≤ m → t.show.length + 1 ≤ 50 * t.size
  | _, .nil, _, _, h, _ => by cases h
  | 0, .node y q, hk, _, _, h => absurd h (by have := (ok_parts hk).2.2; omega)
  | m + 1, .node y q, hk, hf, _, h => by
    have hp := ok_parts hk
    have hf' := hf
    rw [all_node] at hf'
    have hc := hf'.cons
    have hr := rowTxt_len (Gn.bAll q) fun b hb => show_len_le m b (hp.1 b hb).1 (fun e he => hc.2 e (List.mem_flatMap.2 ⟨b, hb, he⟩)) (hp.1 b hb).2 (by have := sizes_mem hb; omega)
    have ht := textOf_length y.1 y.2 hc.1.1 hc.1.2
    rw [show_node, hp.2.2]
    have e : ((Gn.bAll q).flatMap fun b => 32 :: b.show) = rowTxt (Gn.bAll q) := rfl
    rw [e]
    simp only [List.length_append, List.length_cons, List.length_nil]
    omega

/-- What Show does with a heap. -/
def ShowR (t : Lh) : Prop := ∀ (F : Nat → Prop) (x1 x2 : Int) (A : Option Addr) (n c : Nat) (N : Bool) (w0 w : World), Below w0.heap.size w0 w → t.ok → fits t.all → t.size < 134217728 → RAt F w0 t (x1, x2) A n c N →
  Calls Tryz.prog 28 #[.agg #[.bool N, .int .i64 x1, .int .i64 x2, .slice A n c]] w fun e w' => e = .returned (.string ⟨t.show.toArray⟩) ∧ Below w.heap.size w w'
set_option maxRecDepth 100000 in
theorem refShow_nil : ShowR .nil := by
  intro F x1 x2 A n c N w0 w hz _ _ _ h
  obtain ⟨e, rfl, rfl, rfl, rfl⟩ := h
  cases e
  clear hz
  go_enter Tryz.func28, Tryz.ntmps28
  go_wp2_with fail
  go_ret
  exact ⟨rfl, (Below.refl _ _).alloc (Nat.le_refl _) _⟩
set_option maxRecDepth 100000 in
set_option maxHeartbeats 4000000 in
theorem refShow_node (y : Int × Int) (q : List (Gn.Tre Lh)) (hI : ∀ b ∈ Gn.bAll q, ShowR b) : ShowR (.node y q) := by
  intro F x1 x2 A n c N w0 w hz hk hf hs h
  have hp := ok_parts hk
  have h0 := h
  obtain ⟨rfl, rfl, -⟩ := h
  rw [all_node] at hf
  have hfx := hf.cons
  have hb0 := (Below.refl w.heap.size w).alloc (Nat.le_refl _) (.cells #[.bool true, .int .i64 x1, .int .i64 x2, .slice A n c] 35)
  have hv := qd_at (show (w.alloc (.cells #[.bool true, .int .i64 x1, .int .i64 x2, .slice A n c] 35)).heap[w.heap.size]? = some (.cells #[.bool true, .int .i64 x1, .int .i64 x2, .slice A n c] 35 (0, 0)) from new_at rfl)
  have hbt : w.heap.size < (w.alloc (.cells #[.bool true, .int .i64 x1, .int .i64 x2, .slice A n c] 35)).heap.size := by simp
  have ht := textOf_length x1 x2 hfx.1.1 hfx.1.2
  obtain ⟨L, hL⟩ : ∃ L, L = Gn.bAll q := ⟨_, rfl⟩
  have HQ2 := Lib.hid (fun (W : World) (hb : Below w.heap.size w W) => show Calls _ _ _ _ (GaveHs F w0 L _) from by rw [hL]; exact refQueue F (.node (x1, x2) q) x1 x2 A n c true w0 W (hz.trans (hb.mono hz.size)) (show Gn.bSize q < 134217728 by omega) h0)
  have hsh : (Lh.node (x1, x2) q).show = 91 :: (textOf x1 x2 ++ rowTxt L) ++ [93] := by rw [show_node, hL]; rfl
  rw [← hL] at hp hI hfx
  have hfb : ∀ b ∈ L, fits b.all := fun b hb e he => hfx.2 e (List.mem_flatMap.2 ⟨b, hb, he⟩)
  have hlen : ∀ b ∈ L, b.show.length + 1 ≤ 50 * b.size := fun b hb => show_len_le b.size b (hp.1 b hb).1 (hfb b hb) (hp.1 b hb).2 (Nat.le_refl _)
  obtain ⟨T0, hT0⟩ : ∃ T, T = textOf x1 x2 := ⟨_, rfl⟩
  rw [← hT0] at ht hsh
  have n1 : ¬ 9223372036854775807 < 1 + T0.length := by omega
  have H := Lib.hid (And.intro hz (And.intro hs (And.intro hp (And.intro hI (And.intro hb0 (And.intro hfb (And.intro hlen (And.intro hT0 (And.intro hfx.1 (And.intro hsh ht))))))))))
  have HV := Lib.hid (And.intro hv hbt)
  clear hz hk hs h0 hp hI hb0 hL hv hbt hfb hlen hT0 hfx hf ht hsh
  go_enter Tryz.func28, Tryz.ntmps28
  go_wp2_with fail
  generalize w.alloc (.cells #[.bool true, .int .i64 x1, .int .i64 x2, .slice A n c] 35) = w1 at *
  ((with_reducible refine (refTextZ x1 x2 H.out.2.2.2.2.2.2.2.2.1 _).mono ?_); rintro e w2 ⟨rfl, hb2⟩)
  rw [← H.out.2.2.2.2.2.2.2.1]
  have HB2 := Lib.hid (And.intro hb2 (H.out.2.2.2.2.1.trans (hb2.mono H.out.2.2.2.2.1.size)))
  have a0 := (hb2.cell (p := ⟨w.heap.size, 0, none⟩) HV.out.2).trans HV.out.1.c0
  have a1 := (hb2.cell (p := ⟨w.heap.size, 1, none⟩) HV.out.2).trans HV.out.1.c1
  have a2 := (hb2.cell (p := ⟨w.heap.size, 2, none⟩) HV.out.2).trans HV.out.1.c2
  have a3 := (hb2.cell (p := ⟨w.heap.size, 3, none⟩) HV.out.2).trans HV.out.1.c3
  clear hb2
  go_wp2_with fail
  ((with_reducible refine (HQ2.out _ HB2.out.2).mono ?_); rintro e w3 ⟨A2, n2, c2, cs, rfl, hn2, hcap2, hk2, hC2, hb3⟩)
  have hnl : n2 < 134217728 := by have h1 := row_len fun b h => (H.out.2.2.1.1 b h).2; have h2 := H.out.2.2.1.2.2; have h3 := H.out.2.1; omega
  have HR := Lib.hid (And.intro hn2 (And.intro hk2 (And.intro hC2 (And.intro (HB2.out.2.trans (hb3.mono HB2.out.2.size)) hnl))))
  clear hn2 hcap2 hk2 hC2 hb3 hnl a0 a1 a2 a3
  go_wp2_with fail
  go_loopg [3, 5] n2 (fun k sv iv wr => ∃ (j : Nat), iv = .int .i64 (j : Int) ∧ sv = .string ⟨(91 :: (T0 ++ rowTxt (L.take j))).toArray⟩ ∧ j + k = n2 ∧ Below w3.heap.size w3 wr)
  case atStart => exact ⟨0, rfl, by rw [show (⟨#[91]⟩ : ByteArray) = ⟨([91] : List UInt8).toArray⟩ from rfl, append_bytes]; simp [rowTxt], by omega, Below.refl _ _⟩
  case round =>
    obtain ⟨j, rfl, rfl, hj, hbe⟩ := hrel
    have hbw1 := HR.out.2.2.2.1.trans (hbe.mono HR.out.2.2.2.1.size)
    have htl : (rowTxt (L.take j)).length ≤ 50 * sizes L := Nat.le_trans (rowTxt_len (L.take j) fun b hb => H.out.2.2.2.2.2.2.1 b (List.mem_of_mem_take hb)) (Nat.mul_le_mul_left _ (sizes_part L j))
    have hsz : sizes L < 134217728 := by have h1 := H.out.2.2.1.2.2; have h2 := H.out.2.1; omega
    by_cases hlt : j < n2
    · have hjl : j < L.length := by have := HR.out.1; omega
      obtain ⟨kb, ko, eA, -, -⟩ := HR.out.2.2.1 (by rw [HR.out.2.1.length]; simp only [Rows.len]; omega)
      subst eA
      obtain ⟨z1, z2, B, m, d, M, ⟨d0, d1, d2, d3⟩, hu⟩ := hs_at2 HR.out.2.1 HR.out.2.2.1 hjl
      replace d0 := stay_cell hbe d0
      replace d1 := stay_cell hbe d1
      replace d2 := stay_cell hbe d2
      replace d3 := stay_cell hbe d3
      have hst := rowTxt_take hjl
      have hmem : L[j] ∈ L := List.getElem_mem hjl
      have hul := H.out.2.2.2.2.2.2.1 _ hmem
      have hus := sizes_mem hmem
      have hCA := H.out.2.2.2.1 _ hmem F z1 z2 B m d M w0 wr (H.out.1.trans (hbw1.mono H.out.1.size)) (H.out.2.2.1.1 _ hmem).1 (H.out.2.2.2.2.2.1 _ hmem) (by omega) hu
      generalize L[j] = u at *
      have HCA := Lib.hid hCA
      obtain ⟨U, hU⟩ : ∃ U, U = u.show := ⟨_, rfl⟩
      obtain ⟨T, hT⟩ : ∃ T, T = 91 :: (T0 ++ rowTxt (L.take j)) := ⟨_, rfl⟩
      rw [← hU] at hul hst
      have hTl : T.length ≤ 100 + 50 * sizes L := by rw [hT]; simp only [List.length_cons, List.length_append]; have := H.out.2.2.2.2.2.2.2.2.2.2; omega
      have HB := Lib.hid (show Below w3.heap.size w3 wr ∧ U = u.show ∧ 91 :: (T0 ++ rowTxt (L.take (j + 1))) = T ++ (32 :: U) ∧ j + gk = n2 ∧ j < n2 from ⟨hbe, hU, by rw [hT, hst]; simp, hj, hlt⟩)
      have q1 : (j : Int) < (n2 : Int) := by omega
      have q2 : (0 : Int) ≤ (j : Int) := by omega
      have q3 : decide ((j : Int) < (n2 : Int)) = true := by simp; omega
      have wj : IntKind.i64.wrap ((j : Int) + 1) = (j : Int) + 1 := by have := HR.out; rw [IntKind.wrap_i64]; omega
      have m2 : ¬ 9223372036854775807 < 1 + U.length := by omega
      have m3 : ¬ 9223372036854775807 < T.length + (1 + U.length) := by omega
      rw [← hT]
      clear hjl hu hst hmem hCA hbw1 hbe hj hlt hU hT hTl htl hsz hul hus
      go_wp2_with fail
      ((with_reducible refine (HCA.out).mono ?_); rintro e w4 ⟨rfl, hb4⟩)
      rw [← HB.out.2.1]
      have Y := Lib.hid (HB.out.1.trans (hb4.mono HB.out.1.size))
      clear hb4 d0 d1 d2 d3
      go_wp2_with fail
      go_roundg (n2 - 1 - j)
      case measure => have := HB.out; omega
      case rel => exact ⟨j + 1, by first | rfl | (congr 1; (first | omega | (unfold wrap64; omega))), by rw [HB.out.2.2.1, show (⟨#[32]⟩ : ByteArray) = ⟨([32] : List UInt8).toArray⟩ from rfl, append_bytes, append_bytes]; simp, by have := HB.out; omega, Y.out⟩
    · have hjn : j = n2 := by omega
      have q1 : ¬ (j : Int) < (n2 : Int) := by omega
      have q3 : decide ((j : Int) < (n2 : Int)) = false := by simp; omega
      have htk : L.take j = L := List.take_of_length_le (by have := HR.out.1; omega)
      obtain ⟨T, hT⟩ : ∃ T, T = 91 :: (T0 ++ rowTxt (L.take j)) := ⟨_, rfl⟩
      have hTl : T.length ≤ 100 + 50 * sizes L := by rw [hT]; simp only [List.length_cons, List.length_append]; have := H.out.2.2.2.2.2.2.2.2.2.2; omega
      have m2 : ¬ 9223372036854775807 < T.length + 1 := by omega
      have hfin : (Lh.node (x1, x2) q).show = T ++ [93] := by rw [hT, htk]; exact H.out.2.2.2.2.2.2.2.2.2.1
      rw [← hT]
      have HF := Lib.hid (And.intro hbw1 hfin)
      clear hj hbe hbw1 hlt hjn htk hfin hT hTl htl hsz
      go_wp2_with fail
      go_ret
      refine ⟨?_, HF.out.1⟩
      rw [HF.out.2]
      rfl
theorem refShow_le : ∀ (m : Nat) (t : Lh), t.ok → t.size ≤ m → ShowR t
  | _, .nil, _, _ => refShow_nil
  | 0, .node y q, hk, h => absurd h (by have := (ok_parts hk).2.2; omega)
  | m + 1, .node y q, hk, h => refShow_node y q (fun b hb => refShow_le m b ((ok_parts hk).1 b hb).1 (by have := (ok_parts hk).2.2; have := sizes_mem hb; omega))
theorem refShow (F : Nat → Prop) (t : Lh) (x1 x2 : Int) (A : Option Addr) (n c : Nat) (N : Bool) (w : World) (hk : t.good) (hs : t.size < 134217728) (h : RAt F w t (x1, x2) A n c N) :
    Calls Tryz.prog 28 #[.agg #[.bool N, .int .i64 x1, .int .i64 x2, .slice A n c]] w fun e w' => e = .returned (.string ⟨t.show.toArray⟩) ∧ Below w.heap.size w w' :=
  refShow_le t.size t hk.ok (Nat.le_refl _) F x1 x2 A n c N w w (Below.refl _ _) hk.ok hk.fit hs h

end Go.Proofs.YtlmokendajgbdaaGreatDoor.Bo.Zr
namespace Go.Proofs.YtlmokendajgbdaaGreatDoor.Bo.Zr
open Go.Sort Go.RowKit Go.Proofs.YtlmokendajgbdaaGreatDoor.Gn Go.Proofs.YtlmokendajgbdaaGreatDoor.Bo

theorem queue_small {t : Lh} (hk : t.ok) : Gn.bSize t.queue ≤ t.size := by
  cases t with
  | nil => exact Nat.zero_le _
  | node x q => have h := ok_parts hk; show Gn.bSize q ≤ _; omega
theorem least_small {t : Lh} (hk : t.ok) : Gn.bSize (least t.queue).queue ≤ t.size := by
  cases t with
  | nil => exact Nat.zero_le _
  | node x q =>
    have h := ok_parts hk
    show Gn.bSize (least q).queue ≤ _
    by_cases hq : q = []
    · subst hq; exact Nat.zero_le _
    · have hm : least q ∈ Gn.bAll q := (Gn.spop_all hq).symm.subset (List.mem_cons_self ..)
      have h1 := queue_small (h.1 _ hm).1
      have h2 := sizes_mem hm
      omega
theorem refSize_any (F : Nat → Prop) (t : Lh) (x1 x2 : Int) (A : Option Addr) (n c : Nat) (N : Bool) (s : Nat) (w : World) (h : RAt F w t (x1, x2) A n c N) (hs : s = t.size) (hsm : s < 134217728) (hk : t.ok) : Calls Tryz.prog 16 #[.agg #[.bool N, .int .i64 x1, .int .i64 x2, .slice A n c]] w fun e w' => e = .returned (.int .i64 (s : Int)) ∧ Below w.heap.size w w' := by
  subst hs
  exact refSize F t x1 x2 A n c N w hk hsm h
theorem refShow_any (F : Nat → Prop) (t : Lh) (x1 x2 : Int) (A : Option Addr) (n c : Nat) (N : Bool) (w : World) (h : RAt F w t (x1, x2) A n c N) (hs : t.size < 134217728) (hk : t.good) : Calls Tryz.prog 28 #[.agg #[.bool N, .int .i64 x1, .int .i64 x2, .slice A n c]] w fun e w' => e = .returned (.string ⟨t.show.toArray⟩) ∧ Below w.heap.size w w' :=
  refShow F t x1 x2 A n c N w hk hs h
theorem refInsert_any (F : Nat → Prop) (t : Lh) (y1 y2 x1 x2 : Int) (A : Option Addr) (n c : Nat) (N : Bool) (w : World) (hF : ∀ k, w.heap.size ≤ k → F k) (hs : t.size < 134217728) (hk : t.ok) (h : RAt F w t (x1, x2) A n c N) :
    Calls Tryz.prog 18 #[.agg #[.int .i64 y1, .int .i64 y2], .agg #[.bool N, .int .i64 x1, .int .i64 x2, .slice A n c]] w (GaveP F (t.insert (y1, y2)) (t.insC (y1, y2) + t.insM (y1, y2)) w) :=
  refInsert F t y1 y2 x1 x2 A n c N w hF h (by have := queue_small hk; omega)
theorem refMeld_any (F : Nat → Prop) (ta tb : Lh) (x1 x2 : Int) (A : Option Addr) (n c : Nat) (N : Bool) (y1 y2 : Int) (B : Option Addr) (m d : Nat) (M : Bool) (w : World) (hF : ∀ k, w.heap.size ≤ k → F k) (hs : ta.size + tb.size < 134217728) (hk : ta.ok ∧ tb.ok) (ha : RAt F w ta (x1, x2) A n c N) (hb : RAt F w tb (y1, y2) B m d M) :
    Calls Tryz.prog 20 #[.agg #[.bool N, .int .i64 x1, .int .i64 x2, .slice A n c], .agg #[.bool M, .int .i64 y1, .int .i64 y2, .slice B m d]] w (GaveP F (meld ta tb) (meldC ta tb + meldM ta tb) w) :=
  refMeld F ta tb x1 x2 y1 y2 A B n c m d N M w hF ha hb (by have := queue_small hk.1; omega) (by have := queue_small hk.2; omega)
theorem refPop_ok (F : Nat → Prop) (t : Lh) (x1 x2 : Int) (A : Option Addr) (n c : Nat) (N : Bool) (w : World) (hs : t.size < 134217728) (hk : t.ok) (hF : ∀ k, w.heap.size ≤ k → F k) (h : RAt F w t (x1, x2) A n c N) :
    Calls Tryz.prog 22 #[.agg #[.bool N, .int .i64 x1, .int .i64 x2, .slice A n c]] w (GaveP F t.pop (t.popC + t.popM) w) :=
  refPop_any F t x1 x2 A n c N w hF h (by have := queue_small hk; omega) (by have := least_small hk; omega)

end Go.Proofs.YtlmokendajgbdaaGreatDoor.Bo.Zr
