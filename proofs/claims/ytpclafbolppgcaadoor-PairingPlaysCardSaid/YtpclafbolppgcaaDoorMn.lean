/-
  Contracts of the reference's digits, Number and Text: for any 64-bit number: its decimal text; nothing that was there has changed.
-/
import Derived.Test.YtpclafbolppgcaaDoorMc
import Derived.Laws.IdiomStrings
import Derived.Laws.Rows
namespace Go.Proofs.YtpclafbolppgcaaDoor
open Go.Sort Go.RowKit

theorem tdiv_ten (n : Nat) : (-(n : Int)).tdiv 10 = -((n / 10 : Nat) : Int) := by
  rw [Int.neg_tdiv, Int.tdiv_eq_ediv_of_nonneg (by omega)]; omega
theorem tmod_ten (n : Nat) : (-(n : Int)).tmod 10 = -((n % 10 : Nat) : Int) := by
  rw [Int.neg_tmod, Int.tmod_eq_emod_of_nonneg (by omega)]; omega

/-- One byte that was just laid, as a text. -/
theorem byte_text (W : World) (z : Int) (c : UInt8) (hc : z = (c.toNat : Int)) (t9 : TypeId) (h9 : Tryd.prog.underlying t9 = some .string) :
    (convert 92 t9 (.slice (some ⟨W.heap.size, 0, none⟩) 1 1)).run Tryd.prog (W.alloc (.cells #[.int .u8 z] 5)) = .ok (.string ⟨[c].toArray⟩) (W.alloc (.cells #[.int .u8 z] 5)) := by
  refine run_convert_bytes_back (P := Tryd.prog) _ 92 t9 5 ⟨W.heap.size, 0, none⟩ 1 [c] Tryd.underlying92 Tryd.underlying5 h9 ?_
  intro j hj
  have hj0 : j = 0 := by simpa using hj
  subst hj0
  have e : (W.alloc (.cells #[.int .u8 z] 5)).heap[W.heap.size]? = some (.cells #[.int .u8 z] 5 (0, 0)) := heap_alloc_new W _
  show (W.alloc (.cells #[.int .u8 z] 5)).cell? ⟨W.heap.size, 0, none⟩ = _
  rw [cell_of_row _ _ 0 _ _ _ e, hc]
  rfl

theorem digits_length (u : Nat) (h : u ≤ 9223372036854775808) : (Lib.decDigits u).length ≤ 21 := by
  by_cases h0 : u = 9223372036854775808
  · have := Lib.itoa_length_le (-9223372036854775808) (by omega) (by omega)
    unfold Lib.itoa at this
    rw [if_pos (by omega)] at this
    rw [h0]
    have e : (-9223372036854775808 : Int).natAbs = 9223372036854775808 := rfl
    rw [e] at this
    simp only [List.length_cons] at this
    omega
  · have := Lib.itoa_length_le (u : Int) (by omega) (by omega)
    unfold Lib.itoa at this
    rw [if_neg (by omega), Int.toNat_natCast] at this
    exact this

set_option maxHeartbeats 1000000 in
set_option maxRecDepth 100000 in
theorem digits_any (n : Nat) : ∀ (x : Int) (w : World), x = -(n : Int) → n ≤ 9223372036854775808 →
    Calls Tryd.prog 65 #[.int .i64 x] w fun e w' => e = .returned (.string ⟨(Lib.decDigits n).toArray⟩) ∧ Below w.heap.size w w' := by
  induction n using Nat.strongRecOn with
  | ind n ih =>
    intro x w hx hn
    have hlo : -9223372036854775808 ≤ x := by omega
    have hhi : x ≤ 0 := by omega
    obtain ⟨r, hr⟩ : ∃ r : Int, r = ((n % 10 : Nat) : Int) := ⟨_, rfl⟩
    have hm : x.tmod 10 = -r := by rw [hx, hr]; exact tmod_ten n
    have hr0 : 0 ≤ r := by omega
    have hr9 : r ≤ 9 := by omega
    obtain ⟨c, hc⟩ : ∃ c : UInt8, c = UInt8.ofNat (48 + n % 10) := ⟨_, rfl⟩
    have hcv : ∀ W : World, (convert 92 9 (.slice (some ⟨W.heap.size, 0, none⟩) 1 1)).run Tryd.prog (W.alloc (.cells #[.int .u8 (48 + r)] 5)) = .ok (.string ⟨[c].toArray⟩) (W.alloc (.cells #[.int .u8 (48 + r)] 5)) := fun W =>
      byte_text W (48 + r) c (by rw [hc, digit_toNat _ (by omega)]; omega) _ Tryd.underlying9
    by_cases h : n < 10
    · have h1 : decide (x ≤ -10) = false := by simp; omega
      have hd : Lib.decDigits n = [c] := by
        rw [Lib.decDigits_one h, hc, Nat.mod_eq_of_lt h]
      have HD := Lib.hid hd
      clear ih hd hx hr hn h hc
      go_enter Tryd.func65, Tryd.ntmps65
      go_wp2_with fail
      go_ret
      refine ⟨?_, (Below.refl w.heap.size w).alloc (Nat.le_refl _) _⟩
      rw [HD.out]
      rfl
    · obtain ⟨q, hq⟩ : ∃ q : Int, q = -((n / 10 : Nat) : Int) := ⟨_, rfl⟩
      have hdv : x.tdiv 10 = q := by rw [hx, hq]; exact tdiv_ten n
      have hq0 : -9223372036854775808 ≤ q := by omega
      have hq1 : q ≤ 0 := by omega
      have h1 : decide (x ≤ -10) = true := by simp; omega
      have hd : Lib.decDigits n = Lib.decDigits (n / 10) ++ [c] := by
        rw [hc]; rw [Lib.decDigits, dif_neg h]
      have hl := digits_length (n / 10) (by omega)
      have HI := Lib.hid (fun W => ih (n / 10) (by omega) q W hq (by omega))
      have HD := Lib.hid hd
      have n1 : ¬ 9223372036854775807 < (Lib.decDigits (n / 10)).length + 1 := by omega
      clear ih hd hx hr hn h hc hq
      go_enter Tryd.func65, Tryd.ntmps65
      go_wp2_with fail
      ((with_reducible refine (HI.out _).mono ?_); rintro e w1 ⟨rfl, hb1⟩)
      have HB := Lib.hid hb1
      clear hb1
      go_wp2_with fail
      go_ret
      refine ⟨?_, HB.out.alloc HB.out.size _⟩
      rw [HD.out, ← append_bytes]
      rfl

set_option maxHeartbeats 1000000 in
set_option maxRecDepth 100000 in
theorem refNumber_any (v : Int) (h0 : -9223372036854775808 ≤ v) (h1 : v ≤ 9223372036854775807) (w : World) :
    Calls Tryd.prog 59 #[.int .i64 v] w fun e w' => e = .returned (.string ⟨(Lib.itoa v).toArray⟩) ∧ Below w.heap.size w w' := by
  by_cases h : v < 0
  · have hd : Lib.itoa v = 45 :: Lib.decDigits v.natAbs := by unfold Lib.itoa; rw [if_pos h]
    have hl := digits_length v.natAbs (by omega)
    have HI := Lib.hid (fun W => digits_any v.natAbs v W (by omega) (by omega))
    have HD := Lib.hid hd
    have n1 : ¬ 9223372036854775807 < 1 + (Lib.decDigits v.natAbs).length := by omega
    have h2 : decide (v < 0) = true := by simpa using h
    clear hd
    go_enter Tryd.func59, Tryd.ntmps59
    go_wp2_with fail
    ((with_reducible refine (HI.out _).mono ?_); rintro e w1 ⟨rfl, hb1⟩)
    go_wp2_with fail
    go_ret
    refine ⟨?_, hb1⟩
    rw [HD.out, show (45 :: Lib.decDigits v.natAbs) = [45] ++ Lib.decDigits v.natAbs from rfl, ← append_bytes]
    rfl
  · have hd : Lib.itoa v = Lib.decDigits v.toNat := by unfold Lib.itoa; rw [if_neg h]
    obtain ⟨x, hx⟩ : ∃ x : Int, x = -v := ⟨_, rfl⟩
    have HI := Lib.hid (fun W => digits_any v.toNat (-v) W (by omega) (by omega))
    have HD := Lib.hid hd
    have h2 : decide (v < 0) = false := by simpa using h
    clear hd hx
    go_enter Tryd.func59, Tryd.ntmps59
    go_wp2_with fail
    ((with_reducible refine (HI.out _).mono ?_); rintro e w1 ⟨rfl, hb1⟩)
    go_wp2_with fail
    go_ret
    refine ⟨?_, hb1⟩
    rw [HD.out]
    rfl

set_option maxHeartbeats 400000 in
theorem refText_any (p q : Int) (hp : -9223372036854775808 ≤ p ∧ p ≤ 9223372036854775807) (hq : -9223372036854775808 ≤ q ∧ q ≤ 9223372036854775807) (w : World) :
    Calls Tryd.prog 49 #[.agg #[.int .i64 p, .int .i64 q]] w fun e w' => e = .returned (.string ⟨(textOf p q).toArray⟩) ∧ Below w.heap.size w w' := by
  have lp := Lib.itoa_length_le p hp.1 hp.2
  have lq := Lib.itoa_length_le q hq.1 hq.2
  have hF : ∀ (n : Int) (h0 : -9223372036854775808 ≤ n) (h1 : n ≤ 9223372036854775807) (o : Obj) d os, Calls Tryd.prog 59 #[.int .i64 n] (grow (redrawn (w.alloc o) d) os) fun e w'' => e = .returned (.string ⟨(Lib.itoa n).toArray⟩) ∧ ∃ r : Regrown, w'' = grow (redrawn (w.alloc o) r.d) r.os :=
    fun n h0 h1 o d os => Calls.regrown_of (refNumber_any n h0 h1 _)
  have HF := Lib.hid hF
  clear hF
  obtain ⟨hp0, hp1⟩ := hp
  obtain ⟨hq0, hq1⟩ := hq
  obtain ⟨c0, c1, _, _, _, hb⟩ := pair_after (w := w) (x := .int .i64 p) (y := .int .i64 q) (t := 32) (Below.refl _ _)
  have k0 := fun d os => cell_regrown c0 d os
  have k1 := fun d os => cell_regrown c1 d os
  clear c0 c1
  have HB := Lib.hid hb
  clear hb
  have n1 : ¬ 9223372036854775807 < (Lib.itoa p).length + 1 := by omega
  have n2 : ¬ 9223372036854775807 < (Lib.itoa p).length + 1 + (Lib.itoa q).length := by omega
  go_enter Tryd.func49, Tryd.ntmps49
  go_wp2_with fail
  refine wp_region_quiet_below (by kernel_rfl) (by kernel_rfl) ?_
  repeat (go_big_quiet_step ((with_reducible exact HF.out _ (by assumption) (by assumption) _ _ _)))
  refine wpQuiet_nil ?_
  intro _ hw'
  obtain ⟨⟨dq, osq⟩, hw''⟩ := hw'
  subst hw''
  go_wp2
  go_ret
  refine ⟨?_, HB.out.trans ((below_regrown _ dq osq).mono HB.out.size)⟩
  rw [show (⟨#[58]⟩ : ByteArray) = ⟨[58].toArray⟩ from rfl, append_bytes, append_bytes]
  simp [textOf]

end Go.Proofs.YtpclafbolppgcaaDoor
