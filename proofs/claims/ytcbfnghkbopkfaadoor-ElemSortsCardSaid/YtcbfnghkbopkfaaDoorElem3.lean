/-
  Contracts of elem.Parse (any text shorter than 2^31 bytes) and elem.Text (any element of two 64-bit numbers), in any world where the library's own variables hold what they were laid as.
-/
import Derived.Test.YtcbfnghkbopkfaaDoorElem2
import Derived.Lib.ItoaLen
namespace Go.Proofs.YtcbfnghkbopkfaaDoor
open Go.Sort Go.RowKit

theorem cut_lengths (l sep : List UInt8) : (Lib.cut l sep).1.length ≤ l.length ∧ (Lib.cut l sep).2.1.length ≤ l.length := by
  unfold Lib.cut; split <;> simp <;> omega

theorem parse_any (s : ByteArray) (hs : s.size < 2147483648) (w : World) (he : Env w) :
    Calls Tryd.prog 18 #[.string s] w fun e w' => e = .returned (parsed (elemOf s.data.toList)) ∧ Below w.heap.size w w' := by
  have hl := cut_lengths s.data.toList [58]
  have hlen : s.data.toList.length = s.size := Array.length_toList
  rw [hlen] at hl
  generalize hc : Lib.cut s.data.toList [58] = c at hl
  obtain ⟨l1, l2, b⟩ := c
  unfold elemOf
  rw [hc]
  cases b with
  | false => exact parse_nocut s hs (by rw [hc]) w he
  | true =>
    simp only at hl
    cases h1 : numOf l1 with
    | none => exact parse_no s hs l1 l2 hc (by omega) (by omega) (Or.inl h1) w he
    | some a =>
      cases h2 : numOf l2 with
      | none => exact parse_no s hs l1 l2 hc (by omega) (by omega) (Or.inr h2) w he
      | some b => exact parse_yes s hs l1 l2 hc (by omega) (by omega) a b h1 h2 w he

theorem append_bytes (a b : List UInt8) : (⟨a.toArray⟩ : ByteArray) ++ ⟨b.toArray⟩ = ⟨(a ++ b).toArray⟩ := by
  apply ByteArray.ext
  simp

/-- An element as a text. -/
def textOf (p q : Int) : List UInt8 := Lib.itoa p ++ (58 :: Lib.itoa q)

set_option maxHeartbeats 400000 in
theorem text_any (p q : Int) (hp : -9223372036854775808 ≤ p ∧ p ≤ 9223372036854775807) (hq : -9223372036854775808 ≤ q ∧ q ≤ 9223372036854775807) (w : World) (he : Env w) :
    Calls Tryd.prog 20 #[.agg #[.int .i64 p, .int .i64 q]] w fun e w' => e = .returned (.string ⟨(textOf p q).toArray⟩) ∧ Below w.heap.size w w' := by
  have lp := Lib.itoa_length_le p hp.1 hp.2
  have lq := Lib.itoa_length_le q hq.1 hq.2
  have hF : ∀ (n : Int) (h0 : -9223372036854775808 ≤ n) (h1 : n ≤ 9223372036854775807) (o : Obj) d os, Calls Tryd.prog 28 #[.int .i64 n, .int .i64 10] (grow (redrawn (w.alloc o) d) os) fun e w'' => e = .returned (.string ⟨(Lib.itoa n).toArray⟩) ∧ ∃ r : Regrown, w'' = grow (redrawn (w.alloc o) r.d) r.os :=
    fun n h0 h1 o d os => Calls.regrown_of (formatInt_any n h0 h1 _ ((he.below ((Below.refl w.heap.size w).alloc (Nat.le_refl _) o)).below (below_regrown _ d os)))
  have HF := Lib.hid hF
  clear hF he
  obtain ⟨hp0, hp1⟩ := hp
  obtain ⟨hq0, hq1⟩ := hq
  obtain ⟨c0, c1, _, _, _, hb⟩ := pair_after (w := w) (x := .int .i64 p) (y := .int .i64 q) (t := 23) (Below.refl _ _)
  have k0 := fun d os => cell_regrown c0 d os
  have k1 := fun d os => cell_regrown c1 d os
  clear c0 c1
  have HB := Lib.hid hb
  clear hb
  have n1 : ¬ 9223372036854775807 < (Lib.itoa p).length + 1 := by omega
  have n2 : ¬ 9223372036854775807 < (Lib.itoa p).length + 1 + (Lib.itoa q).length := by omega
  go_enter Tryd.func20, Tryd.ntmps20
  go_wp2_with fail
  refine wp_region_quiet_below (by kernel_rfl) (by kernel_rfl) ?_
  repeat (go_big_quiet_step ((with_reducible exact HF.out _ (by assumption) (by assumption) _ _ _)))
  refine wpQuiet_nil ?_
  intro _ hw'
  obtain ⟨⟨dq, osq⟩, hw''⟩ := hw'
  subst hw''
  go_wp2
  go_ret
  refine ⟨?_, HB.out.trans ((below_regrown _ dq osq).mono HB.out.size)⟩
  rw [show (⟨#[58]⟩ : ByteArray) = ⟨[58].toArray⟩ from rfl, append_bytes, append_bytes]
  simp [textOf]

end Go.Proofs.YtcbfnghkbopkfaaDoor
