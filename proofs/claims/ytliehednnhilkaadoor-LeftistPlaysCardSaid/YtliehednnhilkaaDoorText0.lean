/-
  What the library's FormatInt reads of memory (one table), as a property of a world that stays where nothing below has changed; its contract, and that of elem.Text, for every element of two 64-bit numbers. No other conditions.
-/
import Derived.Test.YtliehednnhilkaaDoorShelf
import Derived.Test.YtliehednnhilkaaDoorLess
import Derived.Shelf.Strconv.Itoa4
import Derived.Lib.QuietBelow
import Derived.Lib.ItoaLen
import Derived.Lib.ItoaMem
namespace Go.Proofs.YtliehednnhilkaaDoor
open Go.Sort Go.RowKit

/-- What the library's calls read of memory. -/
structure Env (w : World) : Prop where
  tab : Lib.TabIs Tryd.prog w "internal/strconv.uint64pow10" .u64 Lib.pow10Tab

theorem Env.below {w w' : World} (h : Env w) (hb : Below w.heap.size w w') : Env w' where
  tab := var_stays hb h.tab

theorem formatInt_any (n : Int) (h0 : -9223372036854775808 ≤ n) (h1 : n ≤ 9223372036854775807) (w : World) (he : Env w) :
    Calls Tryd.prog 58 #[.int .i64 n, .int .i64 10] w fun e w' => e = .returned (.string ⟨(Lib.itoa n).toArray⟩) ∧ Below w.heap.size w w' :=
  (Any.strconv_FormatInt_10 Tryd.laysM173 n h0 h1 w he.tab).mono fun _ _ ⟨a, k, os, b⟩ => ⟨a, by rw [b]; exact below_grow w k os⟩

theorem append_bytes (a b : List UInt8) : (⟨a.toArray⟩ : ByteArray) ++ ⟨b.toArray⟩ = ⟨(a ++ b).toArray⟩ := by
  apply ByteArray.ext
  simp

/-- An element as a text. -/
def textOf (p q : Int) : List UInt8 := Lib.itoa p ++ (58 :: Lib.itoa q)

set_option maxHeartbeats 400000 in
theorem text_any (p q : Int) (hp : -9223372036854775808 ≤ p ∧ p ≤ 9223372036854775807) (hq : -9223372036854775808 ≤ q ∧ q ≤ 9223372036854775807) (w : World) (he : Env w) :
    Calls Tryd.prog 52 #[.agg #[.int .i64 p, .int .i64 q]] w fun e w' => e = .returned (.string ⟨(textOf p q).toArray⟩) ∧ Below w.heap.size w w' := by
  have lp := Lib.itoa_length_le p hp.1 hp.2
  have lq := Lib.itoa_length_le q hq.1 hq.2
  have hF : ∀ (n : Int) (h0 : -9223372036854775808 ≤ n) (h1 : n ≤ 9223372036854775807) (o : Obj) d os, Calls Tryd.prog 58 #[.int .i64 n, .int .i64 10] (grow (redrawn (w.alloc o) d) os) fun e w'' => e = .returned (.string ⟨(Lib.itoa n).toArray⟩) ∧ ∃ r : Regrown, w'' = grow (redrawn (w.alloc o) r.d) r.os :=
    fun n h0 h1 o d os => Calls.regrown_of (formatInt_any n h0 h1 _ ((he.below ((Below.refl w.heap.size w).alloc (Nat.le_refl _) o)).below (below_regrown _ d os)))
  have HF := Lib.hid hF
  clear hF he
  obtain ⟨hp0, hp1⟩ := hp
  obtain ⟨hq0, hq1⟩ := hq
  obtain ⟨c0, c1, _, _, _, hb⟩ := pair_after (w := w) (x := .int .i64 p) (y := .int .i64 q) (t := 32) (Below.refl _ _)
  have k0 := fun d os => cell_regrown c0 d os
  have k1 := fun d os => cell_regrown c1 d os
  clear c0 c1
  have HB := Lib.hid hb
  clear hb
  have n1 : ¬ 9223372036854775807 < (Lib.itoa p).length + 1 := by omega
  have n2 : ¬ 9223372036854775807 < (Lib.itoa p).length + 1 + (Lib.itoa q).length := by omega
  go_enter Tryd.func52, Tryd.ntmps52
  go_wp2_with fail
  refine wp_region_quiet_below (by kernel_rfl) (by kernel_rfl) ?_
  repeat (go_big_quiet_step ((with_reducible exact HF.out _ (by assumption) (by assumption) _ _ _)))
  refine wpQuiet_nil ?_
  intro _ hw'
  obtain ⟨⟨dq, osq⟩, hw''⟩ := hw'
  subst hw''
  go_wp2
  go_ret
  refine ⟨?_, HB.out.trans ((below_regrown _ dq osq).mono HB.out.size)⟩
  rw [show (⟨#[58]⟩ : ByteArray) = ⟨[58].toArray⟩ from rfl, append_bytes, append_bytes]
  simp [textOf]


open Go.Lib in
theorem digit_toNat (d : Nat) (h : d < 10) : (UInt8.ofNat (48 + d)).toNat = 48 + d := by
  simp [UInt8.toNat_ofNat']; omega

def in64 (v : Int) : Prop := -9223372036854775808 ≤ v ∧ v ≤ 9223372036854775807


end Go.Proofs.YtliehednnhilkaaDoor
