/-
  Contracts of late's order, of sync.Once's Do over it, and of inOrder: of a Late of any row of fewer than 2^30 elements: it is put in order the first time, and left alone ever after; nothing else that was there has changed.
-/
import Derived.Test.YtimffepggbaaaaaLate1
import Derived.Test.YtimffepggbaaaaaSort
import Derived.Defers
namespace Go.Proofs.Ytimffepggbaaaaa
open Go.Sort Go.RowKit

/-- What order leaves: the Late's block turned, the row a new one. -/
def Ordered (b : Nat) (l : List (Int × Int)) (d s k : Int) (w : World) (e : Ending) (w' : World) : Prop :=
  e = .returned (.tuple #[]) ∧ ∃ g, w.heap.size ≤ g ∧ g < w'.heap.size ∧ Blk w' b d s (.slice (some ⟨g, 0, none⟩) l.length l.length) k ∧ Row w' (some ⟨g, 0, none⟩) (srt l) ∧ But b w w'

theorem order_add (b off : Nat) (v : Int) (w : World) (h : w.cell? ⟨b, off, none⟩ = some (.int .i64 v)) (hz : w.frozen? ⟨b, off, none⟩ = false) (h0 : -4611686018427387904 ≤ v) (h1 : v ≤ 4611686018427387904) :
    Calls Try.prog 25 #[.pointer (some ⟨b, off, none⟩), .int .i64 1] w fun e w' => e = .returned (.int .i64 (v + 1)) ∧ w' = w.setCell ⟨b, off, none⟩ (.int .i64 (v + 1)) := by
  have hadd := run_call_add (P := Try.prog) Try.func32 (by kernel_rfl) (by kernel_rfl) (by kernel_rfl) .i64 (by kernel_rfl) (y := 1) (s := v + 1) h hz (by simp [go_sem, IntKind.wrap_i64]; omega)
  clear h hz
  go_enter Try.func25, Try.ntmps25
  go_wp2
  go_ret
  exact ⟨rfl, rfl⟩

theorem But.setK {g : Nat} {w w' : World} (h : But g w w') (off : Nat) (v : Value) : But g w (w'.setCell ⟨g, off, none⟩ v) := h.trans (But.set g off w' v)
theorem But.stay {g : Nat} {u w w' : World} (h : But g u w) (hb : Below w.heap.size w w') : But g u w' := h.trans (But.ofBelow hb)

set_option maxRecDepth 100000 in
set_option maxHeartbeats 1000000 in
theorem order_any (b : Nat) (A : Option Addr) (c : Nat) (l : List (Int × Int)) (d s k : Int) (w : World) (hk : Blk w b d s (.slice A l.length c) k) (hr : Row w A l) (hl : l.length < 1073741823) (h0 : 0 ≤ k) (h1 : k ≤ 1) :
    Calls Try.prog 20 #[.pointer (some ⟨b, 0, none⟩)] w (Ordered b l d s (k + 1) w) := by
  have HC := Lib.hid (sort_new A l c w (by omega) hr)
  have HK := Lib.hid hk
  have e3 := hk.c3
  have HB := Lib.hid (And.intro h0 h1)
  clear hk hr hl h0 h1
  go_enter Try.func20, Try.ntmps20
  go_wp2_with fail
  ((with_reducible refine HC.out.mono ?_); rintro e w1 ⟨g, hg0, hg1, rfl, hr1, hb1⟩)
  have hk1 := HK.out.stay hb1
  have hk2 := hk1.set3 (.slice (some ⟨g, 0, none⟩) l.length l.length)
  have f3 := hk1.z 3
  have x3 := hk1.c3
  obtain ⟨W2, hW2⟩ : ∃ W2, W2 = w1.setCell ⟨b, 3, none⟩ (.slice (some ⟨g, 0, none⟩) l.length l.length) := ⟨_, rfl⟩
  have HADD := Lib.hid (order_add b 4 k W2 (by rw [hW2]; exact hk2.c4) (by rw [hW2]; exact hk2.z 4) (by have := HB.out; omega) (by have := HB.out; omega))
  have hlt := HK.out.lt
  have hne : ∀ a, (some (⟨g, 0, none⟩ : Addr)) = some a → a.block ≠ b := fun a e => by cases e; simp; omega
  have hbut : But b w W2 := by rw [hW2]; exact (But.ofBelow hb1).setK 3 _
  have hrow : Row W2 (some ⟨g, 0, none⟩) (srt l) := by rw [hW2]; exact hr1.but (But.set b 3 w1 _) hne
  rw [← hW2] at hk2
  have hgs : g < W2.heap.size := by rw [hW2]; simp [World.setCell]; exact hg1
  have H := Lib.hid (And.intro hk2 (And.intro hrow (And.intro hbut (And.intro hne (And.intro hgs hg0)))))
  clear hk1 hr1 hb1 hk2 hrow hbut hne hlt HC HK HB hgs hg0 hg1
  go_wp2_with fail
  rw [← hW2]
  clear hW2
  ((with_reducible refine HADD.out.mono ?_); rintro e w3 ⟨rfl, rfl⟩)
  go_wp2_with fail
  go_end0
  obtain ⟨hk2, hrow, hbut, hne, hgs, hg0⟩ := H.out
  exact ⟨rfl, g, hg0, by simp [World.setCell]; exact hgs, hk2.set4 _, hrow.but (But.set b 4 W2 _) hne, hbut.setK 4 _⟩

end Go.Proofs.Ytimffepggbaaaaa
