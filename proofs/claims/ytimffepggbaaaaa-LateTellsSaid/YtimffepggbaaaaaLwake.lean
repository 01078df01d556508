/-
  The document's example holds: awake returns true, and nothing that was there has changed, in any world.
-/
import Derived.Test.YtimffepggbaaaaaLate4
namespace Go.Proofs.Ytimffepggbaaaaa
open Go.Sort Go.RowKit

theorem of_21 (w : World) (gg : Nat) (hgg : gg = w.heap.size) : Calls Try.prog 7 #[.slice (some ⟨gg, 0, none⟩) 2 2] (w.alloc (.cells #[.int .i64 2, .int .i64 0, .int .i64 1, .int .i64 0] 28))
    fun e w' => ∃ b A c, e = .returned (.pointer (some ⟨b, 0, none⟩)) ∧ LateAt w' b A c [(2, 0), (1, 0)] 0 ∧ Below w.heap.size w w' ∧ w.heap.size ≤ b := by
  subst hgg
  have h := of_any (some ⟨w.heap.size, 0, none⟩) [(2, 0), (1, 0)] 2 2 _ rfl (by decide) (row_new w [(2, 0), (1, 0)] 28) (Nat.le_refl _) (fun e => by cases e)
  refine Calls.mono h fun e w' ⟨b, A, c, he, hl, hb, hlt, _⟩ => ⟨b, A, c, he, hl, ((Below.refl _ _).alloc (Nat.le_refl _) _).trans (hb.mono (by simp)), by simp at hlt; omega⟩

theorem srt_21 : srt [(2, 0), (1, 0)] = [(1, 0), (2, 0)] := srt_eq _ _ (by decide) (by decide)

theorem cellsE_two (p q r s : Int) : cellsE [(p, q), (r, s)] = [.int .i64 p, .int .i64 q, .int .i64 r, .int .i64 s] := rfl

set_option maxHeartbeats 1000000 in
set_option maxRecDepth 100000 in
theorem awake_any (w : World) : Calls Try.prog 6 #[] w fun e w' => e = .returned (.bool true) ∧ Below w.heap.size w w' := by
  have AL := Lib.hid (fun b A c d w h hd => all_any b 2 A c [(2, 0), (1, 0)] d w h hd rfl (by decide))
  have FR := Lib.hid (fun b A c d w h hd => front_at b 2 A c [(2, 0), (1, 0)] d 1 1 w h hd rfl (by decide) (by decide))
  rw [srt_21] at AL FR
  go_enter Try.func6, Try.ntmps6
  go_wp2_with fail
  ((with_reducible refine (of_21 _ _ rfl).mono ?_); rintro e w1 ⟨b, A, c, rfl, h1, hb1, hlt1⟩)
  have H1 := Lib.hid (And.intro h1 (And.intro hb1 hlt1))
  clear h1 hb1 hlt1
  go_wp2_with fail
  ((with_reducible refine (done_at b 0 _ H1.out.1.blk.c4).mono ?_); rintro e w2 ⟨rfl, rfl⟩)
  go_wp2_with fail
  ((with_reducible refine (AL.out b A c 0 _ H1.out.1 (Or.inl rfl)).mono ?_); rintro e w3 ht3)
  obtain ⟨g3, c3, A3, cc3, B3, t3⟩ := ht3
  have e3 := t3.own.cells rfl 0 _ (by rw [cellsE_two]; rfl)
  have H3 := Lib.hid (And.intro t3.late (And.intro e3 (And.intro (show g3 ≠ b by have := t3.new; have := t3.blk; omega) (But.below t3.but H1.out.2.1 H1.out.2.2 H1.out.2.1.size))))
  obtain rfl := t3.ret
  clear t3 e3
  go_wp2_with fail
  ((with_reducible refine (AL.out b A3 cc3 1 _ H3.out.1 (Or.inr rfl)).mono ?_); rintro e w4 ht4)
  obtain ⟨g4, c4, A4, cc4, B4, t4⟩ := ht4
  have e3 : w4.cell? ⟨g3, 0, none⟩ = some (.int .i64 1) := (t4.but.cell (p := ⟨g3, 0, none⟩) (block_lt_of_cell H3.out.2.1) H3.out.2.2.1).trans H3.out.2.1
  have H4 := Lib.hid (And.intro t4.late (But.below t4.but H3.out.2.2.2 H1.out.2.2 H3.out.2.2.2.size))
  obtain rfl := t4.ret
  clear t4
  go_wp2_with fail
  ((with_reducible refine (done_at b 1 _ H4.out.1.blk.c4).mono ?_); rintro e w5 ⟨rfl, rfl⟩)
  go_wp2_with fail
  ((with_reducible refine (FR.out b A4 cc4 1 _ H4.out.1 (Or.inr rfl)).mono ?_); rintro e w6 ht6)
  obtain ⟨g6, c6, A6, cc6, B6, t6⟩ := ht6
  have H6 := Lib.hid (But.below t6.but H4.out.2 H1.out.2.2 H4.out.2.size)
  obtain rfl := t6.ret
  clear t6
  go_wp2
  go_ret
  exact ⟨rfl, H6.out⟩

end Go.Proofs.Ytimffepggbaaaaa
