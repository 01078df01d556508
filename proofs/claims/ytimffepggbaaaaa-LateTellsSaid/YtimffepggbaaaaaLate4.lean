/-
  Contracts of All and Front of a Late of any row of fewer than 2^30 elements, and of nil: what they tell, in new memory; that the Late is as it was but for being put in order; nothing else that was there has changed.
-/
import Derived.Test.YtimffepggbaaaaaLate3
namespace Go.Proofs.Ytimffepggbaaaaa
open Go.Sort Go.RowKit

/-- What All and Front hand back: a row of its own, xs, of n elements; the Late is in order. -/
structure Tells (b n : Nat) (l xs : List (Int × Int)) (w : World) (e : Ending) (w' : World) (g c : Nat) (A : Option Addr) (cc : Nat) (B : Nat) : Prop where
  ret : e = .returned (.slice (some ⟨g, 0, none⟩) n c)
  late : LateAt w' b A cc l 1
  own : Own w' B (.slice (some ⟨g, 0, none⟩) n c) xs
  but : But b w w'
  old : w.heap.size ≤ B
  blk : b < B
  row : ∀ a, A = some a → a.block < B
  new : B ≤ g
  le : n ≤ c
  max : c ≤ 9223372036854775807
def Told (b n : Nat) (l xs : List (Int × Int)) (w : World) (e : Ending) (w' : World) : Prop := ∃ g c A cc B, Tells b n l xs w e w' g c A cc B

/-- A row's first ones. -/
theorem Row.take {w : World} {A : Option Addr} {xs : List (Int × Int)} (h : Row w A xs) (k : Nat) : Row w A (xs.take k) := fun h0 => by
  rw [List.length_take] at h0
  obtain ⟨b, o, e, hc⟩ := h (by omega)
  refine ⟨b, o, e, fun j v hv => hc j v ?_⟩
  have e2 : cellsE xs = cellsE (xs.take k) ++ cellsE (xs.drop k) := by rw [← cellsE_append, List.take_append_drop]
  rw [e2, List.getElem?_append_left (List.getElem?_eq_some_iff.1 hv).1]
  exact hv

theorem told_of {b n : Nat} {l xs : List (Int × Int)} {w w1 w2 : World} {A : Option Addr} {c : Nat} {e : Ending} (h : LateAt w1 b A c l 1) (hb : But b w w1) (hc : ClonedS n xs w1 e w2) : Told b n l xs w e w2 := by
  obtain ⟨g, c', rfl, own, hg, h1, h2, hb2⟩ := hc
  exact ⟨g, c', A, c, w1.heap.size, rfl, h.stay hb2, own, hb.trans (But.ofBelow hb2), hb.size, h.blk.lt, h.lt, hg, h1, h2⟩

theorem LateAt.rowS {w : World} {b : Nat} {A : Option Addr} {c : Nat} {l : List (Int × Int)} (h : LateAt w b A c l 1) : Row w A (srt l) := by
  have := h.row; rw [if_neg (by omega)] at this; exact this

set_option maxHeartbeats 1000000 in
theorem all_any (b n : Nat) (A : Option Addr) (c : Nat) (l : List (Int × Int)) (d : Int) (w : World) (h : LateAt w b A c l d) (hd : d = 0 ∨ d = 1) (hn : n = l.length) (hl : l.length < 1073741823) :
    Calls Try.prog 9 #[.pointer (some ⟨b, 0, none⟩)] w (Told b n l (srt l) w) := by
  have HI := Lib.hid (inOrder_any b A c l d w h hd hl)
  have HL := Lib.hid hl
  have HN := Lib.hid hn
  clear h hd hl hn
  go_enter Try.func9, Try.ntmps9
  go_wp2_with fail
  ((with_reducible refine HI.out.mono ?_); rintro e w1 ⟨A', c', rfl, h', hb'⟩)
  rcases h'.made with hz | ⟨g, rfl, rfl⟩
  · omega
  have HC := Lib.hid (clone_some ⟨g, 0, none⟩ (srt l) n n w1 (by rw [HN.out, srt_length]) (by have := HN.out; have := HL.out; omega) h'.rowS)
  rw [← HN.out]
  have H := Lib.hid (And.intro h' hb')
  clear h' hb' HI
  go_wp2_with fail
  ((with_reducible refine HC.out.mono ?_); rintro e w2 hc)
  have HT := Lib.hid (told_of H.out.1 H.out.2 hc)
  obtain ⟨g', c', rfl, -⟩ := hc
  clear HC
  go_wp2_with fail
  go_ret
  exact HT.out

set_option maxHeartbeats 1000000 in
theorem all_nil (w : World) : Calls Try.prog 9 #[.pointer none] w fun e w' => e = .returned (.slice none 0 0) ∧ w' = w := by
  go_enter Try.func9, Try.ntmps9
  go_wp2_with fail
  ((with_reducible refine (inOrder_nil _).mono ?_); rintro e w1 ⟨rfl, rfl⟩)
  go_wp2_with fail
  ((with_reducible refine (clone_nil0 _).mono ?_); rintro e w2 ⟨rfl, rfl⟩)
  go_wp2_with fail
  go_ret
  exact ⟨rfl, rfl⟩

set_option maxHeartbeats 1000000 in
theorem front_at (b m : Nat) (A : Option Addr) (c : Nat) (l : List (Int × Int)) (d : Int) (n : Int) (k : Nat) (w : World) (h : LateAt w b A c l d) (hd : d = 0 ∨ d = 1) (hm : m = l.length) (hl : l.length < 1073741823) (hk : (min (max n 0) (m : Int)).toNat = k) :
    Calls Try.prog 11 #[.pointer (some ⟨b, 0, none⟩), .int .i64 n] w (Told b k l ((srt l).take k) w) := by
  have HI := Lib.hid (inOrder_any b A c l d w h hd hl)
  have HL := Lib.hid hl
  have HM := Lib.hid hm
  have hm' : m < 1073741823 := by omega
  clear h hd hm hl
  subst hk
  go_enter Try.func11, Try.ntmps11
  go_wp2_with fail
  ((with_reducible refine HI.out.mono ?_); rintro e w1 ⟨A', c', rfl, h', hb'⟩)
  rcases h'.made with hz | ⟨g, rfl, rfl⟩
  · omega
  have HC := Lib.hid (fun k c (hk : k ≤ m) => clone_some ⟨g, 0, none⟩ ((srt l).take k) k c w1 (by rw [List.length_take, srt_length, ← HM.out]; omega) (by omega) (Row.take h'.rowS k))
  rw [← HM.out]
  have H := Lib.hid (And.intro h' hb')
  clear h' hb' HI
  go_wp2_with fail
  ((with_reducible refine (HC.out _ _ (by omega)).mono ?_); rintro e w2 hc)
  have HT := Lib.hid (told_of H.out.1 H.out.2 hc)
  obtain ⟨g', c', rfl, -⟩ := hc
  clear HC
  go_wp2_with fail
  go_ret
  exact HT.out

set_option maxHeartbeats 1000000 in
theorem front_nil3 (w : World) : Calls Try.prog 11 #[.pointer none, .int .i64 3] w fun e w' => e = .returned (.slice none 0 0) ∧ w' = w := by
  go_enter Try.func11, Try.ntmps11
  go_wp2_with fail
  ((with_reducible refine (inOrder_nil _).mono ?_); rintro e w1 ⟨rfl, rfl⟩)
  go_wp2_with fail
  rw [show (min (max (3 : Int) 0) 0).toNat = 0 from by decide]
  ((with_reducible refine (clone_nil0 _).mono ?_); rintro e w2 ⟨rfl, rfl⟩)
  go_wp2_with fail
  go_ret
  exact ⟨rfl, rfl⟩

end Go.Proofs.Ytimffepggbaaaaa
