/-
  Contract of rank.Show: a tree's text, or none's; nothing that was there has changed. Conditions: elements of 64-bit numbers, fewer than 2 to the 30th things, the library's table as it is laid.
-/
import Derived.Test.YtlkpmafgokoaiaaDoorTr9
namespace Go.Proofs.YtlkpmafgokoaiaaDoor
open Go.Sort Go.RowKit

theorem show_all (n : Nat) : ∀ (x : Int × Int) (bs : List (Int × Int)) (ks : Wood), 1 + bs.length + ks.size = n → ∀ (w0 : World), Env w0 → ∀ (b : Nat), NAt w0 b ⟨x, bs, ks⟩ → fits (x :: (bs ++ ks.all)) → ∀ (base : Nat), w0.heap.size ≤ base → ∀ (g : Nat) (l : List UInt8) (w : World), Below w0.heap.size w0 w → base ≤ w.heap.size → Bld base g l w →
      l.length + 46 * (1 + bs.length + ks.size) + 10 ≤ 140737488355328 → Calls Tryd.prog 39 #[.pointer (some ⟨b, 0, none⟩), .pointer (some ⟨g, 0, none⟩)] w fun e w' => e = .returned (.tuple #[]) ∧ Bld base g (l ++ Tre.show ⟨x, bs, ks⟩) w' ∧ Below base w w' := by
  induction n using Nat.strongRecOn with
  | ind n ih =>
    intro x bs ks hn w0 he b ht hf base hb0 g l w hW hbw hB hl
    exact show_step n (fun x' bs' ks' hlt => ih _ hlt x' bs' ks' rfl) x.1 x.2 bs ks hn w0 he b ht hf base hb0 g l w hW hbw hB hl

/-- A tree's text, or none's. -/
def oshow : Option Tre → List UInt8
  | none => [46]
  | some t => t.show

theorem newBuilder (w : World) : Bld w.heap.size w.heap.size [] (w.alloc (.cells #[.pointer none, .slice none 0 0] 82)) :=
  .inl ⟨Nat.le_refl _, .slice none 0 0, heap_alloc_new w _, World.ownsRow_nil _ _ _ _, by simp [Value.ownBlock]⟩

set_option maxHeartbeats 1000000 in
theorem show_none (w : World) (base g : Nat) (l : List UInt8) (hB : Bld base g l w) (hbw : base ≤ w.heap.size) (hl : l.length + 1 ≤ 140737488355328) :
    Calls Tryd.prog 39 #[.pointer none, .pointer (some ⟨g, 0, none⟩)] w fun e w' => e = .returned (.tuple #[]) ∧ Bld base g (l ++ [46]) w' ∧ Below base w w' := by
  have H := Lib.hid (writeB base g l [46] _ w rfl hB hl hbw)
  clear hB hbw hl
  go_enter Tryd.func39, Tryd.ntmps39
  go_wp2_with fail
  ((with_reducible refine H.out.mono ?_); rintro e w1 ⟨v, rfl, hB, hb⟩)
  have B := Lib.hid (And.intro hB hb)
  clear hB hb H
  go_wp2_with fail
  first | go_end0 | refine bodyPost_ret (results_none rfl _ _ _) rfl ?_
  exact ⟨rfl, B.out.1, B.out.2⟩

theorem showIn_any (p : Option Addr) (t : Option Tre) (w0 : World) (he : Env w0) (h : TAt w0 p t) (hf : fits (oall t)) (h1 : osize t < 1073741824) (base : Nat) (hb0 : w0.heap.size ≤ base) (g : Nat) (w : World) (hW : Below w0.heap.size w0 w) (hbw : base ≤ w.heap.size) (hB : Bld base g [] w) :
    Calls Tryd.prog 39 #[.pointer p, .pointer (some ⟨g, 0, none⟩)] w fun e w' => e = .returned (.tuple #[]) ∧ Bld base g (oshow t) w' ∧ Below base w w' := by
  cases t with
  | none => obtain rfl := h; exact show_none w base g [] hB hbw (by simp)
  | some t =>
    obtain ⟨b, rfl, ht⟩ := h
    obtain ⟨x, bs, ks⟩ := t
    exact show_all _ x bs ks rfl w0 he b ht hf base hb0 g [] w hW hbw hB (by simp only [osize, Tre.size] at h1; simp only [List.length_nil]; omega)

theorem string_any (base g : Nat) (l : List UInt8) (w : World) (h : Bld base g l w) (hb : base ≤ w.heap.size) : Calls Tryd.prog 40 #[.pointer (some ⟨g, 0, none⟩)] w fun e w' => e = .returned (.string ⟨l.toArray⟩) ∧ Below base w w' := Tryd.Builder_String_any base g l w h hb

set_option maxHeartbeats 1000000 in
theorem show_any (p : Option Addr) (t : Option Tre) (w : World) (he : Env w) (h : TAt w p t) (hf : fits (oall t)) (h1 : osize t < 1073741824) :
    Calls Tryd.prog 18 #[.pointer p] w fun e w' => e = .returned (.string ⟨(oshow t).toArray⟩) ∧ Below w.heap.size w w' := by
  have hb0 : Below w.heap.size w (w.alloc (.cells #[.pointer none, .slice none 0 0] 82)) := (Below.refl _ _).alloc (Nat.le_refl _) _
  have H := Lib.hid (showIn_any p t w he h hf h1 w.heap.size (Nat.le_refl _) w.heap.size _ hb0 hb0.size (newBuilder w))
  have HB := Lib.hid hb0
  clear he h hf h1 hb0
  go_enter Tryd.func18, Tryd.ntmps18
  go_wp2_with fail
  ((with_reducible refine H.out.mono ?_); rintro e w1 ⟨rfl, hB, hb⟩)
  have B := Lib.hid (And.intro hB (HB.out.trans hb))
  clear hB hb H
  go_wp2_with fail
  ((with_reducible refine (string_any w.heap.size w.heap.size (oshow t) _ B.out.1 B.out.2.size).mono ?_); rintro e w2 ⟨rfl, hb2⟩)
  have B2 := Lib.hid (B.out.2.trans hb2)
  clear hb2 B
  go_wp2_with fail
  go_ret
  exact ⟨rfl, B2.out⟩

end Go.Proofs.YtlkpmafgokoaiaaDoor
