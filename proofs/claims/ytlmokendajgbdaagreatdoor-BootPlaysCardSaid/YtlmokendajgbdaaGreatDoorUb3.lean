/-
  Contracts of rank.Size, Rank, Root: what each tells of a tree, or of none; nothing that was there has changed. Condition: fewer than 2 to the 30th things.
-/
import Derived.Test.YtlmokendajgbdaaGreatDoorUb2
import Derived.Deep.RegionHeld3
import Derived.Deep.DrawnRows
namespace Go.Proofs.YtlmokendajgbdaaGreatDoor
open Go.Sort Go.RowKit Go.Proofs.YtlmokendajgbdaaGreatDoor.Gn

set_option maxHeartbeats 1000000 in
theorem size_none (w : World) : Calls Tryz.prog 114 #[.pointer none] w fun e w' => e = .returned (.int .i64 0) ∧ w' = w := by
  go_enter Tryz.func114, Tryz.ntmps114
  go_wp2
  go_ret
  exact ⟨rfl, rfl⟩

set_option maxHeartbeats 1000000 in
theorem size_at {b : Nat} {x : Thing} {bp kp : Option Addr} {r o : Int} (w : World) (h : Six w b x bp r kp o) (h0 : 0 ≤ o) (h1 : o < 1073741824) :
    Calls Tryz.prog 114 #[.pointer (some ⟨b, 0, none⟩)] w fun e w' => e = .returned (.int .i64 (o + 1)) ∧ w' = w := by
  have c5 := h.c5
  clear h
  go_enter Tryz.func114, Tryz.ntmps114
  go_wp2
  go_ret
  exact ⟨rfl, rfl⟩

theorem size_any (p : Option Addr) (t : Option Tre) (w : World) (h : TAt w p t) (h1 : osize t < 1073741824) : Calls Tryz.prog 114 #[.pointer p] w fun e w' => e = .returned (.int .i64 (osize t : Nat)) ∧ w' = w := by
  cases t with
  | none => obtain rfl := h; exact size_none w
  | some t =>
    obtain ⟨b, rfl, bp, kp, hb, -⟩ := h
    simp only [osize, Gn.Tre.size] at h1 ⊢
    refine (size_at w (six hb) (by omega) (by omega)).mono fun e w' ⟨he, hw⟩ => ⟨by rw [he]; congr 2; omega, hw⟩

/-- What Rank tells. -/
def orank : Option Tre → Int
  | none => -1
  | some t => t.ks.len

set_option maxHeartbeats 1000000 in
theorem rank_any (p : Option Addr) (t : Option Tre) (w : World) (h : TAt w p t) : Calls Tryz.prog 63 #[.pointer p] w fun e w' => e = .returned (.int .i64 (orank t)) ∧ w' = w := by
  cases t with
  | none =>
    obtain rfl := h
    go_enter Tryz.func63, Tryz.ntmps63
    go_wp2
    go_ret
    exact ⟨rfl, rfl⟩
  | some t =>
    obtain ⟨b, rfl, bp, kp, hb, -⟩ := h
    have c3 := (six hb).c3
    clear hb
    go_enter Tryz.func63, Tryz.ntmps63
    go_wp2
    go_ret
    exact ⟨rfl, rfl⟩

/-- What Root tells. -/
def rootV : Option Tre → Value
  | none => .tuple #[.pointer none, .bool false]
  | some t => .tuple #[hv t.x, .bool true]

set_option maxHeartbeats 1000000 in
theorem root_any (p : Option Addr) (t : Option Tre) (w : World) (h : TAt w p t) : Calls Tryz.prog 70 #[.pointer p] w fun e w' => e = .returned (rootV t) ∧ Below w.heap.size w w' := by
  cases t with
  | none =>
    obtain rfl := h
    go_enter Tryz.func70, Tryz.ntmps70
    go_wp2
    refine bodyPost_ret (v := rootV none) (by simp [results, Tryz.results70, go_sem, rootV]) rfl ⟨rfl, ?_⟩
    exact Below.refl _ _
  | some t =>
    obtain ⟨b, rfl, bp, kp, hb, -⟩ := h
    obtain ⟨x, bs, ks⟩ := t
    have h6 := six hb
    have c0 := h6.c0
    clear hb h6
    go_enter Tryz.func70, Tryz.ntmps70
    go_wp2
    refine bodyPost_ret (v := rootV (some ⟨x, bs, ks⟩)) (by simp [results, Tryz.results70, go_sem, rootV]) rfl ⟨rfl, ?_⟩
    exact Below.refl _ _

end Go.Proofs.YtlmokendajgbdaaGreatDoor
