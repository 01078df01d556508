/-
  Contracts of rank's rows: onto (a row's things, and a row's trees, behind a slice of the call's own), Beside, Kids, All: which lists they tell, as slices of the call's own; nothing that was there has changed. Condition: fewer than 2 to the 30th things.
-/
import Derived.Test.YtlmokendajgbdaaGreatDoorUb3
import Derived.Test.YtlmokendajgbdaaGreatDoorMb
import Derived.Deep.LoopGhost
import Derived.Deep.AppendLies
import Derived.Test.YtlmokendajgbdaaGreatDoorMa
namespace Go.Proofs.YtlmokendajgbdaaGreatDoor
open Go.Sort Go.RowKit Go.Proofs.YtlmokendajgbdaaGreatDoor.Gn

/-- A heap as a slice holds it. -/
def one0 (x : Thing) : Value := .pointer (some ⟨x.a, 0, none⟩)
/-- A slice of heaps of the call's own. -/
abbrev OwnT (w : World) (base : Nat) (v : Value) (xs : List Thing) : Prop := Mine one0 27 w base v xs
theorem infoH : (Tryz.prog.info? 27).map (fun i => (i.zero, i.size, i.bytes)) = some (some (.pointer none), 1, 8) := by kernel_rfl

/-- One thing more behind a slice of the call's own. -/
theorem append_thing (w : World) (base : Nat) (v : Value) (xs : List Thing) (x : Thing) (hown : OwnT w base v xs) (hlen : xs.length < 1073741824) (hb : base ≤ w.heap.size) :
    ∃ v' w', (Builtin.append_ #[134, 134] 134 #[v, .slice (some ⟨w.heap.size, 0, none⟩) 1 1]).run Tryz.prog (w.alloc (.cells #[.pointer (some ⟨x.a, 0, none⟩)] 27)) = .ok v' w' ∧ OwnT w' base v' (xs ++ [x]) ∧ Below base w w' := by
  obtain ⟨i0, hi, hz0, hz1, hz2⟩ := info_parts infoH
  have hown' : (w.alloc (.cells #[.pointer (some ⟨x.a, 0, none⟩)] 27)).ownsRow base 27 1 v xs.length (xs.map one0) := World.ownsRow.alloc hown _
  obtain ⟨g, c, w', h1, h2, h3, -, -⟩ := run_append_lies (P := Tryz.prog) (w := w.alloc (.cells #[.pointer (some ⟨x.a, 0, none⟩)] 27)) 134 134 base 27 i0 _ 1 8 Tryz.underlying134 hi hz0 hz1 hz2 rfl (by omega)
    _ xs.length (xs.map one0) hown' ⟨w.heap.size, 0, none⟩ 1 1 [.pointer (some ⟨x.a, 0, none⟩)] rfl
    (fun j u hu => by
      rw [add_flat]
      have e1 : (w.alloc (.cells #[.pointer (some ⟨x.a, 0, none⟩)] 27)).heap[w.heap.size]? = some (.cells #[.pointer (some ⟨x.a, 0, none⟩)] 27 (0, 0)) := new_at rfl
      unfold World.cell?
      rw [e1]
      simpa using hu) (by intro u hu; simp at hu; subst hu; rfl) (by omega) (by unfold maxLen; omega) (by omega) (by simp; omega) _ rfl
  refine ⟨_, w', h1, ?_, below_grown ((Below.refl _ _).alloc hb _) h3 (by simp; omega) (fun g hg => hown.block g hg)⟩
  unfold OwnT Mine
  rw [List.length_append, List.map_append]
  exact h2

/-- What a call hands back that puts things behind a slice of the call's own: the base, what was there. -/
def PutT (base : Nat) (xs : List Thing) (w : World) (e : Ending) (w' : World) : Prop := ∃ v, e = .returned v ∧ OwnT w' base v xs ∧ Below base w w'

set_option maxRecDepth 100000 in
set_option maxHeartbeats 2000000 in
theorem rowOnto_any (w0 : World) (bs : List Thing) (p : Option Addr) (hp : BAt w0 bs p) (base : Nat) (hb0 : w0.heap.size ≤ base) (v : Value) (ys : List Thing) (w : World) (hW : Below w0.heap.size w0 w) (hbw : base ≤ w.heap.size) (hv : OwnT w base v ys) (hl : ys.length + bs.length < 1073741824) :
    Calls Tryz.prog 100 #[.pointer p, v] w (PutT base (ys ++ bs) w) := by
  go_enter Tryz.func100, Tryz.ntmps100
  go_wp2_with fail
  have H := Lib.hid (And.intro hp (And.intro hv (And.intro hW hl)))
  clear hp hv hW hl
  go_loopg [0, 1] bs.length (fun k c u wr => ∃ (pre rest : List Thing) (q : Option Addr), c = .pointer q ∧ bs = pre ++ rest ∧ k = rest.length ∧ BAt w0 rest q ∧ OwnT wr base u (ys ++ pre) ∧ Below base w wr)
  case atStart => exact ⟨[], bs, p, rfl, rfl, rfl, H.out.1, by rw [List.append_nil]; exact H.out.2.1, Below.refl _ _⟩
  case round =>
    obtain ⟨pre, rest, q, rfl, hx, hk, hr, hown, hbe⟩ := hrel
    have hbw2 : base ≤ wr.heap.size := Nat.le_trans hbw hbe.size
    cases rest with
    | nil =>
      obtain rfl := hr
      have A := Lib.hid (And.intro hx (And.intro hown hbe))
      clear hx hown hbe hk
      go_wp2_with fail
      go_ret
      obtain ⟨hx, hown, hbe⟩ := A.out
      rw [List.append_nil] at hx
      exact ⟨_, rfl, by rw [hx]; exact hown, hbe⟩
    | cons x rest =>
      obtain ⟨b, q', rfl, hh, -, hr'⟩ := hr
      have hb0' : Below w0.heap.size w0 wr := H.out.2.2.1.trans (hbe.mono hb0)
      have hlt := lt_of_heap hh
      have hh1 := (hb0'.block b hlt).trans hh
      have c0 : wr.cell? ⟨b, 0, none⟩ = some (.pointer (some ⟨x.a, 0, none⟩)) := by simp [World.cell?, hh1]
      have hlen : (ys ++ pre).length < 1073741824 := by
        have h1 := congrArg List.length hx
        have h2 := H.out.2.2.2
        simp only [List.length_append, List.length_cons] at h1 ⊢
        omega
      obtain ⟨u', w2, hrun, hown2, hb2⟩ := append_thing wr base _ (ys ++ pre) x hown hlen hbw2
      have hb2' : Below w0.heap.size w0 w2 := hb0'.trans (hb2.mono hb0)
      have hh2 := (hb2'.block b hlt).trans hh
      have c2 : w2.cell? ⟨b, 1, none⟩ = some (.pointer q') := by simp [World.cell?, hh2]
      have A := Lib.hid (And.intro hx (And.intro hown2 (And.intro (hbe.trans hb2) (And.intro hr' hk))))
      clear hx hown hbe hown2 hb2 hb2' hr' hh hh1 hh2 hb0' hk hlen
      go_wp2_with (at_builtin; refine wpList_append_run rfl _ _ _ rfl _ _ _ _ rfl rfl hrun ?_)
      obtain ⟨hx, hown2, hbe, hr', hk⟩ := A.out
      go_roundg rest.length
      case measure => rw [hk]; simp
      case rel => exact ⟨pre ++ [x], rest, q', rfl, by rw [hx]; simp, rfl, hr', by rw [← List.append_assoc]; exact hown2, hbe⟩

end Go.Proofs.YtlmokendajgbdaaGreatDoor
