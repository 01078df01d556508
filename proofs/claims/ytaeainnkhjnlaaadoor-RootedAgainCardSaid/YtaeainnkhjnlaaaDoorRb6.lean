/-
  Contract of a rooted heap's Show: its text; nothing that was there has changed. Conditions: elements of 64-bit numbers, fewer than 2 to the 28th, the library's table as it is laid.
-/
import Derived.Test.YtaeainnkhjnlaaaDoorRb2
import Derived.Test.YtaeainnkhjnlaaaDoorSb9
namespace Go.Proofs.YtaeainnkhjnlaaaDoor.Ro
open Go.Sort Go.RowKit

theorem sk_show_length (o : Sk) (h : fits o.all) : o.show.length ≤ 47 * o.size + 1 := by
  obtain ⟨l⟩ := o
  cases l with
  | nil => show 1 ≤ _; omega
  | cons t r =>
    have h1 := Hp.tre_show_length t (show fits (t.all ++ bAll r) from h).append.1
    have h2 := Hp.bTail_length r (show fits (t.all ++ bAll r) from h).append.2
    show (t.show ++ bTail r).length ≤ 47 * (t.size + bSize r) + 1
    rw [List.length_append]
    omega
set_option maxRecDepth 100000 in
set_option maxHeartbeats 2000000 in
theorem show_any (t : Lh) (p : Option Addr) (w : World) (he : Env w) (h : LAt w t p) (hf : fits t.all) (hs : t.size < 268435456) : Calls Tryd.prog 26 #[hp p] w fun e w' => e = .returned (.string ⟨t.show.toArray⟩) ∧ Below w.heap.size w w' := by
  have hb1 : Below w.heap.size w (w.alloc (.cells #[.pointer p] 26)) := (Below.refl _ _).alloc (Nat.le_refl _) _
  have hv : HVar (w.alloc (.cells #[.pointer p] 26)) w.heap.size p := new_at rfl
  cases t with
  | nil =>
    obtain rfl := h
    go_enter Tryd.func26, Tryd.ntmps26
    go_wp2_with fail
    go_ret
    exact ⟨rfl, hb1⟩
  | node x o =>
    obtain ⟨x1, x2⟩ := x
    obtain ⟨b, q, rfl, hb, ho⟩ := h
    have hx : in64 x1 ∧ in64 x2 := (show fits ((x1, x2) :: o.all) from hf).cons.1
    have hfo : fits o.all := (show fits ((x1, x2) :: o.all) from hf).cons.2
    have hso : o.size < 268435456 := by simp only [Lh.size] at hs; omega
    have hlt := textOf_length x1 x2 hx.1 hx.2
    have hlo := sk_show_length o hfo
    have k := four_kp hb (Kpt.below hb1)
    have c0 := hv.c0
    have c1 := k.c0
    have c2 := k.c1
    have H := Lib.hid (And.intro hb1 (And.intro (he.below hb1) (Hp.LAt.stay ho hb1)))
    have HX := Lib.hid (And.intro hx (And.intro hfo hso))
    have HV := Lib.hid hv
    have HK := Lib.hid k
    have HS := Lib.hid (show (Lh.node (x1, x2) o).show = textOf x1 x2 ++ 32 :: o.show from rfl)
    obtain ⟨u, hu⟩ : ∃ u, u = textOf x1 x2 := ⟨_, rfl⟩
    obtain ⟨v, hv2⟩ : ∃ u, u = o.show := ⟨_, rfl⟩
    rw [← hu] at hlt
    rw [← hv2] at hlo
    have HU := Lib.hid (And.intro hu hv2)
    have n1 : ¬ 9223372036854775807 < u.length + 1 := by omega
    have n2 : ¬ 9223372036854775807 < u.length + 1 + v.length := by omega
    clear k hv hb1 hb ho he hf hs hx hfo hso hlt hlo hu hv2
    go_enter Tryd.func26, Tryd.ntmps26
    go_wp2_with fail
    obtain ⟨a, ha⟩ : ∃ a, a = w.heap.size := ⟨_, rfl⟩
    rw [← ha] at HV c0 ⊢
    generalize w.alloc (.cells #[.pointer (some ⟨b, 0, none⟩)] 26) = w1 at *
    have HA := Lib.hid ha
    clear ha c0 c1 c2
    have kc0 := fun d os => cell_regrown HV.out.c0 d os
    have kc1 := fun d os => cell_regrown HK.out.c0 d os
    have kc2 := fun d os => cell_regrown HK.out.c1 d os
    have kc3 := fun d os => cell_regrown HK.out.c2 d os
    have kc4 := fun d os => cell_regrown HK.out.c3 d os
    have HC1 := Lib.hid (fun d os => in_class (w := w1) (fun W hb => ((text_any x1 x2 HX.out.1.1 HX.out.1.2 W (H.out.2.1.below hb)).mono fun _ _ ⟨he, hb2⟩ => ⟨(show _ = Ending.returned (.string ⟨u.toArray⟩) by rw [he, HU.out.1]), hb2⟩)) d os)
    have HC2 := Lib.hid (fun d os => in_class (w := w1) (fun W hb => ((Hp.show_any o q W (H.out.2.1.below hb) (Hp.LAt.stay H.out.2.2 hb) HX.out.2.1 HX.out.2.2).mono fun _ _ ⟨he, hb2⟩ => ⟨(show _ = Ending.returned (.string ⟨v.toArray⟩) by rw [he, HU.out.2]), hb2⟩)) d os)
    rw [world_self w1]
    generalize w1.drawn = d0
    generalize (#[] : Array Obj) = os0
    refine wp_region_class (by kernel_rfl) (by kernel_rfl) ?_
    repeat (go_big_quiet_step (first | (with_reducible exact HC1.out _ _) | (with_reducible exact HC2.out _ _) | fail))
    refine wpQuiet_nil ?_
    intro _ hw'
    obtain ⟨⟨dq, osq⟩, hw''⟩ := hw'
    subst hw''
    have HB := Lib.hid (H.out.1.trans ((below_regrown w1 dq osq).mono H.out.1.size))
    clear kc0 kc1 kc2 kc3 kc4
    go_wp2_with fail
    go_ret
    refine ⟨?_, HB.out⟩
    rw [HS.out, ← HU.out.1, ← HU.out.2, show (⟨#[32]⟩ : ByteArray) = ⟨[32].toArray⟩ from rfl, append_bytes, append_bytes]
    simp

end Go.Proofs.YtaeainnkhjnlaaaDoor.Ro
