/-
  Contract of a pairing heap's Pop, by a meter or none: which heap it makes, how many comparisons and nodes the meter counts, that what was there stays but for the meter's block. Conditions: fewer than 2 to the 27th elements, counts below 2 to the 59th.
-/
import Derived.Test.YtpclafbolppgcaaDoorPd2c
import Derived.Test.YtpclafbolppgcaaDoorPd2d
import Derived.Test.YtpclafbolppgcaaDoorMa
namespace Go.Proofs.YtpclafbolppgcaaDoor
open Go.Sort Go.RowKit

/-- What Pop hands back. -/
def Popped (mo : Option Nat) (c m : Int) (t : Lh) (is : Bool) (w : World) (e : Ending) (w' : World) : Prop := ∃ p, e = .returned (.tuple #[hp p, .bool is]) ∧ LAt w' t p ∧ MAt w' mo c m ∧ Bt mo w w'

set_option maxRecDepth 100000 in
set_option maxHeartbeats 4000000 in
theorem pop_any (mo : Option Nat) (c m : Int) (h : Lh) (p : Option Addr) (w : World) (hs : h.size < 134217728) (hm : MAt w mo c m) (h0 : 0 ≤ c) (h1 : c < 576460752303423488) (h2 : 0 ≤ m) (h3 : m < 576460752303423487)
    (hh : LAt w h p) : Calls Tryd.prog 22 #[hp p, mAddr mo] w (Popped mo (c + h.popN) (m + h.popN) h.pop h.some w) := by
  cases h with
  | nil =>
    obtain rfl := hh
    have hb1 : Below w.heap.size w ((w.alloc (.cells #[.pointer none] 29)).alloc (.cells #[.pointer none] 29)) := ((Below.refl _ _).alloc (Nat.le_refl _) _).alloc (by simp) _
    have KK := Lib.hid (hm.stay hb1)
    have HB := Lib.hid (Bt.ofBelow (mo := mo) hb1)
    clear hm hb1 hs h0 h1 h2 h3
    go_enter Tryd.func22, Tryd.ntmps22
    go_wp2_with fail
    exact bodyPost_ret (v := .tuple #[hp none, .bool false]) (by simp [results, Tryd.results22, go_sem]) rfl ⟨_, rfl, rfl, by simpa [Lh.popN] using KK.out, HB.out⟩
  | node x ks =>
    obtain ⟨b, kp, rfl, hbh, hk⟩ := hh
    have K1 : Trk NodeT mo w c m ((w.alloc (.cells #[.pointer (some ⟨b, 0, none⟩)] 29)).alloc (.cells #[.pointer none] 29)) := ((Trk.refl hm).alloc _).alloc _
    have e2 : HVar ((w.alloc (.cells #[.pointer (some ⟨b, 0, none⟩)] 29)).alloc (.cells #[.pointer none] 29)) (w.heap.size + 1) none := HVar.at (by simp)
    have e1 : HVar ((w.alloc (.cells #[.pointer (some ⟨b, 0, none⟩)] 29)).alloc (.cells #[.pointer none] 29)) w.heap.size (some ⟨b, 0, none⟩) := HVar.alloc (HVar.at rfl) _
    obtain ⟨n, hn⟩ : ∃ n, n = ks.len := ⟨_, rfl⟩
    rw [← hn] at hbh
    have HL := Lib.hid (And.intro hbh (And.intro hk hn))
    have HN := Lib.hid (show ks.size < 134217728 ∧ 0 ≤ c ∧ c < 576460752303423488 ∧ 0 ≤ m ∧ m < 576460752303423487 from ⟨by simp only [Lh.size] at hs; omega, h0, h1, h2, h3⟩)
    have HE := Lib.hid (And.intro e1 e2)
    have KK := Lib.hid K1
    clear hbh hk hn hs h0 h1 h2 h3 K1 hm e1 e2
    go_enter Tryd.func22, Tryd.ntmps22
    have c2 := (five_kp HL.out.1 KK.out.kp).c2
    have c3 := (five_kp HL.out.1 KK.out.kp).c3
    go_wp2_with fail
    generalize (w.alloc (.cells #[.pointer (some ⟨b, 0, none⟩)] 29)).alloc (.cells #[.pointer none] 29) = w1 at *
    obtain ⟨a, ha⟩ : ∃ a, a = w.heap.size := ⟨_, rfl⟩
    rw [← ha] at HE ⊢
    have HA := Lib.hid ha
    clear ha
    ((with_reducible refine (paired_any mo c m ks kp n _ KK.out.mt HN.out.2.1 HN.out.2.2.1 HN.out.2.2.2.1 (by have := HN.out; omega) (HL.out.2.1.kp KK.out.kp) HL.out.2.2 HN.out.1).mono ?_); rintro e w6 ⟨p6, rfl, ht6, hm6, hb6⟩)
    have R6 := Lib.hid (HE.out.2.bt hb6 KK.out.mt)
    have K6 := Lib.hid (KK.out.turn hm6 hb6 node_ne)
    have T6 := Lib.hid ht6
    have r6 := R6.out.c0
    have z6 := R6.out.z0
    clear ht6 hm6 hb6 c2 c3
    go_wp2_with fail
    have hk := (K6.out.put R6.out heapT_ne (by decide) (by rw [← HA.out]; omega) 0 (.pointer p6))
    exact bodyPost_ret (v := .tuple #[hp p6, .bool true]) (by simp [results, Tryd.results22, go_sem, r6]) rfl ⟨_, rfl, T6.out.kp (Kpt.set R6.out heapT_ne 0 _), hk.mt, hk.bt⟩

end Go.Proofs.YtpclafbolppgcaaDoor
