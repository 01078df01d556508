/-
  Contract of rank.Link: of two trees, or none: which tree it makes, how many steps the meter counts, and that only the meter's block has turned. Conditions: fewer than 2 to the 29th things each, counts below 2 to the 61st.
  Contracts of rank's rows: onto (a row's things, and a row's trees, behind a slice of the call's own), Beside, Kids, All: which lists they tell, as slices of the call's own; nothing that was there has changed. Condition: fewer than 2 to the 30th things.
  Contracts of rank.Beside, Kids and All: which lists they tell, as slices of the call's own; nothing that was there has changed. Condition: fewer than 2 to the 29th things.
  Contract of rank.Kids: the addresses of a tree's kids, as a slice of the call's own; nothing that was there has changed. Condition: fewer than 2 to the 30th kids.
-/
import Derived.Test.YtaeainnkhjnlaaaGreatDoorTa
import Derived.Test.YtaeainnkhjnlaaaGreatDoorMb
import Derived.Deep.LoopGhost
import Derived.Test.YtaeainnkhjnlaaaGreatDoorMa
import Derived.Deep.AppendLies
namespace Go.Proofs.YtaeainnkhjnlaaaGreatDoor
open Go.Sort Go.RowKit

set_option maxHeartbeats 1000000 in
/-- The first one is none: the other one, as it is. -/
theorem link_left (mo : Option Nat) (q : Option Addr) (w : World) : Calls Tryz.prog 77 #[mAddr mo, .pointer none, .pointer q] w fun e w' => e = .returned (.pointer q) ∧ w' = w := by
  go_enter Tryz.func77, Tryz.ntmps77
  go_wp2_with fail
  go_ret
  exact ⟨rfl, rfl⟩

set_option maxHeartbeats 1000000 in
/-- The second one is none. -/
theorem link_right (mo : Option Nat) (b : Nat) (w : World) : Calls Tryz.prog 77 #[mAddr mo, .pointer (some ⟨b, 0, none⟩), .pointer none] w fun e w' => e = .returned (.pointer (some ⟨b, 0, none⟩)) ∧ w' = w := by
  go_enter Tryz.func77, Tryz.ntmps77
  go_wp2_with fail
  go_ret
  exact ⟨rfl, rfl⟩

/-- What the walk wants of a tree's block: its cells, in whatever world blocks of trees have stayed. -/
theorem six_kp {W W' : World} {b : Nat} {x : Int × Int} {bp kp : Option Addr} {r o : Int} (h : W.heap[b]? = some (treeObj x bp r kp o)) (hk : Kp W W') : Six W' b x bp r kp o := six (hk b _ _ (.inl rfl) h)

/-- How far a call has come: the meter's counts, what has stayed. -/
structure Tkk (mo : Option Nat) (w : World) (c m : Int) (w' : World) : Prop where
  bt : Bt mo w w'
  mt : MAt w' mo c m
  kp : Kp w w'
section
variable {mo : Option Nat} {w w' w'' : World} {c m c' m' : Int}
theorem Tkk.refl (h : MAt w mo c m) : Tkk mo w c m w := ⟨Bt.refl _ _, h, Kpt.refl _⟩
theorem Tkk.stay (h : Tkk mo w c m w') (hb : Below w'.heap.size w' w'') : Tkk mo w c m w'' := ⟨h.bt.trans (Bt.ofBelow hb), h.mt.stay hb, h.kp.trans (Kp.below hb)⟩
theorem Tkk.alloc (h : Tkk mo w c m w') (o : Obj) : Tkk mo w c m (w'.alloc o) := h.stay ((Below.refl _ _).alloc (Nat.le_refl _) o)
theorem Tkk.drew (h : Tkk mo w c m w') : Tkk mo w c m w'.drew := h.stay ((Below.refl _ _).drew)
theorem Tkk.turn (h : Tkk mo w c m w') (hm : MAt w'' mo c' m') (hb : Bt mo w' w'') : Tkk mo w c' m' w'' := ⟨h.bt.trans hb, hm, h.kp.trans (hb.kpt h.mt tree_ne)⟩
end

set_option maxRecDepth 100000 in
set_option maxHeartbeats 4000000 in
theorem link_true (mo : Option Nat) (c m : Int) (a b : Nat) (x1 x2 y1 y2 : Int) (aas bbs : List (Int × Int)) (aks bks : Wood) (w : World) (hv : ltE (y1, y2) (x1, x2) = true) (hm : MAt w mo c m) (h0 : 0 ≤ c) (h1 : c < 2305843009213693952) (h2 : 0 ≤ m) (h3 : m < 2305843009213693952)
    (ha : NAt w a ⟨(x1, x2), aas, aks⟩) (hb : NAt w b ⟨(y1, y2), bbs, bks⟩) (ka : 1 + aas.length + aks.size < 536870912) (kb : 1 + bbs.length + bks.size < 536870912) :
    Calls Tryz.prog 77 #[mAddr mo, .pointer (some ⟨a, 0, none⟩), .pointer (some ⟨b, 0, none⟩)] w (Gave mo (c + 1) (m + 1) (some ⟨(y1, y2), bbs, .cons (x1, x2) aas aks bks⟩) w) := by
  obtain ⟨ap, akp, hah, hab, haw⟩ := ha
  obtain ⟨bp, bkp, hbh, hbb, hbw⟩ := hb
  have h6 := six_kp hah (Kpt.refl w)
  have g6 := six_kp hbh (Kpt.refl w)
  have a0 := h6.c0
  have a1 := h6.c1
  have b0 := g6.c0
  have b1 := g6.c1
  have HM := Lib.hid hm
  have HA := Lib.hid hah
  have HB := Lib.hid hbh
  have HL := Lib.hid (And.intro hab (And.intro haw (And.intro hbb hbw)))
  have HV := Lib.hid hv
  have HK := Lib.hid (And.intro ka kb)
  have HR := Lib.hid (And.intro aks.len_le bks.len_le)
  clear hm hah hbh hab haw hbb hbw h6 g6 hv ka kb
  go_enter Tryz.func77, Tryz.ntmps77
  go_wp2_with fail
  go_region_held3 (fun w' => w'.cell? ⟨a, 0, none⟩ = some (.int .i64 x1) ∧ w'.cell? ⟨a, 1, none⟩ = some (.int .i64 x2) ∧ w'.cell? ⟨b, 0, none⟩ = some (.int .i64 y1) ∧ w'.cell? ⟨b, 1, none⟩ = some (.int .i64 y2)) (go_keep)
    (first | (go_at_call 42; ((with_reducible refine (mLess mo c m (y1, y2) (x1, x2) _ K2.out.mt h0 (by omega)).mono ?_); rintro e w3 ⟨rfl, hm3, hb3⟩; rw [HV.out]; have K3 := Lib.hid (K2.out.turn hm3 hb3); have f0 := (six_kp HA.out K3.out.kp).c0; have f1 := (six_kp HA.out K3.out.kp).c1; have f2 := (six_kp HB.out K3.out.kp).c0; have f3 := (six_kp HB.out K3.out.kp).c1; clear hm3 hb3)) | (go_at_call 78; ((with_reducible refine (key_any (y1, y2) _).mono ?_); rintro e w1 ⟨rfl, hb1⟩; have K1 := Lib.hid ((Tkk.refl HM.out).drew.stay hb1); have d0 := (six_kp HA.out K1.out.kp).c0; have d1 := (six_kp HA.out K1.out.kp).c1; have d2 := (six_kp HB.out K1.out.kp).c0; have d3 := (six_kp HB.out K1.out.kp).c1; clear hb1)) | (go_at_call 78; ((with_reducible refine (key_any (x1, x2) _).mono ?_); rintro e w2 ⟨rfl, hb2⟩; have K2 := Lib.hid (K1.out.stay hb2); have e0 := (six_kp HA.out K2.out.kp).c0; have e1 := (six_kp HA.out K2.out.kp).c1; have e2 := (six_kp HB.out K2.out.kp).c0; have e3 := (six_kp HB.out K2.out.kp).c1; clear hb2)))
  clear a0 a1 b0 b1 d0 d1 d2 d3 e0 e1 e2 e3 f0 f1 f2 f3 K1 K2 HM
  go_wp2_with fail
  ((with_reducible refine (mMade mo (c + 1) m _ K3.out.mt h2 (by omega)).mono ?_); rintro e w4 ⟨rfl, hm4, hb4⟩)
  have K4 := Lib.hid (K3.out.turn hm4 hb4)
  clear hm4 hb4 K3
  have s6 := six_kp HB.out K4.out.kp
  have c0 := s6.c0
  have c1 := s6.c1
  have c2 := s6.c2
  have c3 := s6.c3
  have c4 := s6.c4
  have c5 := s6.c5
  clear s6
  go_wp2_with fail
  go_region_held3 (fun w' => w'.cell? ⟨b, 0, none⟩ = some (.int .i64 y1) ∧ w'.cell? ⟨b, 1, none⟩ = some (.int .i64 y2) ∧ w'.cell? ⟨b, 2, none⟩ = some (.pointer bp) ∧ w'.cell? ⟨b, 3, none⟩ = some (.int .i64 (bks.len : Int)) ∧ w'.cell? ⟨b, 4, none⟩ = some (.pointer bkp) ∧ w'.cell? ⟨b, 5, none⟩ = some (.int .i64 (bbs.length + bks.size : Nat))) (go_keep)
    (first | (go_at_call 99; ((with_reducible refine (pushT_any (some ⟨a, 0, none⟩) bkp _).mono ?_); rintro e w5 ⟨rfl, hw5⟩; have P5 := Lib.hid (show w5.heap[w4.drew.heap.size]? = some (.cells #[.pointer (some ⟨a, 0, none⟩), .pointer bkp] 167 (0, 0)) by rw [hw5]; exact new_at rfl); have K5 := Lib.hid (show Tkk mo w (c + 1) (m + 1) w5 by rw [hw5]; exact K4.out.drew.alloc _); have s6 := six_kp HB.out K5.out.kp; have d0 := s6.c0; have d1 := s6.c1; have d2 := s6.c2; have d3 := s6.c3; have d4 := s6.c4; have d5 := s6.c5; clear hw5 s6)) | (go_at_call 74; ((with_reducible refine (size_at _ (six_kp HA.out K5.out.kp) (by omega) (by have := HK.out; omega)).mono ?_); rintro e w6 ⟨rfl, rfl⟩)))
  clear c0 c1 c2 c3 c4 c5 d0 d1 d2 d3 d4 d5
  go_wp2_with fail
  go_ret
  obtain ⟨ka, kb⟩ := HK.out
  obtain ⟨ra, rb⟩ := HR.out
  have e1 : IntKind.i64.wrap ((bks.len : Int) + 1) = ((Wood.cons (x1, x2) aas aks bks).len : Int) := by rw [IntKind.wrap_i64]; simp only [Wood.len]; omega
  have e2 : IntKind.i64.wrap ((bbs.length : Int) + bks.size + ((aas.length : Int) + aks.size + 1)) = ((bbs.length + (Wood.cons (x1, x2) aas aks bks).size : Nat) : Int) := by rw [IntKind.wrap_i64]; simp only [Wood.size]; omega
  rw [e1, e2]
  obtain ⟨hab, haw, hbb, hbw⟩ := HL.out
  have hk := (K5.out.alloc (treeObj (y1, y2) bp ((Wood.cons (x1, x2) aas aks bks).len : Int) (some ⟨w4.heap.size, 0, none⟩) ((bbs.length + (Wood.cons (x1, x2) aas aks bks).size : Nat) : Int)))
  refine ⟨_, rfl, ⟨w6.heap.size, rfl, bp, some ⟨w4.heap.size, 0, none⟩, new_at rfl, (hbb).kp hk.kp, ⟨w4.heap.size, a, bkp, ap, akp, rfl, ?_, hk.kp _ _ _ (.inl rfl) HA.out, (hab).kp hk.kp, (haw).kp hk.kp, (hbw).kp hk.kp⟩⟩, hk.mt, hk.bt⟩
  exact (Kp.below ((Below.refl _ _).alloc (Nat.le_refl _) _)) _ _ _ (.inr (.inr rfl)) P5.out

set_option maxRecDepth 100000 in
set_option maxHeartbeats 4000000 in
theorem link_false (mo : Option Nat) (c m : Int) (a b : Nat) (x1 x2 y1 y2 : Int) (aas bbs : List (Int × Int)) (aks bks : Wood) (w : World) (hv : ltE (y1, y2) (x1, x2) = false) (hm : MAt w mo c m) (h0 : 0 ≤ c) (h1 : c < 2305843009213693952) (h2 : 0 ≤ m) (h3 : m < 2305843009213693952)
    (ha : NAt w a ⟨(x1, x2), aas, aks⟩) (hb : NAt w b ⟨(y1, y2), bbs, bks⟩) (ka : 1 + aas.length + aks.size < 536870912) (kb : 1 + bbs.length + bks.size < 536870912) :
    Calls Tryz.prog 77 #[mAddr mo, .pointer (some ⟨a, 0, none⟩), .pointer (some ⟨b, 0, none⟩)] w (Gave mo (c + 1) (m + 1) (some ⟨(x1, x2), aas, .cons (y1, y2) bbs bks aks⟩) w) := by
  obtain ⟨ap, akp, hah, hab, haw⟩ := ha
  obtain ⟨bp, bkp, hbh, hbb, hbw⟩ := hb
  have h6 := six_kp hah (Kpt.refl w)
  have g6 := six_kp hbh (Kpt.refl w)
  have a0 := h6.c0
  have a1 := h6.c1
  have b0 := g6.c0
  have b1 := g6.c1
  have HM := Lib.hid hm
  have HA := Lib.hid hah
  have HB := Lib.hid hbh
  have HL := Lib.hid (And.intro hab (And.intro haw (And.intro hbb hbw)))
  have HV := Lib.hid hv
  have HK := Lib.hid (And.intro ka kb)
  have HR := Lib.hid (And.intro aks.len_le bks.len_le)
  clear hm hah hbh hab haw hbb hbw h6 g6 hv ka kb
  go_enter Tryz.func77, Tryz.ntmps77
  go_wp2_with fail
  go_region_held3 (fun w' => w'.cell? ⟨a, 0, none⟩ = some (.int .i64 x1) ∧ w'.cell? ⟨a, 1, none⟩ = some (.int .i64 x2) ∧ w'.cell? ⟨b, 0, none⟩ = some (.int .i64 y1) ∧ w'.cell? ⟨b, 1, none⟩ = some (.int .i64 y2)) (go_keep)
    (first | (go_at_call 42; ((with_reducible refine (mLess mo c m (y1, y2) (x1, x2) _ K2.out.mt h0 (by omega)).mono ?_); rintro e w3 ⟨rfl, hm3, hb3⟩; rw [HV.out]; have K3 := Lib.hid (K2.out.turn hm3 hb3); have f0 := (six_kp HA.out K3.out.kp).c0; have f1 := (six_kp HA.out K3.out.kp).c1; have f2 := (six_kp HB.out K3.out.kp).c0; have f3 := (six_kp HB.out K3.out.kp).c1; clear hm3 hb3)) | (go_at_call 78; ((with_reducible refine (key_any (y1, y2) _).mono ?_); rintro e w1 ⟨rfl, hb1⟩; have K1 := Lib.hid ((Tkk.refl HM.out).drew.stay hb1); have d0 := (six_kp HA.out K1.out.kp).c0; have d1 := (six_kp HA.out K1.out.kp).c1; have d2 := (six_kp HB.out K1.out.kp).c0; have d3 := (six_kp HB.out K1.out.kp).c1; clear hb1)) | (go_at_call 78; ((with_reducible refine (key_any (x1, x2) _).mono ?_); rintro e w2 ⟨rfl, hb2⟩; have K2 := Lib.hid (K1.out.stay hb2); have e0 := (six_kp HA.out K2.out.kp).c0; have e1 := (six_kp HA.out K2.out.kp).c1; have e2 := (six_kp HB.out K2.out.kp).c0; have e3 := (six_kp HB.out K2.out.kp).c1; clear hb2)))
  clear a0 a1 b0 b1 d0 d1 d2 d3 e0 e1 e2 e3 f0 f1 f2 f3 K1 K2 HM
  go_wp2_with fail
  ((with_reducible refine (mMade mo (c + 1) m _ K3.out.mt h2 (by omega)).mono ?_); rintro e w4 ⟨rfl, hm4, hb4⟩)
  have K4 := Lib.hid (K3.out.turn hm4 hb4)
  clear hm4 hb4 K3
  have s6 := six_kp HA.out K4.out.kp
  have c0 := s6.c0
  have c1 := s6.c1
  have c2 := s6.c2
  have c3 := s6.c3
  have c4 := s6.c4
  have c5 := s6.c5
  clear s6
  go_wp2_with fail
  go_region_held3 (fun w' => w'.cell? ⟨a, 0, none⟩ = some (.int .i64 x1) ∧ w'.cell? ⟨a, 1, none⟩ = some (.int .i64 x2) ∧ w'.cell? ⟨a, 2, none⟩ = some (.pointer ap) ∧ w'.cell? ⟨a, 3, none⟩ = some (.int .i64 (aks.len : Int)) ∧ w'.cell? ⟨a, 4, none⟩ = some (.pointer akp) ∧ w'.cell? ⟨a, 5, none⟩ = some (.int .i64 (aas.length + aks.size : Nat))) (go_keep)
    (first | (go_at_call 99; ((with_reducible refine (pushT_any (some ⟨b, 0, none⟩) akp _).mono ?_); rintro e w5 ⟨rfl, hw5⟩; have P5 := Lib.hid (show w5.heap[w4.drew.heap.size]? = some (.cells #[.pointer (some ⟨b, 0, none⟩), .pointer akp] 167 (0, 0)) by rw [hw5]; exact new_at rfl); have K5 := Lib.hid (show Tkk mo w (c + 1) (m + 1) w5 by rw [hw5]; exact K4.out.drew.alloc _); have s6 := six_kp HA.out K5.out.kp; have d0 := s6.c0; have d1 := s6.c1; have d2 := s6.c2; have d3 := s6.c3; have d4 := s6.c4; have d5 := s6.c5; clear hw5 s6)) | (go_at_call 74; ((with_reducible refine (size_at _ (six_kp HB.out K5.out.kp) (by omega) (by have := HK.out; omega)).mono ?_); rintro e w6 ⟨rfl, rfl⟩)))
  clear c0 c1 c2 c3 c4 c5 d0 d1 d2 d3 d4 d5
  go_wp2_with fail
  go_ret
  obtain ⟨ka, kb⟩ := HK.out
  obtain ⟨ra, rb⟩ := HR.out
  have e1 : IntKind.i64.wrap ((aks.len : Int) + 1) = ((Wood.cons (y1, y2) bbs bks aks).len : Int) := by rw [IntKind.wrap_i64]; simp only [Wood.len]; omega
  have e2 : IntKind.i64.wrap ((aas.length : Int) + aks.size + ((bbs.length : Int) + bks.size + 1)) = ((aas.length + (Wood.cons (y1, y2) bbs bks aks).size : Nat) : Int) := by rw [IntKind.wrap_i64]; simp only [Wood.size]; omega
  rw [e1, e2]
  obtain ⟨hab, haw, hbb, hbw⟩ := HL.out
  have hk := (K5.out.alloc (treeObj (x1, x2) ap ((Wood.cons (y1, y2) bbs bks aks).len : Int) (some ⟨w4.heap.size, 0, none⟩) ((aas.length + (Wood.cons (y1, y2) bbs bks aks).size : Nat) : Int)))
  refine ⟨_, rfl, ⟨w6.heap.size, rfl, ap, some ⟨w4.heap.size, 0, none⟩, new_at rfl, (hab).kp hk.kp, ⟨w4.heap.size, b, akp, bp, bkp, rfl, ?_, hk.kp _ _ _ (.inl rfl) HB.out, (hbb).kp hk.kp, (hbw).kp hk.kp, (haw).kp hk.kp⟩⟩, hk.mt, hk.bt⟩
  exact (Kp.below ((Below.refl _ _).alloc (Nat.le_refl _) _)) _ _ _ (.inr (.inr rfl)) P5.out

theorem link_two (mo : Option Nat) (c m : Int) (a b : Nat) (ta tb : Tre) (w : World) (hm : MAt w mo c m) (h0 : 0 ≤ c) (h1 : c < 2305843009213693952) (h2 : 0 ≤ m) (h3 : m < 2305843009213693952)
    (ha : NAt w a ta) (hb : NAt w b tb) (ka : ta.size < 536870912) (kb : tb.size < 536870912) :
    Calls Tryz.prog 77 #[mAddr mo, .pointer (some ⟨a, 0, none⟩), .pointer (some ⟨b, 0, none⟩)] w (Gave mo (c + 1) (m + 1) (some (lnk ta tb)) w) := by
  obtain ⟨⟨x1, x2⟩, aas, aks⟩ := ta
  obtain ⟨⟨y1, y2⟩, bbs, bks⟩ := tb
  cases hv : ltE (y1, y2) (x1, x2) with
  | true =>
    rw [show lnk ⟨(x1, x2), aas, aks⟩ ⟨(y1, y2), bbs, bks⟩ = ⟨(y1, y2), bbs, .cons (x1, x2) aas aks bks⟩ from by unfold lnk; simp only [hv, if_true]]
    exact link_true mo c m a b x1 x2 y1 y2 aas bbs aks bks w hv hm h0 h1 h2 h3 ha hb ka kb
  | false =>
    rw [show lnk ⟨(x1, x2), aas, aks⟩ ⟨(y1, y2), bbs, bks⟩ = ⟨(x1, x2), aas, .cons (y1, y2) bbs bks aks⟩ from by unfold lnk; simp [hv]]
    exact link_false mo c m a b x1 x2 y1 y2 aas bbs aks bks w hv hm h0 h1 h2 h3 ha hb ka kb

/-- Link of two, one, or none. -/
theorem link_any (mo : Option Nat) (c m : Int) (p q : Option Addr) (ta tb : Option Tre) (w : World) (hm : MAt w mo c m) (h0 : 0 ≤ c) (h1 : c < 2305843009213693952) (h2 : 0 ≤ m) (h3 : m < 2305843009213693952)
    (ha : TAt w p ta) (hb : TAt w q tb) (ka : osize ta < 536870912) (kb : osize tb < 536870912) :
    Calls Tryz.prog 77 #[mAddr mo, .pointer p, .pointer q] w (Gave mo (c + lnkN ta tb) (m + lnkN ta tb) (olnk ta tb) w) := by
  cases ta with
  | none =>
    obtain rfl := ha
    refine (link_left mo q w).mono fun e w' ⟨he, hw⟩ => ⟨q, he, ?_, ?_, ?_⟩
    · rw [hw]; exact hb
    · rw [hw]; simpa [lnkN] using hm
    · rw [hw]; exact Bt.refl _ _
  | some ta =>
    obtain ⟨a, rfl, ha⟩ := ha
    cases tb with
    | none =>
      obtain rfl := hb
      refine (link_right mo a w).mono fun e w' ⟨he, hw⟩ => ⟨_, he, ?_, ?_, ?_⟩
      · rw [hw]; exact ⟨a, rfl, ha⟩
      · rw [hw]; simpa [lnkN] using hm
      · rw [hw]; exact Bt.refl _ _
    | some tb =>
      obtain ⟨b, rfl, hb⟩ := hb
      exact link_two mo c m a b ta tb w hm h0 h1 h2 h3 ha hb ka kb

end Go.Proofs.YtaeainnkhjnlaaaGreatDoor
namespace Go.Proofs.YtaeainnkhjnlaaaGreatDoor
open Go.Sort Go.RowKit

/-- One thing more behind a slice of the call's own. -/
theorem append_one (w : World) (base : Nat) (v : Value) (xs : List (Int × Int)) (x : Int × Int) (hown : Own w base v xs) (hlen : xs.length < 1073741824) (hb : base ≤ w.heap.size) :
    ∃ v' w', (Builtin.append_ #[39, 39] 39 #[v, .slice (some ⟨w.heap.size, 0, none⟩) 1 1]).run Tryz.prog (w.alloc (.cells #[.int .i64 x.1, .int .i64 x.2] 32)) = .ok v' w' ∧ Own w' base v' (xs ++ [x]) ∧ Below base w w' := by
  obtain ⟨v', w', h1, h2, h3⟩ := append_row (w.alloc (.cells #[.int .i64 x.1, .int .i64 x.2] 32)) base v xs [x] (some ⟨w.heap.size, 0, none⟩) 1 (hown.below ((Below.refl _ _).alloc (Nat.le_refl _) _)) (row_new w [x] _) (fun e => by cases e) (by simp; omega) (by simp; omega)
  exact ⟨v', w', h1, h2, below_grown ((Below.refl _ _).alloc hb _) h3 (by simp; omega) (fun g hg => hown.block g hg)⟩

/-- What a call hands back that puts things behind a slice of the call's own: the base, what was there. -/
def Put (base : Nat) (xs : List (Int × Int)) (w : World) (e : Ending) (w' : World) : Prop := ∃ v, e = .returned v ∧ Own w' base v xs ∧ Below base w w'

set_option maxRecDepth 100000 in
set_option maxHeartbeats 2000000 in
theorem rowOnto_any (w0 : World) (bs : List (Int × Int)) (p : Option Addr) (hp : BAt w0 bs p) (base : Nat) (hb0 : w0.heap.size ≤ base) (v : Value) (ys : List (Int × Int)) (w : World) (hW : Below w0.heap.size w0 w) (hbw : base ≤ w.heap.size) (hv : Own w base v ys) (hl : ys.length + bs.length < 1073741824) :
    Calls Tryz.prog 89 #[.pointer p, v] w (Put base (ys ++ bs) w) := by
  go_enter Tryz.func89, Tryz.ntmps89
  go_wp2_with fail
  have H := Lib.hid (And.intro hp (And.intro hv (And.intro hW hl)))
  clear hp hv hW hl
  go_loopg [0, 1] bs.length (fun k c u wr => ∃ (pre rest : List (Int × Int)) (q : Option Addr), c = .pointer q ∧ bs = pre ++ rest ∧ k = rest.length ∧ BAt w0 rest q ∧ Own wr base u (ys ++ pre) ∧ Below base w wr)
  case atStart => exact ⟨[], bs, p, rfl, rfl, rfl, H.out.1, by rw [List.append_nil]; exact H.out.2.1, Below.refl _ _⟩
  case round =>
    obtain ⟨pre, rest, q, rfl, hx, hk, hr, hown, hbe⟩ := hrel
    have hbw2 : base ≤ wr.heap.size := Nat.le_trans hbw hbe.size
    cases rest with
    | nil =>
      obtain rfl := hr
      have A := Lib.hid (And.intro hx (And.intro hown hbe))
      clear hx hown hbe hk
      go_wp2_with fail
      go_ret
      obtain ⟨hx, hown, hbe⟩ := A.out
      rw [List.append_nil] at hx
      exact ⟨_, rfl, by rw [hx]; exact hown, hbe⟩
    | cons x rest =>
      obtain ⟨b, q', rfl, hh, hr'⟩ := hr
      have hb0' : Below w0.heap.size w0 wr := H.out.2.2.1.trans (hbe.mono hb0)
      have hlt := lt_of_heap hh
      have hh1 := (hb0'.block b hlt).trans hh
      have c0 : wr.cell? ⟨b, 0, none⟩ = some (.int .i64 x.1) := by simp [World.cell?, hh1]
      have c1 : wr.cell? ⟨b, 1, none⟩ = some (.int .i64 x.2) := by simp [World.cell?, hh1]
      have hlen : (ys ++ pre).length < 1073741824 := by
        have h1 := congrArg List.length hx
        have h2 := H.out.2.2.2
        simp only [List.length_append, List.length_cons] at h1 ⊢
        omega
      obtain ⟨u', w2, hrun, hown2, hb2⟩ := append_one wr base _ (ys ++ pre) x hown hlen hbw2
      have hb2' : Below w0.heap.size w0 w2 := hb0'.trans (hb2.mono hb0)
      have hh2 := (hb2'.block b hlt).trans hh
      have c2 : w2.cell? ⟨b, 2, none⟩ = some (.pointer q') := by simp [World.cell?, hh2]
      have A := Lib.hid (And.intro hx (And.intro hown2 (And.intro (hbe.trans hb2) (And.intro hr' hk))))
      clear hx hown hbe hown2 hb2 hb2' hr' hh hh1 hh2 hb0' hk hlen
      go_wp2_with (at_builtin; refine wpList_append_run rfl _ _ _ rfl _ _ _ _ rfl rfl hrun ?_)
      obtain ⟨hx, hown2, hbe, hr', hk⟩ := A.out
      go_roundg rest.length
      case measure => rw [hk]; simp
      case rel => exact ⟨pre ++ [x], rest, q', rfl, by rw [hx]; simp, rfl, hr', by rw [← List.append_assoc]; exact hown2, hbe⟩

end Go.Proofs.YtaeainnkhjnlaaaGreatDoor
namespace Go.Proofs.YtaeainnkhjnlaaaGreatDoor
open Go.Sort Go.RowKit

/-- What stands beside a root. -/
def obeside : Option Tre → List (Int × Int)
  | none => []
  | some t => t.bs

set_option maxHeartbeats 1000000 in
/-- Beside: a slice of the call's own. -/
theorem beside_any (p : Option Addr) (t : Option Tre) (w : World) (h : TAt w p t) (h1 : osize t < 1073741824) : Calls Tryz.prog 64 #[.pointer p] w (Put w.heap.size (obeside t) w) := by
  cases t with
  | none =>
    obtain rfl := h
    go_enter Tryz.func64, Tryz.ntmps64
    go_wp2_with fail
    go_ret
    exact ⟨_, rfl, Own.none _ _, Below.refl _ _⟩
  | some t =>
    obtain ⟨b, rfl, bp, kp, hb, hB, -⟩ := h
    have c2 := (six hb).c2
    have H := Lib.hid (rowOnto_any w t.bs bp hB w.heap.size (Nat.le_refl _) (.slice none 0 0) [] w (Below.refl _ _) (Nat.le_refl _) (Own.none _ _) (by simp only [osize, Tre.size] at h1; simp only [List.length_nil]; omega))
    clear hb hB h1
    go_enter Tryz.func64, Tryz.ntmps64
    go_wp2_with fail
    ((with_reducible refine H.out.mono ?_); rintro e w1 ⟨v, rfl, hown, hb⟩)
    have A := Lib.hid (And.intro hown hb)
    clear hown hb H
    go_wp2_with fail
    go_ret
    exact ⟨_, rfl, A.out.1, A.out.2⟩

end Go.Proofs.YtaeainnkhjnlaaaGreatDoor
namespace Go.Proofs.YtaeainnkhjnlaaaGreatDoor
open Go.Sort Go.RowKit

/-- A tree's address as a value. -/
def ptr1 (p : Option Addr) : Value := .pointer p
/-- The addresses of a row of trees. -/
def KAt (W : World) : Wood → List (Option Addr) → Prop
  | .nil, ps => ps = []
  | .cons x bs ks r, ps => ∃ b ps', ps = some ⟨b, 0, none⟩ :: ps' ∧ NAt W b ⟨x, bs, ks⟩ ∧ KAt W r ps'
theorem KAt.length {W : World} : ∀ {ks : Wood} {ps : List (Option Addr)}, KAt W ks ps → ps.length = ks.len
  | .nil, _, h => by rw [h]; rfl
  | .cons _ _ _ _, _, ⟨_, _, e, _, h⟩ => by rw [e, List.length_cons, h.length]; rfl
/-- A slice of trees' addresses of the call's own. -/
abbrev OwnP (w : World) (base : Nat) (v : Value) (ps : List (Option Addr)) : Prop := Mine ptr1 95 w base v ps

theorem infoPtr : (Tryz.prog.info? 95).map (fun i => (i.zero, i.size, i.bytes)) = some (some (.pointer none), 1, 8) := by kernel_rfl

theorem append_ptr (w : World) (base : Nat) (v : Value) (ps : List (Option Addr)) (p : Option Addr) (hown : OwnP w base v ps) (hlen : ps.length < 1073741824) (hb : base ≤ w.heap.size) :
    ∃ v' w', (Builtin.append_ #[115, 115] 115 #[v, .slice (some ⟨w.heap.size, 0, none⟩) 1 1]).run Tryz.prog (w.alloc (.cells #[.pointer p] 95)) = .ok v' w' ∧ OwnP w' base v' (ps ++ [p]) ∧
      (w.alloc (.cells #[.pointer p] 95)).grownBy w' v.ownBlock ∧ Below base w w' := by
  obtain ⟨i0, hi, hz0, hz1, hz2⟩ := info_parts infoPtr
  have hown' : (w.alloc (.cells #[.pointer p] 95)).ownsRow base 95 1 v ps.length (ps.map ptr1) := World.ownsRow.alloc hown _
  obtain ⟨g, c, w', h1, h2, h3, -, -⟩ := run_append_lies (P := Tryz.prog) (w := w.alloc (.cells #[.pointer p] 95)) 115 115 base 95 i0 _ 1 8 Tryz.underlying115 hi hz0 hz1 hz2 rfl (by omega)
    _ ps.length (ps.map ptr1) hown' ⟨w.heap.size, 0, none⟩ 1 1 [.pointer p] rfl
    (fun j u hu => by
      rw [add_flat]
      have e1 : (w.alloc (.cells #[.pointer p] 95)).heap[w.heap.size]? = some (.cells #[.pointer p] 95 (0, 0)) := new_at rfl
      unfold World.cell?
      rw [e1]
      simpa using hu) (by intro u hu; simp at hu; subst hu; rfl) (by omega) (by unfold maxLen; omega) (by omega) (by simp; omega) _ rfl
  refine ⟨_, w', h1, ?_, h3, below_grown ((Below.refl _ _).alloc hb _) h3 (by simp; omega) (fun g hg => hown.block g hg)⟩
  unfold OwnP Mine
  rw [List.length_append, List.map_append]
  exact h2

/-- What Kids hands back. -/
def PutK (w0 : World) (ks : Wood) (base : Nat) (w : World) (e : Ending) (w' : World) : Prop := ∃ v ps, e = .returned v ∧ KAt w0 ks ps ∧ OwnP w' base v ps ∧ Below base w w'

theorem KAt.put {W : World} : ∀ {pre : List (Option Addr)} {ks rest : Wood} {x : Int × Int} {bs : List (Int × Int)} {b : Nat} {aks : Wood}, (∀ qs, KAt W (.cons x bs ks rest) qs → KAt W aks (pre ++ qs)) → NAt W b ⟨x, bs, ks⟩ → ∀ qs, KAt W rest qs → KAt W aks ((pre ++ [some ⟨b, 0, none⟩]) ++ qs) :=
  fun h hn qs hq => by rw [List.append_assoc]; exact h _ ⟨_, qs, rfl, hn, hq⟩

set_option maxRecDepth 100000 in
set_option maxHeartbeats 2000000 in
theorem rowTrees_any (w : World) (ks : Wood) (p : Option Addr) (hp : WAt w ks p) (hl : ks.size < 1073741824) :
    Calls Tryz.prog 88 #[.pointer p, .slice none 0 0] w (PutK w ks w.heap.size w) := by
  have hlen := ks.len_le
  go_enter Tryz.func88, Tryz.ntmps88
  go_wp2_with fail
  have H := Lib.hid (And.intro hp (And.intro hl hlen))
  clear hp hl hlen
  go_loopg [0, 1] ks.len (fun k c u wr => ∃ (pre : List (Option Addr)) (rest : Wood) (q : Option Addr), c = .pointer q ∧ pre.length + rest.len = ks.len ∧ k = rest.len ∧ WAt w rest q ∧ (∀ qs, KAt w rest qs → KAt w ks (pre ++ qs)) ∧ OwnP wr w.heap.size u pre ∧ Below w.heap.size w wr)
  case atStart => exact ⟨[], ks, p, rfl, by simp, rfl, H.out.1, fun qs h => h, Mine.none _ _ _, Below.refl _ _⟩
  case round =>
    obtain ⟨pre, rest, q, rfl, hx, hk, hr, hq, hown, hbe⟩ := hrel
    cases rest with
    | nil =>
      obtain rfl := hr
      have A := Lib.hid (And.intro hq (And.intro hown hbe))
      clear hx hown hbe hk hq
      go_wp2_with fail
      go_ret
      obtain ⟨hq, hown, hbe⟩ := A.out
      exact ⟨_, pre, rfl, by simpa using hq [] rfl, hown, hbe⟩
    | cons y cs cks rest =>
      obtain ⟨c, bk, q', bp', kp', rfl, hc, hbk, h1, h2, h3⟩ := hr
      have hc1 := (hbe.block c (lt_of_heap hc)).trans hc
      have c0 : wr.cell? ⟨c, 0, none⟩ = some (.pointer (some ⟨bk, 0, none⟩)) := by simp [World.cell?, hc1]
      obtain ⟨u', w2, hrun, hown2, -, hb2⟩ := append_ptr wr w.heap.size _ pre (some ⟨bk, 0, none⟩) hown (by have := H.out.2; simp only [Wood.len] at hx; omega) hbe.size
      have hc2 := ((hbe.trans hb2).block c (lt_of_heap hc)).trans hc
      have c1 : w2.cell? ⟨c, 1, none⟩ = some (.pointer q') := by simp [World.cell?, hc2]
      have A := Lib.hid (And.intro hx (And.intro hown2 (And.intro (hbe.trans hb2) (And.intro h3 (And.intro hk (KAt.put hq ⟨bp', kp', hbk, h1, h2⟩))))))
      clear hx hown hbe hown2 hb2 hc hc1 hc2 hbk h1 h2 h3 hk hq
      go_wp2_with (at_builtin; refine wpList_append_run rfl _ _ _ rfl _ _ _ _ rfl rfl hrun ?_)
      obtain ⟨hx, hown2, hbe, h3, hk, hq⟩ := A.out
      go_roundg rest.len
      case measure => rw [hk]; simp [Wood.len]
      case rel => exact ⟨pre ++ [some ⟨bk, 0, none⟩], rest, q', rfl, by simp only [Wood.len] at hx; simp; omega, rfl, h3, hq, hown2, hbe⟩

/-- A tree's kids. -/
def okids : Option Tre → Wood
  | none => .nil
  | some t => t.ks

set_option maxHeartbeats 1000000 in
theorem kids_any (p : Option Addr) (t : Option Tre) (w : World) (h : TAt w p t) (h1 : osize t < 1073741824) : Calls Tryz.prog 61 #[.pointer p] w (PutK w (okids t) w.heap.size w) := by
  cases t with
  | none =>
    obtain rfl := h
    go_enter Tryz.func61, Tryz.ntmps61
    go_wp2_with fail
    go_ret
    exact ⟨_, [], rfl, rfl, Mine.none _ _ _, Below.refl _ _⟩
  | some t =>
    obtain ⟨b, rfl, bp, kp, hb, -, hK⟩ := h
    have c4 := (six hb).c4
    have H := Lib.hid (rowTrees_any w t.ks kp hK (by simp only [osize, Tre.size] at h1; omega))
    clear hb hK h1
    go_enter Tryz.func61, Tryz.ntmps61
    go_wp2_with fail
    ((with_reducible refine H.out.mono ?_); rintro e w1 ⟨v, ps, rfl, hk, hown, hb⟩)
    have A := Lib.hid (And.intro hk (And.intro hown hb))
    clear hk hown hb H
    go_wp2_with fail
    go_ret
    exact ⟨_, ps, rfl, A.out.1, A.out.2.1, A.out.2.2⟩

end Go.Proofs.YtaeainnkhjnlaaaGreatDoor
