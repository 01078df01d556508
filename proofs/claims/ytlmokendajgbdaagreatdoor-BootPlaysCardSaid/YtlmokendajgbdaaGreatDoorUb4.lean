/-
  Contract of rank.Link: of two trees, or none: which tree it makes, how many steps the meter counts, and that only the meter's block has turned. Conditions: fewer than 2 to the 29th things each, counts below 2 to the 61st.
-/
import Derived.Test.YtlmokendajgbdaaGreatDoorUb3
namespace Go.Proofs.YtlmokendajgbdaaGreatDoor
open Go.Sort Go.RowKit Go.Proofs.YtlmokendajgbdaaGreatDoor.Gn

set_option maxHeartbeats 1000000 in
/-- The first one is none: the other one, as it is. -/
theorem link_left (mo : Option Nat) (q : Option Addr) (w : World) : Calls Tryz.prog 93 #[mAddr mo, .pointer none, .pointer q] w fun e w' => e = .returned (.pointer q) ∧ w' = w := by
  go_enter Tryz.func93, Tryz.ntmps93
  go_wp2_with fail
  go_ret
  exact ⟨rfl, rfl⟩

set_option maxHeartbeats 1000000 in
/-- The second one is none. -/
theorem link_right (mo : Option Nat) (b : Nat) (w : World) : Calls Tryz.prog 93 #[mAddr mo, .pointer (some ⟨b, 0, none⟩), .pointer none] w fun e w' => e = .returned (.pointer (some ⟨b, 0, none⟩)) ∧ w' = w := by
  go_enter Tryz.func93, Tryz.ntmps93
  go_wp2_with fail
  go_ret
  exact ⟨rfl, rfl⟩

/-- What the walk wants of a tree's block: its cells, in whatever world blocks of trees have stayed. -/
theorem six_kp {W W' : World} {b : Nat} {x : Thing} {bp kp : Option Addr} {r o : Int} (h : W.heap[b]? = some (treeObj x bp r kp o)) (hk : Kp W W') : Six W' b x bp r kp o := six (hk b _ _ (.inl rfl) h)

/-- How far a call has come: the meter's counts, what has stayed. -/
structure Tkk (mo : Option Nat) (w : World) (c m : Int) (w' : World) : Prop where
  bt : Bt mo w w'
  mt : MAt w' mo c m
  kp : Kp w w'
section
variable {mo : Option Nat} {w w' w'' : World} {c m c' m' : Int}
theorem Tkk.refl (h : MAt w mo c m) : Tkk mo w c m w := ⟨Bt.refl _ _, h, Kpt.refl _⟩
theorem Tkk.stay (h : Tkk mo w c m w') (hb : Below w'.heap.size w' w'') : Tkk mo w c m w'' := ⟨h.bt.trans (Bt.ofBelow hb), h.mt.stay hb, h.kp.trans (Kp.below hb)⟩
theorem Tkk.alloc (h : Tkk mo w c m w') (o : Obj) : Tkk mo w c m (w'.alloc o) := h.stay ((Below.refl _ _).alloc (Nat.le_refl _) o)
theorem Tkk.drew (h : Tkk mo w c m w') : Tkk mo w c m w'.drew := h.stay ((Below.refl _ _).drew)
theorem Tkk.turn (h : Tkk mo w c m w') (hm : MAt w'' mo c' m') (hb : Bt mo w' w'') : Tkk mo w c' m' w'' := ⟨h.bt.trans hb, hm, h.kp.trans (hb.kpt h.mt tree_ne)⟩
end

set_option maxRecDepth 100000 in
set_option maxHeartbeats 4000000 in
theorem link_true (mo : Option Nat) (c m : Int) (a b : Nat) (x y : Thing) (aas bbs : List Thing) (aks bks : Wood) (w : World) (hv : ltE y.key x.key = true) (hm : MAt w mo c m) (h0 : 0 ≤ c) (h1 : c < 2305843009213693952) (h2 : 0 ≤ m) (h3 : m < 2305843009213693952)
    (ha : NAt w a ⟨x, aas, aks⟩) (hb : NAt w b ⟨y, bbs, bks⟩) (ka : 1 + aas.length + aks.size < 536870912) (kb : 1 + bbs.length + bks.size < 536870912) :
    Calls Tryz.prog 93 #[mAddr mo, .pointer (some ⟨a, 0, none⟩), .pointer (some ⟨b, 0, none⟩)] w (Gave mo (c + 1) (m + 1) (some ⟨y, bbs, .cons x aas aks bks⟩) w) := by
  obtain ⟨ap, akp, hah, hax, hab, haw⟩ := ha
  obtain ⟨bp, bkp, hbh, hbx, hbb, hbw⟩ := hb
  have h6 := six_kp hah (Kpt.refl w)
  have g6 := six_kp hbh (Kpt.refl w)
  have a0 := h6.c0
  have b0 := g6.c0
  have HM := Lib.hid hm
  have HA := Lib.hid hah
  have HB := Lib.hid hbh
  have HX := Lib.hid (And.intro hax hbx)
  have HL := Lib.hid (And.intro hab (And.intro haw (And.intro hbb hbw)))
  have HV := Lib.hid hv
  have HK := Lib.hid (And.intro ka kb)
  have HR := Lib.hid (And.intro aks.len_le bks.len_le)
  clear hm hah hbh hax hbx hab haw hbb hbw h6 g6 hv ka kb
  go_enter Tryz.func93, Tryz.ntmps93
  go_wp2_with fail
  go_region_held3 (fun w' => w'.cell? ⟨a, 0, none⟩ = some (.pointer (some ⟨x.a, 0, none⟩)) ∧ w'.cell? ⟨b, 0, none⟩ = some (.pointer (some ⟨y.a, 0, none⟩))) (go_keep)
    (first | (go_at_call 39; ((with_reducible refine (mLess mo c m y.key x.key _ K2.out.mt h0 (by omega)).mono ?_); rintro e w3 ⟨rfl, hm3, hb3⟩; rw [HV.out]; have K3 := Lib.hid (K2.out.turn hm3 hb3); have f0 := (six_kp HA.out K3.out.kp).c0; have f2 := (six_kp HB.out K3.out.kp).c0; clear hm3 hb3)) | (go_at_call 94; ((with_reducible refine (key_any y _ (HX.out.2.stay ((Below.refl _ _).drew))).mono ?_); rintro e w1 ⟨rfl, hb1⟩; have K1 := Lib.hid ((Tkk.refl HM.out).drew.stay hb1); have d0 := (six_kp HA.out K1.out.kp).c0; have d2 := (six_kp HB.out K1.out.kp).c0; clear hb1)) | (go_at_call 94; ((with_reducible refine (key_any x _ (HX.out.1.kp K1.out.kp)).mono ?_); rintro e w2 ⟨rfl, hb2⟩; have K2 := Lib.hid (K1.out.stay hb2); have e0 := (six_kp HA.out K2.out.kp).c0; have e2 := (six_kp HB.out K2.out.kp).c0; clear hb2)))
  clear a0 b0 d0 d2 e0 e2 f0 f2 K1 K2 HM
  go_wp2_with fail
  ((with_reducible refine (mMade mo (c + 1) m _ K3.out.mt h2 (by omega)).mono ?_); rintro e w4 ⟨rfl, hm4, hb4⟩)
  have K4 := Lib.hid (K3.out.turn hm4 hb4)
  clear hm4 hb4 K3
  have s6 := six_kp HB.out K4.out.kp
  have c0 := s6.c0
  have c2 := s6.c2
  have c3 := s6.c3
  have c4 := s6.c4
  have c5 := s6.c5
  clear s6
  go_wp2_with fail
  go_region_held3 (fun w' => w'.cell? ⟨b, 0, none⟩ = some (.pointer (some ⟨y.a, 0, none⟩)) ∧ w'.cell? ⟨b, 1, none⟩ = some (.pointer bp) ∧ w'.cell? ⟨b, 2, none⟩ = some (.int .i64 (bks.len : Int)) ∧ w'.cell? ⟨b, 3, none⟩ = some (.pointer bkp) ∧ w'.cell? ⟨b, 4, none⟩ = some (.int .i64 (bbs.length + bks.size : Nat))) (go_keep)
    (first | (go_at_call 113; ((with_reducible refine (pushT_any (some ⟨a, 0, none⟩) bkp _).mono ?_); rintro e w5 ⟨rfl, hw5⟩; have P5 := Lib.hid (show w5.heap[w4.drew.heap.size]? = some (.cells #[.pointer (some ⟨a, 0, none⟩), .pointer bkp] 182 (0, 0)) by rw [hw5]; exact new_at rfl); have K5 := Lib.hid (show Tkk mo w (c + 1) (m + 1) w5 by rw [hw5]; exact K4.out.drew.alloc _); have s6 := six_kp HB.out K5.out.kp; have d0 := s6.c0; have d2 := s6.c2; have d3 := s6.c3; have d4 := s6.c4; have d5 := s6.c5; clear hw5 s6)) | (go_at_call 114; ((with_reducible refine (size_at _ (six_kp HA.out K5.out.kp) (by omega) (by have := HK.out; omega)).mono ?_); rintro e w6 ⟨rfl, rfl⟩)))
  clear c0 c2 c3 c4 c5 d0 d2 d3 d4 d5
  go_wp2_with fail
  go_ret
  obtain ⟨ka, kb⟩ := HK.out
  obtain ⟨ra, rb⟩ := HR.out
  have e1 : IntKind.i64.wrap ((bks.len : Int) + 1) = ((Gn.Wood.cons x aas aks bks).len : Int) := by rw [IntKind.wrap_i64]; simp only [Gn.Wood.len]; omega
  have e2 : IntKind.i64.wrap ((bbs.length : Int) + bks.size + ((aas.length : Int) + aks.size + 1)) = ((bbs.length + (Gn.Wood.cons x aas aks bks).size : Nat) : Int) := by rw [IntKind.wrap_i64]; simp only [Gn.Wood.size]; omega
  rw [e1, e2]
  obtain ⟨hab, haw, hbb, hbw⟩ := HL.out
  have hk := (K5.out.alloc (treeObj y bp ((Gn.Wood.cons x aas aks bks).len : Int) (some ⟨w4.heap.size, 0, none⟩) ((bbs.length + (Gn.Wood.cons x aas aks bks).size : Nat) : Int)))
  refine ⟨_, rfl, ⟨w6.heap.size, rfl, bp, some ⟨w4.heap.size, 0, none⟩, new_at rfl, HX.out.2.kp hk.kp, (hbb).kp hk.kp, ⟨w4.heap.size, a, bkp, ap, akp, rfl, ?_, hk.kp _ _ _ (.inl rfl) HA.out, HX.out.1.kp hk.kp, (hab).kp hk.kp, (haw).kp hk.kp, (hbw).kp hk.kp⟩⟩, hk.mt, hk.bt⟩
  exact (Kp.below ((Below.refl _ _).alloc (Nat.le_refl _) _)) _ _ _ (.inr (.inr (.inl rfl))) P5.out

set_option maxRecDepth 100000 in
set_option maxHeartbeats 4000000 in
theorem link_false (mo : Option Nat) (c m : Int) (a b : Nat) (x y : Thing) (aas bbs : List Thing) (aks bks : Wood) (w : World) (hv : ltE y.key x.key = false) (hm : MAt w mo c m) (h0 : 0 ≤ c) (h1 : c < 2305843009213693952) (h2 : 0 ≤ m) (h3 : m < 2305843009213693952)
    (ha : NAt w a ⟨x, aas, aks⟩) (hb : NAt w b ⟨y, bbs, bks⟩) (ka : 1 + aas.length + aks.size < 536870912) (kb : 1 + bbs.length + bks.size < 536870912) :
    Calls Tryz.prog 93 #[mAddr mo, .pointer (some ⟨a, 0, none⟩), .pointer (some ⟨b, 0, none⟩)] w (Gave mo (c + 1) (m + 1) (some ⟨x, aas, .cons y bbs bks aks⟩) w) := by
  obtain ⟨ap, akp, hah, hax, hab, haw⟩ := ha
  obtain ⟨bp, bkp, hbh, hbx, hbb, hbw⟩ := hb
  have h6 := six_kp hah (Kpt.refl w)
  have g6 := six_kp hbh (Kpt.refl w)
  have a0 := h6.c0
  have b0 := g6.c0
  have HM := Lib.hid hm
  have HA := Lib.hid hah
  have HB := Lib.hid hbh
  have HX := Lib.hid (And.intro hax hbx)
  have HL := Lib.hid (And.intro hab (And.intro haw (And.intro hbb hbw)))
  have HV := Lib.hid hv
  have HK := Lib.hid (And.intro ka kb)
  have HR := Lib.hid (And.intro aks.len_le bks.len_le)
  clear hm hah hbh hax hbx hab haw hbb hbw h6 g6 hv ka kb
  go_enter Tryz.func93, Tryz.ntmps93
  go_wp2_with fail
  go_region_held3 (fun w' => w'.cell? ⟨a, 0, none⟩ = some (.pointer (some ⟨x.a, 0, none⟩)) ∧ w'.cell? ⟨b, 0, none⟩ = some (.pointer (some ⟨y.a, 0, none⟩))) (go_keep)
    (first | (go_at_call 39; ((with_reducible refine (mLess mo c m y.key x.key _ K2.out.mt h0 (by omega)).mono ?_); rintro e w3 ⟨rfl, hm3, hb3⟩; rw [HV.out]; have K3 := Lib.hid (K2.out.turn hm3 hb3); have f0 := (six_kp HA.out K3.out.kp).c0; have f2 := (six_kp HB.out K3.out.kp).c0; clear hm3 hb3)) | (go_at_call 94; ((with_reducible refine (key_any y _ (HX.out.2.stay ((Below.refl _ _).drew))).mono ?_); rintro e w1 ⟨rfl, hb1⟩; have K1 := Lib.hid ((Tkk.refl HM.out).drew.stay hb1); have d0 := (six_kp HA.out K1.out.kp).c0; have d2 := (six_kp HB.out K1.out.kp).c0; clear hb1)) | (go_at_call 94; ((with_reducible refine (key_any x _ (HX.out.1.kp K1.out.kp)).mono ?_); rintro e w2 ⟨rfl, hb2⟩; have K2 := Lib.hid (K1.out.stay hb2); have e0 := (six_kp HA.out K2.out.kp).c0; have e2 := (six_kp HB.out K2.out.kp).c0; clear hb2)))
  clear a0 b0 d0 d2 e0 e2 f0 f2 K1 K2 HM
  go_wp2_with fail
  ((with_reducible refine (mMade mo (c + 1) m _ K3.out.mt h2 (by omega)).mono ?_); rintro e w4 ⟨rfl, hm4, hb4⟩)
  have K4 := Lib.hid (K3.out.turn hm4 hb4)
  clear hm4 hb4 K3
  have s6 := six_kp HA.out K4.out.kp
  have c0 := s6.c0
  have c2 := s6.c2
  have c3 := s6.c3
  have c4 := s6.c4
  have c5 := s6.c5
  clear s6
  go_wp2_with fail
  go_region_held3 (fun w' => w'.cell? ⟨a, 0, none⟩ = some (.pointer (some ⟨x.a, 0, none⟩)) ∧ w'.cell? ⟨a, 1, none⟩ = some (.pointer ap) ∧ w'.cell? ⟨a, 2, none⟩ = some (.int .i64 (aks.len : Int)) ∧ w'.cell? ⟨a, 3, none⟩ = some (.pointer akp) ∧ w'.cell? ⟨a, 4, none⟩ = some (.int .i64 (aas.length + aks.size : Nat))) (go_keep)
    (first | (go_at_call 113; ((with_reducible refine (pushT_any (some ⟨b, 0, none⟩) akp _).mono ?_); rintro e w5 ⟨rfl, hw5⟩; have P5 := Lib.hid (show w5.heap[w4.drew.heap.size]? = some (.cells #[.pointer (some ⟨b, 0, none⟩), .pointer akp] 182 (0, 0)) by rw [hw5]; exact new_at rfl); have K5 := Lib.hid (show Tkk mo w (c + 1) (m + 1) w5 by rw [hw5]; exact K4.out.drew.alloc _); have s6 := six_kp HA.out K5.out.kp; have d0 := s6.c0; have d2 := s6.c2; have d3 := s6.c3; have d4 := s6.c4; have d5 := s6.c5; clear hw5 s6)) | (go_at_call 114; ((with_reducible refine (size_at _ (six_kp HB.out K5.out.kp) (by omega) (by have := HK.out; omega)).mono ?_); rintro e w6 ⟨rfl, rfl⟩)))
  clear c0 c2 c3 c4 c5 d0 d2 d3 d4 d5
  go_wp2_with fail
  go_ret
  obtain ⟨ka, kb⟩ := HK.out
  obtain ⟨ra, rb⟩ := HR.out
  have e1 : IntKind.i64.wrap ((aks.len : Int) + 1) = ((Gn.Wood.cons y bbs bks aks).len : Int) := by rw [IntKind.wrap_i64]; simp only [Gn.Wood.len]; omega
  have e2 : IntKind.i64.wrap ((aas.length : Int) + aks.size + ((bbs.length : Int) + bks.size + 1)) = ((aas.length + (Gn.Wood.cons y bbs bks aks).size : Nat) : Int) := by rw [IntKind.wrap_i64]; simp only [Gn.Wood.size]; omega
  rw [e1, e2]
  obtain ⟨hab, haw, hbb, hbw⟩ := HL.out
  have hk := (K5.out.alloc (treeObj x ap ((Gn.Wood.cons y bbs bks aks).len : Int) (some ⟨w4.heap.size, 0, none⟩) ((aas.length + (Gn.Wood.cons y bbs bks aks).size : Nat) : Int)))
  refine ⟨_, rfl, ⟨w6.heap.size, rfl, ap, some ⟨w4.heap.size, 0, none⟩, new_at rfl, HX.out.1.kp hk.kp, (hab).kp hk.kp, ⟨w4.heap.size, b, akp, bp, bkp, rfl, ?_, hk.kp _ _ _ (.inl rfl) HB.out, HX.out.2.kp hk.kp, (hbb).kp hk.kp, (hbw).kp hk.kp, (haw).kp hk.kp⟩⟩, hk.mt, hk.bt⟩
  exact (Kp.below ((Below.refl _ _).alloc (Nat.le_refl _) _)) _ _ _ (.inr (.inr (.inl rfl))) P5.out

theorem link_two (mo : Option Nat) (c m : Int) (a b : Nat) (ta tb : Tre) (w : World) (hm : MAt w mo c m) (h0 : 0 ≤ c) (h1 : c < 2305843009213693952) (h2 : 0 ≤ m) (h3 : m < 2305843009213693952)
    (ha : NAt w a ta) (hb : NAt w b tb) (ka : ta.size < 536870912) (kb : tb.size < 536870912) :
    Calls Tryz.prog 93 #[mAddr mo, .pointer (some ⟨a, 0, none⟩), .pointer (some ⟨b, 0, none⟩)] w (Gave mo (c + 1) (m + 1) (some (lnk ta tb)) w) := by
  obtain ⟨x, aas, aks⟩ := ta
  obtain ⟨y, bbs, bks⟩ := tb
  cases hv : ltE y.key x.key with
  | true =>
    rw [show lnk ⟨x, aas, aks⟩ ⟨y, bbs, bks⟩ = ⟨y, bbs, .cons x aas aks bks⟩ from lnk_lt hv]
    exact link_true mo c m a b x y aas bbs aks bks w hv hm h0 h1 h2 h3 ha hb ka kb
  | false =>
    rw [show lnk ⟨x, aas, aks⟩ ⟨y, bbs, bks⟩ = ⟨x, aas, .cons y bbs bks aks⟩ from lnk_ge hv]
    exact link_false mo c m a b x y aas bbs aks bks w hv hm h0 h1 h2 h3 ha hb ka kb

/-- Link of two, one, or none. -/
theorem link_any (mo : Option Nat) (c m : Int) (p q : Option Addr) (ta tb : Option Tre) (w : World) (hm : MAt w mo c m) (h0 : 0 ≤ c) (h1 : c < 2305843009213693952) (h2 : 0 ≤ m) (h3 : m < 2305843009213693952)
    (ha : TAt w p ta) (hb : TAt w q tb) (ka : osize ta < 536870912) (kb : osize tb < 536870912) :
    Calls Tryz.prog 93 #[mAddr mo, .pointer p, .pointer q] w (Gave mo (c + lnkN ta tb) (m + lnkN ta tb) (olnk ta tb) w) := by
  cases ta with
  | none =>
    obtain rfl := ha
    refine (link_left mo q w).mono fun e w' ⟨he, hw⟩ => ⟨q, he, ?_, ?_, ?_⟩
    · rw [hw]; exact hb
    · rw [hw]; simpa [lnkN] using hm
    · rw [hw]; exact Bt.refl _ _
  | some ta =>
    obtain ⟨a, rfl, ha⟩ := ha
    cases tb with
    | none =>
      obtain rfl := hb
      refine (link_right mo a w).mono fun e w' ⟨he, hw⟩ => ⟨_, he, ?_, ?_, ?_⟩
      · rw [hw]; exact ⟨a, rfl, ha⟩
      · rw [hw]; simpa [lnkN] using hm
      · rw [hw]; exact Bt.refl _ _
    | some tb =>
      obtain ⟨b, rfl, hb⟩ := hb
      exact link_two mo c m a b ta tb w hm h0 h1 h2 h3 ha hb ka kb

end Go.Proofs.YtlmokendajgbdaaGreatDoor
