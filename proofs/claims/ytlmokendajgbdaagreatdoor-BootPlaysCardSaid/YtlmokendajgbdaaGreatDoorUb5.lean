/-
  Contract of rank.Skew: of a thing and two trees, or none: which tree it makes, how many steps the meter counts, and that only the meter's block has turned. Conditions: fewer than 2 to the 28th things each, counts below 2 to the 60th.
-/
import Derived.Test.YtlmokendajgbdaaGreatDoorUb4
namespace Go.Proofs.YtlmokendajgbdaaGreatDoor
open Go.Sort Go.RowKit Go.Proofs.YtlmokendajgbdaaGreatDoor.Gn

theorem cell_oldT {w : World} {a : Addr} {v : Value} (h : w.cell? a = some v) (o : Obj) : (w.alloc o).cell? a = some v := by
  have hl : a.block < w.heap.size := by
    unfold World.cell? at h
    cases hh : w.heap[a.block]? with
    | none => rw [hh] at h; cases h
    | some o => exact lt_of_heap hh
  exact (((Below.refl w.heap.size w).alloc (Nat.le_refl _) o).cell hl).trans h

theorem tree_kp {W W' : World} {b : Nat} {x : Thing} {bp kp : Option Addr} {r o : Int} (h : W.heap[b]? = some (treeObj x bp r kp o)) (hk : Kp W W') : W'.heap[b]? = some (treeObj x bp r kp o) := hk b _ _ (.inl rfl) h

set_option maxHeartbeats 2000000 in
/-- No trees: a leaf. -/
theorem skew_none (mo : Option Nat) (c m : Int) (y : Thing) (w : World) (hy : KeyC w y) (hm : MAt w mo c m) (h2 : 0 ≤ m) (h3 : m < 1152921504606846976) :
    Calls Tryz.prog 66 #[mAddr mo, hv y, .pointer none, .pointer none] w (Gave mo c (m + 1) (some (leafT y)) w) := by
  have HY := Lib.hid hy
  have HM := Lib.hid hm
  clear hm hy
  go_enter Tryz.func66, Tryz.ntmps66
  go_wp2_with fail
  ((with_reducible refine (link_left mo none _).mono ?_); rintro e w1 ⟨rfl, rfl⟩)
  go_wp2_with fail
  ((with_reducible refine (leaf_any mo c m y _ HY.out HM.out h2 (by omega)).mono ?_); rintro e w1 ⟨p, rfl, ht, hm1, hb1⟩)
  have H := Lib.hid (And.intro ht (And.intro hm1 hb1))
  clear ht hm1 hb1
  go_wp2_with fail
  go_ret
  exact ⟨_, rfl, H.out.1, H.out.2.1, H.out.2.2⟩

set_option maxRecDepth 100000 in
set_option maxHeartbeats 4000000 in
theorem skew_true (mo : Option Nat) (c m : Int) (y : Thing) (p q : Option Addr) (ta tb : Option Tre) (x : Thing) (bs : List Thing) (ks : Wood) (ht : olnk ta tb = some ⟨x, bs, ks⟩) (w : World) (hy : KeyC w y) (hm : MAt w mo c m) (h0 : 0 ≤ c) (h1 : c < 1152921504606846976) (h2 : 0 ≤ m) (h3 : m < 1152921504606846976)
    (ha : TAt w p ta) (hb : TAt w q tb) (ka : osize ta < 268435456) (kb : osize tb < 268435456) (hv : ltE x.key y.key = true) :
    Calls Tryz.prog 66 #[mAddr mo, .pointer (some ⟨y.a, 0, none⟩), .pointer p, .pointer q] w (Gave mo (c + lnkN ta tb + 1) (m + lnkN ta tb + 1) (some ⟨x, y :: bs, ks⟩) w) := by
  have hsz : 1 + bs.length + ks.size < 536870912 := by have := olnk_size ta tb; rw [ht] at this; simp only [osize, Gn.Tre.size] at this ka kb; omega
  have hN : (lnkN ta tb : Int) ≤ 1 ∧ 0 ≤ (lnkN ta tb : Int) := by cases ta <;> cases tb <;> simp [lnkN]
  have HLink := Lib.hid (fun W (h : MAt W mo c m) ha hb => link_any mo c m p q ta tb W h h0 (by omega) h2 (by omega) ha hb (by omega) (by omega))
  generalize (lnkN ta tb : Int) = n at *
  rw [ht] at HLink
  have HM := Lib.hid hm
  have HT := Lib.hid (And.intro ha hb)
  have HV := Lib.hid hv
  have HS := Lib.hid hsz
  have HY := Lib.hid hy
  clear hm ha hb hv hsz hy ht ka kb
  go_enter Tryz.func66, Tryz.ntmps66
  go_wp2_with fail
  ((with_reducible refine (HLink.out w HM.out HT.out.1 HT.out.2).mono ?_); rintro e w1 ⟨pt, rfl, ⟨t, rfl, tbp, tkp, hh, hhx, hhb, hhk⟩, hm1, hb1⟩)
  have K1 := Lib.hid ((Tkk.refl HM.out).turn hm1 hb1)
  have HH := Lib.hid hh
  have HL := Lib.hid (And.intro hhb (And.intro hhk (And.intro hhx (HY.out.kp (hb1.kpt HM.out tree_ne)))))
  have c0 := (six_kp hh (Kpt.refl w1)).c0
  clear hh hhx hhb hhk HY hm1 hb1 HM HT HLink
  go_wp2_with fail
  go_region
  have K2 := Lib.hid K1.out.drew
  have kk := Kp.below ((Below.refl w1.heap.size w1).drew)
  have HH2 := Lib.hid (tree_kp HH.out kk)
  have HL2 := Lib.hid (And.intro (HL.out.1.kp kk) (And.intro (HL.out.2.1.kp kk) (And.intro (HL.out.2.2.1.kp kk) (HL.out.2.2.2.kp kk))))
  clear c0 kk HH HL K1
  generalize w1.drew = w2 at *
  have c0 := (six_kp HH2.out (Kpt.refl w2)).c0
  go_wp2_with fail
  ((with_reducible refine (key_any x w2 HL2.out.2.2.1).mono ?_); rintro e w3 ⟨rfl, hb3⟩)
  have K3 := Lib.hid (And.intro (K2.out.stay hb3) (Kp.below hb3))
  clear hb3 c0
  go_wp2_with fail
  ((with_reducible refine (key_any y w3 (HL2.out.2.2.2.kp K3.out.2)).mono ?_); rintro e w4 ⟨rfl, hb4⟩)
  have K4 := Lib.hid (And.intro (K3.out.1.stay hb4) (K3.out.2.trans (Kp.below hb4)))
  clear hb4 K2 K3
  go_wp2_with fail
  ((with_reducible refine (mLess mo (c + n) (m + n) x.key y.key w4 K4.out.1.mt (by omega) (by omega)).mono ?_); rintro e w5 ⟨rfl, hm5, hb5⟩)
  rw [HV.out]
  have K5 := Lib.hid (And.intro (K4.out.1.turn hm5 hb5) (K4.out.2.trans (hb5.kpt K4.out.1.mt tree_ne)))
  have c0 := (six_kp HH2.out K5.out.2).c0
  clear hm5 hb5 K4
  go_wp2_with fail
  ((with_reducible refine (mMade mo (c + n + 1) (m + n) w5 K5.out.1.mt (by omega) (by omega)).mono ?_); rintro e w6 ⟨rfl, hm6, hb6⟩)
  have K6 := Lib.hid (And.intro (K5.out.1.turn hm6 hb6) (K5.out.2.trans (hb6.kpt K5.out.1.mt tree_ne)))
  clear hm6 hb6 K5 c0
  have s6 := six_kp HH2.out K6.out.2
  have c2 := s6.c2
  have c3 := s6.c3
  have c4 := s6.c4
  have c5 := s6.c5
  clear s6
  go_wp2_with fail
  go_region_held3 (fun w' => w'.cell? ⟨t, 1, none⟩ = some (.pointer tbp) ∧ w'.cell? ⟨t, 2, none⟩ = some (.int .i64 (ks.len : Int)) ∧ w'.cell? ⟨t, 3, none⟩ = some (.pointer tkp) ∧ w'.cell? ⟨t, 4, none⟩ = some (.int .i64 (bs.length + ks.size : Nat))) (go_keep)
    (first | (go_at_call 95; ((with_reducible refine (pushE_any y tbp _).mono ?_); rintro e w8 ⟨nb, rfl, hn8, hb8⟩; have T8 := Lib.hid (K6.out.1.drew.stay hb8); have P8 := Lib.hid hn8; have K8 := Lib.hid (K6.out.2.trans (Kpt.trans (Kp.below (Below.refl _ w6).drew) (Kp.below hb8))); have s6 := six_kp HH2.out K8.out; have f2 := s6.c2; have f3 := s6.c3; have f4 := s6.c4; have f5 := s6.c5; clear hb8 hn8 s6)))
  clear c2 c3 c4 c5 f2 f3 f4 f5
  go_wp2_with fail
  go_ret
  have hs := HS.out
  have e2 : IntKind.i64.wrap (((bs.length : Int) + ks.size) + 1) = ((y :: bs).length + ks.size : Nat) := by rw [IntKind.wrap_i64]; simp only [List.length_cons]; omega
  rw [e2]
  have hk := (T8.out.alloc (treeObj x (some ⟨nb, 0, none⟩) (ks.len : Int) tkp ((y :: bs).length + ks.size : Nat)))
  have hk8 := K8.out.trans (Kp.below ((Below.refl _ w8).alloc (Nat.le_refl _) (treeObj x (some ⟨nb, 0, none⟩) (ks.len : Int) tkp ((y :: bs).length + ks.size : Nat))))
  refine ⟨_, rfl, ⟨w8.heap.size, rfl, some ⟨nb, 0, none⟩, tkp, new_at rfl, HL2.out.2.2.1.kp hk8, ⟨nb, tbp, rfl, ?_, HL2.out.2.2.2.kp hk8, HL2.out.1.kp hk8⟩, HL2.out.2.1.kp hk8⟩, hk.mt, hk.bt⟩
  exact (Kp.below ((Below.refl _ w8).alloc (Nat.le_refl _) _)) _ _ _ (.inr (.inl rfl)) P8.out

set_option maxRecDepth 100000 in
set_option maxHeartbeats 4000000 in
theorem skew_false (mo : Option Nat) (c m : Int) (y : Thing) (p q : Option Addr) (ta tb : Option Tre) (x : Thing) (bs : List Thing) (ks : Wood) (ht : olnk ta tb = some ⟨x, bs, ks⟩) (w : World) (hy : KeyC w y) (hm : MAt w mo c m) (h0 : 0 ≤ c) (h1 : c < 1152921504606846976) (h2 : 0 ≤ m) (h3 : m < 1152921504606846976)
    (ha : TAt w p ta) (hb : TAt w q tb) (ka : osize ta < 268435456) (kb : osize tb < 268435456) (hv : ltE x.key y.key = false) :
    Calls Tryz.prog 66 #[mAddr mo, .pointer (some ⟨y.a, 0, none⟩), .pointer p, .pointer q] w (Gave mo (c + lnkN ta tb + 1) (m + lnkN ta tb + 1) (some ⟨y, x :: bs, ks⟩) w) := by
  have hsz : 1 + bs.length + ks.size < 536870912 := by have := olnk_size ta tb; rw [ht] at this; simp only [osize, Gn.Tre.size] at this ka kb; omega
  have hN : (lnkN ta tb : Int) ≤ 1 ∧ 0 ≤ (lnkN ta tb : Int) := by cases ta <;> cases tb <;> simp [lnkN]
  have HLink := Lib.hid (fun W (h : MAt W mo c m) ha hb => link_any mo c m p q ta tb W h h0 (by omega) h2 (by omega) ha hb (by omega) (by omega))
  generalize (lnkN ta tb : Int) = n at *
  rw [ht] at HLink
  have HM := Lib.hid hm
  have HT := Lib.hid (And.intro ha hb)
  have HV := Lib.hid hv
  have HS := Lib.hid hsz
  have HY := Lib.hid hy
  clear hm ha hb hv hsz hy ht ka kb
  go_enter Tryz.func66, Tryz.ntmps66
  go_wp2_with fail
  ((with_reducible refine (HLink.out w HM.out HT.out.1 HT.out.2).mono ?_); rintro e w1 ⟨pt, rfl, ⟨t, rfl, tbp, tkp, hh, hhx, hhb, hhk⟩, hm1, hb1⟩)
  have K1 := Lib.hid ((Tkk.refl HM.out).turn hm1 hb1)
  have HH := Lib.hid hh
  have HL := Lib.hid (And.intro hhb (And.intro hhk (And.intro hhx (HY.out.kp (hb1.kpt HM.out tree_ne)))))
  have c0 := (six_kp hh (Kpt.refl w1)).c0
  clear hh hhx hhb hhk HY hm1 hb1 HM HT HLink
  go_wp2_with fail
  go_region
  have K2 := Lib.hid K1.out.drew
  have kk := Kp.below ((Below.refl w1.heap.size w1).drew)
  have HH2 := Lib.hid (tree_kp HH.out kk)
  have HL2 := Lib.hid (And.intro (HL.out.1.kp kk) (And.intro (HL.out.2.1.kp kk) (And.intro (HL.out.2.2.1.kp kk) (HL.out.2.2.2.kp kk))))
  clear c0 kk HH HL K1
  generalize w1.drew = w2 at *
  have c0 := (six_kp HH2.out (Kpt.refl w2)).c0
  go_wp2_with fail
  ((with_reducible refine (key_any x w2 HL2.out.2.2.1).mono ?_); rintro e w3 ⟨rfl, hb3⟩)
  have K3 := Lib.hid (And.intro (K2.out.stay hb3) (Kp.below hb3))
  clear hb3 c0
  go_wp2_with fail
  ((with_reducible refine (key_any y w3 (HL2.out.2.2.2.kp K3.out.2)).mono ?_); rintro e w4 ⟨rfl, hb4⟩)
  have K4 := Lib.hid (And.intro (K3.out.1.stay hb4) (K3.out.2.trans (Kp.below hb4)))
  clear hb4 K2 K3
  go_wp2_with fail
  ((with_reducible refine (mLess mo (c + n) (m + n) x.key y.key w4 K4.out.1.mt (by omega) (by omega)).mono ?_); rintro e w5 ⟨rfl, hm5, hb5⟩)
  rw [HV.out]
  have K5 := Lib.hid (And.intro (K4.out.1.turn hm5 hb5) (K4.out.2.trans (hb5.kpt K4.out.1.mt tree_ne)))
  have c0 := (six_kp HH2.out K5.out.2).c0
  clear hm5 hb5 K4
  go_wp2_with fail
  ((with_reducible refine (mMade mo (c + n + 1) (m + n) w5 K5.out.1.mt (by omega) (by omega)).mono ?_); rintro e w6 ⟨rfl, hm6, hb6⟩)
  have K6 := Lib.hid (And.intro (K5.out.1.turn hm6 hb6) (K5.out.2.trans (hb6.kpt K5.out.1.mt tree_ne)))
  clear hm6 hb6 K5 c0
  have s6 := six_kp HH2.out K6.out.2
  have c2 := s6.c2
  have c3 := s6.c3
  have c4 := s6.c4
  have c5 := s6.c5
  clear s6
  go_wp2_with fail
  go_region_held3 (fun w' => w'.cell? ⟨t, 1, none⟩ = some (.pointer tbp) ∧ w'.cell? ⟨t, 2, none⟩ = some (.int .i64 (ks.len : Int)) ∧ w'.cell? ⟨t, 3, none⟩ = some (.pointer tkp) ∧ w'.cell? ⟨t, 4, none⟩ = some (.int .i64 (bs.length + ks.size : Nat))) (go_keep)
    (first | (go_at_call 95; ((with_reducible refine (pushE_any x tbp _).mono ?_); rintro e w8 ⟨nb, rfl, hn8, hb8⟩; have T8 := Lib.hid (K6.out.1.drew.stay hb8); have P8 := Lib.hid hn8; have K8 := Lib.hid (K6.out.2.trans (Kpt.trans (Kp.below (Below.refl _ w6).drew) (Kp.below hb8))); have s6 := six_kp HH2.out K8.out; have f2 := s6.c2; have f3 := s6.c3; have f4 := s6.c4; have f5 := s6.c5; clear hb8 hn8 s6)))
  clear c2 c3 c4 c5 f2 f3 f4 f5
  go_wp2_with fail
  go_ret
  have hs := HS.out
  have e2 : IntKind.i64.wrap (((bs.length : Int) + ks.size) + 1) = ((x :: bs).length + ks.size : Nat) := by rw [IntKind.wrap_i64]; simp only [List.length_cons]; omega
  rw [e2]
  have hk := (T8.out.alloc (treeObj y (some ⟨nb, 0, none⟩) (ks.len : Int) tkp ((x :: bs).length + ks.size : Nat)))
  have hk8 := K8.out.trans (Kp.below ((Below.refl _ w8).alloc (Nat.le_refl _) (treeObj y (some ⟨nb, 0, none⟩) (ks.len : Int) tkp ((x :: bs).length + ks.size : Nat))))
  refine ⟨_, rfl, ⟨w8.heap.size, rfl, some ⟨nb, 0, none⟩, tkp, new_at rfl, HL2.out.2.2.2.kp hk8, ⟨nb, tbp, rfl, ?_, HL2.out.2.2.1.kp hk8, HL2.out.1.kp hk8⟩, HL2.out.2.1.kp hk8⟩, hk.mt, hk.bt⟩
  exact (Kp.below ((Below.refl _ w8).alloc (Nat.le_refl _) _)) _ _ _ (.inr (.inl rfl)) P8.out

end Go.Proofs.YtlmokendajgbdaaGreatDoor
