/-
  Contract of a skew binomial heap's Meld: the heap, how many links there were, that what was there stays but for the meter's block. Conditions: fewer than 2 to the 28th elements, counts below 2 to the 58th.
-/
import Derived.Test.YtlmokendajgbdaaGreatDoorV4
namespace Go.Proofs.YtlmokendajgbdaaGreatDoor.Hp
open Go.Sort Go.RowKit Go.Proofs.YtlmokendajgbdaaGreatDoor.Gn

theorem melded_any (mo : Option Nat) (la lb : List Tre) (c m : Int) (p q : HP) (w : World) (hs : bSize la + bSize lb < 268435456) (hm : MAt w mo c m) (h0 : 0 ≤ c) (h1 : c < 576460752303423488) (h2 : 0 ≤ m) (h3 : m < 576460752303423488) (ha : LAt w ⟨la⟩ p) (hb : LAt w ⟨lb⟩ q) (ra : rises la) (rb : rises lb) :
    Calls Tryz.prog 79 #[hp p, mAddr mo, hp q] w (Gave mo (c + bmeldN la lb) (m + bmeldN la lb) ⟨bmeld la lb⟩ w) := melded_all mo la lb c m p q w hs hm h0 h1 h2 h3 ha hb ra rb
theorem levN_size (l : List Tre) : levN l ≤ bSize l := by
  have h1 := levT_len l
  have h2 := len_bSize l
  omega
theorem levT_rises {l : List Tre} (h : sOk l) : rises (levT l) := (levT_good h).2.2
set_option maxRecDepth 100000 in
set_option maxHeartbeats 4000000 in
theorem meldL (mo : Option Nat) (la lb : List Tre) (c m : Int) (p q : HP) (w : World) (hs : bSize la + bSize lb < 268435456) (hm : MAt w mo c m) (h0 : 0 ≤ c) (h1 : c < 288230376151711744) (h2 : 0 ≤ m) (h3 : m < 288230376151711744) (ha : LAt w ⟨la⟩ p) (hb : LAt w ⟨lb⟩ q) :
    Calls Tryz.prog 44 #[hp p, mAddr mo, hp q] w (Gave mo (c + smeldN la lb) (m + smeldN la lb) ⟨smeld la lb⟩ w) := by
  have HF := Lib.hid (Fm.new w p q)
  have KK := Lib.hid ((Trk.refl (N := NodeT) hm).stay (new3_below w (.cells #[.pointer p.q, .int .i64 p.n] 85) (.cells #[.pointer q.q, .int .i64 q.n] 85) (.cells #[.pointer none, .int .i64 0] 85)))
  have HL := Lib.hid (And.intro (ha.stay (new3_below w (.cells #[.pointer p.q, .int .i64 p.n] 85) (.cells #[.pointer q.q, .int .i64 q.n] 85) (.cells #[.pointer none, .int .i64 0] 85))) (hb.stay (new3_below w (.cells #[.pointer p.q, .int .i64 p.n] 85) (.cells #[.pointer q.q, .int .i64 q.n] 85) (.cells #[.pointer none, .int .i64 0] 85))))
  have HO := Lib.hid (And.intro (show sOk la from ha.right) (show sOk lb from hb.right))
  have hz1 := levN_size la
  have hz2 := levN_size lb
  have HN := Lib.hid (And.intro hs (And.intro h0 (And.intro h1 (And.intro h2 (And.intro h3 (And.intro hz1 hz2))))))
  clear hs h0 h1 h2 h3 hm ha hb hz1 hz2
  go_enter Tryz.func44, Tryz.ntmps44
  go_wp2_with fail
  generalize ((w.alloc (.cells #[.pointer p.q, .int .i64 p.n] 85)).alloc (.cells #[.pointer q.q, .int .i64 q.n] 85)).alloc (.cells #[.pointer none, .int .i64 0] 85) = w1 at *
  obtain ⟨a, ha⟩ : ∃ a, a = w.heap.size := ⟨_, rfl⟩
  rw [← ha] at HF ⊢
  have HA := Lib.hid ha
  clear ha
  ((with_reducible refine (lev_any mo c m la p _ (by have := HN.out; omega) KK.out.mt HN.out.2.1 (by have := HN.out; omega) HN.out.2.2.2.1 (by have := HN.out; omega) HL.out.1).mono ?_); rintro e w2 ⟨p5, rfl, ht, hm2, hb⟩)
  have hb4 : Bt mo w1 (w2.alloc (.cells #[.pointer p5.q, .int .i64 p5.n] 85)) := hb.alloc _
  have F3 := Lib.hid (HF.out.bt hb4 KK.out.mt)
  have K3 := Lib.hid (KK.out.turn (hm2.alloc (.cells #[.pointer p5.q, .int .i64 p5.n] 85)) hb4 node_ne)
  have L3 := Lib.hid (And.intro (ht.stay ((Below.refl _ _).alloc (Nat.le_refl _) (.cells #[.pointer p5.q, .int .i64 p5.n] 85))) (HL.out.2.bt hb4 KK.out.mt))
  have V3 := Lib.hid (Box2.new w2 85 (.pointer p5.q) (.int .i64 p5.n))
  have HVL := Lib.hid (Nat.lt_of_lt_of_le HF.out.r.lt hb.size)
  clear ht hm2 hb hb4 HF KK HL
  go_wp2_with fail
  generalize w2.alloc (.cells #[.pointer p5.q, .int .i64 p5.n] 85) = w3 at *
  obtain ⟨v, hv⟩ : ∃ v, v = w2.heap.size := ⟨_, rfl⟩
  rw [← hv] at V3 HVL ⊢
  clear hv
  have v0 := V3.out.c0
  have v1 := V3.out.c1
  have f2 := F3.out.o.c0
  have f3 := F3.out.o.c1
  have n1 : ¬ v = a + 1 + 1 := by have := HVL.out; omega
  have n2 : ¬ a + 1 + 1 = v := by have := HVL.out; omega
  have n3 : ¬ a + 1 = a + 1 + 1 := by omega
  have n4 : ¬ a + 1 + 1 = a + 1 := by omega
  go_region_held3 (fun w' => w'.cell? ⟨v, 0, none⟩ = some (.pointer p5.q) ∧ w'.cell? ⟨v, 1, none⟩ = some (.int .i64 p5.n) ∧ w'.cell? ⟨a + 1, 0, none⟩ = some (.pointer q.q) ∧ w'.cell? ⟨a + 1, 1, none⟩ = some (.int .i64 q.n)) (go_keep)
    (first | (go_at_call 79; ((with_reducible refine (melded_any mo (levT la) (levT lb) (c + levN la + levN lb) (m + levN la + levN lb) p5 p6 _ (by rw [levT_size, levT_size]; exact HN.out.1) K4.out.mt (by have := HN.out; omega) (by have := HN.out; omega) (by have := HN.out; omega) (by have := HN.out; omega) L4.out.1 L4.out.2 (levT_rises HO.out.1) (levT_rises HO.out.2)).mono ?_); rintro e w5 ⟨p7, rfl, ht5, hm5, hb5⟩; have F5 := Lib.hid (F4.out.bt hb5 K4.out.mt); have V5 := Lib.hid (V4.out.bt hb5 K4.out.mt (by decide)); have K5 := Lib.hid (K4.out.turn hm5 hb5 node_ne); have L5 := Lib.hid ht5; have kb0 := V5.out.c0; have kb1 := V5.out.c1; have kb2 := F5.out.o.c0; have kb3 := F5.out.o.c1; have r6 := F5.out.r.c0; have r7 := F5.out.r.c1; have z6 := F5.out.r.z0; have z7 := F5.out.r.z1; clear ht5 hm5 hb5)) | (go_at_call 78; ((with_reducible refine (lev_any mo (c + levN la) (m + levN la) lb q _ (by have := HN.out; omega) K3.out.drew.mt (by have := HN.out; omega) (by have := HN.out; omega) (by have := HN.out; omega) (by have := HN.out; omega) (L3.out.2.stay ((Below.refl _ _).drew))).mono ?_); rintro e w4 ⟨p6, rfl, ht4, hm4, hb4⟩; have F4 := Lib.hid ((F3.out.stay ((Below.refl _ _).drew)).bt hb4 K3.out.drew.mt); have V4 := Lib.hid ((V3.out.stay ((Below.refl _ _).drew)).bt hb4 K3.out.drew.mt (by decide)); have K4 := Lib.hid (K3.out.drew.turn hm4 hb4 node_ne); have L4 := Lib.hid (And.intro ((L3.out.1.stay ((Below.refl _ _).drew)).bt hb4 K3.out.drew.mt) ht4); have ka0 := V4.out.c0; have ka1 := V4.out.c1; have ka2 := F4.out.o.c0; have ka3 := F4.out.o.c1; clear ht4 hm4 hb4)))
  go_wp2_with fail
  have s0 := (F5.out.r.set (.pointer p7.q) (.int .i64 p7.n)).c0
  have s1 := (F5.out.r.set (.pointer p7.q) (.int .i64 p7.n)).c1
  have hk := K5.out.put2 F5.out.r heapT_ne (by decide) (by have := HA.out; omega) (.pointer p7.q) (.int .i64 p7.n)
  have hmt := hk.mt
  rw [show c + (levN la : Nat) + (levN lb : Nat) + (bmeldN (levT la) (levT lb) : Nat) = c + ((smeldN la lb : Nat) : Int) from by unfold smeldN; omega, show m + (levN la : Nat) + (levN lb : Nat) + (bmeldN (levT la) (levT lb) : Nat) = m + ((smeldN la lb : Nat) : Int) from by unfold smeldN; omega] at hmt
  exact bodyPost_ret (v := hp p7) (by simp [results, Tryz.results44, go_sem, s0, s1]) rfl ⟨p7, rfl, L5.out.set2 F5.out.r heapT_ne _ _, hmt, hk.bt⟩
theorem meld_any (mo : Option Nat) (a b : Lh) (c m : Int) (p q : HP) (w : World) (hs : a.size + b.size < 268435456) (hm : MAt w mo c m) (h0 : 0 ≤ c) (h1 : c < 288230376151711744) (h2 : 0 ≤ m) (h3 : m < 288230376151711744)
    (ha : LAt w a p) (hb : LAt w b q) : Calls Tryz.prog 44 #[hp p, mAddr mo, hp q] w (Gave mo (c + meldN a b) (m + meldN a b) (meld a b) w) :=
  meldL mo a.ts b.ts c m p q w hs hm h0 h1 h2 h3 ha hb

end Go.Proofs.YtlmokendajgbdaaGreatDoor.Hp
