/-
  Contract of a binomial heap's ahead: a tree put ahead of trees of no lesser ranks, how many links that takes, that what was there stays but for the meter's block. Conditions: fewer than 2 to the 28th elements, counts below 2 to the 60th, ranks that rise.
-/
import Derived.Test.YtkilmflcgljgeaaDoorHb2
namespace Go.Proofs.YtkilmflcgljgeaaDoor.Hp
open Go.Sort Go.RowKit

theorem putTN_le : ∀ (l : List Tre) (t : Tre), putTN l t ≤ l.length
  | [], _ => Nat.le_refl _
  | u :: r, t => by
    have ih := putTN_le r (lnk t u)
    unfold putTN
    split
    · exact Nat.zero_le _
    · simp only [List.length_cons]; omega
theorem len_bSize : ∀ l : List Tre, l.length ≤ bSize l
  | [] => Nat.le_refl _
  | t :: r => by have := len_bSize r; simp only [List.length_cons, bSize, Tre.size]; omega
theorem putT_size (l : List Tre) (t : Tre) : bSize (putT l t) = t.size + bSize l := by
  have h := (putT_all l t).length_eq
  rw [bAll_length, List.length_append, bAll_length, t.all_length] at h
  exact h
/-- What holds between two rounds of ahead: the trees that are left, the tree so far, how many links there were. -/
structure Ah (mo : Option Nat) (c m : Int) (ts : List Tre) (t : Tre) (a : Nat) (w : World) (us : List Tre) (u : Tre) (d : Nat) (ua q : Option Addr) (n : Nat) (qs : List (Option Addr)) (wr : World) : Prop where
  tr : TAt wr ua (some u)
  ll : Lt.LL wr q n qs
  tl : TsAt wr us qs
  o : Box2 wr (a + 2) 29 (.pointer q) (.int .i64 (n : Int))
  r : Box2 wr (a + 1) 31 (.pointer none) (.int .i64 0)
  k : Trk NodeT mo w (c + d) (m + d) wr
  put : putT us u = putT ts t
  putN : d + putTN us u = putTN ts t
  low : ∀ x ∈ us, u.rank ≤ x.rank
  rise : us.Pairwise (fun a b => a.rank < b.rank)
  size : u.size + bSize us = t.size + bSize ts

theorem rank_at {W : World} {p : Option Addr} {t : Tre} (h : TAt W p (some t)) (r : Nat) (hr : r = t.rank) : Calls Tryd.prog 43 #[.pointer p] W fun e w' => e = .returned (.int .i64 (r : Int)) ∧ w' = W :=
  (Go.Proofs.YtkilmflcgljgeaaDoor.rank_any p (some t) W h).mono fun _ _ ⟨he, hw⟩ => ⟨by rw [he, hr]; rfl, hw⟩

set_option maxRecDepth 100000 in
set_option maxHeartbeats 4000000 in
theorem ahead_any (mo : Option Nat) (c m : Int) (t : Tre) (ts : List Tre) (pa : Option Addr) (p : HP) (w : World) (hs : t.size + bSize ts < 268435456) (hm : MAt w mo c m) (h0 : 0 ≤ c) (h1 : c < 1152921504606846976) (h2 : 0 ≤ m) (h3 : m < 1152921504606846976)
    (hh : LAt w ⟨ts⟩ p) (hta : TAt w pa (some t)) (hk1 : t.hok) (hk2 : t.bin) (hlow : ∀ x ∈ ts, t.rank ≤ x.rank) :
    Calls Tryd.prog 38 #[hp p, mAddr mo, .pointer pa] w (Gave mo (c + putTN ts t) (m + putTN ts t) ⟨putT ts t⟩ w) := by
  have hok : bOk ts := hh.right
  have hlen : ts.length < 268435456 := hh.len
  obtain ⟨ps, n, hn, hnl, hl, ht⟩ := hh.list
  obtain ⟨q, pn⟩ := p
  change pn = (n : Int) at hn
  subst hn
  have b1 := (Box2.new w 31 (.pointer q) (.int .i64 (n : Int))).alloc (.cells #[.pointer none, .int .i64 0] 31) |>.alloc (.cells #[.pointer q, .int .i64 (n : Int)] 29)
  have b2 := (Box2.new (w.alloc (.cells #[.pointer q, .int .i64 (n : Int)] 31)) 31 (.pointer none) (.int .i64 0)).alloc (.cells #[.pointer q, .int .i64 (n : Int)] 29)
  have b3 := Box2.new ((w.alloc (.cells #[.pointer q, .int .i64 (n : Int)] 31)).alloc (.cells #[.pointer none, .int .i64 0] 31)) 29 (.pointer q) (.int .i64 (n : Int))
  simp only [World.size_alloc] at b2 b3
  have hb : Below w.heap.size w (((w.alloc (.cells #[.pointer q, .int .i64 (n : Int)] 31)).alloc (.cells #[.pointer none, .int .i64 0] 31)).alloc (.cells #[.pointer q, .int .i64 (n : Int)] 29)) := (((Below.refl _ w).alloc (Nat.le_refl _) _).alloc (by simp) _).alloc (by simp; omega) _
  have A1 : Ah mo c m ts t w.heap.size w ts t 0 pa q n ps (((w.alloc (.cells #[.pointer q, .int .i64 (n : Int)] 31)).alloc (.cells #[.pointer none, .int .i64 0] 31)).alloc (.cells #[.pointer q, .int .i64 (n : Int)] 29)) :=
    ⟨hta.stay hb, hl.stay hb, ht.kp (Kpt.below hb), b3, b2, by simpa using (Trk.refl (N := NodeT) hm).stay hb, rfl, by omega, hlow, hok.rise, rfl⟩
  have HA := Lib.hid A1
  have HN := Lib.hid (And.intro h0 (And.intro h1 (And.intro h2 (And.intro h3 (And.intro hs (And.intro hlen (And.intro hok (And.intro hk1 (And.intro hk2 hlow)))))))))
  clear A1 b1 b2 b3 hb hh hl ht hm h0 h1 h2 h3 hs hlen hok hk1 hk2 hlow hta hnl
  go_enter Tryd.func38, Tryd.ntmps38
  go_wp2_with fail
  go_step3
  go_wp2_with fail
  go_step3
  go_wp2_with fail
  generalize ((w.alloc (.cells #[.pointer q, .int .i64 (n : Int)] 31)).alloc (.cells #[.pointer none, .int .i64 0] 31)).alloc (.cells #[.pointer q, .int .i64 (n : Int)] 29) = w1 at *
  obtain ⟨a, ha⟩ : ∃ a, a = w.heap.size := ⟨_, rfl⟩
  rw [← ha] at HA ⊢
  have HB := Lib.hid (Nat.le_of_eq ha.symm)
  clear ha
  go_loopg [2] ts.length (fun k v wr => ∃ (us : List Tre) (u : Tre) (d : Nat) (ua q : Option Addr) (n : Nat) (qs : List (Option Addr)), v = .pointer ua ∧ k = us.length ∧ Ah mo c m ts t a w us u d ua q n qs wr)
  case atStart => exact ⟨ts, t, 0, pa, q, n, ps, rfl, rfl, HA.out⟩
  case round =>
    clear HA
    obtain ⟨us, u, d, ua, q, n, qs, rfl, hk, hA⟩ := hrel
    have o0 := hA.o.c0
    have o1 := hA.o.c1
    have HA := Lib.hid hA
    have hd : d ≤ putTN ts t := by have := hA.putN; omega
    have hd2 := putTN_le ts t
    have HD := Lib.hid (And.intro hd hd2)
    clear hd hd2 hA
    -- what comes behind the loop
    have fin : ∀ (W : World) (q2 : Option Addr) (n2 : Nat) (qs2 : List (Option Addr)), Lt.LL W q2 n2 (ua :: qs) → TsAt W us qs → TAt W ua (some u) → Box2 W (a + 1) 31 (.pointer none) (.int .i64 0) → Trk NodeT mo w (c + d) (m + d) W → putT us u = u :: us → putTN us u = 0 →
        Gave mo (c + putTN ts t) (m + putTN ts t) ⟨putT ts t⟩ w (.returned (hp ⟨q2, (n2 : Int)⟩)) ((W.setCell ⟨a + 1, 0, none⟩ (.pointer q2)).setCell ⟨a + 1, 1, none⟩ (.int .i64 (n2 : Int))) := fun W q2 n2 _ hl2 ht2 hu2 hb2 hk2 hp hpN => by
      have e1 : putTN ts t = d := by have := HA.out.putN; omega
      have hz := hk2.put2 hb2 heapT_ne (by decide) (by have := HB.out; omega) (.pointer q2) (.int .i64 (n2 : Int))
      have hg := putT_good ts t HN.out.2.2.2.2.2.2.2.1 HN.out.2.2.2.2.2.2.2.2.1 HN.out.2.2.2.2.2.2.2.2.2 HN.out.2.2.2.2.2.2.1.hok HN.out.2.2.2.2.2.2.1.bin HN.out.2.2.2.2.2.2.1.rise
      refine ⟨⟨q2, (n2 : Int)⟩, rfl, ?_, e1 ▸ hz.mt, hz.bt⟩
      have hput : putT ts t = u :: us := by rw [← HA.out.put, hp]
      have hsz : bSize (putT ts t) < 268435456 := by rw [putT_size]; exact HN.out.2.2.2.2.1
      have hokk : bOk (putT ts t) := ⟨hg.1, hg.2.1, hg.2.2.1⟩
      rw [hput] at hsz hokk ⊢
      exact LAt.of (ll_set2 hl2 hb2 heapT_ne _ _) (TsAt.set2 (ts := u :: us) ⟨ua, qs, rfl, hu2, ht2⟩ hb2 heapT_ne _ _) hsz hokk
    have FIN := Lib.hid fin
    clear fin
    cases us with
    | nil =>
      obtain rfl : qs = [] := HA.out.tl
      obtain rfl : q = none := HA.out.ll.1
      have hn0 : n = 0 := HA.out.ll.2.1
      have HN0 := Lib.hid hn0
      clear hn0
      clear hk
      go_wp2_with fail
      ((with_reducible refine (Lt.first_nil _ _).mono ?_); rintro e w2 ⟨rfl, hb2⟩)
      have B2 := Lib.hid (And.intro (HA.out.o.stay hb2) (And.intro (HA.out.r.stay hb2) (And.intro (HA.out.k.stay hb2) (And.intro (HA.out.tr.stay hb2) (HA.out.ll.stay hb2)))))
      have p0 := B2.out.1.c0
      have p1 := B2.out.1.c1
      clear hb2 o0 o1
      go_wp2_with fail
      clear p0 p1
      ((with_reducible refine (Lt.push_l ua B2.out.2.2.2.2 (by have := HN0.out; omega)).mono ?_); rintro e w3 ⟨q3, n3, rfl, hl3, hb3⟩)
      have B3 := Lib.hid (And.intro (B2.out.2.1.stay hb3) (And.intro (B2.out.2.2.1.stay hb3) (B2.out.2.2.2.1.stay hb3)))
      have z0 := B3.out.1.z0
      have z1 := B3.out.1.z1
      have y0 := B3.out.1.c0
      have y1 := B3.out.1.c1
      have G := Lib.hid (FIN.out w3 q3 n3 [] hl3 rfl B3.out.2.2 B3.out.1 B3.out.2.1 rfl rfl)
      have s0 := (B3.out.1.set (.pointer q3) (.int .i64 (n3 : Int))).c0
      have s1 := (B3.out.1.set (.pointer q3) (.int .i64 (n3 : Int))).c1
      clear hl3 hb3
      go_wp2_with fail
      rw [Exit.noGoto_ret]
      exact bodyPost_ret (v := hp ⟨q3, (n3 : Int)⟩) (by simp [results, Tryd.results38, go_sem, s0, s1]) rfl G.out
    | cons x us =>
      obtain ⟨xa, qs, rfl, htx, hts⟩ := HA.out.tl
      have hsz := HA.out.size
      have hll := HA.out.ll
      have hnq : n = (xa :: qs).length := hll.2.1
      simp only [bSize] at hsz
      obtain ⟨rx, hrx⟩ : ∃ r, r = x.rank := ⟨_, rfl⟩
      obtain ⟨ru, hru⟩ : ∃ r, r = u.rank := ⟨_, rfl⟩
      have hle : ru ≤ rx := by rw [hru, hrx]; exact HA.out.low x (List.mem_cons_self ..)
      have HX := Lib.hid (And.intro htx (And.intro hts (And.intro hrx (And.intro hru (And.intro hsz (And.intro hnq (And.intro hk hle)))))))
      have hcz := Lt.first_cons q xa qs n wr hll.1
      have HC := Lib.hid hcz
      clear htx hts hrx hru hsz hll hnq hcz hk
      go_wp2_with fail
      ((with_reducible refine HC.out.mono ?_); rintro e w2 ⟨rfl, hb2⟩)
      have B2 := Lib.hid (And.intro (HA.out.o.stay hb2) (And.intro (HA.out.r.stay hb2) (And.intro (HA.out.k.stay hb2) (And.intro (HA.out.tr.stay hb2) (And.intro (HA.out.ll.stay hb2) (And.intro (HX.out.1.stay hb2) (HX.out.2.1.kp (Kpt.below hb2))))))))
      clear hb2 o0 o1 HC
      go_wp2_with fail
      ((with_reducible refine (rank_at B2.out.2.2.2.2.2.1 rx HX.out.2.2.1).mono ?_); rintro e w3 ⟨rfl, hw3⟩)
      subst hw3
      go_wp2_with fail
      ((with_reducible refine (rank_at B2.out.2.2.2.1 ru HX.out.2.2.2.1).mono ?_); rintro e w3 ⟨rfl, hw3⟩)
      subst hw3
      by_cases heq : rx = ru
      · have g1 : ((rx : Int) == (ru : Int)) = true := by simp; omega
        have g2 : rx = ru := heq
        have p0 := B2.out.1.c0
        have p1 := B2.out.1.c1
        go_wp2_with fail
        go_region_with (first | (go_at_call 53; ((with_reducible refine (Lt.rest_l B4.out.2.2.2.2.1).mono ?_); rintro e w5 ⟨q5, n5, rfl, hl5, hb5⟩; have B5 := Lib.hid (And.intro (B4.out.1.stay hb5) (And.intro (B4.out.2.1.stay hb5) (And.intro (B4.out.2.2.1.stay hb5) (And.intro (B4.out.2.2.2.1.stay hb5) (And.intro hl5 (B4.out.2.2.2.2.2.kp (Kpt.below hb5))))))); have x0 := B5.out.1.c0; have x1 := B5.out.1.c1; have z0 := B5.out.1.z0; have z1 := B5.out.1.z1; clear hl5 hb5)) | (go_at_call 46; ((with_reducible refine (link_any mo (c + d) (m + d) ua xa (some u) (some x) _ B2.out.2.2.1.drew.mt (by have := HN.out; omega) (by have := HN.out; have := HD.out; omega) (by have := HN.out; omega) (by have := HN.out; have := HD.out; omega) (B2.out.2.2.2.1.stay ((Below.refl _ _).drew)) (B2.out.2.2.2.2.2.1.stay ((Below.refl _ _).drew)) (by have := HX.out; have := HN.out; simp only [osize]; omega) (by have := HX.out; have := HN.out; simp only [osize]; omega)).mono ?_); rintro e w4 ⟨p4, rfl, ht4, hm4, hb4⟩; have B4 := Lib.hid (And.intro (B2.out.1.bt (((Bt.refl mo _).drew).trans hb4) B2.out.2.2.1.mt (by decide)) (And.intro (B2.out.2.1.bt (((Bt.refl mo _).drew).trans hb4) B2.out.2.2.1.mt (by decide)) (And.intro (B2.out.2.2.1.drew.turn hm4 hb4 node_ne) (And.intro ht4 (And.intro (ll_bt B2.out.2.2.2.2.1 (((Bt.refl mo _).drew).trans hb4) B2.out.2.2.1.mt) (B2.out.2.2.2.2.2.2.bt (((Bt.refl mo _).drew).trans hb4) B2.out.2.2.1.mt)))))); have y0 := B4.out.1.c0; have y1 := B4.out.1.c1; clear ht4 hm4 hb4)))
        all_goals
          have X := Lib.hid (And.intro (B5.out.1.set (.pointer q5) (.int .i64 (n5 : Int))) (And.intro (B5.out.2.1.aside (g := a + 2) (by omega) (.pointer q5) (.int .i64 (n5 : Int))) (And.intro (B5.out.2.2.1.put2 B5.out.1 listT_ne (by decide) (by have := HB.out; omega) (.pointer q5) (.int .i64 (n5 : Int))) (And.intro (B5.out.2.2.2.1.kp (Kp.set2 B5.out.1 listT_ne (.pointer q5) (.int .i64 (n5 : Int))).tree) (And.intro (ll_set2 B5.out.2.2.2.2.1 B5.out.1 listT_ne (.pointer q5) (.int .i64 (n5 : Int))) (B5.out.2.2.2.2.2.set2 B5.out.1 listT_ne (.pointer q5) (.int .i64 (n5 : Int))))))))
          go_wp2_with fail
          go_roundg us.length
          case measure => have := HX.out.2.2.2.2.2.2.1; simp only [List.length_cons] at this; omega
          case rel =>
            have hr := HX.out.2.2.1
            have hr2 := HX.out.2.2.2.1
            have hlt : ¬ u.rank < x.rank := by omega
            have hlr := lnk_rank (a := u) (b := x) (by omega)
            have hp := List.pairwise_cons.1 HA.out.rise
            refine ⟨us, lnk u x, d + 1, p4, q5, n5, qs, rfl, rfl, ⟨X.out.2.2.2.1, X.out.2.2.2.2.1, X.out.2.2.2.2.2, X.out.1, X.out.2.1, ?_, ?_, ?_, ?_, hp.2, ?_⟩⟩
            · have := X.out.2.2.1
              simp only [lnkN] at this
              have e1 : c + ((d + 1 : Nat) : Int) = c + (d : Int) + ((1 : Nat) : Int) := by omega
              have e2 : m + ((d + 1 : Nat) : Int) = m + (d : Int) + ((1 : Nat) : Int) := by omega
              rw [e1, e2]
              exact this
            · rw [← HA.out.put, putT, if_neg hlt]
            · have := HA.out.putN
              rw [putTN, if_neg hlt] at this
              omega
            · intro y hy
              rw [hlr]
              have := hp.1 y hy
              omega
            · rw [lnk_size]; have := HX.out.2.2.2.2.1; omega
      · have g1 : ((rx : Int) == (ru : Int)) = false := by simp; omega
        have g2 : ¬ rx = ru := heq
        have p0 := B2.out.1.c0
        have p1 := B2.out.1.c1
        go_wp2_with fail
        clear p0 p1
        ((with_reducible refine (Lt.push_l ua B2.out.2.2.2.2.1 (by have := B2.out.2.2.2.2.2.2.length; have := HX.out; have := HN.out; have h8 := Lt.LL.len B2.out.2.2.2.2.1; have h9 := len_bSize us; simp only [List.length_cons] at *; omega)).mono ?_); rintro e w3 ⟨q3, n3, rfl, hl3, hb3⟩)
        have B3 := Lib.hid (And.intro (B2.out.2.1.stay hb3) (And.intro (B2.out.2.2.1.stay hb3) (And.intro (B2.out.2.2.2.1.stay hb3) (And.intro (B2.out.2.2.2.2.2.1.stay hb3) (B2.out.2.2.2.2.2.2.kp (Kpt.below hb3))))))
        have z0 := B3.out.1.z0
        have z1 := B3.out.1.z1
        have y0 := B3.out.1.c0
        have y1 := B3.out.1.c1
        have hlt : u.rank < x.rank := by have := HX.out; omega
        have G := Lib.hid (FIN.out w3 q3 n3 [] hl3 ⟨xa, qs, rfl, B3.out.2.2.2.1, B3.out.2.2.2.2⟩ B3.out.2.2.1 B3.out.1 B3.out.2.1 (by rw [putT, if_pos hlt]) (by rw [putTN, if_pos hlt]))
        have s0 := (B3.out.1.set (.pointer q3) (.int .i64 (n3 : Int))).c0
        have s1 := (B3.out.1.set (.pointer q3) (.int .i64 (n3 : Int))).c1
        clear hl3 hb3 hlt
        go_wp2_with fail
        rw [Exit.noGoto_ret]
        exact bodyPost_ret (v := hp ⟨q3, (n3 : Int)⟩) (by simp [results, Tryd.results38, go_sem, s0, s1]) rfl G.out

end Go.Proofs.YtkilmflcgljgeaaDoor.Hp
