/-
  Contracts of a skew binomial heap's ahead and levelled: a tree put ahead of trees of no lesser ranks, the first tree put ahead of the others; how many links that takes, that what was there stays but for the meter's block. Conditions: fewer than 2 to the 28th elements, counts below 2 to the 60th, ranks that rise.
-/
import Derived.Test.YtlmokendajgbdaaGreatDoorV2
namespace Go.Proofs.YtlmokendajgbdaaGreatDoor.Hp
open Go.Sort Go.RowKit Go.Proofs.YtlmokendajgbdaaGreatDoor.Gn

theorem putTN_le : ∀ (l : List Tre) (t : Tre), putTN l t ≤ l.length
  | [], _ => Nat.le_refl _
  | u :: r, t => by
    have ih := putTN_le r (lnk t u)
    unfold putTN
    split
    · exact Nat.zero_le _
    · simp only [List.length_cons]; omega
theorem len_bSize : ∀ l : List Tre, l.length ≤ bSize l
  | [] => Nat.le_refl _
  | t :: r => by have := len_bSize r; simp only [List.length_cons, bSize, Gn.Tre.size]; omega
theorem putT_size (l : List Tre) (t : Tre) : bSize (putT l t) = t.size + bSize l := by
  have h := (putT_all l t).length_eq
  rw [bAll_length, List.length_append, bAll_length, t.all_length] at h
  exact h
theorem rank_at {W : World} {p : Option Addr} {t : Tre} (h : TAt W p (some t)) (r : Nat) (hr : r = t.rank) : Calls Tryz.prog 63 #[.pointer p] W fun e w' => e = .returned (.int .i64 (r : Int)) ∧ w' = W :=
  (Go.Proofs.YtlmokendajgbdaaGreatDoor.rank_any p (some t) W h).mono fun _ _ ⟨he, hw⟩ => ⟨by rw [he, hr]; rfl, hw⟩
/-- A heap's list. -/
theorem field_h : ∀ (x : Option Addr) (y : Int) (w : World), (Instr.field 85 (.agg #[.pointer x, .int .i64 y]) 0).run Tryz.prog w = .ok (.agg #[.pointer x, .int .i64 y]) w := fun _ _ _ => by kernel_rfl
/-- The first tree of a heap. -/
theorem first_h {t : Tre} {ts : List Tre} {p : HP} {w : World} (h : LAt w ⟨t :: ts⟩ p) : ∃ a, TAt w a (some t) ∧ Calls Tryz.prog 61 #[hp p] w fun e w' => e = .returned (.tuple #[.pointer a, .bool true]) ∧ Below w.heap.size w w' := by
  obtain ⟨ps, h1, ⟨a, ps', rfl, h2, h2'⟩, h3, h4⟩ := h
  exact ⟨a, h2, Lt.first_cons p.q a ps' p.n w h1⟩
theorem first_0 {p : HP} {w : World} (h : LAt w .nil p) : Calls Tryz.prog 61 #[hp p] w fun e w' => e = .returned (.tuple #[.pointer none, .bool false]) ∧ Below w.heap.size w w' := by
  obtain rfl := h.no
  exact Lt.first_nil 0 w
/-- A tree pushed ahead. -/
theorem push_h {t : Tre} {ts : List Tre} {p : HP} {a : Option Addr} {w : World} (h : LAt w ⟨ts⟩ p) (ht : TAt w a (some t)) (hs : t.size + bSize ts < 268435456) (hk : sOk (t :: ts)) : Calls Tryz.prog 65 #[hp p, .pointer a] w fun e w' => ∃ p' : HP, e = .returned (.agg #[.pointer p'.q, .int .i64 p'.n]) ∧ LAt w' ⟨t :: ts⟩ p' ∧ Below w.heap.size w w' := by
  have hlen := h.len
  obtain ⟨ps, n, hn, hnl, hl, hts⟩ := h.list
  change n = ts.length at hnl
  change ts.length < _ at hlen
  obtain ⟨q, pn⟩ := p
  change pn = (n : Int) at hn
  subst hn
  refine (Lt.push_l a hl (by omega)).mono fun e w' ⟨q', n', he, hl', hb⟩ => ⟨⟨q', (n' : Int)⟩, he, ?_, hb⟩
  exact LAt.of (ts := t :: ts) hl' ⟨a, ps, rfl, ht.stay hb, hts.kp (Kpt.below hb)⟩ hs hk
/-- A tree ahead of others, of a lesser rank. -/
theorem push_ok {t : Tre} {ts : List Tre} (h1 : t.hok) (h2 : t.sk) (h : sOk ts) (hlow : ∀ x ∈ ts, t.rank ≤ x.rank) (hr : rises ts) : sOk (t :: ts) :=
  ⟨fun u hu => by rcases List.mem_cons.1 hu with rfl | hu; exact h1; exact h.hok u hu, fun u hu => by rcases List.mem_cons.1 hu with rfl | hu; exact h2; exact h.sk u hu, ⟨hlow, hr⟩⟩

/-- Two variables: a heap, what is handed back. -/
structure F2 (W : World) (a : Nat) (p : HP) : Prop where
  h : Box2 W a 85 (.pointer p.q) (.int .i64 p.n)
  r : Box2 W (a + 1) 85 (.pointer none) (.int .i64 0)
section
variable {W W' : World} {a : Nat} {p q : HP} {mo : Option Nat} {c m : Int}
theorem F2.new (w : World) (p : HP) : F2 ((w.alloc (.cells #[.pointer p.q, .int .i64 p.n] 85)).alloc (.cells #[.pointer none, .int .i64 0] 85)) w.heap.size p := by
  refine ⟨(Box2.new w 85 _ _).alloc _, ?_⟩
  have := Box2.new (w.alloc (.cells #[.pointer p.q, .int .i64 p.n] 85)) 85 (.pointer none) (.int .i64 0)
  simpa only [World.size_alloc] using this
theorem F2.stay (h : F2 W a p) (hb : Below W.heap.size W W') : F2 W' a p := ⟨h.h.stay hb, h.r.stay hb⟩
theorem F2.bt (h : F2 W a p) (hb : Bt mo W W') (hm : MAt W mo c m) : F2 W' a p := ⟨h.h.bt hb hm (by decide), h.r.bt hb hm (by decide)⟩
end
theorem new2_below (w : World) (x y : Obj) : Below w.heap.size w ((w.alloc x).alloc y) := ((Below.refl _ w).alloc (Nat.le_refl _) _).alloc (by simp) _

/-- What ahead hands back. -/
def AheadTo (mo : Option Nat) (ts : List Tre) : Prop := ∀ (c m : Int) (t : Tre) (pa : Option Addr) (p : HP) (w : World), t.size + bSize ts < 268435456 → MAt w mo c m → 0 ≤ c → c + ts.length < 1152921504606846976 → 0 ≤ m → m + ts.length < 1152921504606846976 →
    LAt w ⟨ts⟩ p → rises ts → TAt w pa (some t) → t.hok → t.sk → (∀ x ∈ ts, t.rank ≤ x.rank) →
    Calls Tryz.prog 102 #[hp p, mAddr mo, .pointer pa] w (Gave mo (c + putTN ts t) (m + putTN ts t) ⟨putT ts t⟩ w)

set_option maxRecDepth 100000 in
set_option maxHeartbeats 4000000 in
theorem ahead_nil (mo : Option Nat) : AheadTo mo [] := by
  intro c m t pa p w hs hm h0 h1 h2 h3 hl hr ht hk1 hk2 hlow
  have HF := Lib.hid (F2.new w p)
  have KK := Lib.hid ((Trk.refl (N := NodeT) hm).stay (new2_below w (.cells #[.pointer p.q, .int .i64 p.n] 85) (.cells #[.pointer none, .int .i64 0] 85)))
  have HL := Lib.hid (And.intro (hl.stay (new2_below w (.cells #[.pointer p.q, .int .i64 p.n] 85) (.cells #[.pointer none, .int .i64 0] 85))) (ht.stay (new2_below w (.cells #[.pointer p.q, .int .i64 p.n] 85) (.cells #[.pointer none, .int .i64 0] 85))))
  have HN := Lib.hid (And.intro hs (And.intro h0 (And.intro h1 (And.intro h2 h3))))
  have HO := Lib.hid (And.intro (show sOk [] from hl.right) (And.intro hr (And.intro hk1 (And.intro hk2 hlow))))
  clear hs hm h0 h1 h2 h3 hl hr ht hk1 hk2 hlow
  go_enter Tryz.func102, Tryz.ntmps102
  go_wp2_with fail
  generalize (w.alloc (.cells #[.pointer p.q, .int .i64 p.n] 85)).alloc (.cells #[.pointer none, .int .i64 0] 85) = w1 at *
  obtain ⟨a, ha⟩ : ∃ a, a = w.heap.size := ⟨_, rfl⟩
  rw [← ha] at HF ⊢
  have HA := Lib.hid ha
  clear ha
  ((with_reducible refine (first_0 HL.out.1).mono ?_); rintro e w2 ⟨rfl, hb2⟩)
  have F2 := Lib.hid (HF.out.stay hb2)
  have K2 := Lib.hid (KK.out.stay hb2)
  have L2 := Lib.hid (And.intro (HL.out.1.stay hb2) (HL.out.2.stay hb2))
  have c0 := F2.out.h.c0
  have c1 := F2.out.h.c1
  clear hb2 HF KK HL
  go_wp2_with fail
  clear c0 c1
  ((with_reducible refine (push_h L2.out.1 L2.out.2 (by have := HN.out; (try simp only [bSize] at *); omega) (push_ok HO.out.2.2.1 HO.out.2.2.2.1 HO.out.1 HO.out.2.2.2.2 HO.out.2.1)).mono ?_); rintro e w6 ⟨p6, rfl, ht6, hb6⟩)
  have F6 := Lib.hid (F2.out.stay hb6)
  have K6 := Lib.hid (K2.out.stay hb6)
  have L6 := Lib.hid ht6
  have z0 := F6.out.r.z0
  have z1 := F6.out.r.z1
  have r0 := F6.out.r.c0
  have r1 := F6.out.r.c1
  have s0 := (F6.out.r.set (.pointer p6.q) (.int .i64 p6.n)).c0
  have s1 := (F6.out.r.set (.pointer p6.q) (.int .i64 p6.n)).c1
  clear ht6 hb6
  go_wp2_with fail
  have k := K6.out.put2 F6.out.r heapT_ne (by decide) (by have := HA.out; omega) (.pointer p6.q) (.int .i64 p6.n)
  exact bodyPost_ret (v := hp p6) (by simp [results, Tryz.results102, go_sem, s0, s1]) rfl ⟨p6, rfl, L6.out.set2 F6.out.r heapT_ne _ _, by simpa [putTN] using k.mt, k.bt⟩

set_option maxRecDepth 100000 in
set_option maxHeartbeats 4000000 in
theorem ahead_cons (mo : Option Nat) (x : Tre) (us : List Tre) (IH : AheadTo mo us) : AheadTo mo (x :: us) := by
  intro c m t pa p w hs hm h0 h1 h2 h3 hl hr ht hk1 hk2 hlow
  have HF := Lib.hid (F2.new w p)
  have KK := Lib.hid ((Trk.refl (N := NodeT) hm).stay (new2_below w (.cells #[.pointer p.q, .int .i64 p.n] 85) (.cells #[.pointer none, .int .i64 0] 85)))
  have HL := Lib.hid (And.intro (hl.stay (new2_below w (.cells #[.pointer p.q, .int .i64 p.n] 85) (.cells #[.pointer none, .int .i64 0] 85))) (ht.stay (new2_below w (.cells #[.pointer p.q, .int .i64 p.n] 85) (.cells #[.pointer none, .int .i64 0] 85))))
  unfold AheadTo at IH
  have HI := Lib.hid IH
  clear IH
  have HN := Lib.hid (And.intro hs (And.intro h0 (And.intro h1 (And.intro h2 h3))))
  have HO := Lib.hid (And.intro (show sOk (x :: us) from hl.right) (And.intro hr (And.intro hk1 (And.intro hk2 hlow))))
  clear hs hm h0 h1 h2 h3 hl hr ht hk1 hk2 hlow
  go_enter Tryz.func102, Tryz.ntmps102
  go_wp2_with fail
  generalize (w.alloc (.cells #[.pointer p.q, .int .i64 p.n] 85)).alloc (.cells #[.pointer none, .int .i64 0] 85) = w1 at *
  obtain ⟨a, ha⟩ : ∃ a, a = w.heap.size := ⟨_, rfl⟩
  rw [← ha] at HF ⊢
  have HA := Lib.hid ha
  clear ha
  obtain ⟨xa, hxa, hc⟩ := first_h HL.out.1
  have HC := Lib.hid hc
  have TX := Lib.hid hxa
  clear hc hxa
  ((with_reducible refine HC.out.mono ?_); rintro e w2 ⟨rfl, hb2⟩)
  have F2 := Lib.hid (HF.out.stay hb2)
  have K2 := Lib.hid (KK.out.stay hb2)
  have L2 := Lib.hid (And.intro (show LAt w2 ⟨x :: us⟩ p from HL.out.1.stay hb2) (And.intro (HL.out.2.stay hb2) (TX.out.stay hb2)))
  have c0 := F2.out.h.c0
  have c1 := F2.out.h.c1
  obtain ⟨rx, hrx⟩ : ∃ r, r = x.rank := ⟨_, rfl⟩
  obtain ⟨rt, hrt⟩ : ∃ r, r = t.rank := ⟨_, rfl⟩
  have HR := Lib.hid (And.intro hrx hrt)
  clear hb2 HF KK HL HC TX hrx hrt
  go_wp2_with fail
  ((with_reducible refine (rank_at L2.out.2.2 rx HR.out.1).mono ?_); rintro e w3 ⟨rfl, hw3⟩)
  subst hw3
  go_wp2_with fail
  ((with_reducible refine (rank_at L2.out.2.1 rt HR.out.2).mono ?_); rintro e w3 ⟨rfl, hw3⟩)
  subst hw3
  by_cases heq : rx = rt
  · have g1 : ((rx : Int) == (rt : Int)) = true := by simp; omega
    have g2 : (rx : Int) = (rt : Int) := by omega
    have HQ := Lib.hid (show t.rank = x.rank by have := HR.out; omega)
    clear heq
    go_wp2_with fail
    ((with_reducible refine (rest_any x us p _ L2.out.1).mono ?_); rintro e w4 ⟨p4, rfl, ht4, hb4⟩)
    have F4 := Lib.hid (F2.out.stay hb4)
    have K4 := Lib.hid (K2.out.stay hb4)
    have L4 := Lib.hid (And.intro ht4 (And.intro (L2.out.2.1.stay hb4) (L2.out.2.2.stay hb4)))
    clear ht4 hb4 c0 c1 F2 K2 L2
    go_wp2_with fail
    ((with_reducible refine (link_any mo c m pa xa (some t) (some x) _ K4.out.mt HN.out.2.1 (by have := HN.out; omega) HN.out.2.2.2.1 (by have := HN.out; omega) L4.out.2.1 L4.out.2.2 (by have := HN.out; simp only [osize, bSize] at *; omega) (by have := HN.out; simp only [osize, bSize] at *; omega)).mono ?_); rintro e w5 ⟨p5, rfl, ht5, hm5, hb5⟩)
    have F5 := Lib.hid (F4.out.bt hb5 K4.out.mt)
    have K5 := Lib.hid (K4.out.turn hm5 hb5 node_ne)
    have L5 := Lib.hid (And.intro (L4.out.1.bt hb5 K4.out.mt) (show TAt w5 p5 (some (lnk t x)) from ht5))
    clear ht5 hm5 hb5 F4 K4 L4
    go_wp2_with fail
    have hp := List.pairwise_cons.1 HO.out.2.1
    have hlr := lnk_rank HQ.out
    have HI2 := Lib.hid (HI.out (c + (lnkN (some t) (some x) : Nat)) (m + (lnkN (some t) (some x) : Nat)) (lnk t x) p5 p4 _ (by rw [lnk_size]; have := HN.out; simp only [bSize] at *; omega) K5.out.mt (by have := HN.out; omega) (by have := HN.out; simp only [List.length_cons, lnkN] at *; omega) (by have := HN.out; omega) (by have := HN.out; simp only [List.length_cons, lnkN] at *; omega) L5.out.1 hp.2 L5.out.2 (lnk_hok HO.out.2.2.1 (HO.out.1.hok x (List.mem_cons_self ..))) (lnk_sk HQ.out HO.out.2.2.2.1 (HO.out.1.sk x (List.mem_cons_self ..))) (fun y hy => by rw [hlr, HQ.out]; exact hp.1 y hy))
    clear hp hlr
    ((with_reducible refine HI2.out.mono ?_); rintro e w6 ⟨p6, rfl, ht6, hm6, hb6⟩)
    have F6 := Lib.hid (F5.out.bt hb6 K5.out.mt)
    have K6 := Lib.hid (K5.out.turn hm6 hb6 node_ne)
    have L6 := Lib.hid ht6
    have z0 := F6.out.r.z0
    have z1 := F6.out.r.z1
    have r0 := F6.out.r.c0
    have r1 := F6.out.r.c1
    have s0 := (F6.out.r.set (.pointer p6.q) (.int .i64 p6.n)).c0
    have s1 := (F6.out.r.set (.pointer p6.q) (.int .i64 p6.n)).c1
    clear ht6 hm6 hb6 HI2
    go_wp2_with fail
    have k := K6.out.put2 F6.out.r heapT_ne (by decide) (by have := HA.out; omega) (.pointer p6.q) (.int .i64 p6.n)
    have hlt : ¬ t.rank < x.rank := by have := HQ.out; omega
    have e0 : putT (x :: us) t = putT us (lnk t x) := by rw [putT, if_neg hlt]
    have e3 : putTN (x :: us) t = 1 + putTN us (lnk t x) := by rw [putTN, if_neg hlt]; try omega
    have e1 : c + ((putTN (x :: us) t : Nat) : Int) = c + (lnkN (some t) (some x) : Nat) + (putTN us (lnk t x) : Nat) := by rw [e3]; simp only [lnkN]; omega
    have e2 : m + ((putTN (x :: us) t : Nat) : Int) = m + (lnkN (some t) (some x) : Nat) + (putTN us (lnk t x) : Nat) := by rw [e3]; simp only [lnkN]; omega
    exact bodyPost_ret (v := hp p6) (by simp [results, Tryz.results102, go_sem, s0, s1]) rfl ⟨p6, rfl, by rw [e0]; exact L6.out.set2 F6.out.r heapT_ne _ _, by rw [e1, e2]; exact k.mt, k.bt⟩
  · have g1 : ((rx : Int) == (rt : Int)) = false := by simp; omega
    have g2 : ¬ (rx : Int) = (rt : Int) := by omega
    have HQ := Lib.hid (show t.rank < x.rank by have h1 := HO.out.2.2.2.2 x (List.mem_cons_self ..); have := HR.out; omega)
    clear heq
    go_wp2_with fail
    clear c0 c1
    ((with_reducible refine (push_h L2.out.1 L2.out.2.1 (by have := HN.out; (try simp only [bSize] at *); omega) (push_ok HO.out.2.2.1 HO.out.2.2.2.1 HO.out.1 HO.out.2.2.2.2 HO.out.2.1)).mono ?_); rintro e w6 ⟨p6, rfl, ht6, hb6⟩)
    have F6 := Lib.hid (F2.out.stay hb6)
    have K6 := Lib.hid (K2.out.stay hb6)
    have L6 := Lib.hid ht6
    have z0 := F6.out.r.z0
    have z1 := F6.out.r.z1
    have r0 := F6.out.r.c0
    have r1 := F6.out.r.c1
    have s0 := (F6.out.r.set (.pointer p6.q) (.int .i64 p6.n)).c0
    have s1 := (F6.out.r.set (.pointer p6.q) (.int .i64 p6.n)).c1
    clear ht6 hb6
    go_wp2_with fail
    have k := K6.out.put2 F6.out.r heapT_ne (by decide) (by have := HA.out; omega) (.pointer p6.q) (.int .i64 p6.n)
    have e0 : putT (x :: us) t = t :: x :: us := by rw [putT, if_pos HQ.out]
    have e3 : putTN (x :: us) t = 0 := by rw [putTN, if_pos HQ.out]
    exact bodyPost_ret (v := hp p6) (by simp [results, Tryz.results102, go_sem, s0, s1]) rfl ⟨p6, rfl, by rw [e0]; exact L6.out.set2 F6.out.r heapT_ne _ _, by rw [e3]; simpa using k.mt, k.bt⟩

theorem ahead_all (mo : Option Nat) : ∀ ts : List Tre, AheadTo mo ts
  | [] => ahead_nil mo
  | x :: us => ahead_cons mo x us (ahead_all mo us)
theorem ahead_any (mo : Option Nat) (c m : Int) (t : Tre) (ts : List Tre) (pa : Option Addr) (p : HP) (w : World) (hs : t.size + bSize ts < 268435456) (hm : MAt w mo c m) (h0 : 0 ≤ c) (h1 : c < 1152921504338411520) (h2 : 0 ≤ m) (h3 : m < 1152921504338411520)
    (hh : LAt w ⟨ts⟩ p) (hr : rises ts) (hta : TAt w pa (some t)) (hk1 : t.hok) (hk2 : t.sk) (hlow : ∀ x ∈ ts, t.rank ≤ x.rank) :
    Calls Tryz.prog 102 #[hp p, mAddr mo, .pointer pa] w (Gave mo (c + putTN ts t) (m + putTN ts t) ⟨putT ts t⟩ w) :=
  ahead_all mo ts c m t pa p w hs hm h0 (by have := len_bSize ts; omega) h2 (by have := len_bSize ts; omega) hh hr hta hk1 hk2 hlow

/-- What levelled hands back. -/
theorem lev_nil (mo : Option Nat) (c m : Int) (p : HP) (w : World) (hm : MAt w mo c m) (h : LAt w .nil p) : Calls Tryz.prog 78 #[hp p, mAddr mo] w (Gave mo c m .nil w) := by
  have HF := Lib.hid (F2.new w p)
  have KK := Lib.hid ((Trk.refl (N := NodeT) hm).stay (new2_below w (.cells #[.pointer p.q, .int .i64 p.n] 85) (.cells #[.pointer none, .int .i64 0] 85)))
  have HL := Lib.hid (h.stay (new2_below w (.cells #[.pointer p.q, .int .i64 p.n] 85) (.cells #[.pointer none, .int .i64 0] 85)))
  clear hm h
  go_enter Tryz.func78, Tryz.ntmps78
  go_wp2_with fail
  generalize (w.alloc (.cells #[.pointer p.q, .int .i64 p.n] 85)).alloc (.cells #[.pointer none, .int .i64 0] 85) = w1 at *
  obtain ⟨a, ha⟩ : ∃ a, a = w.heap.size := ⟨_, rfl⟩
  rw [← ha] at HF ⊢
  have HA := Lib.hid ha
  clear ha
  ((with_reducible refine (first_0 HL.out).mono ?_); rintro e w2 ⟨rfl, hb2⟩)
  have F2 := Lib.hid (HF.out.stay hb2)
  have K2 := Lib.hid (KK.out.stay hb2)
  have L2 := Lib.hid (HL.out.stay hb2)
  have c0 := F2.out.h.c0
  have c1 := F2.out.h.c1
  have z0 := F2.out.r.z0
  have z1 := F2.out.r.z1
  have r0 := F2.out.r.c0
  have r1 := F2.out.r.c1
  have s0 := (F2.out.r.set (.pointer p.q) (.int .i64 p.n)).c0
  have s1 := (F2.out.r.set (.pointer p.q) (.int .i64 p.n)).c1
  clear hb2 HF KK HL
  go_wp2_with fail
  have k := K2.out.put2 F2.out.r heapT_ne (by decide) (by have := HA.out; omega) (.pointer p.q) (.int .i64 p.n)
  exact bodyPost_ret (v := hp p) (by simp [results, Tryz.results78, go_sem, s0, s1]) rfl ⟨p, rfl, L2.out.set2 F2.out.r heapT_ne _ _, k.mt, k.bt⟩

set_option maxRecDepth 100000 in
set_option maxHeartbeats 4000000 in
theorem lev_cons (mo : Option Nat) (c m : Int) (x : Tre) (us : List Tre) (p : HP) (w : World) (hs : bSize (x :: us) < 268435456) (hm : MAt w mo c m) (h0 : 0 ≤ c) (h1 : c < 1152921504338411520) (h2 : 0 ≤ m) (h3 : m < 1152921504338411520) (h : LAt w ⟨x :: us⟩ p) :
    Calls Tryz.prog 78 #[hp p, mAddr mo] w (Gave mo (c + putTN us x) (m + putTN us x) ⟨putT us x⟩ w) := by
  have HF := Lib.hid (F2.new w p)
  have KK := Lib.hid ((Trk.refl (N := NodeT) hm).stay (new2_below w (.cells #[.pointer p.q, .int .i64 p.n] 85) (.cells #[.pointer none, .int .i64 0] 85)))
  have HL := Lib.hid (h.stay (new2_below w (.cells #[.pointer p.q, .int .i64 p.n] 85) (.cells #[.pointer none, .int .i64 0] 85)))
  have HO := Lib.hid (show sOk (x :: us) from h.right)
  have HU := Lib.hid (show (∀ u ∈ us, x.rank ≤ u.rank) ∧ rises us from h.right.up)
  have HN := Lib.hid (And.intro hs (And.intro h0 (And.intro h1 (And.intro h2 h3))))
  clear hm h hs h0 h1 h2 h3
  go_enter Tryz.func78, Tryz.ntmps78
  go_wp2_with fail
  generalize (w.alloc (.cells #[.pointer p.q, .int .i64 p.n] 85)).alloc (.cells #[.pointer none, .int .i64 0] 85) = w1 at *
  obtain ⟨a, ha⟩ : ∃ a, a = w.heap.size := ⟨_, rfl⟩
  rw [← ha] at HF ⊢
  have HA := Lib.hid ha
  clear ha
  obtain ⟨xa, hxa, hc⟩ := first_h HL.out
  have HC := Lib.hid hc
  have TX := Lib.hid hxa
  clear hc hxa
  ((with_reducible refine HC.out.mono ?_); rintro e w2 ⟨rfl, hb2⟩)
  have F2 := Lib.hid (HF.out.stay hb2)
  have K2 := Lib.hid (KK.out.stay hb2)
  have L2 := Lib.hid (And.intro (show LAt w2 ⟨x :: us⟩ p from HL.out.stay hb2) (TX.out.stay hb2))
  have c0 := F2.out.h.c0
  have c1 := F2.out.h.c1
  clear hb2 HF KK HL HC TX
  go_wp2_with fail
  ((with_reducible refine (rest_any x us p _ L2.out.1).mono ?_); rintro e w4 ⟨p4, rfl, ht4, hb4⟩)
  have F4 := Lib.hid (F2.out.stay hb4)
  have K4 := Lib.hid (K2.out.stay hb4)
  have L4 := Lib.hid (And.intro ht4 (L2.out.2.stay hb4))
  clear ht4 hb4 c0 c1 F2 K2 L2
  go_wp2_with fail
  ((with_reducible refine (ahead_any mo c m x us xa p4 _ (by have := HN.out.1; simp only [bSize] at this; omega) K4.out.mt HN.out.2.1 HN.out.2.2.1 HN.out.2.2.2.1 HN.out.2.2.2.2 L4.out.1 HU.out.2 L4.out.2 (HO.out.hok x (List.mem_cons_self ..)) (HO.out.sk x (List.mem_cons_self ..)) HU.out.1).mono ?_); rintro e w6 ⟨p6, rfl, ht6, hm6, hb6⟩)
  have F6 := Lib.hid (F4.out.bt hb6 K4.out.mt)
  have K6 := Lib.hid (K4.out.turn hm6 hb6 node_ne)
  have L6 := Lib.hid ht6
  have z0 := F6.out.r.z0
  have z1 := F6.out.r.z1
  have r0 := F6.out.r.c0
  have r1 := F6.out.r.c1
  have s0 := (F6.out.r.set (.pointer p6.q) (.int .i64 p6.n)).c0
  have s1 := (F6.out.r.set (.pointer p6.q) (.int .i64 p6.n)).c1
  clear ht6 hm6 hb6
  go_wp2_with fail
  have k := K6.out.put2 F6.out.r heapT_ne (by decide) (by have := HA.out; omega) (.pointer p6.q) (.int .i64 p6.n)
  exact bodyPost_ret (v := hp p6) (by simp [results, Tryz.results78, go_sem, s0, s1]) rfl ⟨p6, rfl, L6.out.set2 F6.out.r heapT_ne _ _, k.mt, k.bt⟩
theorem lev_any (mo : Option Nat) (c m : Int) (l : List Tre) (p : HP) (w : World) (hs : bSize l < 268435456) (hm : MAt w mo c m) (h0 : 0 ≤ c) (h1 : c < 1152921504338411520) (h2 : 0 ≤ m) (h3 : m < 1152921504338411520) (h : LAt w ⟨l⟩ p) :
    Calls Tryz.prog 78 #[hp p, mAddr mo] w (Gave mo (c + levN l) (m + levN l) ⟨levT l⟩ w) := by
  cases l with
  | nil => exact (lev_nil mo c m p w hm h).mono fun e w' hh => by simpa [levN, levT, Lh.nil] using hh
  | cons x us => exact lev_cons mo c m x us p w hs hm h0 h1 h2 h3 h

end Go.Proofs.YtlmokendajgbdaaGreatDoor.Hp
