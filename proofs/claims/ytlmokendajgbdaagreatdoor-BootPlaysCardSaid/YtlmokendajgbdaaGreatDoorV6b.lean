/-
  Contracts of a skew binomial heap's Min and Pop: which element, which heap, how many comparisons and trees the meter counts, that what was there stays but for the meter's block. Conditions: fewer than 2 to the 27th elements, counts below 2 to the 57th.
-/
import Derived.Test.YtlmokendajgbdaaGreatDoorV6w
namespace Go.Proofs.YtlmokendajgbdaaGreatDoor.Hp
open Go.Sort Go.RowKit Go.Proofs.YtlmokendajgbdaaGreatDoor.Gn

theorem tat_none {w : World} : TAt w none none := rfl
/-- What Min tells. -/
def minV (t : Lh) : Value := match t.ts with
  | [] => .tuple #[.pointer none, .bool false]
  | _ :: _ => .tuple #[hv t.min.1, .bool true]
theorem drop_least {t : Tre} {r : List Tre} : ∃ u us, (t :: r).drop (leastI (t :: r)) = u :: us ∧ u.x = rootAt (t :: r) (leastI (t :: r)) ∧ (kidsAt (t :: r) (leastI (t :: r)) = u.ks.list.reverse ∧ besAt (t :: r) (leastI (t :: r)) = u.bs) ∧ (t :: r).drop (leastI (t :: r) + 1) = us ∧ u ∈ t :: r := by
  have hl := leastI_lt (l := t :: r) (by simp)
  have hg : (t :: r)[leastI (t :: r)]? = some (t :: r)[leastI (t :: r)] := List.getElem?_eq_getElem hl
  refine ⟨(t :: r)[leastI (t :: r)], (t :: r).drop (leastI (t :: r) + 1), List.drop_eq_getElem_cons hl, ?_, ?_, rfl, List.getElem_mem hl⟩
  · unfold rootAt; rw [hg]
  · exact ⟨by unfold kidsAt; rw [hg], by unfold besAt; rw [hg]⟩

theorem bSize_reverse (l : List Tre) : bSize l.reverse = bSize l := by
  induction l with
  | nil => rfl
  | cons t r ih => rw [List.reverse_cons, bSize_app, ih]; simp [bSize]; omega
theorem bSize_list : ∀ ks : Wood, bSize ks.list = ks.size
  | .nil => rfl
  | .cons x bs ks r => by simp only [Gn.Wood.list, bSize, Gn.Wood.size, bSize_list r, Gn.Tre.size]

theorem size_in {l : List Tre} {t : Tre} (ht : t ∈ l) : t.size ≤ bSize l := bSize_mem ht
theorem rest_size {l : List Tre} {i : Nat} (h : i < l.length) : bSize (restAt l i) ≤ bSize l := by
  have h1 := (restAt_all h).length_eq
  rw [bAll_length, List.length_append, bAll_length] at h1
  omega
/-- The least tree's kids and the other trees. -/
theorem pop_parts {l : List Tre} {i : Nat} (h : i < l.length) : bSize (kidsAt l i) + bSize (restAt l i) + (besAt l i).length < bSize l := by
  have hbs : besAt l i = (l[i]).bs := by unfold besAt; rw [List.getElem?_eq_getElem h]
  have h1 := (restAt_all h).length_eq
  have hg : l[i]? = some l[i] := List.getElem?_eq_getElem h
  have hk : kidsAt l i = (l[i]).ks.list.reverse := by unfold kidsAt; rw [hg]
  rw [bAll_length, List.length_append, bAll_length, Gn.Tre.all_length] at h1
  rw [hk, hbs, bSize_reverse, bSize_list]
  have h9 : (l[i]).size = 1 + (l[i]).bs.length + (l[i]).ks.size := rfl
  omega
theorem rest_ok {l : List Tre} (h : sOk l) (i : Nat) : sOk (restAt l i) := ⟨fun u hu => h.hok u (restAt_mem hu), fun u hu => h.sk u (restAt_mem hu), restAt_up h.up⟩
theorem kids_ok {u : Tre} (h1 : u.hok) (h2 : u.sk) : sOk u.ks.list.reverse := ⟨fun v hv => Gn.Wood.list_hok h1.2 v (by simpa using hv), fun v hv => (Gn.Wood.list_sk h2.2 v (by simpa using hv)).1, upto_of (Gn.Wood.list_srise h2.2)⟩
/-- Trees whose ranks rise are level. -/
theorem lev_rises : ∀ {l : List Tre}, rises l → levT l = l ∧ levN l = 0
  | [], _ => ⟨rfl, rfl⟩
  | [t], _ => ⟨rfl, rfl⟩
  | t :: u :: r, h => by
    have h1 := (List.pairwise_cons.1 h).1 u (List.mem_cons_self ..)
    exact ⟨by show putT (u :: r) t = _; rw [putT, if_pos h1], by show putTN (u :: r) t = 0; rw [putTN, if_pos h1]⟩
theorem base_meld {l : List Tre} {k : Nat} (h : rises (kidsAt l k)) : meld ⟨kidsAt l k⟩ ⟨restAt l k⟩ = ⟨sBase l k⟩ ∧ meldN ⟨kidsAt l k⟩ ⟨restAt l k⟩ = sBaseN l k := by
  obtain ⟨h1, h2⟩ := lev_rises h
  refine ⟨?_, ?_⟩
  · show Lh.mk (bmeld (levT (kidsAt l k)) (levT (restAt l k))) = _; rw [h1]; rfl
  · show levN (kidsAt l k) + levN (restAt l k) + bmeldN (levT (kidsAt l k)) (levT (restAt l k)) = _; rw [h1, h2, Nat.zero_add]; rfl
theorem base_size (l : List Tre) (k : Nat) : bSize (sBase l k) = bSize (kidsAt l k) + bSize (restAt l k) := by unfold sBase; rw [bmeld_size, levT_size]
theorem putC_ts : ∀ (xs : List Thing) (l : List Tre), putC ⟨l⟩ xs = sPutN l xs ∧ putM ⟨l⟩ xs = sPutM l xs
  | [], _ => ⟨rfl, rfl⟩
  | x :: r, l => by
    obtain ⟨h1, h2⟩ := putC_ts r (sIns l x)
    exact ⟨by show sInsN l + putC ⟨sIns l x⟩ r = _; rw [h1]; rfl, by show sInsM l + putM ⟨sIns l x⟩ r = _; rw [h2]; rfl⟩
theorem pop_puts (t : Tre) (r : List Tre) (k : Nat) (hk : k = leastI (t :: r)) : (Lh.mk (t :: r)).pop = puts ⟨sBase (t :: r) k⟩ (besAt (t :: r) k) := by
  subst hk
  have h := fold_ts (besAt (t :: r) (leastI (t :: r))) ⟨sBase (t :: r) (leastI (t :: r))⟩
  exact congrArg Lh.mk h.symm
theorem popC_puts (t : Tre) (r : List Tre) (k : Nat) (hk : k = leastI (t :: r)) : (Lh.mk (t :: r)).popC = sBaseN (t :: r) k + putC ⟨sBase (t :: r) k⟩ (besAt (t :: r) k) := by subst hk; rw [(putC_ts _ _).1]; rfl
theorem popM_puts (t : Tre) (r : List Tre) (k : Nat) (hk : k = leastI (t :: r)) : (Lh.mk (t :: r)).popM = sBaseN (t :: r) k + putM ⟨sBase (t :: r) k⟩ (besAt (t :: r) k) := by subst hk; rw [(putC_ts _ _).2]; rfl
set_option maxRecDepth 100000 in
set_option maxHeartbeats 4000000 in
theorem min_none (mo : Option Nat) (c m : Int) (p : HP) (w : World) (hm : MAt w mo c m) (h0 : 0 ≤ c) (h1 : c < 1152921504606846976) (h : LAt w .nil p) : Calls Tryz.prog 42 #[hp p, mAddr mo] w fun e w' => e = .returned (minV .nil) ∧ MAt w' mo (c + Lh.nil.tellN) m ∧ Bt mo w w' := by
  have hb1 : Below w.heap.size w (w.alloc (.cells #[.pointer p.q, .int .i64 p.n] 85)) := (Below.refl _ w).alloc (Nat.le_refl _) _
  have bH := Box2.new w 85 (.pointer p.q) (.int .i64 p.n)
  have HL := Lib.hid (show LAt _ ⟨[]⟩ p from h.stay hb1)
  have KK := Lib.hid ((Trk.refl (N := NodeT) hm).stay hb1)
  have HB := Lib.hid bH
  have HN := Lib.hid (And.intro h0 h1)
  obtain ⟨k, hk⟩ : ∃ k, k = leastI ([] : List Tre) := ⟨_, rfl⟩
  have HK := Lib.hid (show k = leastI ([] : List Tre) ∧ k < 2147483648 ∧ ([] : List Tre).drop k = [] from ⟨hk, by rw [hk]; decide, by simp⟩)
  clear h hm hb1 bH h0 h1 hk
  go_enter Tryz.func42, Tryz.ntmps42
  go_wp2_with fail
  generalize w.alloc (.cells #[.pointer p.q, .int .i64 p.n] 85) = w1 at *
  obtain ⟨a, ha⟩ : ∃ a, a = w.heap.size := ⟨_, rfl⟩
  rw [← ha] at HB ⊢
  have HA := Lib.hid (Nat.le_of_eq ha.symm)
  clear ha
  have f0 := HB.out.c0
  have f1 := HB.out.c1
  have hfd := field_h
  go_region_held3 (fun w' => w'.cell? ⟨a, 0, none⟩ = some (.pointer p.q) ∧ w'.cell? ⟨a, 1, none⟩ = some (.int .i64 p.n)) (go_keep)
    (first | (go_at_call 61; ((with_reducible refine (first_0 L3.out).mono ?_); rintro e w4 ⟨rfl, hb4⟩; have K4 := Lib.hid (K3.out.stay hb4); have B4 := Lib.hid (B3.out.stay hb4); have f40 := B4.out.c0; have f41 := B4.out.c1; clear hb4)) | (go_at_call 64; ((with_reducible refine (drop_h L2.out k HK.out.2.1).mono ?_); rintro e w3 ⟨p3, rfl, ht3, hb3⟩; have K3 := Lib.hid (K2.out.stay hb3); have L3 := Lib.hid (show LAt w3 ⟨[]⟩ p3 from HK.out.2.2 ▸ ht3); have B3 := Lib.hid (B2.out.stay hb3); have f30 := B3.out.c0; have f31 := B3.out.c1; clear ht3 hb3)) | (go_at_call 69; ((with_reducible refine (place_any mo c m ⟨[]⟩ p _ KK.out.drew.mt HN.out.1 HN.out.2 (HL.out.stay ((Below.refl _ _).drew))).mono ?_); rintro e w2 ⟨rfl, hm2, hb2⟩; rw [show leastI (Lh.mk ([])).ts = k from HK.out.1.symm]; have K2 := Lib.hid (KK.out.drew.turn hm2 hb2 node_ne); have L2 := Lib.hid ((HL.out.stay ((Below.refl _ _).drew)).bt hb2 KK.out.drew.mt); have B2 := Lib.hid ((HB.out.stay ((Below.refl _ _).drew)).bt hb2 KK.out.drew.mt (by decide)); have f20 := B2.out.c0; have f21 := B2.out.c1; clear hm2 hb2)))
  go_wp2_with fail
  ((with_reducible refine (root_any none none _ tat_none).mono ?_); rintro e w5 ⟨rfl, hb5⟩)
  rw [show rootV none = .tuple #[.pointer none, .bool false] from rfl]
  have hk := K4.out.stay hb5
  clear hb5
  go_wp2_with fail
  exact bodyPost_ret (v := minV .nil) (by simp [results, Tryz.results42, go_sem, minV, Lh.nil]) rfl ⟨rfl, hk.mt, hk.bt⟩

set_option maxRecDepth 100000 in
set_option maxHeartbeats 4000000 in
theorem min_some_any (mo : Option Nat) (c m : Int) (t : Tre) (r : List Tre) (p : HP) (w : World) (hm : MAt w mo c m) (h0 : 0 ≤ c) (h1 : c < 1152921504606846976) (h : LAt w ⟨t :: r⟩ p) : Calls Tryz.prog 42 #[hp p, mAddr mo] w fun e w' => e = .returned (minV ⟨t :: r⟩) ∧ MAt w' mo (c + (Lh.mk (t :: r)).tellN) m ∧ Bt mo w w' := by
  have hb1 : Below w.heap.size w (w.alloc (.cells #[.pointer p.q, .int .i64 p.n] 85)) := (Below.refl _ w).alloc (Nat.le_refl _) _
  have bH := Box2.new w 85 (.pointer p.q) (.int .i64 p.n)
  have HL := Lib.hid (show LAt _ ⟨t :: r⟩ p from h.stay hb1)
  have KK := Lib.hid ((Trk.refl (N := NodeT) hm).stay hb1)
  have HB := Lib.hid bH
  have HN := Lib.hid (And.intro h0 h1)
  obtain ⟨k, hk⟩ : ∃ k, k = leastI (t :: r) := ⟨_, rfl⟩
  obtain ⟨u, us, hu1, hu2, -, -, -⟩ := drop_least (t := t) (r := r)
  have hlen := h.len
  have hlt := leastI_lt (l := t :: r) (by simp)
  change (t :: r).length < _ at hlen
  have HK := Lib.hid (show k = leastI (t :: r) ∧ k < 2147483648 ∧ (t :: r).drop k = u :: us ∧ minV ⟨t :: r⟩ = .tuple #[hv u.x, .bool true] from ⟨hk, by omega, by rw [hk]; exact hu1, by rw [hu2]; rfl⟩)
  clear hu1 hu2 hlen hlt
  clear h hm hb1 bH h0 h1 hk
  go_enter Tryz.func42, Tryz.ntmps42
  go_wp2_with fail
  generalize w.alloc (.cells #[.pointer p.q, .int .i64 p.n] 85) = w1 at *
  obtain ⟨a, ha⟩ : ∃ a, a = w.heap.size := ⟨_, rfl⟩
  rw [← ha] at HB ⊢
  have HA := Lib.hid (Nat.le_of_eq ha.symm)
  clear ha
  have f0 := HB.out.c0
  have f1 := HB.out.c1
  have hfd := field_h
  go_region_held3 (fun w' => w'.cell? ⟨a, 0, none⟩ = some (.pointer p.q) ∧ w'.cell? ⟨a, 1, none⟩ = some (.int .i64 p.n)) (go_keep)
    (first | (go_at_call 61; (obtain ⟨fa, hfa, hc⟩ := first_h L3.out); ((with_reducible refine hc.mono ?_); rintro e w4 ⟨rfl, hb4⟩; have K4 := Lib.hid (K3.out.stay hb4); have T4 := Lib.hid (hfa.stay hb4); have B4 := Lib.hid (B3.out.stay hb4); have f40 := B4.out.c0; have f41 := B4.out.c1; clear hb4 hfa hc)) | (go_at_call 64; ((with_reducible refine (drop_h L2.out k HK.out.2.1).mono ?_); rintro e w3 ⟨p3, rfl, ht3, hb3⟩; have K3 := Lib.hid (K2.out.stay hb3); have L3 := Lib.hid (show LAt w3 ⟨u :: us⟩ p3 from HK.out.2.2.1 ▸ ht3); have B3 := Lib.hid (B2.out.stay hb3); have f30 := B3.out.c0; have f31 := B3.out.c1; clear ht3 hb3)) | (go_at_call 69; ((with_reducible refine (place_any mo c m ⟨t :: r⟩ p _ KK.out.drew.mt HN.out.1 HN.out.2 (HL.out.stay ((Below.refl _ _).drew))).mono ?_); rintro e w2 ⟨rfl, hm2, hb2⟩; rw [show leastI (Lh.mk (t :: r)).ts = k from HK.out.1.symm]; have K2 := Lib.hid (KK.out.drew.turn hm2 hb2 node_ne); have L2 := Lib.hid ((HL.out.stay ((Below.refl _ _).drew)).bt hb2 KK.out.drew.mt); have B2 := Lib.hid ((HB.out.stay ((Below.refl _ _).drew)).bt hb2 KK.out.drew.mt (by decide)); have f20 := B2.out.c0; have f21 := B2.out.c1; clear hm2 hb2)))
  go_wp2_with fail
  ((with_reducible refine (root_any fa (some u) _ T4.out).mono ?_); rintro e w5 ⟨rfl, hb5⟩)
  obtain ⟨y, ubs, uks⟩ := u
  rw [show rootV (some ⟨y, ubs, uks⟩) = .tuple #[hv y, .bool true] from rfl]
  have hk := K4.out.stay hb5
  clear hb5
  go_wp2_with fail
  exact bodyPost_ret (v := .tuple #[hv y, .bool true]) (by simp [results, Tryz.results42, go_sem]) rfl ⟨by rw [HK.out.2.2.2], hk.mt, hk.bt⟩

theorem min_any (mo : Option Nat) (c m : Int) (t : Lh) (p : HP) (w : World) (hm : MAt w mo c m) (h0 : 0 ≤ c) (h1 : c < 1152921504606846976) (h : LAt w t p) : Calls Tryz.prog 42 #[hp p, mAddr mo] w fun e w' => e = .returned (minV t) ∧ MAt w' mo (c + t.tellN) m ∧ Bt mo w w' := by
  obtain ⟨ts⟩ := t
  cases ts with
  | nil => exact min_none mo c m p w hm h0 h1 h
  | cons t r => exact min_some_any mo c m t r p w hm h0 h1 h

/-- What Pop hands back. -/
def Popped (mo : Option Nat) (c m : Int) (t : Lh) (is : Bool) (w : World) (e : Ending) (w' : World) : Prop := ∃ p : HP, e = .returned (.tuple #[.agg #[.pointer p.q, .int .i64 p.n], .bool is]) ∧ LAt w' t p ∧ MAt w' mo c m ∧ Bt mo w w'

set_option maxRecDepth 100000 in
set_option maxHeartbeats 4000000 in
theorem pop_none (mo : Option Nat) (c m : Int) (p : HP) (w : World) (hm : MAt w mo c m) (h0 : 0 ≤ c) (h1 : c < 144115188075855872) (h2 : 0 ≤ m) (h3 : m < 144115188075855872) (h : LAt w .nil p) : Calls Tryz.prog 43 #[hp p, mAddr mo] w (Popped mo c m .nil false w) := by
  have hb1 : Below w.heap.size w ((w.alloc (.cells #[.pointer p.q, .int .i64 p.n] 85)).alloc (.cells #[.pointer none, .int .i64 0] 85)) := ((Below.refl _ w).alloc (Nat.le_refl _) _).alloc (by simp) _
  have bH := (Box2.new w 85 (.pointer p.q) (.int .i64 p.n)).alloc (.cells #[.pointer none, .int .i64 0] 85)
  have bE := Box2.new (w.alloc (.cells #[.pointer p.q, .int .i64 p.n] 85)) 85 (.pointer none) (.int .i64 0)
  simp only [World.size_alloc] at bE
  have HL := Lib.hid (show LAt _ ⟨[]⟩ p from h.stay hb1)
  have KK := Lib.hid ((Trk.refl (N := NodeT) hm).stay hb1)
  have HB := Lib.hid (And.intro bH bE)
  have HN := Lib.hid (And.intro h0 (And.intro h1 (And.intro h2 h3)))
  obtain ⟨k, hk⟩ : ∃ k, k = leastI ([] : List Tre) := ⟨_, rfl⟩
  have HK := Lib.hid (show k = leastI ([] : List Tre) ∧ k < 2147483648 ∧ ([] : List Tre).drop k = [] from ⟨hk, by rw [hk]; decide, by simp⟩)
  clear h hm hb1 bH bE h0 h1 h2 h3 hk
  go_enter Tryz.func43, Tryz.ntmps43
  go_wp2_with fail
  generalize (w.alloc (.cells #[.pointer p.q, .int .i64 p.n] 85)).alloc (.cells #[.pointer none, .int .i64 0] 85) = w1 at *
  obtain ⟨a, ha⟩ : ∃ a, a = w.heap.size := ⟨_, rfl⟩
  rw [← ha] at HB ⊢
  have HA := Lib.hid (Nat.le_of_eq ha.symm)
  clear ha
  ((with_reducible refine (place_any mo c m ⟨[]⟩ p _ KK.out.mt HN.out.1 (by have := HN.out; omega) HL.out).mono ?_); rintro e w2 ⟨rfl, hm2, hb2⟩)
  rw [show leastI (Lh.mk ([])).ts = k from HK.out.1.symm]
  have K2 := Lib.hid (KK.out.turn hm2 hb2 node_ne)
  have L2 := Lib.hid (HL.out.bt hb2 KK.out.mt)
  have B2 := Lib.hid (And.intro (HB.out.1.bt hb2 KK.out.mt (by decide)) (HB.out.2.bt hb2 KK.out.mt (by decide)))
  have f0 := B2.out.1.c0
  have f1 := B2.out.1.c1
  clear hm2 hb2 HL KK HB
  go_wp2_with fail
  ((with_reducible refine (drop_h L2.out k HK.out.2.1).mono ?_); rintro e w3 ⟨p3, rfl, ht3, hb3⟩)
  have hb4 : Below w2.heap.size w2 (w3.alloc (.cells #[.pointer p3.q, .int .i64 p3.n] 83)) := hb3.alloc hb3.size (.cells #[.pointer p3.q, .int .i64 p3.n] 83)
  have bV := Box2.new w3 83 (.pointer p3.q) (.int .i64 p3.n)
  have L3 := Lib.hid (show LAt (w3.alloc (.cells #[.pointer p3.q, .int .i64 p3.n] 83)) ⟨[]⟩ p3 from LAt.stay (show LAt w3 ⟨[]⟩ p3 from HK.out.2.2 ▸ ht3) ((Below.refl _ _).alloc (Nat.le_refl _) _))
  have L2b := Lib.hid (L2.out.stay hb4)
  have K3 := Lib.hid (K2.out.stay hb4)
  have HVL := Lib.hid (Nat.lt_of_lt_of_le B2.out.2.lt hb3.size)
  have B3 := Lib.hid (And.intro (B2.out.1.stay hb4) (And.intro (B2.out.2.stay hb4) bV))
  clear ht3 hb3 hb4 bV f0 f1 K2 L2 B2
  go_wp2_with fail
  generalize w3.alloc (.cells #[.pointer p3.q, .int .i64 p3.n] 83) = w4 at *
  obtain ⟨v, hv⟩ : ∃ v, v = w3.heap.size := ⟨_, rfl⟩
  rw [← hv] at B3 HVL ⊢
  clear hv
  ((with_reducible refine (first_0 L3.out).mono ?_); rintro e w5 ⟨rfl, hb5⟩)
  have K5 := Lib.hid (K3.out.stay hb5)
  have B5 := Lib.hid (B3.out.2.1.stay hb5)
  have z0 := B5.out.z0
  have z1 := B5.out.z1
  have r0 := B5.out.c0
  have r1 := B5.out.c1
  have s0 := (B5.out.set (.pointer none) (.int .i64 0)).c0
  have s1 := (B5.out.set (.pointer none) (.int .i64 0)).c1
  clear hb5
  go_wp2_with fail
  have hk := K5.out.put2 B5.out heapT_ne (by decide) (by have := HA.out; omega) (.pointer none) (.int .i64 0)
  exact bodyPost_ret (v := .tuple #[hp ⟨none, 0⟩, .bool false]) (by simp [results, Tryz.results43, go_sem, s0, s1]) rfl ⟨⟨none, 0⟩, rfl, LAt.nil _, by simpa [Lh.tellN, Lh.nil] using hk.mt, hk.bt⟩

set_option maxRecDepth 100000 in
set_option maxHeartbeats 4000000 in
theorem pop_some_any (mo : Option Nat) (c m : Int) (t : Tre) (r : List Tre) (p : HP) (w : World) (hs27 : bSize (t :: r) < 134217728) (hm : MAt w mo c m) (h0 : 0 ≤ c) (h1 : c < 144115188075855872) (h2 : 0 ≤ m) (h3 : m < 144115188075855872) (h : LAt w ⟨t :: r⟩ p) : Calls Tryz.prog 43 #[hp p, mAddr mo] w (Popped mo (c + ((Lh.mk (t :: r)).popC + (Lh.mk (t :: r)).tellN : Nat)) (m + (Lh.mk (t :: r)).popM) (Lh.mk (t :: r)).pop true w) := by
  have hb1 : Below w.heap.size w ((w.alloc (.cells #[.pointer p.q, .int .i64 p.n] 85)).alloc (.cells #[.pointer none, .int .i64 0] 85)) := ((Below.refl _ w).alloc (Nat.le_refl _) _).alloc (by simp) _
  have bH := (Box2.new w 85 (.pointer p.q) (.int .i64 p.n)).alloc (.cells #[.pointer none, .int .i64 0] 85)
  have bE := Box2.new (w.alloc (.cells #[.pointer p.q, .int .i64 p.n] 85)) 85 (.pointer none) (.int .i64 0)
  simp only [World.size_alloc] at bE
  have HL := Lib.hid (show LAt _ ⟨t :: r⟩ p from h.stay hb1)
  have KK := Lib.hid ((Trk.refl (N := NodeT) hm).stay hb1)
  have HB := Lib.hid (And.intro bH bE)
  have HN := Lib.hid (And.intro h0 (And.intro h1 (And.intro h2 h3)))
  obtain ⟨k, hk⟩ : ∃ k, k = leastI (t :: r) := ⟨_, rfl⟩
  obtain ⟨u, us, hu1, hu2, hu3, hu4, hu5⟩ := drop_least (t := t) (r := r)
  have hlen := h.len
  have hsm := h.small
  have hok : sOk (t :: r) := h.right
  have hlt := leastI_lt (l := t :: r) (by simp)
  have htl : (Lh.mk (t :: r)).tellN ≤ (Lh.mk (t :: r)).size := tellN_size _
  have hpl := pop_counts (Lh.mk (t :: r))
  change (t :: r).length < _ at hlen
  change bSize (t :: r) < _ at hsm
  have hus := size_in hu5
  have hrs := rest_size hlt
  have HK := Lib.hid (show k = leastI (t :: r) ∧ k < 2147483648 ∧ (t :: r).drop k = u :: us from ⟨hk, by omega, by rw [hk]; exact hu1⟩)
  have HU := Lib.hid (show (kidsAt (t :: r) k = u.ks.list.reverse ∧ besAt (t :: r) k = u.bs) ∧ (t :: r).take k ++ us = restAt (t :: r) k ∧ k ≤ (t :: r).length ∧ u.size ≤ bSize (t :: r) ∧ bSize (restAt (t :: r) k) ≤ bSize (t :: r) ∧ (t :: r).length < 268435456 ∧ bSize (t :: r) < 268435456 from ⟨hk ▸ hu3, by unfold restAt; rw [hk, hu4], by omega, hus, hk ▸ hrs, hlen, hsm⟩)
  have HPS := Lib.hid (show bSize (kidsAt (t :: r) k) + bSize (restAt (t :: r) k) + u.bs.length < 134217728 from by have h8 := pop_parts hlt; rw [← hk] at h8; rw [← hk] at hu3; rw [hu3.2] at h8; omega)
  have HO := Lib.hid (And.intro hok (And.intro (hok.hok u hu5) (hok.sk u hu5)))
  have HPO := Lib.hid (show (Lh.mk (t :: r)).pop = puts ⟨sBase (t :: r) k⟩ u.bs ∧ (Lh.mk (t :: r)).popC = sBaseN (t :: r) k + putC ⟨sBase (t :: r) k⟩ u.bs ∧ (Lh.mk (t :: r)).popM = sBaseN (t :: r) k + putM ⟨sBase (t :: r) k⟩ u.bs ∧ (Lh.mk (t :: r)).tellN < 268435456 ∧ (Lh.mk (t :: r)).popC < 536870912 ∧ (Lh.mk (t :: r)).popM < 536870912 from ⟨by rw [← hu3.2, ← hk]; exact pop_puts t r k hk, by rw [← hu3.2, ← hk]; exact popC_puts t r k hk, by rw [← hu3.2, ← hk]; exact popM_puts t r k hk, Nat.lt_of_le_of_lt htl hsm, by have h8 : (Lh.mk (t :: r)).size = bSize (t :: r) := rfl; omega, by have h8 : (Lh.mk (t :: r)).size = bSize (t :: r) := rfl; omega⟩)
  clear hu1 hu2 hu3 hu4 hu5 hlen hlt hsm hok htl hpl hus hrs
  clear h hm hb1 bH bE h0 h1 h2 h3 hk
  go_enter Tryz.func43, Tryz.ntmps43
  go_wp2_with fail
  generalize (w.alloc (.cells #[.pointer p.q, .int .i64 p.n] 85)).alloc (.cells #[.pointer none, .int .i64 0] 85) = w1 at *
  obtain ⟨a, ha⟩ : ∃ a, a = w.heap.size := ⟨_, rfl⟩
  rw [← ha] at HB ⊢
  have HA := Lib.hid (Nat.le_of_eq ha.symm)
  clear ha
  ((with_reducible refine (place_any mo c m ⟨t :: r⟩ p _ KK.out.mt HN.out.1 (by have := HN.out; omega) HL.out).mono ?_); rintro e w2 ⟨rfl, hm2, hb2⟩)
  rw [show leastI (Lh.mk (t :: r)).ts = k from HK.out.1.symm]
  have K2 := Lib.hid (KK.out.turn hm2 hb2 node_ne)
  have L2 := Lib.hid (HL.out.bt hb2 KK.out.mt)
  have B2 := Lib.hid (And.intro (HB.out.1.bt hb2 KK.out.mt (by decide)) (HB.out.2.bt hb2 KK.out.mt (by decide)))
  have f0 := B2.out.1.c0
  have f1 := B2.out.1.c1
  clear hm2 hb2 HL KK HB
  go_wp2_with fail
  ((with_reducible refine (drop_h L2.out k HK.out.2.1).mono ?_); rintro e w3 ⟨p3, rfl, ht3, hb3⟩)
  have hb4 : Below w2.heap.size w2 (w3.alloc (.cells #[.pointer p3.q, .int .i64 p3.n] 83)) := hb3.alloc hb3.size (.cells #[.pointer p3.q, .int .i64 p3.n] 83)
  have bV := Box2.new w3 83 (.pointer p3.q) (.int .i64 p3.n)
  have L3 := Lib.hid (show LAt (w3.alloc (.cells #[.pointer p3.q, .int .i64 p3.n] 83)) ⟨u :: us⟩ p3 from LAt.stay (show LAt w3 ⟨u :: us⟩ p3 from HK.out.2.2 ▸ ht3) ((Below.refl _ _).alloc (Nat.le_refl _) _))
  have L2b := Lib.hid (L2.out.stay hb4)
  have K3 := Lib.hid (K2.out.stay hb4)
  have HVL := Lib.hid (Nat.lt_of_lt_of_le B2.out.2.lt hb3.size)
  have B3 := Lib.hid (And.intro (B2.out.1.stay hb4) (And.intro (B2.out.2.stay hb4) bV))
  clear ht3 hb3 hb4 bV f0 f1 K2 L2 B2
  go_wp2_with fail
  generalize w3.alloc (.cells #[.pointer p3.q, .int .i64 p3.n] 83) = w4 at *
  obtain ⟨v, hv⟩ : ∃ v, v = w3.heap.size := ⟨_, rfl⟩
  rw [← hv] at B3 HVL ⊢
  clear hv
  obtain ⟨fa, hfa, hc⟩ := first_h L3.out
  have HC := Lib.hid hc
  have TF := Lib.hid hfa
  clear hc hfa
  ((with_reducible refine HC.out.mono ?_); rintro e w5 ⟨rfl, hb5⟩)
  have K5 := Lib.hid (K3.out.stay hb5)
  have B5 := Lib.hid (And.intro (B3.out.1.stay hb5) (And.intro (B3.out.2.1.stay hb5) (B3.out.2.2.stay hb5)))
  have L5 := Lib.hid (And.intro (show LAt w5 ⟨t :: r⟩ p from L2b.out.stay hb5) (And.intro (L3.out.stay hb5) (TF.out.stay hb5)))
  clear hb5 HC TF K3 B3 L3 L2b
  go_wp2_with fail
  refine wp_after (R := fun x x' w' => ∃ (u27 u28 u29 u30 u31 u32 u33 u34 u35 : Value) (g : Nat) (p9 : HP), x' = ((((((((((x.put (some 27) u27).put (some 28) u28).put (some 29) u29).put (some 30) u30).put (some 31) u31).put (some 32) u32).put (some 33) u33).put (some 34) u34).put (some 35) u35).put (some 10) (.pointer (some ⟨g, 0, none⟩))) ∧ Below w5.heap.size w5 w' ∧ w5.heap.size ≤ g ∧ Box2 w' g 83 (.pointer p9.q) (.int .i64 p9.n) ∧ LAt w' ⟨restAt (t :: r) k⟩ p9) ?_ ?_
  · have HS := Lib.hid (fun (w' : World) (hz : Below w5.heap.size w5 w') => (show w'.cell? ⟨a, 0, none⟩ = some (.pointer p.q) ∧ w'.cell? ⟨a, 1, none⟩ = some (.int .i64 p.n) ∧ w'.cell? ⟨v, 0, none⟩ = some (.pointer p3.q) ∧ w'.cell? ⟨v, 1, none⟩ = some (.int .i64 p3.n) from ⟨(B5.out.1.stay hz).c0, (B5.out.1.stay hz).c1, (B5.out.2.2.stay hz).c0, (B5.out.2.2.stay hz).c1⟩))
    have hB := (Below.refl w5.heap.size w5).drew
    have hLa := L5.out.1.stay ((Below.refl _ _).drew)
    have hLb := L5.out.2.1.stay ((Below.refl _ _).drew)
    have hSZ := hB.size
    refine wp_region_noPanic ?_
    refine wp_region_held_drew (S := fun w' => w'.cell? ⟨a, 0, none⟩ = some (.pointer p.q) ∧ w'.cell? ⟨a, 1, none⟩ = some (.int .i64 p.n) ∧ w'.cell? ⟨v, 0, none⟩ = some (.pointer p3.q) ∧ w'.cell? ⟨v, 1, none⟩ = some (.int .i64 p3.n)) (by kernel_rfl) (HS.out _ hB) (fun hH => ?_)
    generalize hwd : w5.drew = wd at *
    clear hwd
    refine wpAnyH_take (i := 0) (oi := { dst := some 27, op := Go.Op.fieldAddr 85 (Go.Operand.tmp 2) 0, type := 0, pos := "skew.go:55", after := #[], guard := none }) (v := ?v1_0_0) rfl (by as_aux_lemma => kernel_rfl) (by as_aux_lemma => kernel_rfl) (by as_aux_lemma => kernel_rfl) (fun _ _ _ h => h) (Or.inl ⟨(by as_aux_lemma => kernel_rfl), ?hy1_0_0⟩) hH ?rest1_0_0
    case hy1_0_0 => (intro w hSw; (try dsimp only at hSw); go_simp; try with_reducible rfl)
    try simp only [Act.put, List.setIfInBounds_toArray, List.set_cons_zero, List.set_cons_succ]
    refine wpAnyH_take (i := 1) (oi := { dst := some 28, op := Go.Op.load 83 (Go.Operand.tmp 27), type := 83, pos := "skew.go:55", after := #[{ on := 0, ground := Go.Ground.data }], guard := none }) (v := ?v1_0_1) rfl (by as_aux_lemma => kernel_rfl) (by as_aux_lemma => kernel_rfl) (by as_aux_lemma => kernel_rfl) (fun _ _ _ h => h) (Or.inl ⟨(by as_aux_lemma => kernel_rfl), ?hy1_0_1⟩) hH ?rest1_0_1
    case hy1_0_1 => (intro w hSw; (try dsimp only at hSw); go_simp; try with_reducible rfl)
    try simp only [Act.put, List.setIfInBounds_toArray, List.set_cons_zero, List.set_cons_succ]
    refine wpAnyH_take (i := 3) (oi := { dst := some 30, op := Go.Op.move (Go.Operand.tmp 6), type := 3, pos := "skew.go:55", after := #[], guard := none }) (v := ?v1_0_3) rfl (by as_aux_lemma => kernel_rfl) (by as_aux_lemma => kernel_rfl) (by as_aux_lemma => kernel_rfl) (fun _ _ _ h => h) (Or.inl ⟨(by as_aux_lemma => kernel_rfl), ?hy1_0_3⟩) hH ?rest1_0_3
    case hy1_0_3 => (intro w hSw; (try dsimp only at hSw); go_simp; try with_reducible rfl)
    try simp only [Act.put, List.setIfInBounds_toArray, List.set_cons_zero, List.set_cons_succ]
    refine wpAnyH_take (i := 6) (oi := { dst := some 33, op := Go.Op.load 83 (Go.Operand.tmp 7), type := 83, pos := "skew.go:55", after := #[], guard := none }) (v := ?v1_0_6) rfl (by as_aux_lemma => kernel_rfl) (by as_aux_lemma => kernel_rfl) (by as_aux_lemma => kernel_rfl) (fun _ _ _ h => h) (Or.inl ⟨(by as_aux_lemma => kernel_rfl), ?hy1_0_6⟩) hH ?rest1_0_6
    case hy1_0_6 => (intro w hSw; (try dsimp only at hSw); go_simp; try with_reducible rfl)
    try simp only [Act.put, List.setIfInBounds_toArray, List.set_cons_zero, List.set_cons_succ]
    refine wpAnyH_ready (rs := [2, 9]) (by as_aux_lemma => kernel_rfl) (by simp) ?_
    refine AllReadyH.cons (o := { dst := some 29, op := Go.Op.call { callee := Go.Callee.value (Go.Operand.func 72), args := #[Go.Operand.tmp 28], argTypes := #[83] }, type := 130, pos := "skew.go:55", after := #[{ on := 1, ground := Go.Ground.data }], guard := none }) rfl (fun K hK => ?_) (AllReadyH.cons (o := { dst := some 10, op := Go.Op.alloc 83, type := 0, pos := "skew.go:55", after := #[], guard := none }) rfl (fun K hK => ?_) AllReadyH.nil)
    · go_simp
      go_at_call 72
      have hmt : MAt wd (none : Option Nat) 0 0 := trivial
      (with_reducible refine (all_h hLa hmt).mono ?_)
      rintro e w6 ⟨A, n6, c6, rfl, hr, -, hb⟩
      replace hLb := hLb.stay hb
      replace hB := hB.trans (hb.mono hSZ)
      replace hSZ := Nat.le_trans hSZ hb.size
      clear hb hLa
      have c1 : k ≤ n6 := by have := hr.len; have := HU.out; omega
      have c2 : k ≤ c6 := Nat.le_trans c1 hr.cap
      have c3 : (0 : Int) ≤ (k : Int) := by omega
      have c4 : (k : Int) ≤ (c6 : Int) := by omega
      have c5 : (k : Int) ≤ (n6 : Int) := by omega
      refine hK.out _ _ ?_ (fun hH2 => ?_)
      · exact HS.out _ hB
      clear hK K hH
      have hH := hH2
      clear hH2
      try simp only [Act.put, List.setIfInBounds_toArray, List.set_cons_zero, List.set_cons_succ]
      refine wpAnyH_take (i := 4) (oi := { dst := some 31, op := Go.Op.slice 130 (Go.Operand.tmp 29) none (some (Go.Operand.tmp 30)) none, type := 130, pos := "skew.go:55", after := #[{ on := 2, ground := Go.Ground.data }, { on := 3, ground := Go.Ground.data }], guard := none }) (v := ?v1_1_4) rfl (by as_aux_lemma => kernel_rfl) (by as_aux_lemma => kernel_rfl) (by as_aux_lemma => kernel_rfl) (fun _ _ _ h => h) (Or.inl ⟨(by as_aux_lemma => kernel_rfl), ?hy1_1_4⟩) hH ?rest1_1_4
      case hy1_1_4 => (intro w hSw; (try dsimp only at hSw); go_simp; try with_reducible rfl)
      try simp only [Act.put, List.setIfInBounds_toArray, List.set_cons_zero, List.set_cons_succ]
      refine wpAnyH_ready (rs := [5, 9]) (by as_aux_lemma => kernel_rfl) (by simp) ?_
      refine AllReadyH.cons (o := { dst := some 32, op := Go.Op.call { callee := Go.Callee.value (Go.Operand.func 71), args := #[Go.Operand.tmp 31], argTypes := #[130] }, type := 83, pos := "skew.go:55", after := #[{ on := 4, ground := Go.Ground.data }, { on := 2, ground := Go.Ground.chain }], guard := none }) rfl (fun K hK => ?_) (AllReadyH.cons (o := { dst := some 10, op := Go.Op.alloc 83, type := 0, pos := "skew.go:55", after := #[], guard := none }) rfl (fun K hK => ?_) AllReadyH.nil)
      · go_simp
        go_at_call 71
        obtain ⟨ps, hr1, hr2⟩ := hr.take k
        (with_reducible refine (of_h hr1 hr2 (by rw [List.length_take]; have := HU.out; omega) (Nat.lt_of_le_of_lt (bSize_take_le _ _) HU.out.2.2.2.2.2.2) (sub_ok HO.out.1 (List.take_sublist k _))).mono ?_)
        rintro e w7 ⟨p7, rfl, ht7, hb⟩
        replace hLb := hLb.stay hb
        replace hB := hB.trans (hb.mono hSZ)
        replace hSZ := Nat.le_trans hSZ hb.size
        clear hb hr hr1 hr2
        refine hK.out _ _ ?_ (fun hH2 => ?_)
        · exact HS.out _ hB
        clear hK K hH
        have hH := hH2
        clear hH2
        try simp only [Act.put, List.setIfInBounds_toArray, List.set_cons_zero, List.set_cons_succ]
        refine wpAnyH_ready (rs := [7, 9]) (by as_aux_lemma => kernel_rfl) (by simp) ?_
        refine AllReadyH.cons (o := { dst := some 34, op := Go.Op.call { callee := Go.Callee.value (Go.Operand.func 62), args := #[Go.Operand.tmp 33], argTypes := #[83] }, type := 83, pos := "skew.go:55", after := #[{ on := 6, ground := Go.Ground.data }, { on := 5, ground := Go.Ground.chain }], guard := none }) rfl (fun K hK => ?_) (AllReadyH.cons (o := { dst := some 10, op := Go.Op.alloc 83, type := 0, pos := "skew.go:55", after := #[], guard := none }) rfl (fun K hK => ?_) AllReadyH.nil)
        · go_simp
          go_at_call 62
          (with_reducible refine (restL_h hLb).mono ?_)
          rintro e w8 ⟨p8, rfl, ht8, hb⟩
          replace ht7 := ht7.stay hb
          replace ht8 : LAt w8 ⟨us⟩ p8 := ht8
          replace hB := hB.trans (hb.mono hSZ)
          replace hSZ := Nat.le_trans hSZ hb.size
          clear hb hLb
          refine hK.out _ _ ?_ (fun hH2 => ?_)
          · exact HS.out _ hB
          clear hK K hH
          have hH := hH2
          clear hH2
          try simp only [Act.put, List.setIfInBounds_toArray, List.set_cons_zero, List.set_cons_succ]
          refine wpAnyH_ready (rs := [8, 9]) (by as_aux_lemma => kernel_rfl) (by simp) ?_
          refine AllReadyH.cons (o := { dst := some 35, op := Go.Op.call { callee := Go.Callee.value (Go.Operand.func 73), args := #[Go.Operand.tmp 32, Go.Operand.tmp 34], argTypes := #[83, 83] }, type := 83, pos := "skew.go:55", after := #[{ on := 5, ground := Go.Ground.data }, { on := 7, ground := Go.Ground.data }, { on := 7, ground := Go.Ground.chain }], guard := none }) rfl (fun K hK => ?_) (AllReadyH.cons (o := { dst := some 10, op := Go.Op.alloc 83, type := 0, pos := "skew.go:55", after := #[], guard := none }) rfl (fun K hK => ?_) AllReadyH.nil)
          · go_simp
            go_at_call 73
            (with_reducible refine (join_h ht7 ht8 (by rw [HU.out.2.1]; have := HU.out; omega) (by rw [HU.out.2.1]; exact rest_ok HO.out.1 k)).mono ?_)
            rintro e w9 ⟨p9, rfl, ht9, hb⟩
            rw [HU.out.2.1] at ht9
            replace hB := hB.trans (hb.mono hSZ)
            replace hSZ := Nat.le_trans hSZ hb.size
            clear hb ht7 ht8
            refine hK.out _ _ ?_ (fun hH2 => ?_)
            · exact HS.out _ hB
            clear hK K hH
            have hH := hH2
            clear hH2
            try simp only [Act.put, List.setIfInBounds_toArray, List.set_cons_zero, List.set_cons_succ]
            refine wpAnyH_ready (rs := [9]) (by as_aux_lemma => kernel_rfl) (by simp) ?_
            refine AllReadyH.cons (o := { dst := some 10, op := Go.Op.alloc 83, type := 0, pos := "skew.go:55", after := #[], guard := none }) rfl (fun K hK => ?_) AllReadyH.nil
            go_simp
            refine hK.out _ _ ?_ (fun hH2 => ?_)
            · exact HS.out _ (hB.alloc hSZ _)
            clear hK K hH
            have hH := hH2
            clear hH2
            have hv := Box2.new w9 83 (.pointer none) (.int .i64 0)
            have hV : w5.heap.size ≤ w9.heap.size := hSZ
            replace ht9 := ht9.stay ((Below.refl _ _).alloc (Nat.le_refl _) (.cells #[.pointer none, .int .i64 0] 83))
            replace hB := hB.alloc hSZ (.cells #[.pointer none, .int .i64 0] 83)
            replace hSZ := Nat.le_trans hSZ (show w9.heap.size ≤ (w9.alloc (.cells #[.pointer none, .int .i64 0] 83)).heap.size by simp)
            obtain ⟨g, hge⟩ : ∃ b, b = w9.heap.size := ⟨_, rfl⟩
            rw [← hge] at hv hV ⊢
            clear hge
            generalize w9.alloc (.cells #[.pointer none, .int .i64 0] 83) = wA at *
            try simp only [Act.put, List.setIfInBounds_toArray, List.set_cons_zero, List.set_cons_succ]
            have vc0 := hv.c0
            have vc1 := hv.c1
            have vz0 := hv.z0
            have vz1 := hv.z1
            refine wpAnyH_ready (rs := [10]) (by as_aux_lemma => kernel_rfl) (by simp) ?_
            refine AllReadyH.cons (o := { dst := none, op := Go.Op.store 83 (Go.Operand.tmp 10) (Go.Operand.tmp 35), type := 0, pos := "skew.go:55", after := #[{ on := 9, ground := Go.Ground.data }, { on := 8, ground := Go.Ground.data }, { on := 8, ground := Go.Ground.chain }, { on := 0, ground := Go.Ground.phase }, { on := 1, ground := Go.Ground.phase }, { on := 2, ground := Go.Ground.phase }, { on := 3, ground := Go.Ground.phase }, { on := 4, ground := Go.Ground.phase }, { on := 5, ground := Go.Ground.phase }, { on := 6, ground := Go.Ground.phase }, { on := 7, ground := Go.Ground.phase }, { on := 8, ground := Go.Ground.phase }, { on := 9, ground := Go.Ground.phase }], guard := none }) rfl (fun K hK => ?_) AllReadyH.nil
            go_simp
            refine hK.out _ _ ?_ (fun hH2 => ?_)
            · exact HS.out _ (below_set2 hB hV _ _)
            clear hK K hH
            have hH := hH2
            clear hH2
            have hv2 := hv.set (.pointer p9.q) (.int .i64 p9.n)
            have ht6 := ht9.set2 hv listT_ne (.pointer p9.q) (.int .i64 p9.n)
            have hB2 := below_set2 hB hV (.pointer p9.q) (.int .i64 p9.n)
            clear vc0 vc1 vz0 vz1
            try simp only [Act.put, List.setIfInBounds_toArray, List.set_cons_zero, List.set_cons_succ]
            refine wpAnyH_done (by as_aux_lemma => kernel_rfl) ?_ _
            refine NoPanic.normal ?_
            clear hH
            exact ⟨rfl, _, _, _, _, _, _, _, _, _, g, p9, by (try simp only [Act.put, List.setIfInBounds_toArray, List.set_cons_zero, List.set_cons_succ]); rfl, hB2, hV, hv2, ht6⟩
          · go_simp
            refine hK.out _ _ ?_ (fun hH2 => ?_)
            · exact HS.out _ (hB.alloc hSZ _)
            clear hK K hH
            have hH := hH2
            clear hH2
            have hv := Box2.new w8 83 (.pointer none) (.int .i64 0)
            have hV : w5.heap.size ≤ w8.heap.size := hSZ
            replace ht7 := ht7.stay ((Below.refl _ _).alloc (Nat.le_refl _) (.cells #[.pointer none, .int .i64 0] 83))
            replace ht8 := ht8.stay ((Below.refl _ _).alloc (Nat.le_refl _) (.cells #[.pointer none, .int .i64 0] 83))
            replace hB := hB.alloc hSZ (.cells #[.pointer none, .int .i64 0] 83)
            replace hSZ := Nat.le_trans hSZ (show w8.heap.size ≤ (w8.alloc (.cells #[.pointer none, .int .i64 0] 83)).heap.size by simp)
            obtain ⟨g, hge⟩ : ∃ b, b = w8.heap.size := ⟨_, rfl⟩
            rw [← hge] at hv hV ⊢
            clear hge
            generalize w8.alloc (.cells #[.pointer none, .int .i64 0] 83) = wA at *
            try simp only [Act.put, List.setIfInBounds_toArray, List.set_cons_zero, List.set_cons_succ]
            refine wpAnyH_ready (rs := [8]) (by as_aux_lemma => kernel_rfl) (by simp) ?_
            refine AllReadyH.cons (o := { dst := some 35, op := Go.Op.call { callee := Go.Callee.value (Go.Operand.func 73), args := #[Go.Operand.tmp 32, Go.Operand.tmp 34], argTypes := #[83, 83] }, type := 83, pos := "skew.go:55", after := #[{ on := 5, ground := Go.Ground.data }, { on := 7, ground := Go.Ground.data }, { on := 7, ground := Go.Ground.chain }], guard := none }) rfl (fun K hK => ?_) AllReadyH.nil
            go_simp
            go_at_call 73
            (with_reducible refine (join_h ht7 ht8 (by rw [HU.out.2.1]; have := HU.out; omega) (by rw [HU.out.2.1]; exact rest_ok HO.out.1 k)).mono ?_)
            rintro e w9 ⟨p9, rfl, ht9, hb⟩
            rw [HU.out.2.1] at ht9
            replace hB := hB.trans (hb.mono hSZ)
            replace hSZ := Nat.le_trans hSZ hb.size
            replace hv := hv.stay hb
            clear hb ht7 ht8
            refine hK.out _ _ ?_ (fun hH2 => ?_)
            · exact HS.out _ hB
            clear hK K hH
            have hH := hH2
            clear hH2
            try simp only [Act.put, List.setIfInBounds_toArray, List.set_cons_zero, List.set_cons_succ]
            have vc0 := hv.c0
            have vc1 := hv.c1
            have vz0 := hv.z0
            have vz1 := hv.z1
            refine wpAnyH_ready (rs := [10]) (by as_aux_lemma => kernel_rfl) (by simp) ?_
            refine AllReadyH.cons (o := { dst := none, op := Go.Op.store 83 (Go.Operand.tmp 10) (Go.Operand.tmp 35), type := 0, pos := "skew.go:55", after := #[{ on := 9, ground := Go.Ground.data }, { on := 8, ground := Go.Ground.data }, { on := 8, ground := Go.Ground.chain }, { on := 0, ground := Go.Ground.phase }, { on := 1, ground := Go.Ground.phase }, { on := 2, ground := Go.Ground.phase }, { on := 3, ground := Go.Ground.phase }, { on := 4, ground := Go.Ground.phase }, { on := 5, ground := Go.Ground.phase }, { on := 6, ground := Go.Ground.phase }, { on := 7, ground := Go.Ground.phase }, { on := 8, ground := Go.Ground.phase }, { on := 9, ground := Go.Ground.phase }], guard := none }) rfl (fun K hK => ?_) AllReadyH.nil
            go_simp
            refine hK.out _ _ ?_ (fun hH2 => ?_)
            · exact HS.out _ (below_set2 hB hV _ _)
            clear hK K hH
            have hH := hH2
            clear hH2
            have hv2 := hv.set (.pointer p9.q) (.int .i64 p9.n)
            have ht6 := ht9.set2 hv listT_ne (.pointer p9.q) (.int .i64 p9.n)
            have hB2 := below_set2 hB hV (.pointer p9.q) (.int .i64 p9.n)
            clear vc0 vc1 vz0 vz1
            try simp only [Act.put, List.setIfInBounds_toArray, List.set_cons_zero, List.set_cons_succ]
            refine wpAnyH_done (by as_aux_lemma => kernel_rfl) ?_ _
            refine NoPanic.normal ?_
            clear hH
            exact ⟨rfl, _, _, _, _, _, _, _, _, _, g, p9, by (try simp only [Act.put, List.setIfInBounds_toArray, List.set_cons_zero, List.set_cons_succ]); rfl, hB2, hV, hv2, ht6⟩
        · go_simp
          refine hK.out _ _ ?_ (fun hH2 => ?_)
          · exact HS.out _ (hB.alloc hSZ _)
          clear hK K hH
          have hH := hH2
          clear hH2
          have hv := Box2.new w7 83 (.pointer none) (.int .i64 0)
          have hV : w5.heap.size ≤ w7.heap.size := hSZ
          replace ht7 := ht7.stay ((Below.refl _ _).alloc (Nat.le_refl _) (.cells #[.pointer none, .int .i64 0] 83))
          replace hLb := hLb.stay ((Below.refl _ _).alloc (Nat.le_refl _) (.cells #[.pointer none, .int .i64 0] 83))
          replace hB := hB.alloc hSZ (.cells #[.pointer none, .int .i64 0] 83)
          replace hSZ := Nat.le_trans hSZ (show w7.heap.size ≤ (w7.alloc (.cells #[.pointer none, .int .i64 0] 83)).heap.size by simp)
          obtain ⟨g, hge⟩ : ∃ b, b = w7.heap.size := ⟨_, rfl⟩
          rw [← hge] at hv hV ⊢
          clear hge
          generalize w7.alloc (.cells #[.pointer none, .int .i64 0] 83) = wA at *
          try simp only [Act.put, List.setIfInBounds_toArray, List.set_cons_zero, List.set_cons_succ]
          refine wpAnyH_ready (rs := [7]) (by as_aux_lemma => kernel_rfl) (by simp) ?_
          refine AllReadyH.cons (o := { dst := some 34, op := Go.Op.call { callee := Go.Callee.value (Go.Operand.func 62), args := #[Go.Operand.tmp 33], argTypes := #[83] }, type := 83, pos := "skew.go:55", after := #[{ on := 6, ground := Go.Ground.data }, { on := 5, ground := Go.Ground.chain }], guard := none }) rfl (fun K hK => ?_) AllReadyH.nil
          go_simp
          go_at_call 62
          (with_reducible refine (restL_h hLb).mono ?_)
          rintro e w8 ⟨p8, rfl, ht8, hb⟩
          replace ht7 := ht7.stay hb
          replace ht8 : LAt w8 ⟨us⟩ p8 := ht8
          replace hB := hB.trans (hb.mono hSZ)
          replace hSZ := Nat.le_trans hSZ hb.size
          replace hv := hv.stay hb
          clear hb hLb
          refine hK.out _ _ ?_ (fun hH2 => ?_)
          · exact HS.out _ hB
          clear hK K hH
          have hH := hH2
          clear hH2
          try simp only [Act.put, List.setIfInBounds_toArray, List.set_cons_zero, List.set_cons_succ]
          refine wpAnyH_ready (rs := [8]) (by as_aux_lemma => kernel_rfl) (by simp) ?_
          refine AllReadyH.cons (o := { dst := some 35, op := Go.Op.call { callee := Go.Callee.value (Go.Operand.func 73), args := #[Go.Operand.tmp 32, Go.Operand.tmp 34], argTypes := #[83, 83] }, type := 83, pos := "skew.go:55", after := #[{ on := 5, ground := Go.Ground.data }, { on := 7, ground := Go.Ground.data }, { on := 7, ground := Go.Ground.chain }], guard := none }) rfl (fun K hK => ?_) AllReadyH.nil
          go_simp
          go_at_call 73
          (with_reducible refine (join_h ht7 ht8 (by rw [HU.out.2.1]; have := HU.out; omega) (by rw [HU.out.2.1]; exact rest_ok HO.out.1 k)).mono ?_)
          rintro e w9 ⟨p9, rfl, ht9, hb⟩
          rw [HU.out.2.1] at ht9
          replace hB := hB.trans (hb.mono hSZ)
          replace hSZ := Nat.le_trans hSZ hb.size
          replace hv := hv.stay hb
          clear hb ht7 ht8
          refine hK.out _ _ ?_ (fun hH2 => ?_)
          · exact HS.out _ hB
          clear hK K hH
          have hH := hH2
          clear hH2
          try simp only [Act.put, List.setIfInBounds_toArray, List.set_cons_zero, List.set_cons_succ]
          have vc0 := hv.c0
          have vc1 := hv.c1
          have vz0 := hv.z0
          have vz1 := hv.z1
          refine wpAnyH_ready (rs := [10]) (by as_aux_lemma => kernel_rfl) (by simp) ?_
          refine AllReadyH.cons (o := { dst := none, op := Go.Op.store 83 (Go.Operand.tmp 10) (Go.Operand.tmp 35), type := 0, pos := "skew.go:55", after := #[{ on := 9, ground := Go.Ground.data }, { on := 8, ground := Go.Ground.data }, { on := 8, ground := Go.Ground.chain }, { on := 0, ground := Go.Ground.phase }, { on := 1, ground := Go.Ground.phase }, { on := 2, ground := Go.Ground.phase }, { on := 3, ground := Go.Ground.phase }, { on := 4, ground := Go.Ground.phase }, { on := 5, ground := Go.Ground.phase }, { on := 6, ground := Go.Ground.phase }, { on := 7, ground := Go.Ground.phase }, { on := 8, ground := Go.Ground.phase }, { on := 9, ground := Go.Ground.phase }], guard := none }) rfl (fun K hK => ?_) AllReadyH.nil
          go_simp
          refine hK.out _ _ ?_ (fun hH2 => ?_)
          · exact HS.out _ (below_set2 hB hV _ _)
          clear hK K hH
          have hH := hH2
          clear hH2
          have hv2 := hv.set (.pointer p9.q) (.int .i64 p9.n)
          have ht6 := ht9.set2 hv listT_ne (.pointer p9.q) (.int .i64 p9.n)
          have hB2 := below_set2 hB hV (.pointer p9.q) (.int .i64 p9.n)
          clear vc0 vc1 vz0 vz1
          try simp only [Act.put, List.setIfInBounds_toArray, List.set_cons_zero, List.set_cons_succ]
          refine wpAnyH_done (by as_aux_lemma => kernel_rfl) ?_ _
          refine NoPanic.normal ?_
          clear hH
          exact ⟨rfl, _, _, _, _, _, _, _, _, _, g, p9, by (try simp only [Act.put, List.setIfInBounds_toArray, List.set_cons_zero, List.set_cons_succ]); rfl, hB2, hV, hv2, ht6⟩
      · go_simp
        refine hK.out _ _ ?_ (fun hH2 => ?_)
        · exact HS.out _ (hB.alloc hSZ _)
        clear hK K hH
        have hH := hH2
        clear hH2
        have hv := Box2.new w6 83 (.pointer none) (.int .i64 0)
        have hV : w5.heap.size ≤ w6.heap.size := hSZ
        replace hr := hr.stay ((Below.refl _ _).alloc (Nat.le_refl _) (.cells #[.pointer none, .int .i64 0] 83))
        replace hLb := hLb.stay ((Below.refl _ _).alloc (Nat.le_refl _) (.cells #[.pointer none, .int .i64 0] 83))
        replace hB := hB.alloc hSZ (.cells #[.pointer none, .int .i64 0] 83)
        replace hSZ := Nat.le_trans hSZ (show w6.heap.size ≤ (w6.alloc (.cells #[.pointer none, .int .i64 0] 83)).heap.size by simp)
        obtain ⟨g, hge⟩ : ∃ b, b = w6.heap.size := ⟨_, rfl⟩
        rw [← hge] at hv hV ⊢
        clear hge
        generalize w6.alloc (.cells #[.pointer none, .int .i64 0] 83) = wA at *
        try simp only [Act.put, List.setIfInBounds_toArray, List.set_cons_zero, List.set_cons_succ]
        refine wpAnyH_ready (rs := [5]) (by as_aux_lemma => kernel_rfl) (by simp) ?_
        refine AllReadyH.cons (o := { dst := some 32, op := Go.Op.call { callee := Go.Callee.value (Go.Operand.func 71), args := #[Go.Operand.tmp 31], argTypes := #[130] }, type := 83, pos := "skew.go:55", after := #[{ on := 4, ground := Go.Ground.data }, { on := 2, ground := Go.Ground.chain }], guard := none }) rfl (fun K hK => ?_) AllReadyH.nil
        go_simp
        go_at_call 71
        obtain ⟨ps, hr1, hr2⟩ := hr.take k
        (with_reducible refine (of_h hr1 hr2 (by rw [List.length_take]; have := HU.out; omega) (Nat.lt_of_le_of_lt (bSize_take_le _ _) HU.out.2.2.2.2.2.2) (sub_ok HO.out.1 (List.take_sublist k _))).mono ?_)
        rintro e w7 ⟨p7, rfl, ht7, hb⟩
        replace hLb := hLb.stay hb
        replace hB := hB.trans (hb.mono hSZ)
        replace hSZ := Nat.le_trans hSZ hb.size
        replace hv := hv.stay hb
        clear hb hr hr1 hr2
        refine hK.out _ _ ?_ (fun hH2 => ?_)
        · exact HS.out _ hB
        clear hK K hH
        have hH := hH2
        clear hH2
        try simp only [Act.put, List.setIfInBounds_toArray, List.set_cons_zero, List.set_cons_succ]
        refine wpAnyH_ready (rs := [7]) (by as_aux_lemma => kernel_rfl) (by simp) ?_
        refine AllReadyH.cons (o := { dst := some 34, op := Go.Op.call { callee := Go.Callee.value (Go.Operand.func 62), args := #[Go.Operand.tmp 33], argTypes := #[83] }, type := 83, pos := "skew.go:55", after := #[{ on := 6, ground := Go.Ground.data }, { on := 5, ground := Go.Ground.chain }], guard := none }) rfl (fun K hK => ?_) AllReadyH.nil
        go_simp
        go_at_call 62
        (with_reducible refine (restL_h hLb).mono ?_)
        rintro e w8 ⟨p8, rfl, ht8, hb⟩
        replace ht7 := ht7.stay hb
        replace ht8 : LAt w8 ⟨us⟩ p8 := ht8
        replace hB := hB.trans (hb.mono hSZ)
        replace hSZ := Nat.le_trans hSZ hb.size
        replace hv := hv.stay hb
        clear hb hLb
        refine hK.out _ _ ?_ (fun hH2 => ?_)
        · exact HS.out _ hB
        clear hK K hH
        have hH := hH2
        clear hH2
        try simp only [Act.put, List.setIfInBounds_toArray, List.set_cons_zero, List.set_cons_succ]
        refine wpAnyH_ready (rs := [8]) (by as_aux_lemma => kernel_rfl) (by simp) ?_
        refine AllReadyH.cons (o := { dst := some 35, op := Go.Op.call { callee := Go.Callee.value (Go.Operand.func 73), args := #[Go.Operand.tmp 32, Go.Operand.tmp 34], argTypes := #[83, 83] }, type := 83, pos := "skew.go:55", after := #[{ on := 5, ground := Go.Ground.data }, { on := 7, ground := Go.Ground.data }, { on := 7, ground := Go.Ground.chain }], guard := none }) rfl (fun K hK => ?_) AllReadyH.nil
        go_simp
        go_at_call 73
        (with_reducible refine (join_h ht7 ht8 (by rw [HU.out.2.1]; have := HU.out; omega) (by rw [HU.out.2.1]; exact rest_ok HO.out.1 k)).mono ?_)
        rintro e w9 ⟨p9, rfl, ht9, hb⟩
        rw [HU.out.2.1] at ht9
        replace hB := hB.trans (hb.mono hSZ)
        replace hSZ := Nat.le_trans hSZ hb.size
        replace hv := hv.stay hb
        clear hb ht7 ht8
        refine hK.out _ _ ?_ (fun hH2 => ?_)
        · exact HS.out _ hB
        clear hK K hH
        have hH := hH2
        clear hH2
        try simp only [Act.put, List.setIfInBounds_toArray, List.set_cons_zero, List.set_cons_succ]
        have vc0 := hv.c0
        have vc1 := hv.c1
        have vz0 := hv.z0
        have vz1 := hv.z1
        refine wpAnyH_ready (rs := [10]) (by as_aux_lemma => kernel_rfl) (by simp) ?_
        refine AllReadyH.cons (o := { dst := none, op := Go.Op.store 83 (Go.Operand.tmp 10) (Go.Operand.tmp 35), type := 0, pos := "skew.go:55", after := #[{ on := 9, ground := Go.Ground.data }, { on := 8, ground := Go.Ground.data }, { on := 8, ground := Go.Ground.chain }, { on := 0, ground := Go.Ground.phase }, { on := 1, ground := Go.Ground.phase }, { on := 2, ground := Go.Ground.phase }, { on := 3, ground := Go.Ground.phase }, { on := 4, ground := Go.Ground.phase }, { on := 5, ground := Go.Ground.phase }, { on := 6, ground := Go.Ground.phase }, { on := 7, ground := Go.Ground.phase }, { on := 8, ground := Go.Ground.phase }, { on := 9, ground := Go.Ground.phase }], guard := none }) rfl (fun K hK => ?_) AllReadyH.nil
        go_simp
        refine hK.out _ _ ?_ (fun hH2 => ?_)
        · exact HS.out _ (below_set2 hB hV _ _)
        clear hK K hH
        have hH := hH2
        clear hH2
        have hv2 := hv.set (.pointer p9.q) (.int .i64 p9.n)
        have ht6 := ht9.set2 hv listT_ne (.pointer p9.q) (.int .i64 p9.n)
        have hB2 := below_set2 hB hV (.pointer p9.q) (.int .i64 p9.n)
        clear vc0 vc1 vz0 vz1
        try simp only [Act.put, List.setIfInBounds_toArray, List.set_cons_zero, List.set_cons_succ]
        refine wpAnyH_done (by as_aux_lemma => kernel_rfl) ?_ _
        refine NoPanic.normal ?_
        clear hH
        exact ⟨rfl, _, _, _, _, _, _, _, _, _, g, p9, by (try simp only [Act.put, List.setIfInBounds_toArray, List.set_cons_zero, List.set_cons_succ]); rfl, hB2, hV, hv2, ht6⟩
    · go_simp
      refine hK.out _ _ ?_ (fun hH2 => ?_)
      · exact HS.out _ (hB.alloc hSZ _)
      clear hK K hH
      have hH := hH2
      clear hH2
      have hv := Box2.new wd 83 (.pointer none) (.int .i64 0)
      have hV : w5.heap.size ≤ wd.heap.size := hSZ
      replace hLa := hLa.stay ((Below.refl _ _).alloc (Nat.le_refl _) (.cells #[.pointer none, .int .i64 0] 83))
      replace hLb := hLb.stay ((Below.refl _ _).alloc (Nat.le_refl _) (.cells #[.pointer none, .int .i64 0] 83))
      replace hB := hB.alloc hSZ (.cells #[.pointer none, .int .i64 0] 83)
      replace hSZ := Nat.le_trans hSZ (show wd.heap.size ≤ (wd.alloc (.cells #[.pointer none, .int .i64 0] 83)).heap.size by simp)
      obtain ⟨g, hge⟩ : ∃ b, b = wd.heap.size := ⟨_, rfl⟩
      rw [← hge] at hv hV ⊢
      clear hge
      generalize wd.alloc (.cells #[.pointer none, .int .i64 0] 83) = wA at *
      try simp only [Act.put, List.setIfInBounds_toArray, List.set_cons_zero, List.set_cons_succ]
      refine wpAnyH_ready (rs := [2]) (by as_aux_lemma => kernel_rfl) (by simp) ?_
      refine AllReadyH.cons (o := { dst := some 29, op := Go.Op.call { callee := Go.Callee.value (Go.Operand.func 72), args := #[Go.Operand.tmp 28], argTypes := #[83] }, type := 130, pos := "skew.go:55", after := #[{ on := 1, ground := Go.Ground.data }], guard := none }) rfl (fun K hK => ?_) AllReadyH.nil
      go_simp
      go_at_call 72
      have hmt : MAt wA (none : Option Nat) 0 0 := trivial
      (with_reducible refine (all_h hLa hmt).mono ?_)
      rintro e w6 ⟨A, n6, c6, rfl, hr, -, hb⟩
      replace hLb := hLb.stay hb
      replace hB := hB.trans (hb.mono hSZ)
      replace hSZ := Nat.le_trans hSZ hb.size
      replace hv := hv.stay hb
      clear hb hLa
      have c1 : k ≤ n6 := by have := hr.len; have := HU.out; omega
      have c2 : k ≤ c6 := Nat.le_trans c1 hr.cap
      have c3 : (0 : Int) ≤ (k : Int) := by omega
      have c4 : (k : Int) ≤ (c6 : Int) := by omega
      have c5 : (k : Int) ≤ (n6 : Int) := by omega
      refine hK.out _ _ ?_ (fun hH2 => ?_)
      · exact HS.out _ hB
      clear hK K hH
      have hH := hH2
      clear hH2
      try simp only [Act.put, List.setIfInBounds_toArray, List.set_cons_zero, List.set_cons_succ]
      refine wpAnyH_take (i := 4) (oi := { dst := some 31, op := Go.Op.slice 130 (Go.Operand.tmp 29) none (some (Go.Operand.tmp 30)) none, type := 130, pos := "skew.go:55", after := #[{ on := 2, ground := Go.Ground.data }, { on := 3, ground := Go.Ground.data }], guard := none }) (v := ?v1_8_4) rfl (by as_aux_lemma => kernel_rfl) (by as_aux_lemma => kernel_rfl) (by as_aux_lemma => kernel_rfl) (fun _ _ _ h => h) (Or.inl ⟨(by as_aux_lemma => kernel_rfl), ?hy1_8_4⟩) hH ?rest1_8_4
      case hy1_8_4 => (intro w hSw; (try dsimp only at hSw); go_simp; try with_reducible rfl)
      try simp only [Act.put, List.setIfInBounds_toArray, List.set_cons_zero, List.set_cons_succ]
      refine wpAnyH_ready (rs := [5]) (by as_aux_lemma => kernel_rfl) (by simp) ?_
      refine AllReadyH.cons (o := { dst := some 32, op := Go.Op.call { callee := Go.Callee.value (Go.Operand.func 71), args := #[Go.Operand.tmp 31], argTypes := #[130] }, type := 83, pos := "skew.go:55", after := #[{ on := 4, ground := Go.Ground.data }, { on := 2, ground := Go.Ground.chain }], guard := none }) rfl (fun K hK => ?_) AllReadyH.nil
      go_simp
      go_at_call 71
      obtain ⟨ps, hr1, hr2⟩ := hr.take k
      (with_reducible refine (of_h hr1 hr2 (by rw [List.length_take]; have := HU.out; omega) (Nat.lt_of_le_of_lt (bSize_take_le _ _) HU.out.2.2.2.2.2.2) (sub_ok HO.out.1 (List.take_sublist k _))).mono ?_)
      rintro e w7 ⟨p7, rfl, ht7, hb⟩
      replace hLb := hLb.stay hb
      replace hB := hB.trans (hb.mono hSZ)
      replace hSZ := Nat.le_trans hSZ hb.size
      replace hv := hv.stay hb
      clear hb hr hr1 hr2
      refine hK.out _ _ ?_ (fun hH2 => ?_)
      · exact HS.out _ hB
      clear hK K hH
      have hH := hH2
      clear hH2
      try simp only [Act.put, List.setIfInBounds_toArray, List.set_cons_zero, List.set_cons_succ]
      refine wpAnyH_ready (rs := [7]) (by as_aux_lemma => kernel_rfl) (by simp) ?_
      refine AllReadyH.cons (o := { dst := some 34, op := Go.Op.call { callee := Go.Callee.value (Go.Operand.func 62), args := #[Go.Operand.tmp 33], argTypes := #[83] }, type := 83, pos := "skew.go:55", after := #[{ on := 6, ground := Go.Ground.data }, { on := 5, ground := Go.Ground.chain }], guard := none }) rfl (fun K hK => ?_) AllReadyH.nil
      go_simp
      go_at_call 62
      (with_reducible refine (restL_h hLb).mono ?_)
      rintro e w8 ⟨p8, rfl, ht8, hb⟩
      replace ht7 := ht7.stay hb
      replace ht8 : LAt w8 ⟨us⟩ p8 := ht8
      replace hB := hB.trans (hb.mono hSZ)
      replace hSZ := Nat.le_trans hSZ hb.size
      replace hv := hv.stay hb
      clear hb hLb
      refine hK.out _ _ ?_ (fun hH2 => ?_)
      · exact HS.out _ hB
      clear hK K hH
      have hH := hH2
      clear hH2
      try simp only [Act.put, List.setIfInBounds_toArray, List.set_cons_zero, List.set_cons_succ]
      refine wpAnyH_ready (rs := [8]) (by as_aux_lemma => kernel_rfl) (by simp) ?_
      refine AllReadyH.cons (o := { dst := some 35, op := Go.Op.call { callee := Go.Callee.value (Go.Operand.func 73), args := #[Go.Operand.tmp 32, Go.Operand.tmp 34], argTypes := #[83, 83] }, type := 83, pos := "skew.go:55", after := #[{ on := 5, ground := Go.Ground.data }, { on := 7, ground := Go.Ground.data }, { on := 7, ground := Go.Ground.chain }], guard := none }) rfl (fun K hK => ?_) AllReadyH.nil
      go_simp
      go_at_call 73
      (with_reducible refine (join_h ht7 ht8 (by rw [HU.out.2.1]; have := HU.out; omega) (by rw [HU.out.2.1]; exact rest_ok HO.out.1 k)).mono ?_)
      rintro e w9 ⟨p9, rfl, ht9, hb⟩
      rw [HU.out.2.1] at ht9
      replace hB := hB.trans (hb.mono hSZ)
      replace hSZ := Nat.le_trans hSZ hb.size
      replace hv := hv.stay hb
      clear hb ht7 ht8
      refine hK.out _ _ ?_ (fun hH2 => ?_)
      · exact HS.out _ hB
      clear hK K hH
      have hH := hH2
      clear hH2
      try simp only [Act.put, List.setIfInBounds_toArray, List.set_cons_zero, List.set_cons_succ]
      have vc0 := hv.c0
      have vc1 := hv.c1
      have vz0 := hv.z0
      have vz1 := hv.z1
      refine wpAnyH_ready (rs := [10]) (by as_aux_lemma => kernel_rfl) (by simp) ?_
      refine AllReadyH.cons (o := { dst := none, op := Go.Op.store 83 (Go.Operand.tmp 10) (Go.Operand.tmp 35), type := 0, pos := "skew.go:55", after := #[{ on := 9, ground := Go.Ground.data }, { on := 8, ground := Go.Ground.data }, { on := 8, ground := Go.Ground.chain }, { on := 0, ground := Go.Ground.phase }, { on := 1, ground := Go.Ground.phase }, { on := 2, ground := Go.Ground.phase }, { on := 3, ground := Go.Ground.phase }, { on := 4, ground := Go.Ground.phase }, { on := 5, ground := Go.Ground.phase }, { on := 6, ground := Go.Ground.phase }, { on := 7, ground := Go.Ground.phase }, { on := 8, ground := Go.Ground.phase }, { on := 9, ground := Go.Ground.phase }], guard := none }) rfl (fun K hK => ?_) AllReadyH.nil
      go_simp
      refine hK.out _ _ ?_ (fun hH2 => ?_)
      · exact HS.out _ (below_set2 hB hV _ _)
      clear hK K hH
      have hH := hH2
      clear hH2
      have hv2 := hv.set (.pointer p9.q) (.int .i64 p9.n)
      have ht6 := ht9.set2 hv listT_ne (.pointer p9.q) (.int .i64 p9.n)
      have hB2 := below_set2 hB hV (.pointer p9.q) (.int .i64 p9.n)
      clear vc0 vc1 vz0 vz1
      try simp only [Act.put, List.setIfInBounds_toArray, List.set_cons_zero, List.set_cons_succ]
      refine wpAnyH_done (by as_aux_lemma => kernel_rfl) ?_ _
      refine NoPanic.normal ?_
      clear hH
      exact ⟨rfl, _, _, _, _, _, _, _, _, _, g, p9, by (try simp only [Act.put, List.setIfInBounds_toArray, List.set_cons_zero, List.set_cons_succ]); rfl, hB2, hV, hv2, ht6⟩
  rintro x' w6 ⟨u27, u28, u29, u30, u31, u32, u33, u34, u35, g, p9, rfl, hB, hG, hg, ht⟩
  try simp only [Act.put, List.setIfInBounds_toArray, List.set_cons_zero, List.set_cons_succ]
  have K6 := Lib.hid (K5.out.stay hB)
  have B6 := Lib.hid (And.intro (B5.out.2.1.stay hB) hg)
  have L6 := Lib.hid (And.intro ht (L5.out.2.2.stay hB))
  clear hB hG hg ht K5 B5 L5
  go_wp2_with fail
  ((with_reducible refine (kids_any fa (some u) _ L6.out.2 (by have := HU.out; simp only [osize]; omega)).mono ?_); rintro e w7 ⟨v7, ps, rfl, hk7, hown, hb⟩)
  obtain ⟨A7, c7, rfl, hr7, hc7, -, -⟩ := hown.form
  have hts := (KAt.ts hk7).kp (Kpt.below hb)
  have K7 := Lib.hid (K6.out.stay hb)
  have B7 := Lib.hid (And.intro (B6.out.1.stay hb) (B6.out.2.stay hb))
  have L7 := Lib.hid (L6.out.1.stay hb)
  have HR7 := Lib.hid (And.intro (show Row1 Lt.one w7 A7 ps from hr7) hts)
  have hpl := hts.length
  have hkl : u.ks.list.length ≤ u.size := by rw [Gn.Wood.list_len]; have := u.rank_lt; exact Nat.le_of_lt this
  obtain ⟨n7, hn7⟩ : ∃ n, n = ps.length := ⟨_, rfl⟩
  rw [← hn7]
  have HN7 := Lib.hid (show n7 = ps.length ∧ n7 < 268435456 from ⟨hn7, by have := HU.out; have h9 : ps.length = u.ks.list.length := hpl; omega⟩)
  have L7b := Lib.hid (L6.out.2.stay hb)
  clear hk7 hown hr7 hb hts K6 B6 L6 hn7 hpl hkl
  go_wp2_with fail
  ((with_reducible refine (Lt.of_l HN7.out.1 HR7.out.1 (by have := HN7.out; omega)).mono ?_); rintro e w8 ⟨q8, n8, rfl, hl8, hb⟩)
  have K8 := Lib.hid (K7.out.stay hb)
  have B8 := Lib.hid (And.intro (B7.out.1.stay hb) (B7.out.2.stay hb))
  have L8 := Lib.hid (And.intro (L7.out.stay hb) (And.intro hl8 (HR7.out.2.kp (Kpt.below hb))))
  have L8b := Lib.hid (L7b.out.stay hb)
  clear hl8 hb K7 B7 L7 L7b HR7
  go_wp2_with fail
  ((with_reducible refine (Lt.rev_l L8.out.2.1).mono ?_); rintro e w9 ⟨q9, n9, rfl, hl9, hb⟩)
  have hkids : LAt w9 ⟨kidsAt (t :: r) k⟩ ⟨q9, (n9 : Int)⟩ := by
    rw [HU.out.1.1]
    exact LAt.of hl9 ((L8.out.2.2.kp (Kpt.below hb)).reverse) (by rw [bSize_reverse, bSize_list]; have := HU.out; have h9 : u.size = 1 + u.bs.length + u.ks.size := rfl; omega) (kids_ok HO.out.2.1 HO.out.2.2)
  have hA := (Below.refl w9.heap.size w9).alloc (Nat.le_refl _) (.cells #[.pointer q9, .int .i64 (n9 : Int)] 85)
  have K9 := Lib.hid ((K8.out.stay hb).stay hA)
  have B9 := Lib.hid (And.intro ((B8.out.1.stay hb).stay hA) (And.intro ((B8.out.2.stay hb).stay hA) (Box2.new w9 85 (.pointer q9) (.int .i64 (n9 : Int)))))
  have L9 := Lib.hid (And.intro ((L8.out.1.stay hb).stay hA) (hkids.stay hA))
  have L9b := Lib.hid ((L8b.out.stay hb).stay hA)
  clear hl9 hb K8 B8 L8 L8b hkids hA
  have c0 := B9.out.2.2.c0
  have c1 := B9.out.2.2.c1
  have d0 := B9.out.2.1.c0
  have d1 := B9.out.2.1.c1
  go_wp2_with fail
  generalize w9.alloc (.cells #[.pointer q9, .int .i64 (n9 : Int)] 85) = wB at *
  generalize w9.heap.size = b9 at *
  have HMM := meld_any mo ⟨kidsAt (t :: r) k⟩ ⟨restAt (t :: r) k⟩ (c + (Lh.mk (t :: r)).tellN) m ⟨q9, (n9 : Int)⟩ p9 wB (by show bSize (kidsAt (t :: r) k) + bSize (restAt (t :: r) k) < _; have := HPS.out; omega) K9.out.mt (by have := HN.out; omega) (by have := HN.out; have := HPO.out; omega) HN.out.2.2.1 (by have := HN.out; omega) L9.out.2 L9.out.1
  have hkr : rises (kidsAt (t :: r) k) := by rw [HU.out.1.1]; exact Gn.Wood.list_srise HO.out.2.2.2
  have HMB := Lib.hid (show meld ⟨kidsAt (t :: r) k⟩ ⟨restAt (t :: r) k⟩ = ⟨sBase (t :: r) k⟩ ∧ meldN ⟨kidsAt (t :: r) k⟩ ⟨restAt (t :: r) k⟩ = sBaseN (t :: r) k from base_meld hkr)
  rw [HMB.out.1, HMB.out.2] at HMM
  clear hkr
  have TB := Lib.hid (L9b.out)
  ((with_reducible refine HMM.mono ?_); rintro e w10 ⟨p10, rfl, ht10, hm10, hb10⟩)
  have R10 := Lib.hid (B9.out.1.bt hb10 K9.out.mt (by decide))
  have K10 := Lib.hid (K9.out.turn hm10 hb10 node_ne)
  have L10 := Lib.hid (And.intro ht10 (TB.out.kp (Kp.tree (Kp.bt hb10 K9.out.mt))))
  clear ht10 hm10 hb10 c0 c1 d0 d1 HMM
  go_wp2_with fail
  ((with_reducible refine (beside_any fa (some u) _ L10.out.2 (by have := HU.out; simp only [osize]; omega)).mono ?_); rintro e w11 ⟨v11, rfl, hown, hb⟩)
  have hown : OwnT w11 w10.heap.size v11 u.bs := hown
  have hkb : ∀ x ∈ u.bs, KeyC w11 x := fun x hx => (beside_keys L10.out.2 x hx).stay hb
  have HKB := Lib.hid hkb
  obtain ⟨A11, c11, rfl, hr11, -, -, -⟩ := hown.form
  have hblk := hown.block
  have R11 := Lib.hid (R10.out.stay hb)
  have K11 := Lib.hid (K10.out.stay hb)
  have L11 := Lib.hid (LAt.stay L10.out.1 hb)
  have HNE := Lib.hid (show 0 < u.bs.length → ∀ b, mo = some b → ∀ q, A11 = some q → q.block ≠ b from fun h0 b eb q eq => by subst eb; subst eq; have h1 := hblk q.block (by obtain ⟨b1, o1, e1, -⟩ := hr11 h0; cases e1; rfl); have h2 : b < w10.heap.size := MAt.lt K10.out.mt; omega)
  have HR11 := Lib.hid (show Row1 one0 w11 A11 u.bs from hr11)
  clear hown hblk hr11 hb hkb R10 K10 L10
  go_wp2_with fail
  have HWW := Lib.hid (with_any mo (c + (Lh.mk (t :: r)).tellN + (sBaseN (t :: r) k : Nat)) (m + (sBaseN (t :: r) k : Nat)) ⟨sBase (t :: r) k⟩ p10 A11 u.bs c11 _ K11.out.mt (by have := HN.out; omega) (by have := HN.out; have := HPO.out; omega) (by have := HN.out; omega) (by have := HN.out; have := HPO.out; omega) HR11.out HKB.out (by show bSize (sBase (t :: r) k) + _ < _; rw [base_size]; exact HPS.out) HNE.out L11.out)
  ((with_reducible refine HWW.out.mono ?_); rintro e w12 ⟨p12, rfl, ht12, hm12, hb12⟩)
  have R12 := Lib.hid (R11.out.bt hb12 K11.out.mt (by decide))
  have K12 := Lib.hid (K11.out.turn hm12 hb12 node_ne)
  have L12 := Lib.hid ht12
  have z0 := R12.out.z0
  have z1 := R12.out.z1
  have r0 := R12.out.c0
  have r1 := R12.out.c1
  have s0 := (R12.out.set (.pointer p12.q) (.int .i64 p12.n)).c0
  have s1 := (R12.out.set (.pointer p12.q) (.int .i64 p12.n)).c1
  clear ht12 hm12 hb12 HWW
  go_wp2_with fail
  have hk := K12.out.put2 R12.out heapT_ne (by decide) (by have := HA.out; omega) (.pointer p12.q) (.int .i64 p12.n)
  have e1 : c + (((Lh.mk (t :: r)).popC + (Lh.mk (t :: r)).tellN : Nat) : Int) = c + ((Lh.mk (t :: r)).tellN : Nat) + (sBaseN (t :: r) k : Nat) + (putC ⟨sBase (t :: r) k⟩ u.bs : Nat) := by rw [HPO.out.2.1]; omega
  have e2 : m + ((Lh.mk (t :: r)).popM : Nat) = m + (sBaseN (t :: r) k : Nat) + (putM ⟨sBase (t :: r) k⟩ u.bs : Nat) := by rw [HPO.out.2.2.1]; omega
  exact bodyPost_ret (v := .tuple #[hp p12, .bool true]) (by simp [results, Tryz.results43, go_sem, s0, s1]) rfl ⟨p12, rfl, by rw [HPO.out.1]; exact L12.out.set2 R12.out heapT_ne _ _, by rw [e1, e2]; exact hk.mt, hk.bt⟩
theorem pop_any (mo : Option Nat) (c m : Int) (h : Lh) (p : HP) (w : World) (hs : h.size < 134217728) (hm : MAt w mo c m) (h0 : 0 ≤ c) (h1 : c < 144115188075855872) (h2 : 0 ≤ m) (h3 : m < 144115188075855872)
    (hh : LAt w h p) : Calls Tryz.prog 43 #[hp p, mAddr mo] w (Popped mo (c + (h.popC + h.tellN : Nat)) (m + h.popM) h.pop h.some w) := by
  obtain ⟨ts⟩ := h
  cases ts with
  | nil =>
    refine (pop_none mo c m p w hm h0 h1 h2 h3 hh).mono fun e w' ⟨p', he, ht, hm', hb⟩ => ⟨p', he, ht, ?_, hb⟩
    have e1 : (Lh.mk []).popC = 0 := rfl
    have e3 : (Lh.mk []).popM = 0 := rfl
    have e2 : (Lh.mk []).tellN = 0 := rfl
    rw [e1, e2, e3]
    simpa using hm'
  | cons t r => exact pop_some_any mo c m t r p w hs hm h0 h1 h2 h3 hh

end Go.Proofs.YtlmokendajgbdaaGreatDoor.Hp
