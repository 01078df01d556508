/-
  Contract of the reference's pop of trees of heaps (slagheapref11): the trees without the least root, and how many steps there were; nothing that was there has changed. Condition: fewer than 2 to the 27th heaps.
  Contract of the reference's Pop (slagheapref11), of any heap of heaps: the heap without its root, and how many steps there were; nothing that was there has changed. Condition: fewer than 2 to the 27th heaps in the queue, and in its least one's.
  Contracts of the reference's all and queue (slagheapref11): a tree's heaps in order, all heaps of a heap's queue in order, and of Pop, of any heap; nothing that was there has changed. Condition: fewer than 2 to the 27th heaps.
-/
import Derived.Test.YtlmokendajgbdaaGreatDoorPc
namespace Go.Proofs.YtlmokendajgbdaaGreatDoor.Bo.Zr
open Go.Sort Go.RowKit Go.Proofs.YtlmokendajgbdaaGreatDoor.Gn Go.Proofs.YtlmokendajgbdaaGreatDoor.Bo

theorem RK.append_t {F : Nat → Prop} {W : World} : ∀ (a b : List (Gn.Tre Lh)) (cs ds : List Value), RK F W (.ts a) cs → RK F W (.ts b) ds → RK F W (.ts (a ++ b)) (cs ++ ds)
  | [], b, cs, ds, h, h' => by cases h; exact h'
  | t :: r, b, cs, ds, h, h' => by
    obtain ⟨Ax, Ab, Ak, cx, cb, ck, cs', rfl, ht, hr⟩ := h.head_t
    exact RK.cons_t ht (RK.append_t r b cs' ds hr h')
theorem RK.take_t {F : Nat → Prop} {W : World} : ∀ (l : List (Gn.Tre Lh)) (kc : List Value) (j : Nat), RK F W (.ts l) kc → RK F W (.ts (l.take j)) (kc.take (j * 4))
  | l, kc, 0, h => by simp only [List.take_zero, Nat.zero_mul]; exact .t0
  | [], kc, j + 1, h => by
    cases h
    simp only [List.take_nil]
    exact .t0
  | t :: r, kc, j + 1, h => by
    obtain ⟨Ax, Ab, Ak, cx, cb, ck, cs', rfl, ht, hr⟩ := h.head_t
    have := RK.cons_t ht (RK.take_t r cs' j hr)
    rw [show (j + 1) * 4 = j * 4 + 1 + 1 + 1 + 1 by omega]
    exact this
theorem RK.drop_h {F : Nat → Prop} {W : World} : ∀ (l : List Lh) (kc : List Value) (j : Nat), RK F W (.hs l) kc → RK F W (.hs (l.drop j)) (kc.drop (j * 4))
  | l, kc, 0, h => by simpa using h
  | [], kc, j + 1, h => by
    cases h
    simp only [List.drop_nil]
    exact .h0
  | t :: r, kc, j + 1, h => by
    obtain ⟨x, A, n, c, N, cs', rfl, -, hr⟩ := h.head_h
    have := RK.drop_h r cs' j hr
    simpa [Nat.add_mul] using this
/-- The j-th heap of a row. -/
theorem hs_at {F : Nat → Prop} {W : World} {l : List Lh} {b o n c : Nat} (h : RowAt F W (.hs l) (some ⟨b, o, none⟩) n c) {j : Nat} (hj : j < l.length) : ∃ (x1 x2 : Int) (A : Option Addr) (k d : Nat) (N : Bool),
    (W.cell? ⟨b, o + j * 4, none⟩ = some (.bool N) ∧ W.cell? ⟨b, o + j * 4 + 1, none⟩ = some (.int .i64 x1) ∧ W.cell? ⟨b, o + j * 4 + 2, none⟩ = some (.int .i64 x2) ∧ W.cell? ⟨b, o + j * 4 + 3, none⟩ = some (.slice A k d)) ∧ RAt F W l[j] (x1, x2) A k d N := by
  obtain ⟨-, -, kc, hk, hC⟩ := h
  have hd := RK.drop_h l kc j hk
  rw [List.drop_eq_getElem_cons hj] at hd
  obtain ⟨⟨x1, x2⟩, A, k, d, N, cs', e, ht, -⟩ := hd.head_h
  have hpos : 0 < kc.length := by rw [hk.length]; simp only [Rows.len]; omega
  obtain ⟨b', o', e2, -, hc⟩ := hC hpos
  cases e2
  have hx : ∀ i v, (kc.drop (j * 4))[i]? = some v → W.cell? ⟨b, o + j * 4 + i, none⟩ = some v := fun i v hv => by
    rw [List.getElem?_drop] at hv
    have := hc _ v hv
    rwa [← Nat.add_assoc] at this
  rw [e] at hx
  exact ⟨x1, x2, A, k, d, N, ⟨hx 0 _ rfl, hx 1 _ rfl, hx 2 _ rfl, hx 3 _ rfl⟩, ht⟩
theorem hs_some {F : Nat → Prop} {W : World} {l : List Lh} {A : Option Addr} {n c : Nat} (h : RowAt F W (.hs l) A n c) (hn : 0 < n) : ∃ b o, A = some ⟨b, o, none⟩ := by
  obtain ⟨h1, -, kc, hk, hC⟩ := h
  obtain ⟨b, o, e, -⟩ := hC (by rw [hk.length]; omega)
  exact ⟨b, o, e⟩

/-- A slice of the call's own whose things are trees. -/
abbrev OwnT (W : World) (base : Nat) (v : Value) (m : Nat) (cs : List Value) : Prop := W.ownsRow base 97 4 v m cs
theorem OwnT.nil (W : World) (base : Nat) : OwnT W base (.slice none 0 0) 0 [] := ⟨rfl, .inl ⟨rfl, rfl⟩⟩
theorem OwnT.stay {W W' : World} {base : Nat} {v : Value} {m : Nat} {cs : List Value} (h : OwnT W base v m cs) (hb : Below W.heap.size W W') : OwnT W' base v m cs :=
  World.ownsRow.kept h (row := none) ⟨hb.os, hb.tape, hb.output, hb.size, fun k hk _ => hb.block k hk⟩ (by cases v.ownBlock <;> simp)
/-- .. as a row of trees, which lay in a world that has only grown since. -/
theorem OwnT.hat {F : Nat → Prop} {w W : World} {base : Nat} {v : Value} {m : Nat} {cs : List Value} {l : List (Gn.Tre Lh)} (h : OwnT W base v m cs) (hk : RK F w (.ts l) cs) (hb : Below w.heap.size w W) (hF : ∀ k, base ≤ k → F k) (hm : m = l.length) : ∃ A n c, v = .slice A n c ∧ n = m ∧ TsAt F W l A n c := by
  have h0 := h
  rcases h.2 with ⟨rfl, hz⟩ | ⟨g, cap, cur, rfl, hbg, -, hcap, hmax, -⟩
  · subst hz
    obtain rfl : l = [] := List.eq_nil_of_length_eq_zero hm.symm
    exact ⟨none, 0, 0, rfl, rfl, RowAt.none_ts F W⟩
  · refine ⟨_, m, cap, rfl, rfl, hm, ⟨by omega, by unfold maxLen at hmax; omega, fun e => by cases e⟩, cs, hk.far (Far.below hb), fun _ => ⟨g, 0, rfl, hF g hbg, fun j u hu => ?_⟩⟩
    have := h0.cells (g := g) rfl j u hu
    rwa [add_plain4] at this
theorem append_T (F : Nat → Prop) (w : World) (base : Nat) (v : Value) (m : Nat) (cs : List Value) (hown : OwnT w base v m cs) (A : Option Addr) (n c : Nat) (kc : List Value) (hl : kc.length = n * 4) (h1 : ∀ u ∈ kc, u.oneCell' = true) (hc : CAt F w A kc) (hA : A = none → c = 0) (hb : base ≤ w.heap.size) (hm : m + n < 1000000000) :
    ∃ v' w', (Builtin.append_ #[33, 33] 33 #[v, .slice A n c]).run Tryz.prog w = .ok v' w' ∧ OwnT w' base v' (m + n) (cs ++ kc) ∧ Below base w w' := by
  obtain ⟨i0, hi, hz0, hz1, hz2⟩ := info_parts infoT
  have hblk : ∀ g, v.ownBlock = some g → base ≤ g := fun g hg => (World.ownsRow.lt hown g hg).1
  have step : ∀ a : Addr, (∀ j u, kc[j]? = some u → w.cell? (a.add j) = some u) → ∃ v' w', (Builtin.append_ #[33, 33] 33 #[v, .slice (some a) n c]).run Tryz.prog w = .ok v' w' ∧ OwnT w' base v' (m + n) (cs ++ kc) ∧ Below base w w' := by
    intro a ha
    obtain ⟨v', w', g1, g2, g3, _⟩ := run_append_own_at (P := Tryz.prog) w base 33 33 97 i0 _ 4 80 Tryz.underlying33 hi hz0 hz1 hz2 rfl (by omega) v m cs hown a n c kc hl ha h1 (by unfold maxLen; omega) (by omega) hb
    exact ⟨v', w', g1, g2, below_grown (Below.refl base w) g3 hb hblk⟩
  by_cases h0 : 0 < kc.length
  · obtain ⟨b, o, rfl, -, hcell⟩ := hc h0
    exact step _ (fun j u hu => by rw [add_plain4]; exact hcell j u hu)
  · obtain rfl : kc = [] := List.eq_nil_of_length_eq_zero (by omega)
    cases A with
    | some a => exact step a (fun j u hu => by simp at hu)
    | none =>
      obtain rfl := hA rfl
      obtain rfl : n = 0 := by simp at hl; omega
      have hrun := run_append_owned_none (P := Tryz.prog) (w := w) base 33 33 97 i0 4 Tryz.underlying33 hi v m cs hown
      exact ⟨v, w, hrun, by simpa using hown, Below.refl _ _⟩
theorem sfold_size (l : List Lh) (h : List (Gn.Tre Lh)) : Gn.bSize (l.foldl Gn.sIns h) = Gn.bSize h + l.length := by
  have := (Gn.sfold_all l h).length_eq
  rwa [Gn.bAll_length, List.length_append, Gn.bAll_length] at this
theorem sfold_take (l : List Lh) (h : List (Gn.Tre Lh)) (k : Nat) (hk : k < l.length) : (l.take (k + 1)).foldl Gn.sIns h = Gn.sIns ((l.take k).foldl Gn.sIns h) l[k] ∧ Gn.sPutN h (l.take (k + 1)) + Gn.sPutM h (l.take (k + 1)) = Gn.sPutN h (l.take k) + Gn.sPutM h (l.take k) + (Gn.sInsN ((l.take k).foldl Gn.sIns h) + Gn.sInsM ((l.take k).foldl Gn.sIns h)) := by
  rw [List.take_succ_eq_append_getElem hk, Gn.sPutN_snoc, Gn.sPutM_snoc, List.foldl_append]
  exact ⟨rfl, by omega⟩

set_option maxRecDepth 100000 in
set_option maxHeartbeats 16000000 in
theorem refPopQ (F : Nat → Prop) (l : List (Gn.Tre Lh)) (A : Option Addr) (n c : Nat) (w : World) (hF : ∀ k, w.heap.size ≤ k → F k) (hs : Gn.bSize l < 134217728) (hn1 : 0 < n) (h : TsAt F w l A n c) :
    Calls Tryz.prog 46 #[.slice A n c] w (GaveLN F (Gn.sPop l) (Gn.sPopN l + Gn.sPopM l + (n - 1)) w) := by
  obtain ⟨b, of, rfl⟩ := ts_some h hn1
  have hnl : n = l.length := h.1
  have hll := bSize_len l
  have hln : l ≠ [] := by rintro rfl; simp at hnl; omega
  have hq := leastI_lt hln
  obtain ⟨q, hqe⟩ : ∃ q, q = leastI l := ⟨_, rfl⟩
  rw [← hqe] at hq
  obtain ⟨kc0, hkc0, hC0⟩ := h.2.2
  obtain ⟨Ax, Ab, Ak, ax, ab, ak, ⟨-, -, c3, c4⟩, ht⟩ := ts_at h hq
  have hbw : b < w.heap.size := block_lt_of_cell c4
  have hkC := ht.k
  have hbC := ht.b
  obtain ⟨kl, hkl⟩ : ∃ k, k = l[q].rank := ⟨_, rfl⟩
  obtain ⟨bl, hbl⟩ : ∃ k, k = l[q].bs.length := ⟨_, rfl⟩
  rw [← hbl] at c3 hbC
  rw [← hkl] at c4 hkC
  have hpop : Gn.sPop l = (l[q]'hq).bs.foldl Gn.sIns (Gn.bmeld (l[q]'hq).ks.list.reverse (Gn.levT (Gn.restAt l q))) ∧ Gn.sPopN l + Gn.sPopM l = 2 * Gn.levN (Gn.restAt l q) + 2 * Gn.bmeldN (l[q]'hq).ks.list.reverse (Gn.levT (Gn.restAt l q)) + (Gn.sPutN (Gn.bmeld (l[q]'hq).ks.list.reverse (Gn.levT (Gn.restAt l q))) (l[q]'hq).bs + Gn.sPutM (Gn.bmeld (l[q]'hq).ks.list.reverse (Gn.levT (Gn.restAt l q))) (l[q]'hq).bs) := by
    have hgt : l[leastI l]? = some (l[q]'hq) := by rw [← hqe]; exact List.getElem?_eq_getElem hq
    have hk : kidsAt l (leastI l) = (l[q]'hq).ks.list.reverse := by unfold kidsAt; rw [hgt]
    have hbs : besAt l (leastI l) = (l[q]'hq).bs := by unfold besAt; rw [hgt]
    cases l with
    | nil => exact absurd rfl hln
    | cons t r =>
      rw [← hk, ← hbs, hqe]
      refine ⟨rfl, ?_⟩
      show sBaseN (t :: r) (leastI (t :: r)) + sPutN (sBase (t :: r) (leastI (t :: r))) (besAt (t :: r) (leastI (t :: r))) + (sBaseN (t :: r) (leastI (t :: r)) + sPutM (sBase (t :: r) (leastI (t :: r))) (besAt (t :: r) (leastI (t :: r)))) = _
      unfold sBaseN sBase
      omega
  have hsum : Gn.bSize (l[q].ks.list.reverse) + Gn.bSize (restAt l q) + l[q].bs.length < 134217728 := by
    have h1 := (restAt_all hq).length_eq
    have h2 := (bAll_reverse (l[q].ks.list)).length_eq
    rw [bAll_length] at h1; rw [List.length_append, bAll_length, Tre.all_length] at h1; rw [bAll_length, bAll_length] at h2
    have h3 : Gn.bSize l[q].ks.list = l[q].ks.size := by rw [← bAll_length, Wood.list_all, Wood.all_length]
    simp only [Tre.size] at h1; omega
  have hlv := levT_len (restAt l q)
  have hlz := levT_size (restAt l q)
  have hpl := bmeld_len (l[q].ks.list.reverse) (levT (restAt l q))
  have hmz := bmeld_size (l[q].ks.list.reverse) (levT (restAt l q))
  have hkr := bSize_len (l[q].ks.list.reverse)
  have hrl := bSize_len (restAt l q)
  have hkk : kl = l[q].ks.list.length := by rw [hkl, Wood.list_len]; rfl
  have hklen : kl ≤ Gn.bSize (l[q].ks.list.reverse) := by rw [hkk, ← List.length_reverse]; exact hkr
  have hput := sPutN_le l[q].bs (bmeld l[q].ks.list.reverse (levT (restAt l q)))
  generalize hks : l[q].ks.list = ks at *
  generalize hbs : l[q].bs = bs at *
  obtain ⟨K, hK⟩ : ∃ K, K = 2 * levN (restAt l q) := ⟨_, rfl⟩
  obtain ⟨N, hN⟩ : ∃ N, N = 2 * bmeldN ks.reverse (levT (restAt l q)) := ⟨_, rfl⟩
  obtain ⟨bas, hbas⟩ : ∃ x, x = bmeld ks.reverse (levT (restAt l q)) := ⟨_, rfl⟩
  rw [← hbas] at hpop hput hmz
  have H := Lib.hid (And.intro hF (And.intro hs (And.intro h (And.intro hkc0 (And.intro hC0 hkC)))))
  have HB := Lib.hid (And.intro hbC c3)
  have HD := Lib.hid (And.intro hpop (And.intro hsum (And.intro hN (And.intro hK (And.intro hbas (And.intro hmz hlz))))))
  have HQ := Lib.hid (show q = leastI l ∧ q < n ∧ n < 134217728 ∧ q < l.length ∧ n = l.length ∧ n ≤ c ∧ c ≤ 9223372036854775807 from ⟨hqe, by omega, by omega, hq, hnl, h.2.1.le, by have := h.2.1.max; omega⟩)
  have HNB := Lib.hid (show N < 1000000000 ∧ kl < 134217728 ∧ ks.length = kl ∧ K < 1000000000 ∧ bl < 134217728 ∧ bs.length = bl ∧ Gn.sPutN bas bs ≤ 2 * bs.length ∧ Gn.sPutM bas bs ≤ 2 * bs.length from ⟨by rw [List.length_reverse] at hpl hkr; omega, by omega, hkk.symm, by omega, by omega, hbl.symm, hput.1, hput.2⟩)
  have hqn : q < n := HQ.out.2.1
  have q2 : (0 : Int) ≤ (q : Int) := by omega
  have q5 : (q : Int) < (n : Int) := by omega
  have wk1 : IntKind.i64.wrap ((kl : Int) - 1) = (kl : Int) - 1 := by have := HNB.out; rw [IntKind.wrap_i64]; omega
  have HC4 := Lib.hid c4
  clear hs h hnl hll hln hqe hkc0 hC0 c4 hkC hpop hsum hpl hkr hrl hklen hkl hkk hN hF hlv hlz hmz hput hK hbas hbl hbC c3 hbw
  clear ht
  clear hks hbs
  clear hq
  go_enter Tryz.func46, Tryz.ntmps46
  go_wp2_with fail
  ((with_reducible refine (refLeast F l _ _ _ _ (by have := H.out.2.1; omega) hn1 H.out.2.2.1).mono ?_); rintro e w3 ⟨rfl, hb3⟩)
  rw [← HQ.out.1]
  have HB3 := Lib.hid hb3
  have a4 := stay_cell hb3 HC4.out
  clear hb3
  go_wp2_with fail
  go_loopg [5, 6] kl (fun k kv iv wr => ∃ (m : Nat) (cs : List Value), iv = .int .i64 ((m : Int) - 1) ∧ m = k ∧ m ≤ kl ∧ OwnT wr w.heap.size kv (kl - m) cs ∧ RK F w (.ts (ks.drop m).reverse) cs ∧ Below w.heap.size w wr)
  case atStart => exact ⟨kl, [], rfl, rfl, Nat.le_refl _, by rw [Nat.sub_self]; exact OwnT.nil _ _, by rw [List.drop_of_length_le (by have := HNB.out; omega)]; exact .t0, HB3.out⟩
  case round =>
    clear a4 wk1
    obtain ⟨m, cs, rfl, hm, hmk, hown, hkl, hbe⟩ := hrel
    have HBE := Lib.hid hbe
    have a4 := stay_cell hbe HC4.out
    cases m with
    | succ j =>
      have hjl : j < ks.length := by have := HNB.out; omega
      have hk0 := H.out.2.2.2.2.2
      obtain ⟨kb, ko, eAk⟩ := ts_some hk0 (by omega)
      subst eAk
      obtain ⟨Bx, Bb, Bk, bx, bb, bk, ⟨d0, d1, d2, d3⟩, hu⟩ := ts_at hk0 hjl
      replace d0 := stay_cell hbe d0
      replace d1 := stay_cell hbe d1
      replace d2 := stay_cell hbe d2
      replace d3 := stay_cell hbe d3
      obtain ⟨ur, hur⟩ : ∃ k, k = ks[j].rank := ⟨_, rfl⟩
      obtain ⟨ub, hub⟩ : ∃ k, k = ks[j].bs.length := ⟨_, rfl⟩
      have hdr : (ks.drop j).reverse = (ks.drop (j + 1)).reverse ++ [ks[j]] := by rw [List.drop_eq_getElem_cons hjl, List.reverse_cons]
      have hkl2 : RK F w (.ts (ks.drop j).reverse) (cs ++ [.int .i64 (ur : Int), .slice Bx 1 bx, .slice Bb ub bb, .slice Bk ur bk]) := by rw [hdr, hur, hub]; exact RK.append_t _ _ _ _ hkl (RK.cons_t hu .t0)
      rw [← hur] at d0 d3
      rw [← hub] at d2
      have hba := (Below.refl wr.heap.size wr).alloc (Nat.le_refl _) (.cells #[.int .i64 (ur : Int), .slice Bx 1 bx, .slice Bb ub bb, .slice Bk ur bk] 97)
      have hcat : CAt (fun _ => True) (wr.alloc (.cells #[.int .i64 (ur : Int), .slice Bx 1 bx, .slice Bb ub bb, .slice Bk ur bk] 97)) (some ⟨wr.heap.size, 0, none⟩) [.int .i64 (ur : Int), .slice Bx 1 bx, .slice Bb ub bb, .slice Bk ur bk] := cat_block (new_at rfl) trivial
      obtain ⟨v4, w4, hrun, hown4, hb4⟩ := append_T (fun _ => True) (wr.alloc (.cells #[.int .i64 (ur : Int), .slice Bx 1 bx, .slice Bb ub bb, .slice Bk ur bk] 97)) w.heap.size _ _ cs (hown.stay hba) (some ⟨wr.heap.size, 0, none⟩) 1 1 _ rfl (by intro u hu; simp only [List.mem_cons, List.not_mem_nil, or_false] at hu; rcases hu with rfl | rfl | rfl | rfl <;> rfl) hcat (fun e => by cases e) (Nat.le_trans hbe.size hba.size) (by have := HNB.out; omega)
      have HB4 := Lib.hid ((hbe.trans (hba.mono hbe.size)).trans hb4)
      have HK4 := Lib.hid (show OwnT w4 w.heap.size v4 (kl - j) (cs ++ [.int .i64 (ur : Int), .slice Bx 1 bx, .slice Bb ub bb, .slice Bk ur bk]) ∧ RK F w (.ts (ks.drop j).reverse) (cs ++ [.int .i64 (ur : Int), .slice Bx 1 bx, .slice Bb ub bb, .slice Bk ur bk]) ∧ j + 1 = gk ∧ j + 1 ≤ kl from ⟨by rw [show kl - j = kl - (j + 1) + 1 by omega]; exact hown4, hkl2, hm, hmk⟩)
      have i1 : ((j + 1 : Nat) : Int) - 1 = (j : Int) := by omega
      have i2 : (0 : Int) ≤ (j : Int) := by omega
      have i3 : (j : Int) < (kl : Int) := by omega
      have i4 : decide ((0 : Int) ≤ (j : Int)) = true := by simp
      have wj : IntKind.i64.wrap ((j : Int) - 1) = (j : Int) - 1 := by have := HNB.out; rw [IntKind.wrap_i64]; omega
      have i5 : j < kl := by omega
      clear hjl hu hdr hkl2 hba hcat hown4 hb4 hown hkl hbe hm hmk hk0 hur hub
      rw [i1]
      clear i1
      go_wp2_with (at_builtin; refine wpList_append_run rfl _ _ _ rfl _ _ _ _ rfl rfl hrun ?_)
      go_roundg j
      case measure => have := HK4.out; omega
      case rel => exact ⟨j, cs ++ [.int .i64 (ur : Int), .slice Bx 1 bx, .slice Bb ub bb, .slice Bk ur bk], by first | rfl | (congr 1), rfl, by have := HK4.out; omega, HK4.out.1, HK4.out.2.1, HB4.out⟩
    | zero =>
      have i1 : ((0 : Nat) : Int) - 1 = -1 := rfl
      rw [i1]
      have i4 : decide ((0 : Int) ≤ (-1 : Int)) = false := rfl
      rw [Nat.sub_zero] at hown
      rw [List.drop_zero] at hkl
      have hOwn := Lib.hid (And.intro hown hkl)
      have hcat1 : CAt F wr (some ⟨b, of, none⟩) (kc0.take (q * 4)) := by
        have hC := (H.out.2.2.2.2.1).far (Far.below hbe)
        intro hpos
        obtain ⟨b', o', e1, hb', hc'⟩ := hC (by rw [List.length_take] at hpos; omega)
        cases e1
        exact ⟨b, of, rfl, hb', fun i v hv => hc' i v (by rw [List.getElem?_take] at hv; split at hv; exact hv; cases hv)⟩
      have hlk : kc0.length = n * 4 := by rw [H.out.2.2.2.1.length]; simp only [Rows.len]; have := HQ.out; omega
      obtain ⟨v4, w4, hrun1, hown4, hb4⟩ := append_T F wr wr.heap.size (.slice none 0 0) 0 [] (OwnT.nil _ _) (some ⟨b, of, none⟩) q c (kc0.take (q * 4)) (by rw [List.length_take, hlk]; have := HQ.out; omega) (fun u hu => H.out.2.2.2.1.one u (List.mem_of_mem_take hu)) hcat1 (fun e => by cases e) (Nat.le_refl _) (by have := HQ.out; omega)
      rw [Nat.zero_add, List.nil_append] at hown4
      have H4 := Lib.hid (And.intro hown4 (And.intro hb4 (And.intro (hbe.trans (hb4.mono hbe.size)) hlk)))
      have y1 : (q : Int) ≤ (c : Int) := by have := HQ.out; omega
      have y2 : q ≤ c := by have := HQ.out; omega
      have y3 : ¬ c = 0 := by have := HQ.out; omega
      have y4 : ¬ (c : Int) < (q : Int) := by have := HQ.out; omega
      have y5 : ¬ c < q := by have := HQ.out; omega
      have y6 : (q : Int) ≤ (n : Int) := by omega
      have y7 : q ≤ n := by omega
      have y8 : ¬ c ≤ 0 := by have := HQ.out; omega
      have y9 : 0 < c := by have := HQ.out; omega
      have wq1 : IntKind.i64.wrap ((q : Int) + 1) = (q : Int) + 1 := by have := HQ.out; rw [IntKind.wrap_i64]; omega
      clear hown hkl hbe hm hmk hown4 hb4 hlk hcat1
      by_cases hc1 : c = q + 1
      · have hn2 : n = q + 1 := by have := HQ.out; omega
        have hcat2 : CAt F w4 (some ⟨b, of, none⟩) (kc0.drop ((q + 1) * 4)) := by
          have hC := (H.out.2.2.2.2.1).far (Far.below H4.out.2.2.1)
          intro hpos
          have hpl : 0 < kc0.length := by rw [List.length_drop] at hpos; omega
          rw [List.length_drop, H4.out.2.2.2] at hpos
          have := HQ.out; omega
        obtain ⟨v5, w5, hrun2, hown5, hb5⟩ := append_T F w4 wr.heap.size v4 q _ H4.out.1 (some ⟨b, of, none⟩) 0 0 (kc0.drop ((q + 1) * 4)) (by rw [List.length_drop, H4.out.2.2.2]; have := HQ.out; omega) (fun u hu => H.out.2.2.2.1.one u (List.mem_of_mem_drop hu)) hcat2 (fun e => by cases e) H4.out.2.1.size (by have := HQ.out; omega)
        have hrest : RK F w (.ts (restAt l q)) (kc0.take (q * 4) ++ kc0.drop ((q + 1) * 4)) := RK.append_t _ _ _ _ (RK.take_t l kc0 q H.out.2.2.2.1) (RK.drop_t l kc0 (q + 1) H.out.2.2.2.1)
        have hbz := H4.out.2.2.1.trans (hb5.mono HBE.out.size)
        have hown1 := hOwn.out.1.stay (H4.out.2.1.trans hb5)
        obtain ⟨A6, n6, c6, ekv, en6, hat1⟩ := hown1.hat hOwn.out.2 hbz H.out.1 (by rw [List.length_reverse]; exact HNB.out.2.2.1.symm)
        subst ekv
        obtain ⟨A7, n7, c7, ev5, en7, hat2⟩ := hown5.hat hrest hbz (fun k hk => H.out.1 k (Nat.le_trans HBE.out.size hk)) (by unfold restAt; rw [List.length_append, List.length_take, List.length_drop]; have := HQ.out; omega)
        subst ev5
        have H5 := Lib.hid (And.intro hat1 (And.intro hat2 hbz))
        have x0 : (n : Int) = (q : Int) + 1 := by omega
        have x1 : (c : Int) = (q : Int) + 1 := by omega
        have x20 : ((q : Int) + 1).toNat = q + 1 := by omega
        subst hn2
        subst hc1
        have HR := Lib.hid (And.intro hrun1 hrun2)
        clear hrun1 hrun2 hown5 hb5 hrest hbz hown1 hat1 hat2 en7 hcat2
        subst en6
        go_wp2_with (at_builtin; first | (refine wpList_append_run rfl _ _ _ rfl _ _ _ _ rfl rfl HR.out.1 ?_) | (refine wpList_append_run rfl _ _ _ rfl _ _ _ _ rfl rfl HR.out.2 ?_))
        ((with_reducible refine (refLevel (restAt l q) F _ _ _ w5 (fun k hk => H.out.1 k (Nat.le_trans H5.out.2.2.size hk)) (by have := HD.out.2.1; omega) H5.out.2.1).mono ?_); rintro e w6 ⟨A8, n8, c8, rfl, hh8, hb8⟩)
        rw [← HD.out.2.2.2.1]
        have H8 := Lib.hid (And.intro hh8 (And.intro (H5.out.2.2.trans (hb8.mono H5.out.2.2.size)) (H5.out.1.stay hb8)))
        clear hh8 hb8
        go_wp2_with fail
        have hT := refTrees ks.reverse (levT (restAt l q))
        unfold TreesR at hT
        ((with_reducible refine (hT F _ _ _ _ _ _ w6 (fun k hk => H.out.1 k (Nat.le_trans H8.out.2.1.size hk)) (by rw [levT_size]; have := HD.out.2.1; omega) H8.out.2.2 H8.out.1).mono ?_); rintro e w7 ⟨A9, n9, c9, rfl, hh9, hb9⟩)
        rw [← HD.out.2.2.1]
        rw [← HD.out.2.2.2.2.1] at hh9
        have H9 := Lib.hid (And.intro hh9 (H8.out.2.1.trans (hb9.mono H8.out.2.1.size)))
        clear hT hh9 hb9
        have wn1 : IntKind.i64.wrap (((q + 1 : Nat) : Int) - 1) = ((q + 1 : Nat) : Int) - 1 := by have := HQ.out; rw [IntKind.wrap_i64]; omega
        have wn2 : IntKind.i64.wrap (((q + 1 : Nat) : Int) - 1 + (K : Int)) = ((q + 1 : Nat) : Int) - 1 + (K : Int) := by have := HQ.out; have := HNB.out; rw [IntKind.wrap_i64]; omega
        have wn3 : IntKind.i64.wrap (((q + 1 : Nat) : Int) - 1 + (K : Int) + (N : Int)) = ((q + 1 : Nat) : Int) - 1 + (K : Int) + (N : Int) := by have := HQ.out; have := HNB.out; rw [IntKind.wrap_i64]; omega
        have wo0 : (q : Int) + 1 - 1 = (q : Int) := by omega
        have wo1 : IntKind.i64.wrap ((q : Int) + 1 - 1) = (q : Int) := by have := HQ.out; rw [IntKind.wrap_i64]; omega
        have wo2 : IntKind.i64.wrap ((q : Int) + (K : Int)) = (q : Int) + (K : Int) := by have := HQ.out; have := HNB.out; rw [IntKind.wrap_i64]; omega
        have wo3 : IntKind.i64.wrap ((q : Int) + (K : Int) + (N : Int)) = (q : Int) + (K : Int) + (N : Int) := by have := HQ.out; have := HNB.out; rw [IntKind.wrap_i64]; omega
        have wo4 : IntKind.i64.wrap ((q : Int) + 1 - 1 + (K : Int)) = (q : Int) + (K : Int) := by have := HQ.out; have := HNB.out; rw [IntKind.wrap_i64]; omega
        have wo5 : IntKind.i64.wrap ((q : Int) + 1 - 1 + (K : Int) + (N : Int)) = (q : Int) + (K : Int) + (N : Int) := by have := HQ.out; have := HNB.out; rw [IntKind.wrap_i64]; omega
        go_wp2_with fail
        clear wn1 wn2 wn3 wo0 wo1 wo2 wo3 wo4 wo5
        have ew1 : wrap64 (q : Int) = (q : Int) := by unfold wrap64; have := HQ.out; omega
        have ew2 : wrap64 ((q : Int) + (K : Int)) = (q : Int) + (K : Int) := by unfold wrap64; have := HQ.out; have := HNB.out; omega
        have ew3 : wrap64 ((q : Int) + (K : Int) + (N : Int)) = (q : Int) + (K : Int) + (N : Int) := by unfold wrap64; have := HQ.out; have := HNB.out; omega
        have HWW := Lib.hid (show Value.int IntKind.i64 (wrap64 (wrap64 (wrap64 (q : Int) + (K : Int)) + (N : Int))) = Value.int IntKind.i64 ((q + 1 - 1 + K + N : Nat) : Int) from by rw [ew1, ew2, ew3]; rfl)
        clear ew1 ew2 ew3
        go_loopg [10, 12, 13] bl (fun k ov sv jv wr => ∃ (j S : Nat) (Ao : Option Addr) (no co : Nat), jv = .int .i64 (j : Int) ∧ sv = .int .i64 (S : Int) ∧ ov = .slice Ao no co ∧ j + k = bl ∧ S = (q + 1 - 1) + K + N + (Gn.sPutN bas (bs.take j) + Gn.sPutM bas (bs.take j)) ∧ TsAt F wr ((bs.take j).foldl Gn.sIns bas) Ao no co ∧ Below w.heap.size w wr)
        case atStart => exact ⟨0, (q + 1 - 1) + K + N, A9, n9, c9, rfl, by first | rfl | (congr 1; omega) | exact HWW.out, rfl, by omega, by simp [sPutN, sPutM], by rw [List.take_zero]; exact H9.out.1, H9.out.2⟩
        case round =>
          obtain ⟨j, S, Ao, no, co, rfl, rfl, rfl, hj, hS, hat, hbz⟩ := hrel
          have HBZ := Lib.hid hbz
          have a3 := stay_cell hbz HB.out.2
          have hpb := sPutN_le (bs.take j) bas
          rw [List.length_take] at hpb
          have HSB := Lib.hid (show S < 3000000000 ∧ S = (q + 1 - 1) + K + N + (Gn.sPutN bas (bs.take j) + Gn.sPutM bas (bs.take j)) ∧ j + gk = bl from ⟨by have := HNB.out; have := HQ.out; omega, hS, hj⟩)
          by_cases hlt : j < bl
          · have hjb : j < bs.length := by have := HNB.out; omega
            have hb0 := HB.out.1
            obtain ⟨eb, eo, eAb⟩ := hs_some hb0 (by omega)
            subst eAb
            obtain ⟨x1, x2, A0, k0, d0, M, ⟨p0, p1, p2, p3⟩, hx⟩ := hs_at hb0 hjb
            replace p0 := stay_cell hbz p0
            replace p1 := stay_cell hbz p1
            replace p2 := stay_cell hbz p2
            replace p3 := stay_cell hbz p3
            replace hx := hx.stay hbz
            have hst := sfold_take bs bas j hjb
            have hsz := sfold_size (bs.take j) bas
            rw [List.length_take] at hsz
            generalize bs[j] = xx at *
            have HX := Lib.hid (And.intro hx hat)
            have HST := Lib.hid (And.intro hst hsz)
            have g1 : decide ((j : Int) < (bl : Int)) = true := by simp; omega
            have g2 : (j : Int) < (bl : Int) := by omega
            have g3 : (0 : Int) ≤ (j : Int) := by omega
            have HJ := Lib.hid hlt
            have xq : (q : Int) < (q : Int) + 1 := by omega
            clear hx hst hsz hpb hS hj hjb hat hlt hb0 hbz
            go_wp2_with fail
            ((with_reducible refine (refIns F xx x1 x2 A0 k0 d0 M ((bs.take j).foldl Gn.sIns bas) Ao no co wr (fun k hk => H.out.1 k (Nat.le_trans HBZ.out.size hk)) HX.out.1 (by have := HST.out.2; have := HD.out; omega) HX.out.2).mono ?_); rintro e w9 ⟨Az, nz, cz, rfl, ht9, hb9⟩)
            obtain ⟨d, hd⟩ : ∃ d, d = Gn.sInsN ((bs.take j).foldl Gn.sIns bas) + Gn.sInsM ((bs.take j).foldl Gn.sIns bas) := ⟨_, rfl⟩
            rw [← hd]
            have hd4 : d ≤ 4 := by have h1 := sInsN_le ((bs.take j).foldl Gn.sIns bas); have h2 := sInsM_le ((bs.take j).foldl Gn.sIns bas); omega
            have HDD := Lib.hid (And.intro hd hd4)
            have Y := Lib.hid (And.intro ht9 (HBZ.out.trans (hb9.mono HBZ.out.size)))
            have ws1 : IntKind.i64.wrap ((S : Int) + (d : Int)) = (S : Int) + (d : Int) := by have := HSB.out; rw [IntKind.wrap_i64]; omega
            have wj1 : IntKind.i64.wrap ((j : Int) + 1) = (j : Int) + 1 := by have := HSB.out; have := HNB.out; rw [IntKind.wrap_i64]; omega
            clear hd hd4 ht9 hb9
            go_wp2_with fail
            go_roundg (bl - 1 - j)
            case measure => have := HSB.out; have := HJ.out; omega
            case rel => exact ⟨j + 1, S + d, Az, nz, cz, by first | rfl | (congr 1; (first | omega | (unfold wrap64; omega))), by first | rfl | (congr 1; (first | omega | (unfold wrap64; omega))), rfl, by have := HSB.out; have := HJ.out; omega, by rw [HST.out.1.2, HSB.out.2.1, HDD.out.1]; omega, HST.out.1.1 ▸ Y.out.1, Y.out.2⟩
          · have hjn : j = bl := by omega
            have g1 : decide ((j : Int) < (bl : Int)) = false := by simp; omega
            have g2 : ¬ (j : Int) < (bl : Int) := by omega
            have htk : bs.take j = bs := List.take_of_length_le (by have := HNB.out; omega)
            rw [htk] at hat hS
            have Y := Lib.hid (And.intro hat (And.intro hbz hS))
            clear hat hS hj htk hbz hjn hlt hpb
            go_wp2_with fail
            refine bodyPost_ret (v := .tuple #[.slice Ao no co, .int .i64 (S : Int)]) (by simp [results, Tryz.results46, go_sem]) rfl ?_
            have hfin : S = Gn.sPopN l + Gn.sPopM l + q := by have h1 := Y.out.2.2; have h2 := HD.out.1.2; have h3 := HD.out.2.2.1; have h4 := HD.out.2.2.2.1; omega
            exact ⟨Ao, no, co, by rw [hfin], by rw [HD.out.1.1]; exact Y.out.1, Y.out.2.1⟩
      · have hcat2 : CAt F w4 (some ⟨b, of + (q + 1) * 4, none⟩) (kc0.drop ((q + 1) * 4)) := by
          have hC := (H.out.2.2.2.2.1).far (Far.below H4.out.2.2.1)
          intro hpos
          have hpl : 0 < kc0.length := by rw [List.length_drop] at hpos; omega
          obtain ⟨b', o', e1, hb', hc'⟩ := hC hpl
          cases e1
          exact ⟨b, of + (q + 1) * 4, rfl, hb', fun i v hv => by rw [List.getElem?_drop] at hv; have := hc' _ v hv; rwa [show of + ((q + 1) * 4 + i) = of + (q + 1) * 4 + i by omega] at this⟩
        obtain ⟨v5, w5, hrun2, hown5, hb5⟩ := append_T F w4 wr.heap.size v4 q _ H4.out.1 (some ⟨b, of + (q + 1) * 4, none⟩) (n - (q + 1)) (c - (q + 1)) (kc0.drop ((q + 1) * 4)) (by rw [List.length_drop, H4.out.2.2.2]; have := HQ.out; omega) (fun u hu => H.out.2.2.2.1.one u (List.mem_of_mem_drop hu)) hcat2 (fun e => by cases e) H4.out.2.1.size (by have := HQ.out; omega)
        have hrest : RK F w (.ts (restAt l q)) (kc0.take (q * 4) ++ kc0.drop ((q + 1) * 4)) := RK.append_t _ _ _ _ (RK.take_t l kc0 q H.out.2.2.2.1) (RK.drop_t l kc0 (q + 1) H.out.2.2.2.1)
        have hbz := H4.out.2.2.1.trans (hb5.mono HBE.out.size)
        have hown1 := hOwn.out.1.stay (H4.out.2.1.trans hb5)
        obtain ⟨A6, n6, c6, ekv, en6, hat1⟩ := hown1.hat hOwn.out.2 hbz H.out.1 (by rw [List.length_reverse]; exact HNB.out.2.2.1.symm)
        subst ekv
        obtain ⟨A7, n7, c7, ev5, en7, hat2⟩ := hown5.hat hrest hbz (fun k hk => H.out.1 k (Nat.le_trans HBE.out.size hk)) (by unfold restAt; rw [List.length_append, List.length_take, List.length_drop]; have := HQ.out; omega)
        subst ev5
        have H5 := Lib.hid (And.intro hat1 (And.intro hat2 hbz))
        have x0 : q + 1 ≤ n := by have := HQ.out; omega
        have x1 : (q : Int) + 1 ≤ (n : Int) := by have := HQ.out; omega
        have x2 : ¬ (n : Int) < (q : Int) + 1 := by have := HQ.out; omega
        have x3 : q + 1 ≤ c := by have := HQ.out; omega
        have x4 : (q : Int) + 1 ≤ (c : Int) := by have := HQ.out; omega
        have x5 : ¬ c - (q + 1) = 0 := by have := HQ.out; omega
        have x6 : ¬ c ≤ q + 1 := by have := HQ.out; omega
        have x7 : q + 1 < c := by have := HQ.out; omega
        have x8 : (n : Int) ≤ (c : Int) := by have := HQ.out; omega
        have x9 : (0 : Int) ≤ (q : Int) + 1 := by have := HQ.out; omega
        have x10 : ¬ q + 1 = c := by have := HQ.out; omega
        have x20 : ((q : Int) + 1).toNat = q + 1 := by omega
        have HR := Lib.hid (And.intro hrun1 hrun2)
        clear hrun1 hrun2 hown5 hb5 hrest hbz hown1 hat1 hat2 en7 hcat2
        subst en6
        go_wp2_with (at_builtin; first | (refine wpList_append_run rfl _ _ _ rfl _ _ _ _ rfl rfl HR.out.1 ?_) | (refine wpList_append_run rfl _ _ _ rfl _ _ _ _ rfl rfl HR.out.2 ?_))
        ((with_reducible refine (refLevel (restAt l q) F _ _ _ w5 (fun k hk => H.out.1 k (Nat.le_trans H5.out.2.2.size hk)) (by have := HD.out.2.1; omega) H5.out.2.1).mono ?_); rintro e w6 ⟨A8, n8, c8, rfl, hh8, hb8⟩)
        rw [← HD.out.2.2.2.1]
        have H8 := Lib.hid (And.intro hh8 (And.intro (H5.out.2.2.trans (hb8.mono H5.out.2.2.size)) (H5.out.1.stay hb8)))
        clear hh8 hb8
        go_wp2_with fail
        have hT := refTrees ks.reverse (levT (restAt l q))
        unfold TreesR at hT
        ((with_reducible refine (hT F _ _ _ _ _ _ w6 (fun k hk => H.out.1 k (Nat.le_trans H8.out.2.1.size hk)) (by rw [levT_size]; have := HD.out.2.1; omega) H8.out.2.2 H8.out.1).mono ?_); rintro e w7 ⟨A9, n9, c9, rfl, hh9, hb9⟩)
        rw [← HD.out.2.2.1]
        rw [← HD.out.2.2.2.2.1] at hh9
        have H9 := Lib.hid (And.intro hh9 (H8.out.2.1.trans (hb9.mono H8.out.2.1.size)))
        clear hT hh9 hb9
        have wn1 : IntKind.i64.wrap ((n : Int) - 1) = (n : Int) - 1 := by have := HQ.out; rw [IntKind.wrap_i64]; omega
        have wn2 : IntKind.i64.wrap ((n : Int) - 1 + (K : Int)) = (n : Int) - 1 + (K : Int) := by have := HQ.out; have := HNB.out; rw [IntKind.wrap_i64]; omega
        have wn3 : IntKind.i64.wrap ((n : Int) - 1 + (K : Int) + (N : Int)) = (n : Int) - 1 + (K : Int) + (N : Int) := by have := HQ.out; have := HNB.out; rw [IntKind.wrap_i64]; omega
        go_wp2_with fail
        clear wn1 wn2 wn3
        go_loopg [10, 12, 13] bl (fun k ov sv jv wr => ∃ (j S : Nat) (Ao : Option Addr) (no co : Nat), jv = .int .i64 (j : Int) ∧ sv = .int .i64 (S : Int) ∧ ov = .slice Ao no co ∧ j + k = bl ∧ S = (n - 1) + K + N + (Gn.sPutN bas (bs.take j) + Gn.sPutM bas (bs.take j)) ∧ TsAt F wr ((bs.take j).foldl Gn.sIns bas) Ao no co ∧ Below w.heap.size w wr)
        case atStart => exact ⟨0, (n - 1) + K + N, A9, n9, c9, rfl, by first | rfl | (congr 1; omega) | exact HWW.out, rfl, by omega, by simp [sPutN, sPutM], by rw [List.take_zero]; exact H9.out.1, H9.out.2⟩
        case round =>
          obtain ⟨j, S, Ao, no, co, rfl, rfl, rfl, hj, hS, hat, hbz⟩ := hrel
          have HBZ := Lib.hid hbz
          have a3 := stay_cell hbz HB.out.2
          have hpb := sPutN_le (bs.take j) bas
          rw [List.length_take] at hpb
          have HSB := Lib.hid (show S < 3000000000 ∧ S = (n - 1) + K + N + (Gn.sPutN bas (bs.take j) + Gn.sPutM bas (bs.take j)) ∧ j + gk = bl from ⟨by have := HNB.out; have := HQ.out; omega, hS, hj⟩)
          by_cases hlt : j < bl
          · have hjb : j < bs.length := by have := HNB.out; omega
            have hb0 := HB.out.1
            obtain ⟨eb, eo, eAb⟩ := hs_some hb0 (by omega)
            subst eAb
            obtain ⟨x1, x2, A0, k0, d0, M, ⟨p0, p1, p2, p3⟩, hx⟩ := hs_at hb0 hjb
            replace p0 := stay_cell hbz p0
            replace p1 := stay_cell hbz p1
            replace p2 := stay_cell hbz p2
            replace p3 := stay_cell hbz p3
            replace hx := hx.stay hbz
            have hst := sfold_take bs bas j hjb
            have hsz := sfold_size (bs.take j) bas
            rw [List.length_take] at hsz
            generalize bs[j] = xx at *
            have HX := Lib.hid (And.intro hx hat)
            have HST := Lib.hid (And.intro hst hsz)
            have g1 : decide ((j : Int) < (bl : Int)) = true := by simp; omega
            have g2 : (j : Int) < (bl : Int) := by omega
            have g3 : (0 : Int) ≤ (j : Int) := by omega
            have HJ := Lib.hid hlt
            clear hx hst hsz hpb hS hj hjb hat hlt hb0 hbz
            go_wp2_with fail
            ((with_reducible refine (refIns F xx x1 x2 A0 k0 d0 M ((bs.take j).foldl Gn.sIns bas) Ao no co wr (fun k hk => H.out.1 k (Nat.le_trans HBZ.out.size hk)) HX.out.1 (by have := HST.out.2; have := HD.out; omega) HX.out.2).mono ?_); rintro e w9 ⟨Az, nz, cz, rfl, ht9, hb9⟩)
            obtain ⟨d, hd⟩ : ∃ d, d = Gn.sInsN ((bs.take j).foldl Gn.sIns bas) + Gn.sInsM ((bs.take j).foldl Gn.sIns bas) := ⟨_, rfl⟩
            rw [← hd]
            have hd4 : d ≤ 4 := by have h1 := sInsN_le ((bs.take j).foldl Gn.sIns bas); have h2 := sInsM_le ((bs.take j).foldl Gn.sIns bas); omega
            have HDD := Lib.hid (And.intro hd hd4)
            have Y := Lib.hid (And.intro ht9 (HBZ.out.trans (hb9.mono HBZ.out.size)))
            have ws1 : IntKind.i64.wrap ((S : Int) + (d : Int)) = (S : Int) + (d : Int) := by have := HSB.out; rw [IntKind.wrap_i64]; omega
            have wj1 : IntKind.i64.wrap ((j : Int) + 1) = (j : Int) + 1 := by have := HSB.out; have := HNB.out; rw [IntKind.wrap_i64]; omega
            clear hd hd4 ht9 hb9
            go_wp2_with fail
            go_roundg (bl - 1 - j)
            case measure => have := HSB.out; have := HJ.out; omega
            case rel => exact ⟨j + 1, S + d, Az, nz, cz, by first | rfl | (congr 1; (first | omega | (unfold wrap64; omega))), by first | rfl | (congr 1; (first | omega | (unfold wrap64; omega))), rfl, by have := HSB.out; have := HJ.out; omega, by rw [HST.out.1.2, HSB.out.2.1, HDD.out.1]; omega, HST.out.1.1 ▸ Y.out.1, Y.out.2⟩
          · have hjn : j = bl := by omega
            have g1 : decide ((j : Int) < (bl : Int)) = false := by simp; omega
            have g2 : ¬ (j : Int) < (bl : Int) := by omega
            have htk : bs.take j = bs := List.take_of_length_le (by have := HNB.out; omega)
            rw [htk] at hat hS
            have Y := Lib.hid (And.intro hat (And.intro hbz hS))
            clear hat hS hj htk hbz hjn hlt hpb
            go_wp2_with fail
            refine bodyPost_ret (v := .tuple #[.slice Ao no co, .int .i64 (S : Int)]) (by simp [results, Tryz.results46, go_sem]) rfl ?_
            have hfin : S = Gn.sPopN l + Gn.sPopM l + (n - 1) := by have h1 := Y.out.2.2; have h2 := HD.out.1.2; have h3 := HD.out.2.2.1; have h4 := HD.out.2.2.2.1; omega
            exact ⟨Ao, no, co, by rw [hfin], by rw [HD.out.1.1]; exact Y.out.1, Y.out.2.1⟩

end Go.Proofs.YtlmokendajgbdaaGreatDoor.Bo.Zr
namespace Go.Proofs.YtlmokendajgbdaaGreatDoor.Bo.Zr
open Go.Sort Go.RowKit Go.Proofs.YtlmokendajgbdaaGreatDoor.Gn Go.Proofs.YtlmokendajgbdaaGreatDoor.Bo

theorem RT.root5 {F : Nat → Prop} {W : World} {t : Gn.Tre Lh} {Ax Ab Ak : Option Addr} {cx cb ck : Nat} (h : RT F W t Ax cx Ab cb Ak ck) : ∃ (b o : Nat) (y1 y2 : Int) (A : Option Addr) (n c : Nat) (N : Bool), Ax = some ⟨b, o, none⟩ ∧
    (W.cell? ⟨b, o, none⟩ = some (.bool N) ∧ W.cell? ⟨b, o + 1, none⟩ = some (.int .i64 y1) ∧ W.cell? ⟨b, o + 2, none⟩ = some (.int .i64 y2) ∧ W.cell? ⟨b, o + 3, none⟩ = some (.slice A n c)) ∧ RAt F W t.x (y1, y2) A n c N := by
  obtain ⟨cs, hk, hC⟩ := h.x
  obtain ⟨⟨y1, y2⟩, A, n, c, N, cs', rfl, ha, -⟩ := hk.head_h
  obtain ⟨b, o, rfl, -, hc⟩ := hC (by simp)
  exact ⟨b, o, y1, y2, A, n, c, N, rfl, ⟨hc 0 _ rfl, hc 1 _ rfl, hc 2 _ rfl, hc 3 _ rfl⟩, ha⟩
theorem RAt.queue {F : Nat → Prop} {W : World} {t : Lh} {x : Int × Int} {A : Option Addr} {n c : Nat} {N : Bool} (h : RAt F W t x A n c N) : TsAt F W t.queue A n c := by
  cases t with
  | nil => obtain ⟨-, rfl, rfl, rfl, -⟩ := h; exact RowAt.none_ts F W
  | node y q => exact h.2.2
theorem pop_sum {l : List (Gn.Tre Lh)} {q : Nat} (hq : q < l.length) : Gn.bSize (l[q].ks.list.reverse) + Gn.bSize (Gn.restAt l q) + l[q].bs.length + 1 = Gn.bSize l := by
  have h1 := (restAt_all hq).length_eq
  have h2 := (bAll_reverse (l[q].ks.list)).length_eq
  rw [bAll_length] at h1; rw [List.length_append, bAll_length, Tre.all_length] at h1; rw [bAll_length, bAll_length] at h2
  have h3 : Gn.bSize l[q].ks.list = l[q].ks.size := by rw [← bAll_length, Wood.list_all, Wood.all_length]
  simp only [Tre.size] at h1; omega
theorem spop_cnt (l : List (Gn.Tre Lh)) (hln : l ≠ []) : Gn.sPopN l + Gn.sPopM l ≤ 10 * Gn.bSize l := by
  have hq := leastI_lt hln
  have hs := pop_sum hq
  have hgt : l[leastI l]? = some (l[leastI l]'hq) := List.getElem?_eq_getElem hq
  have hk : kidsAt l (leastI l) = (l[leastI l]'hq).ks.list.reverse := by unfold kidsAt; rw [hgt]
  have hbs : besAt l (leastI l) = (l[leastI l]'hq).bs := by unfold besAt; rw [hgt]
  have h1 := bmeld_len (kidsAt l (leastI l)) (levT (restAt l (leastI l)))
  have h2 := levT_len (restAt l (leastI l))
  have h3 := bSize_len (kidsAt l (leastI l))
  have h4 := bSize_len (restAt l (leastI l))
  have h5 := sPutN_le (besAt l (leastI l)) (sBase l (leastI l))
  have e : Gn.sPopN l + Gn.sPopM l = 2 * sBaseN l (leastI l) + (sPutN (sBase l (leastI l)) (besAt l (leastI l)) + sPutM (sBase l (leastI l)) (besAt l (leastI l))) := by
    cases l with
    | nil => exact absurd rfl hln
    | cons t r =>
      show sBaseN (t :: r) (leastI (t :: r)) + sPutN (sBase (t :: r) (leastI (t :: r))) (besAt (t :: r) (leastI (t :: r))) + (sBaseN (t :: r) (leastI (t :: r)) + sPutM (sBase (t :: r) (leastI (t :: r))) (besAt (t :: r) (leastI (t :: r)))) = _
      omega
  rw [e]
  unfold sBaseN
  rw [hk] at h1 h3 ⊢
  rw [hbs] at h5 ⊢
  omega

set_option maxRecDepth 100000 in
set_option maxHeartbeats 16000000 in
theorem refPop_some (F : Nat → Prop) (t : Gn.Tre Lh) (r : List (Gn.Tre Lh)) (x1 x2 : Int) (A : Option Addr) (n c : Nat) (w : World) (hF : ∀ k, w.heap.size ≤ k → F k) (h : TsAt F w (t :: r) A n c) (hs : Gn.bSize (t :: r) < 134217728) (hs2 : Gn.bSize (least (t :: r)).queue < 134217728) :
    Calls Tryz.prog 22 #[.agg #[.bool true, .int .i64 x1, .int .i64 x2, .slice A n c]] w (GaveP F (Lh.node (x1, x2) (t :: r)).pop ((Lh.node (x1, x2) (t :: r)).popC + (Lh.node (x1, x2) (t :: r)).popM) w) := by
  obtain ⟨l, hl⟩ : ∃ l, l = t :: r := ⟨_, rfl⟩
  have hn0 : n = r.length + 1 := h.1
  have hpp : (Lh.node (x1, x2) (t :: r)).pop = .node (least (t :: r)).key (Gn.smeld (least (t :: r)).queue (Gn.sPop (t :: r))) := rfl
  have hpn : (Lh.node (x1, x2) (t :: r)).popC + (Lh.node (x1, x2) (t :: r)).popM = (n - 1) + (Gn.sPopN (t :: r) + Gn.sPopM (t :: r) + (n - 1)) + 2 * Gn.smeldN (least (t :: r)).queue (Gn.sPop (t :: r)) + 1 := by simp only [Lh.popC, Lh.popM]; omega
  have hle : least (t :: r) = rootAt (t :: r) (leastI (t :: r)) := rfl
  rw [hpp, hpn]
  clear hpp hpn
  rw [← hl] at h hs hs2 hle ⊢
  have hln : l ≠ [] := by rw [hl]; simp
  have hn1 : 0 < n := by omega
  clear hn0 hl
  obtain ⟨b, of, rfl⟩ := ts_some h hn1
  have hnl : n = l.length := h.1
  have hll := bSize_len l
  have hq := leastI_lt hln
  obtain ⟨q, hqe⟩ : ∃ q, q = leastI l := ⟨_, rfl⟩
  rw [← hqe] at hq hle
  obtain ⟨Ax, Ab, Ak, ax, ab, ak, ⟨-, c1, -, -⟩, ht⟩ := ts_at h hq
  obtain ⟨xb, xo, y1, y2, B, m, d, M, rfl, ⟨p0, p1, p2, p3⟩, hx⟩ := ht.root5
  rw [show l[q].x = least l by rw [hle]; unfold rootAt; rw [List.getElem?_eq_getElem hq]] at hx
  have hkey := hx.key
  have hqu := hx.queue
  have hsp := spop_size hln
  obtain ⟨K, hK⟩ : ∃ K, K = Gn.sPopN l + Gn.sPopM l + (n - 1) := ⟨_, rfl⟩
  obtain ⟨J, hJ⟩ : ∃ J, J = 2 * Gn.smeldN (least l).queue (Gn.sPop l) := ⟨_, rfl⟩
  rw [← hJ, ← hK, ← hkey]
  have hJ2 : J < 1000000000 := by have h1 := smeldN_le (least l).queue (Gn.sPop l); have h2 := bSize_len (least l).queue; have h3 := bSize_len (Gn.sPop l); omega
  have hK2 : K < 4000000000 := by have h1 := spop_cnt l hln; omega
  have hb0 := ((Below.refl w.heap.size w).alloc (Nat.le_refl _) (.cells #[.bool true, .int .i64 x1, .int .i64 x2, .slice (some ⟨b, of, none⟩) n c] 35)).alloc (by simp) (.cells #[.bool false, .int .i64 0, .int .i64 0, .slice none 0 0] 35)
  have hh : ((w.alloc (.cells #[.bool true, .int .i64 x1, .int .i64 x2, .slice (some ⟨b, of, none⟩) n c] 35)).alloc (.cells #[.bool false, .int .i64 0, .int .i64 0, .slice none 0 0] 35)).heap[w.heap.size]? = some (.cells #[.bool true, .int .i64 x1, .int .i64 x2, .slice (some ⟨b, of, none⟩) n c] 35 (0, 0)) := alloc_old (new_at rfl) _
  have hz : ((w.alloc (.cells #[.bool true, .int .i64 x1, .int .i64 x2, .slice (some ⟨b, of, none⟩) n c] 35)).alloc (.cells #[.bool false, .int .i64 0, .int .i64 0, .slice none 0 0] 35)).heap[w.heap.size + 1]? = some (.cells #[.bool false, .int .i64 0, .int .i64 0, .slice none 0 0] 35 (0, 0)) := new_at (by simp)
  have hsz : ((w.alloc (.cells #[.bool true, .int .i64 x1, .int .i64 x2, .slice (some ⟨b, of, none⟩) n c] 35)).alloc (.cells #[.bool false, .int .i64 0, .int .i64 0, .slice none 0 0] 35)).heap.size = w.heap.size + 2 := by simp
  have HH := Lib.hid (qd_at hh)
  have HZ := Lib.hid (qd_at hz)
  have H := Lib.hid (And.intro hF (And.intro h (And.intro hs (And.intro hs2 (And.intro hqu hsp)))))
  have HQ := Lib.hid (show q = leastI l ∧ q < n ∧ n < 134217728 ∧ 0 < n from ⟨hqe, by omega, by omega, hn1⟩)
  have HNB := Lib.hid (show J < 1000000000 ∧ K < 4000000000 ∧ J = 2 * Gn.smeldN (least l).queue (Gn.sPop l) ∧ K = Gn.sPopN l + Gn.sPopM l + (n - 1) from ⟨hJ2, hK2, hJ, hK⟩)
  have HC := Lib.hid (And.intro c1 (And.intro p0 (And.intro p1 (And.intro p2 p3))))
  have HO := Lib.hid (And.intro hb0 hsz)
  have hqn : q < n := HQ.out.2.1
  have q2 : (0 : Int) ≤ (q : Int) := by omega
  have q5 : (q : Int) < (n : Int) := by omega
  have z1 : ((n : Int) == 0) = false := by simp; omega
  have z2 : ¬ n = 0 := by omega
  clear hF h hs hs2 hqu hsp hnl hll hq hqe c1 ht p0 p1 p2 p3 hx hkey hJ2 hK2 hJ hK hb0 hh hz hsz hle hln
  go_enter Tryz.func22, Tryz.ntmps22
  go_wp2_with fail
  generalize (w.alloc (.cells #[.bool true, .int .i64 x1, .int .i64 x2, .slice (some ⟨b, of, none⟩) n c] 35)).alloc (.cells #[.bool false, .int .i64 0, .int .i64 0, .slice none 0 0] 35) = w1 at *
  obtain ⟨b0, hb0⟩ : ∃ b, b = w.heap.size := ⟨_, rfl⟩
  obtain ⟨b1, hb1⟩ : ∃ b, b = w.heap.size + 1 := ⟨_, rfl⟩
  rw [← hb1] at HZ ⊢
  rw [← hb0] at HH ⊢
  have HB := Lib.hid (show b0 = w.heap.size ∧ b1 = w.heap.size + 1 from ⟨hb0, hb1⟩)
  clear hb0 hb1
  have hfar : Far F (fun k => F k ∧ k ≠ b1) w w1 := ⟨fun k hk _ => HO.out.1.block k hk, fun k hk hf => ⟨hf, by have := HB.out; omega⟩⟩
  have HT := Lib.hid (show TsAt (fun k => F k ∧ k ≠ b1) w1 l (some ⟨b, of, none⟩) n c ∧ TsAt (fun k => F k ∧ k ≠ b1) w1 (least l).queue B m d ∧ (∀ k, w1.heap.size ≤ k → F k ∧ k ≠ b1) from ⟨H.out.2.1.far hfar, H.out.2.2.2.2.1.far hfar, fun k hk => ⟨H.out.1 k (by have := HO.out.2; omega), by have := HO.out.2; have := HB.out; omega⟩⟩)
  clear hfar
  have HS := Lib.hid (fun (w' : World) (hz : Below w1.heap.size w1 w') => (show w'.cell? ⟨b0, 3, none⟩ = some (.slice (some ⟨b, of, none⟩) n c) ∧ w'.cell? ⟨b, of + q * 4 + 1, none⟩ = some (.slice (some ⟨xb, xo, none⟩) 1 ax) ∧ w'.cell? ⟨xb, xo, none⟩ = some (.bool M) ∧ w'.cell? ⟨xb, xo + 1, none⟩ = some (.int .i64 y1) ∧ w'.cell? ⟨xb, xo + 2, none⟩ = some (.int .i64 y2) ∧ w'.cell? ⟨xb, xo + 3, none⟩ = some (.slice B m d) from by
    have hz1 := HO.out.1.trans (hz.mono HO.out.1.size)
    exact ⟨stay_cell hz HH.out.c3, stay_cell hz1 HC.out.1, stay_cell hz1 HC.out.2.1, stay_cell hz1 HC.out.2.2.1, stay_cell hz1 HC.out.2.2.2.1, stay_cell hz1 HC.out.2.2.2.2⟩))
  refine wp_after (R := fun a a' w' => ∃ (u15 u16 u17 u18 u19 u20 u21 u22 u23 u24 : Value) (bf : Nat), a' = (((((((((((a.put (some 15) u15).put (some 16) u16).put (some 17) u17).put (some 18) u18).put (some 19) u19).put (some 20) u20).put (some 21) u21).put (some 22) u22).put (some 23) u23).put (some 24) u24).put (some 4) (.pointer (some ⟨bf, 0, none⟩))) ∧ Below w1.heap.size w1 w' ∧ Qd w' bf (.bool M) (.int .i64 y1) (.int .i64 y2) (.slice B m d) ∧ w1.heap.size ≤ bf) ?_ ?_
  · have hd0 : Below w1.heap.size w1 w1.drew := (Below.refl _ _).drew
    refine wp_region_noPanic ?_
    refine wp_region_held_drew (S := fun w' => w'.cell? ⟨b0, 3, none⟩ = some (.slice (some ⟨b, of, none⟩) n c) ∧ w'.cell? ⟨b, of + q * 4 + 1, none⟩ = some (.slice (some ⟨xb, xo, none⟩) 1 ax) ∧ w'.cell? ⟨xb, xo, none⟩ = some (.bool M) ∧ w'.cell? ⟨xb, xo + 1, none⟩ = some (.int .i64 y1) ∧ w'.cell? ⟨xb, xo + 2, none⟩ = some (.int .i64 y2) ∧ w'.cell? ⟨xb, xo + 3, none⟩ = some (.slice B m d)) (by kernel_rfl) (HS.out _ hd0) (fun hH => ?_)
    generalize w1.drew = wd at *
    refine wpAnyH_take (i := 0) (oi := { dst := some 15, op := Go.Op.fieldAddr 35 (Go.Operand.tmp 1) 2, type := 0, pos := "ref.go:173", after := #[], guard := none }) (v := ?v1_0_0) rfl (by as_aux_lemma => kernel_rfl) (by as_aux_lemma => kernel_rfl) (by as_aux_lemma => kernel_rfl) (fun _ _ _ h => h) (Or.inl ⟨(by as_aux_lemma => kernel_rfl), ?hy1_0_0⟩) hH ?rest1_0_0
    case hy1_0_0 => (intro w hSw; (try dsimp only at hSw); go_simp; try with_reducible rfl)
    try simp only [Act.put, List.setIfInBounds_toArray, List.set_cons_zero, List.set_cons_succ]
    refine wpAnyH_take (i := 1) (oi := { dst := some 16, op := Go.Op.load 33 (Go.Operand.tmp 15), type := 33, pos := "ref.go:173", after := #[{ on := 0, ground := Go.Ground.data }], guard := none }) (v := ?v1_0_1) rfl (by as_aux_lemma => kernel_rfl) (by as_aux_lemma => kernel_rfl) (by as_aux_lemma => kernel_rfl) (fun _ _ _ h => h) (Or.inl ⟨(by as_aux_lemma => kernel_rfl), ?hy1_0_1⟩) hH ?rest1_0_1
    case hy1_0_1 => (intro w hSw; (try dsimp only at hSw); go_simp; try with_reducible rfl)
    try simp only [Act.put, List.setIfInBounds_toArray, List.set_cons_zero, List.set_cons_succ]
    refine wpAnyH_take (i := 2) (oi := { dst := some 17, op := Go.Op.fieldAddr 35 (Go.Operand.tmp 1) 2, type := 0, pos := "ref.go:173", after := #[], guard := none }) (v := ?v1_0_2) rfl (by as_aux_lemma => kernel_rfl) (by as_aux_lemma => kernel_rfl) (by as_aux_lemma => kernel_rfl) (fun _ _ _ h => h) (Or.inl ⟨(by as_aux_lemma => kernel_rfl), ?hy1_0_2⟩) hH ?rest1_0_2
    case hy1_0_2 => (intro w hSw; (try dsimp only at hSw); go_simp; try with_reducible rfl)
    try simp only [Act.put, List.setIfInBounds_toArray, List.set_cons_zero, List.set_cons_succ]
    refine wpAnyH_take (i := 3) (oi := { dst := some 18, op := Go.Op.load 33 (Go.Operand.tmp 17), type := 33, pos := "ref.go:173", after := #[{ on := 2, ground := Go.Ground.data }], guard := none }) (v := ?v1_0_3) rfl (by as_aux_lemma => kernel_rfl) (by as_aux_lemma => kernel_rfl) (by as_aux_lemma => kernel_rfl) (fun _ _ _ h => h) (Or.inl ⟨(by as_aux_lemma => kernel_rfl), ?hy1_0_3⟩) hH ?rest1_0_3
    case hy1_0_3 => (intro w hSw; (try dsimp only at hSw); go_simp; try with_reducible rfl)
    try simp only [Act.put, List.setIfInBounds_toArray, List.set_cons_zero, List.set_cons_succ]
    refine wpAnyH_ready (rs := [4, 10]) (by as_aux_lemma => kernel_rfl) (by simp) ?_
    refine AllReadyH.cons (o := { dst := some 19, op := Go.Op.call { callee := Go.Callee.value (Go.Operand.func 45), args := #[Go.Operand.tmp 18], argTypes := #[33] }, type := 3, pos := "ref.go:173", after := #[{ on := 3, ground := Go.Ground.data }], guard := none }) rfl (fun K hK => ?_) (AllReadyH.cons (o := { dst := some 4, op := Go.Op.alloc 35, type := 0, pos := "ref.go:173", after := #[], guard := none }) rfl (fun K hK => ?_) AllReadyH.nil)
    · go_simp
      go_at_call 45
      (with_reducible refine (refLeast F l _ _ _ wd (by have := H.out.2.2.1; omega) HQ.out.2.2.2 (H.out.2.1.stay (HO.out.1.trans (hd0.mono HO.out.1.size)))).mono ?_)
      rintro e w9 ⟨rfl, hb9⟩
      rw [← HQ.out.1]
      refine hK.out _ _ ?_ (fun hH2 => ?_)
      · exact HS.out _ (hd0.trans (hb9.mono hd0.size))
      clear hK K hH
      have hH := hH2
      clear hH2
      have hbx0 := hd0.trans (hb9.mono hd0.size)
      try simp only [Act.put, List.setIfInBounds_toArray, List.set_cons_zero, List.set_cons_succ]
      refine wpAnyH_take (i := 5) (oi := { dst := some 20, op := Go.Op.indexAddr 33 (Go.Operand.tmp 16) (Go.Operand.tmp 19), type := 0, pos := "ref.go:173", after := #[{ on := 1, ground := Go.Ground.data }, { on := 4, ground := Go.Ground.data }], guard := none }) (v := ?v1_1_5) rfl (by as_aux_lemma => kernel_rfl) (by as_aux_lemma => kernel_rfl) (by as_aux_lemma => kernel_rfl) (fun _ _ _ h => h) (Or.inl ⟨(by as_aux_lemma => kernel_rfl), ?hy1_1_5⟩) hH ?rest1_1_5
      case hy1_1_5 => (intro w hSw; (try dsimp only at hSw); go_simp; try with_reducible rfl)
      try simp only [Act.put, List.setIfInBounds_toArray, List.set_cons_zero, List.set_cons_succ]
      refine wpAnyH_take (i := 6) (oi := { dst := some 21, op := Go.Op.fieldAddr 97 (Go.Operand.tmp 20) 1, type := 0, pos := "ref.go:173", after := #[{ on := 5, ground := Go.Ground.data }], guard := none }) (v := ?v1_1_6) rfl (by as_aux_lemma => kernel_rfl) (by as_aux_lemma => kernel_rfl) (by as_aux_lemma => kernel_rfl) (fun _ _ _ h => h) (Or.inl ⟨(by as_aux_lemma => kernel_rfl), ?hy1_1_6⟩) hH ?rest1_1_6
      case hy1_1_6 => (intro w hSw; (try dsimp only at hSw); go_simp; try with_reducible rfl)
      try simp only [Act.put, List.setIfInBounds_toArray, List.set_cons_zero, List.set_cons_succ]
      refine wpAnyH_take (i := 7) (oi := { dst := some 22, op := Go.Op.load 36 (Go.Operand.tmp 21), type := 36, pos := "ref.go:173", after := #[{ on := 6, ground := Go.Ground.data }], guard := none }) (v := ?v1_1_7) rfl (by as_aux_lemma => kernel_rfl) (by as_aux_lemma => kernel_rfl) (by as_aux_lemma => kernel_rfl) (fun _ _ _ h => h) (Or.inl ⟨(by as_aux_lemma => kernel_rfl), ?hy1_1_7⟩) hH ?rest1_1_7
      case hy1_1_7 => (intro w hSw; (try dsimp only at hSw); go_simp; try with_reducible rfl)
      try simp only [Act.put, List.setIfInBounds_toArray, List.set_cons_zero, List.set_cons_succ]
      refine wpAnyH_take (i := 8) (oi := { dst := some 23, op := Go.Op.indexAddr 36 (Go.Operand.tmp 22) (Go.Operand.const (Go.Value.int Go.IntKind.i64 0)), type := 0, pos := "ref.go:173", after := #[{ on := 7, ground := Go.Ground.data }], guard := none }) (v := ?v1_1_8) rfl (by as_aux_lemma => kernel_rfl) (by as_aux_lemma => kernel_rfl) (by as_aux_lemma => kernel_rfl) (fun _ _ _ h => h) (Or.inl ⟨(by as_aux_lemma => kernel_rfl), ?hy1_1_8⟩) hH ?rest1_1_8
      case hy1_1_8 => (intro w hSw; (try dsimp only at hSw); go_simp; try with_reducible rfl)
      try simp only [Act.put, List.setIfInBounds_toArray, List.set_cons_zero, List.set_cons_succ]
      refine wpAnyH_take (i := 9) (oi := { dst := some 24, op := Go.Op.load 35 (Go.Operand.tmp 23), type := 35, pos := "ref.go:173", after := #[{ on := 8, ground := Go.Ground.data }], guard := none }) (v := ?v1_1_9) rfl (by as_aux_lemma => kernel_rfl) (by as_aux_lemma => kernel_rfl) (by as_aux_lemma => kernel_rfl) (fun _ _ _ h => h) (Or.inl ⟨(by as_aux_lemma => kernel_rfl), ?hy1_1_9⟩) hH ?rest1_1_9
      case hy1_1_9 => (intro w hSw; (try dsimp only at hSw); go_simp; try with_reducible rfl)
      try simp only [Act.put, List.setIfInBounds_toArray, List.set_cons_zero, List.set_cons_succ]
      refine wpAnyH_ready (rs := [10]) (by as_aux_lemma => kernel_rfl) (by simp) ?_
      refine AllReadyH.cons (o := { dst := some 4, op := Go.Op.alloc 35, type := 0, pos := "ref.go:173", after := #[], guard := none }) rfl (fun K hK => ?_) AllReadyH.nil
      go_simp
      refine hK.out _ _ ?_ (fun hH2 => ?_)
      · exact HS.out _ (hbx0.alloc hbx0.size _)
      clear hK K hH
      have hH := hH2
      clear hH2
      have hv := qd_at (show (w9.alloc (.cells #[.bool false, .int .i64 0, .int .i64 0, .slice none 0 0] 35)).heap[w9.heap.size]? = some (.cells #[.bool false, .int .i64 0, .int .i64 0, .slice none 0 0] 35 (0, 0)) from new_at rfl)
      have hbx := hbx0.alloc hbx0.size (.cells #[.bool false, .int .i64 0, .int .i64 0, .slice none 0 0] 35)
      have hSR0 : w1.heap.size ≤ w9.heap.size := hbx0.size
      obtain ⟨bf, hbv⟩ : ∃ b, b = w9.heap.size := ⟨_, rfl⟩
      rw [← hbv] at hv hSR0 ⊢
      have hSR := hSR0
      clear hbv hb9 hbx0 hSR0
      generalize w9.alloc (.cells #[.bool false, .int .i64 0, .int .i64 0, .slice none 0 0] 35) = w10 at *
      try simp only [Act.put, List.setIfInBounds_toArray, List.set_cons_zero, List.set_cons_succ]
      have sv0 := hv.c0
      have sz0 := hv.z0
      have sv1 := hv.c1
      have sz1 := hv.z1
      have sv2 := hv.c2
      have sz2 := hv.z2
      have sv3 := hv.c3
      have sz3 := hv.z3
      refine wpAnyH_ready (rs := [11]) (by as_aux_lemma => kernel_rfl) (by simp) ?_
      refine AllReadyH.cons (o := { dst := none, op := Go.Op.store 35 (Go.Operand.tmp 4) (Go.Operand.tmp 24), type := 0, pos := "ref.go:173", after := #[{ on := 10, ground := Go.Ground.data }, { on := 9, ground := Go.Ground.data }, { on := 4, ground := Go.Ground.chain }, { on := 0, ground := Go.Ground.phase }, { on := 1, ground := Go.Ground.phase }, { on := 2, ground := Go.Ground.phase }, { on := 3, ground := Go.Ground.phase }, { on := 4, ground := Go.Ground.phase }, { on := 5, ground := Go.Ground.phase }, { on := 6, ground := Go.Ground.phase }, { on := 7, ground := Go.Ground.phase }, { on := 8, ground := Go.Ground.phase }, { on := 9, ground := Go.Ground.phase }, { on := 10, ground := Go.Ground.phase }], guard := none }) rfl (fun K hK => ?_) AllReadyH.nil
      go_simp
      refine hK.out _ _ ?_ (fun hH2 => ?_)
      · exact HS.out _ (set4_below hbx hSR (.bool M) (.int .i64 y1) (.int .i64 y2) (.slice B m d))
      clear hK K hH
      have hH := hH2
      clear hH2
      have hvz : Qd ((((w10.setCell ⟨bf, 0, none⟩ (.bool M)).setCell ⟨bf, 1, none⟩ (.int .i64 y1)).setCell ⟨bf, 2, none⟩ (.int .i64 y2)).setCell ⟨bf, 3, none⟩ (.slice B m d)) bf (.bool M) (.int .i64 y1) (.int .i64 y2) (.slice B m d) := set4_qd hv _ _ _ _
      have hbz : Below w1.heap.size w1 ((((w10.setCell ⟨bf, 0, none⟩ (.bool M)).setCell ⟨bf, 1, none⟩ (.int .i64 y1)).setCell ⟨bf, 2, none⟩ (.int .i64 y2)).setCell ⟨bf, 3, none⟩ (.slice B m d)) := set4_below hbx hSR _ _ _ _
      clear sv0 sv1 sv2 sv3 sz0 sz1 sz2 sz3
      generalize ((((w10.setCell ⟨bf, 0, none⟩ (.bool M)).setCell ⟨bf, 1, none⟩ (.int .i64 y1)).setCell ⟨bf, 2, none⟩ (.int .i64 y2)).setCell ⟨bf, 3, none⟩ (.slice B m d)) = w11 at *
      try simp only [Act.put, List.setIfInBounds_toArray, List.set_cons_zero, List.set_cons_succ]
      refine wpAnyH_done (by as_aux_lemma => kernel_rfl) ?_ _
      refine NoPanic.normal ?_
      clear hH
      exact ⟨rfl, _, _, _, _, _, _, _, _, _, _, bf, by (try simp only [Act.put, List.setIfInBounds_toArray, List.set_cons_zero, List.set_cons_succ]); rfl, hbz, hvz, hSR⟩
    · go_simp
      refine hK.out _ _ ?_ (fun hH2 => ?_)
      · exact HS.out _ (hd0.alloc hd0.size _)
      clear hK K hH
      have hH := hH2
      clear hH2
      have hv := qd_at (show (wd.alloc (.cells #[.bool false, .int .i64 0, .int .i64 0, .slice none 0 0] 35)).heap[wd.heap.size]? = some (.cells #[.bool false, .int .i64 0, .int .i64 0, .slice none 0 0] 35 (0, 0)) from new_at rfl)
      have hdx := hd0.alloc hd0.size (.cells #[.bool false, .int .i64 0, .int .i64 0, .slice none 0 0] 35)
      have hSR0 : w1.heap.size ≤ wd.heap.size := hd0.size
      obtain ⟨bf, hbv⟩ : ∃ b, b = wd.heap.size := ⟨_, rfl⟩
      rw [← hbv] at hv hSR0 ⊢
      have hSR := hSR0
      clear hbv hSR0
      generalize wd.alloc (.cells #[.bool false, .int .i64 0, .int .i64 0, .slice none 0 0] 35) = wx at *
      try simp only [Act.put, List.setIfInBounds_toArray, List.set_cons_zero, List.set_cons_succ]
      refine wpAnyH_ready (rs := [4]) (by as_aux_lemma => kernel_rfl) (by simp) ?_
      refine AllReadyH.cons (o := { dst := some 19, op := Go.Op.call { callee := Go.Callee.value (Go.Operand.func 45), args := #[Go.Operand.tmp 18], argTypes := #[33] }, type := 3, pos := "ref.go:173", after := #[{ on := 3, ground := Go.Ground.data }], guard := none }) rfl (fun K hK => ?_) AllReadyH.nil
      go_simp
      go_at_call 45
      (with_reducible refine (refLeast F l _ _ _ wx (by have := H.out.2.2.1; omega) HQ.out.2.2.2 (H.out.2.1.stay (HO.out.1.trans (hdx.mono HO.out.1.size)))).mono ?_)
      rintro e w9 ⟨rfl, hb9⟩
      rw [← HQ.out.1]
      refine hK.out _ _ ?_ (fun hH2 => ?_)
      · exact HS.out _ (hdx.trans (hb9.mono hdx.size))
      clear hK K hH
      have hH := hH2
      clear hH2
      have hbx := hdx.trans (hb9.mono hdx.size)
      replace hv := hv.keep (hb9.block _ hv.lt)
      clear hb9
      try simp only [Act.put, List.setIfInBounds_toArray, List.set_cons_zero, List.set_cons_succ]
      refine wpAnyH_take (i := 5) (oi := { dst := some 20, op := Go.Op.indexAddr 33 (Go.Operand.tmp 16) (Go.Operand.tmp 19), type := 0, pos := "ref.go:173", after := #[{ on := 1, ground := Go.Ground.data }, { on := 4, ground := Go.Ground.data }], guard := none }) (v := ?v1_2_5) rfl (by as_aux_lemma => kernel_rfl) (by as_aux_lemma => kernel_rfl) (by as_aux_lemma => kernel_rfl) (fun _ _ _ h => h) (Or.inl ⟨(by as_aux_lemma => kernel_rfl), ?hy1_2_5⟩) hH ?rest1_2_5
      case hy1_2_5 => (intro w hSw; (try dsimp only at hSw); go_simp; try with_reducible rfl)
      try simp only [Act.put, List.setIfInBounds_toArray, List.set_cons_zero, List.set_cons_succ]
      refine wpAnyH_take (i := 6) (oi := { dst := some 21, op := Go.Op.fieldAddr 97 (Go.Operand.tmp 20) 1, type := 0, pos := "ref.go:173", after := #[{ on := 5, ground := Go.Ground.data }], guard := none }) (v := ?v1_2_6) rfl (by as_aux_lemma => kernel_rfl) (by as_aux_lemma => kernel_rfl) (by as_aux_lemma => kernel_rfl) (fun _ _ _ h => h) (Or.inl ⟨(by as_aux_lemma => kernel_rfl), ?hy1_2_6⟩) hH ?rest1_2_6
      case hy1_2_6 => (intro w hSw; (try dsimp only at hSw); go_simp; try with_reducible rfl)
      try simp only [Act.put, List.setIfInBounds_toArray, List.set_cons_zero, List.set_cons_succ]
      refine wpAnyH_take (i := 7) (oi := { dst := some 22, op := Go.Op.load 36 (Go.Operand.tmp 21), type := 36, pos := "ref.go:173", after := #[{ on := 6, ground := Go.Ground.data }], guard := none }) (v := ?v1_2_7) rfl (by as_aux_lemma => kernel_rfl) (by as_aux_lemma => kernel_rfl) (by as_aux_lemma => kernel_rfl) (fun _ _ _ h => h) (Or.inl ⟨(by as_aux_lemma => kernel_rfl), ?hy1_2_7⟩) hH ?rest1_2_7
      case hy1_2_7 => (intro w hSw; (try dsimp only at hSw); go_simp; try with_reducible rfl)
      try simp only [Act.put, List.setIfInBounds_toArray, List.set_cons_zero, List.set_cons_succ]
      refine wpAnyH_take (i := 8) (oi := { dst := some 23, op := Go.Op.indexAddr 36 (Go.Operand.tmp 22) (Go.Operand.const (Go.Value.int Go.IntKind.i64 0)), type := 0, pos := "ref.go:173", after := #[{ on := 7, ground := Go.Ground.data }], guard := none }) (v := ?v1_2_8) rfl (by as_aux_lemma => kernel_rfl) (by as_aux_lemma => kernel_rfl) (by as_aux_lemma => kernel_rfl) (fun _ _ _ h => h) (Or.inl ⟨(by as_aux_lemma => kernel_rfl), ?hy1_2_8⟩) hH ?rest1_2_8
      case hy1_2_8 => (intro w hSw; (try dsimp only at hSw); go_simp; try with_reducible rfl)
      try simp only [Act.put, List.setIfInBounds_toArray, List.set_cons_zero, List.set_cons_succ]
      refine wpAnyH_take (i := 9) (oi := { dst := some 24, op := Go.Op.load 35 (Go.Operand.tmp 23), type := 35, pos := "ref.go:173", after := #[{ on := 8, ground := Go.Ground.data }], guard := none }) (v := ?v1_2_9) rfl (by as_aux_lemma => kernel_rfl) (by as_aux_lemma => kernel_rfl) (by as_aux_lemma => kernel_rfl) (fun _ _ _ h => h) (Or.inl ⟨(by as_aux_lemma => kernel_rfl), ?hy1_2_9⟩) hH ?rest1_2_9
      case hy1_2_9 => (intro w hSw; (try dsimp only at hSw); go_simp; try with_reducible rfl)
      try simp only [Act.put, List.setIfInBounds_toArray, List.set_cons_zero, List.set_cons_succ]
      generalize w9 = w10 at *
      have sv0 := hv.c0
      have sz0 := hv.z0
      have sv1 := hv.c1
      have sz1 := hv.z1
      have sv2 := hv.c2
      have sz2 := hv.z2
      have sv3 := hv.c3
      have sz3 := hv.z3
      refine wpAnyH_ready (rs := [11]) (by as_aux_lemma => kernel_rfl) (by simp) ?_
      refine AllReadyH.cons (o := { dst := none, op := Go.Op.store 35 (Go.Operand.tmp 4) (Go.Operand.tmp 24), type := 0, pos := "ref.go:173", after := #[{ on := 10, ground := Go.Ground.data }, { on := 9, ground := Go.Ground.data }, { on := 4, ground := Go.Ground.chain }, { on := 0, ground := Go.Ground.phase }, { on := 1, ground := Go.Ground.phase }, { on := 2, ground := Go.Ground.phase }, { on := 3, ground := Go.Ground.phase }, { on := 4, ground := Go.Ground.phase }, { on := 5, ground := Go.Ground.phase }, { on := 6, ground := Go.Ground.phase }, { on := 7, ground := Go.Ground.phase }, { on := 8, ground := Go.Ground.phase }, { on := 9, ground := Go.Ground.phase }, { on := 10, ground := Go.Ground.phase }], guard := none }) rfl (fun K hK => ?_) AllReadyH.nil
      go_simp
      refine hK.out _ _ ?_ (fun hH2 => ?_)
      · exact HS.out _ (set4_below hbx hSR (.bool M) (.int .i64 y1) (.int .i64 y2) (.slice B m d))
      clear hK K hH
      have hH := hH2
      clear hH2
      have hvz : Qd ((((w10.setCell ⟨bf, 0, none⟩ (.bool M)).setCell ⟨bf, 1, none⟩ (.int .i64 y1)).setCell ⟨bf, 2, none⟩ (.int .i64 y2)).setCell ⟨bf, 3, none⟩ (.slice B m d)) bf (.bool M) (.int .i64 y1) (.int .i64 y2) (.slice B m d) := set4_qd hv _ _ _ _
      have hbz : Below w1.heap.size w1 ((((w10.setCell ⟨bf, 0, none⟩ (.bool M)).setCell ⟨bf, 1, none⟩ (.int .i64 y1)).setCell ⟨bf, 2, none⟩ (.int .i64 y2)).setCell ⟨bf, 3, none⟩ (.slice B m d)) := set4_below hbx hSR _ _ _ _
      clear sv0 sv1 sv2 sv3 sz0 sz1 sz2 sz3
      generalize ((((w10.setCell ⟨bf, 0, none⟩ (.bool M)).setCell ⟨bf, 1, none⟩ (.int .i64 y1)).setCell ⟨bf, 2, none⟩ (.int .i64 y2)).setCell ⟨bf, 3, none⟩ (.slice B m d)) = w11 at *
      try simp only [Act.put, List.setIfInBounds_toArray, List.set_cons_zero, List.set_cons_succ]
      refine wpAnyH_done (by as_aux_lemma => kernel_rfl) ?_ _
      refine NoPanic.normal ?_
      clear hH
      exact ⟨rfl, _, _, _, _, _, _, _, _, _, _, bf, by (try simp only [Act.put, List.setIfInBounds_toArray, List.set_cons_zero, List.set_cons_succ]); rfl, hbz, hvz, hSR⟩
  rintro a' w3 ⟨u15, u16, u17, u18, u19, u20, u21, u22, u23, u24, bf, rfl, hb3, hv3, hSR⟩
  try simp only [Act.put, List.setIfInBounds_toArray, List.set_cons_zero, List.set_cons_succ]
  have HB3 := Lib.hid (And.intro hb3 (HO.out.1.trans (hb3.mono HO.out.1.size)))
  have HV3 := Lib.hid hv3
  have HSR := Lib.hid hSR
  have a0 := stay_cell hb3 HH.out.c3
  have wn1 : IntKind.i64.wrap ((n : Int) - 1) = (n : Int) - 1 := by have := HQ.out; rw [IntKind.wrap_i64]; omega
  clear hb3 hv3 hSR
  go_wp2_with fail
  ((with_reducible refine (refPopQ (fun k => F k ∧ k ≠ b1) l _ _ _ w3 (fun k hk => HT.out.2.2 k (Nat.le_trans HB3.out.1.size hk)) (by have := H.out.2.2.1; omega) HQ.out.2.2.2 (HT.out.1.stay HB3.out.1)).mono ?_); rintro e w4 ⟨A4, n4, c4, rfl, hh4, hb4⟩)
  rw [← HNB.out.2.2.2]
  have H4 := Lib.hid (And.intro hh4 (And.intro (HB3.out.1.trans (hb4.mono HB3.out.1.size)) (HB3.out.2.trans (hb4.mono HB3.out.2.size))))
  have HV4 := Lib.hid (HV3.out.keep (hb4.block _ HV3.out.lt))
  have d3 := HV4.out.c3
  clear hh4 hb4 a0 HV3
  go_wp2_with fail
  ((with_reducible refine (refMeldQ (least l).queue (Gn.sPop l) (fun k => F k ∧ k ≠ b1) _ _ _ _ _ _ w4 (fun k hk => HT.out.2.2 k (Nat.le_trans H4.out.2.1.size hk)) (by have := H.out.2.2.1; have := H.out.2.2.2.1; have := H.out.2.2.2.2.2; omega) (HT.out.2.1.stay H4.out.2.1) H4.out.1).mono ?_); rintro e w5 ⟨A5, n5, c5, rfl, hh5, hb5⟩)
  rw [← HNB.out.2.2.1]
  have H5 := Lib.hid (And.intro hh5 (And.intro (H4.out.2.1.trans (hb5.mono H4.out.2.1.size)) (H4.out.2.2.trans (hb5.mono H4.out.2.2.size))))
  have v5 := HV4.out.keep (hb5.block _ HV4.out.lt)
  have d1 := v5.c1
  have d2 := v5.c2
  have Z5 := HZ.out.keep (H5.out.2.1.block _ HZ.out.lt)
  have wn2 : IntKind.i64.wrap ((n : Int) - 1 + (K : Int)) = (n : Int) - 1 + (K : Int) := by have := HQ.out; have := HNB.out; rw [IntKind.wrap_i64]; omega
  have wn3 : IntKind.i64.wrap ((n : Int) - 1 + (K : Int) + (J : Int)) = (n : Int) - 1 + (K : Int) + (J : Int) := by have := HQ.out; have := HNB.out; rw [IntKind.wrap_i64]; omega
  have wn4 : IntKind.i64.wrap ((n : Int) - 1 + (K : Int) + (J : Int) + 1) = (n : Int) - 1 + (K : Int) + (J : Int) + 1 := by have := HQ.out; have := HNB.out; rw [IntKind.wrap_i64]; omega
  clear hh5 hb5 v5 d3
  go_wp2_with (refine wpList_store_h rfl _ _ rfl _ rfl rfl Z5 ⟨rfl, rfl, rfl, rfl⟩ ?_; intro w7 Z hk7 hb7 _)
  have r0 := Z.c0
  have r1 := Z.c1
  have r2 := Z.c2
  have r3 := Z.c3
  refine bodyPost_ret (v := .tuple #[.agg #[.bool true, .int .i64 y1, .int .i64 y2, .slice A5 n5 c5], .int .i64 ((n : Int) - 1 + (K : Int) + (J : Int) + 1)]) (by simp [results, Tryz.results22, go_sem, r0, r1, r2, r3]) rfl ?_
  have hB7 := hb7 _ _ H5.out.2.2 (by have := HB.out; omega)
  refine ⟨y1, y2, A5, n5, c5, true, ?_, ?_, hB7⟩
  · rw [show (((n - 1) + K + J + 1 : Nat) : Int) = (n : Int) - 1 + (K : Int) + (J : Int) + 1 from by have := HQ.out; omega]
  · exact ⟨rfl, rfl, (H5.out.1.far (F' := F) (W' := w7) ⟨fun k hk hf => hk7 k hf.2, fun _ _ h => h.1⟩)⟩

end Go.Proofs.YtlmokendajgbdaaGreatDoor.Bo.Zr
namespace Go.Proofs.YtlmokendajgbdaaGreatDoor.Bo.Zr
open Go.Sort Go.RowKit Go.Proofs.YtlmokendajgbdaaGreatDoor.Gn Go.Proofs.YtlmokendajgbdaaGreatDoor.Bo

theorem refPop_any (F : Nat → Prop) (t : Lh) (x1 x2 : Int) (A : Option Addr) (n c : Nat) (N : Bool) (w : World) (hF : ∀ k, w.heap.size ≤ k → F k) (h : RAt F w t (x1, x2) A n c N) (hs : Gn.bSize t.queue < 134217728) (hs2 : Gn.bSize (least t.queue).queue < 134217728) :
    Calls Tryz.prog 22 #[.agg #[.bool N, .int .i64 x1, .int .i64 x2, .slice A n c]] w (GaveP F t.pop (t.popC + t.popM) w) := by
  match t, h, hs, hs2 with
  | .nil, h, _, _ =>
    obtain ⟨-, rfl, rfl, rfl, rfl⟩ := h
    exact refPop_none F x1 x2 none 0 false w
  | .node y [], h, _, _ =>
    obtain ⟨-, rfl, h3⟩ := h
    obtain rfl : n = 0 := ts_nil h3
    exact refPop_none F x1 x2 A c true w
  | .node y (t :: r), h, hs, hs2 =>
    obtain ⟨rfl, rfl, h3⟩ := h
    exact refPop_some F t r x1 x2 A n c w hF h3 hs hs2

/-- A slice of the call's own whose things are heaps. -/
abbrev OwnH (W : World) (base : Nat) (v : Value) (m : Nat) (cs : List Value) : Prop := W.ownsRow base 35 4 v m cs
theorem OwnH.nil (W : World) (base : Nat) : OwnH W base (.slice none 0 0) 0 [] := ⟨rfl, .inl ⟨rfl, rfl⟩⟩
theorem OwnH.stay {W W' : World} {base : Nat} {v : Value} {m : Nat} {cs : List Value} (h : OwnH W base v m cs) (hb : Below W.heap.size W W') : OwnH W' base v m cs :=
  World.ownsRow.kept h (row := none) ⟨hb.os, hb.tape, hb.output, hb.size, fun k hk _ => hb.block k hk⟩ (by cases v.ownBlock <;> simp)
theorem OwnH.hat {W : World} {base : Nat} {v : Value} {m : Nat} {cs : List Value} (h : OwnH W base v m cs) : ∃ A n c, v = .slice A n c ∧ n = m ∧ Cap A n c ∧ CAt (fun k => base ≤ k) W A cs := by
  have h0 := h
  rcases h.2 with ⟨rfl, hz⟩ | ⟨g, cap, cur, rfl, hbg, -, hcap, hmax, -⟩
  · subst hz
    exact ⟨none, 0, 0, rfl, rfl, Cap.zero, fun hp => absurd hp (by have := h.1; omega)⟩
  · refine ⟨_, m, cap, rfl, rfl, ⟨by omega, by unfold maxLen at hmax; omega, fun e => by cases e⟩, fun _ => ⟨g, 0, rfl, hbg, fun j u hu => ?_⟩⟩
    have := h0.cells (g := g) rfl j u hu
    rwa [add_plain4] at this
theorem append_H (F : Nat → Prop) (w : World) (base : Nat) (v : Value) (m : Nat) (cs : List Value) (hown : OwnH w base v m cs) (A : Option Addr) (n c : Nat) (kc : List Value) (hl : kc.length = n * 4) (h1 : ∀ u ∈ kc, u.oneCell' = true) (hc : CAt F w A kc) (hA : A = none → c = 0) (hb : base ≤ w.heap.size) (hm : m + n < 1000000000) :
    ∃ v' w', (Builtin.append_ #[36, 36] 36 #[v, .slice A n c]).run Tryz.prog w = .ok v' w' ∧ OwnH w' base v' (m + n) (cs ++ kc) ∧ Below base w w' := by
  obtain ⟨i0, hi, hz0, hz1, hz2⟩ := info_parts infoH
  have hblk : ∀ g, v.ownBlock = some g → base ≤ g := fun g hg => (World.ownsRow.lt hown g hg).1
  have step : ∀ a : Addr, (∀ j u, kc[j]? = some u → w.cell? (a.add j) = some u) → ∃ v' w', (Builtin.append_ #[36, 36] 36 #[v, .slice (some a) n c]).run Tryz.prog w = .ok v' w' ∧ OwnH w' base v' (m + n) (cs ++ kc) ∧ Below base w w' := by
    intro a ha
    obtain ⟨v', w', g1, g2, g3, _⟩ := run_append_own_at (P := Tryz.prog) w base 36 36 35 i0 _ 4 48 Tryz.underlying36 hi hz0 hz1 hz2 rfl (by omega) v m cs hown a n c kc hl ha h1 (by unfold maxLen; omega) (by omega) hb
    exact ⟨v', w', g1, g2, below_grown (Below.refl base w) g3 hb hblk⟩
  by_cases h0 : 0 < kc.length
  · obtain ⟨b, o, rfl, -, hcell⟩ := hc h0
    exact step _ (fun j u hu => by rw [add_plain4]; exact hcell j u hu)
  · obtain rfl : kc = [] := List.eq_nil_of_length_eq_zero (by omega)
    cases A with
    | some a => exact step a (fun j u hu => by simp at hu)
    | none =>
      obtain rfl := hA rfl
      obtain rfl : n = 0 := by simp at hl; omega
      have hrun := run_append_owned_none (P := Tryz.prog) (w := w) base 36 36 35 i0 4 Tryz.underlying36 hi v m cs hown
      exact ⟨v, w, hrun, by simpa using hown, Below.refl _ _⟩
theorem RK.append_h {F : Nat → Prop} {W : World} : ∀ (a b : List Lh) (cs ds : List Value), RK F W (.hs a) cs → RK F W (.hs b) ds → RK F W (.hs (a ++ b)) (cs ++ ds)
  | [], b, cs, ds, h, h' => by cases h; exact h'
  | t :: r, b, cs, ds, h, h' => by
    obtain ⟨x, A, n, c, N, cs', rfl, ht, hr⟩ := h.head_h
    exact RK.cons_h ht (RK.append_h r b cs' ds hr h')
theorem bAll_take {l : List (Gn.Tre Lh)} {j : Nat} (hj : j < l.length) : Gn.bAll (l.take (j + 1)) = Gn.bAll (l.take j) ++ l[j].all := by
  rw [List.take_succ_eq_append_getElem hj, Gn.bAll_append]
  simp [Gn.bAll]
theorem bSize_take : ∀ (l : List (Gn.Tre Lh)) (j : Nat), Gn.bSize (l.take j) ≤ Gn.bSize l
  | [], j => by simp
  | t :: r, 0 => by simp [Gn.bSize]
  | t :: r, j + 1 => by have := bSize_take r j; simp only [List.take_succ_cons, Gn.bSize]; omega

/-- What a call hands back: a row of heaps, whose queues lay in a world w0; nothing that was there has changed. -/
def GaveHs (F : Nat → Prop) (w0 : World) (l : List Lh) (w : World) (e : Ending) (w' : World) : Prop := ∃ A n c cs, e = .returned (.slice A n c) ∧ n = l.length ∧ Cap A n c ∧ RK F w0 (.hs l) cs ∧ CAt (fun _ => True) w' A cs ∧ Below w.heap.size w w'
theorem CAt.any {F : Nat → Prop} {W : World} {A : Option Addr} {cs : List Value} (h : CAt F W A cs) : CAt (fun _ => True) W A cs := fun h0 => by
  obtain ⟨b, o, e, -, hc⟩ := h h0
  exact ⟨b, o, e, trivial, hc⟩
/-- The j-th heap of such a row. -/
theorem hs_at2 {F G : Nat → Prop} {w0 W : World} {l : List Lh} {b o : Nat} {cs : List Value} (hk : RK F w0 (.hs l) cs) (hC : CAt G W (some ⟨b, o, none⟩) cs) {j : Nat} (hj : j < l.length) : ∃ (x1 x2 : Int) (A : Option Addr) (k d : Nat) (N : Bool),
    (W.cell? ⟨b, o + j * 4, none⟩ = some (.bool N) ∧ W.cell? ⟨b, o + j * 4 + 1, none⟩ = some (.int .i64 x1) ∧ W.cell? ⟨b, o + j * 4 + 2, none⟩ = some (.int .i64 x2) ∧ W.cell? ⟨b, o + j * 4 + 3, none⟩ = some (.slice A k d)) ∧ RAt F w0 l[j] (x1, x2) A k d N := by
  have hd := RK.drop_h l cs j hk
  rw [List.drop_eq_getElem_cons hj] at hd
  obtain ⟨⟨x1, x2⟩, A, k, d, N, cs', e, ht, -⟩ := hd.head_h
  have hpos : 0 < cs.length := by rw [hk.length]; simp only [Rows.len]; omega
  obtain ⟨b', o', e2, -, hc⟩ := hC hpos
  cases e2
  have hx : ∀ i v, (cs.drop (j * 4))[i]? = some v → W.cell? ⟨b, o + j * 4 + i, none⟩ = some v := fun i v hv => by
    rw [List.getElem?_drop] at hv
    have := hc _ v hv
    rwa [← Nat.add_assoc] at this
  rw [e] at hx
  exact ⟨x1, x2, A, k, d, N, ⟨hx 0 _ rfl, hx 1 _ rfl, hx 2 _ rfl, hx 3 _ rfl⟩, ht⟩
/-- What all of a tree hands back. -/
def AllR (t : Gn.Tre Lh) : Prop := ∀ (F : Nat → Prop) (Ax Ab Ak : Option Addr) (cx cb ck : Nat) (w0 w : World), Below w0.heap.size w0 w → t.size < 134217728 → RT F w0 t Ax cx Ab cb Ak ck →
  Calls Tryz.prog 57 #[.agg #[.int .i64 t.rank, .slice Ax 1 cx, .slice Ab t.bs.length cb, .slice Ak t.rank ck]] w (GaveHs F w0 t.all w)

set_option maxRecDepth 100000 in
set_option maxHeartbeats 4000000 in
theorem refAll_step (t : Gn.Tre Lh) (hI : ∀ u ∈ t.ks.list, AllR u) : AllR t := by
  intro F Ax Ab Ak cx cb ck w0 w hz hs ht
  obtain ⟨xc, hxk, hxC⟩ := ht.x
  obtain ⟨-, hbcap, bc, hbk, hbC⟩ := ht.b
  have hkk := ht.k
  obtain ⟨xb, xo, eAx, -, -⟩ := hxC (by rw [hxk.length]; simp [Rows.len])
  have hxl := hxk.length
  have hbl := hbk.length
  obtain ⟨bl, hbl0⟩ : ∃ k, k = t.bs.length := ⟨_, rfl⟩
  obtain ⟨kl, hkl0⟩ : ∃ k, k = t.rank := ⟨_, rfl⟩
  have hkl1 : kl = t.ks.list.length := by rw [hkl0, Wood.list_len]; rfl
  have hks : Gn.bSize t.ks.list = t.ks.size := by rw [← bAll_length, Wood.list_all, Wood.all_length]
  have hkle := bSize_len t.ks.list
  have hts : t.size = 1 + t.bs.length + t.ks.size := rfl
  simp only [Rows.len, List.length_cons, List.length_nil] at hxl hbl
  rw [← hbl0] at hbl hbcap hts
  rw [← hkl0] at hkk
  rw [← hbl0, ← hkl0]
  have hv := qd_at (show (w.alloc (.cells #[.int .i64 (kl : Int), .slice Ax 1 cx, .slice Ab bl cb, .slice Ak kl ck] 97)).heap[w.heap.size]? = some (.cells #[.int .i64 (kl : Int), .slice Ax 1 cx, .slice Ab bl cb, .slice Ak kl ck] 97 (0, 0)) from new_at rfl)
  have hb0 := (Below.refl w.heap.size w).alloc (Nat.le_refl _) (.cells #[.int .i64 (kl : Int), .slice Ax 1 cx, .slice Ab bl cb, .slice Ak kl ck] 97)
  obtain ⟨w1, hw1⟩ : ∃ W, W = w.alloc (.cells #[.int .i64 (kl : Int), .slice Ax 1 cx, .slice Ab bl cb, .slice Ak kl ck] 97) := ⟨_, rfl⟩
  rw [← hw1] at hv hb0
  have hbt : w.heap.size < w1.heap.size := by rw [hw1]; simp
  obtain ⟨v2, w2, hr2, ho2, hb2⟩ := append_H F w1 w1.heap.size (.slice none 0 0) 0 [] (OwnH.nil _ _) Ax 1 cx xc hxl hxk.one (hxC.far (Far.below (hz.trans (hb0.mono hz.size)))) (fun e => by rw [eAx] at e; cases e) (Nat.le_refl _) (by omega)
  rw [Nat.zero_add, List.nil_append] at ho2
  have hb2' := hz.trans ((hb0.trans (hb2.mono hb0.size)).mono hz.size)
  obtain ⟨v3, w3, hr3, ho3, hb3⟩ := append_H F w2 w1.heap.size v2 1 xc ho2 Ab bl cb bc hbl hbk.one (hbC.far (Far.below hb2')) hbcap.none hb2.size (by omega)
  have hb3' := hb2.trans hb3
  have hx3 : RK F w0 (.hs (t.x :: t.bs)) (xc ++ bc) := RK.append_h [t.x] t.bs xc bc hxk hbk
  have HV := Lib.hid hv
  have H := Lib.hid (And.intro hz (And.intro (show 1 + bl + t.ks.size < 134217728 by omega) (And.intro hkk (And.intro hkl1 (And.intro hks (And.intro hkle (And.intro hbl0 (And.intro hI hb0))))))))
  have H3 := Lib.hid (And.intro ho3 (And.intro hb3' (And.intro hx3 hb2)))
  have HR := Lib.hid (And.intro hr2 hr3)
  have a1 := hv.c1
  have a2 := (hb2.cell (p := ⟨w.heap.size, 2, none⟩) hbt).trans hv.c2
  have a3 := (hb3'.cell (p := ⟨w.heap.size, 3, none⟩) hbt).trans hv.c3
  have HBT := Lib.hid hbt
  clear hz hs ht hxk hxC hbcap hbk hbC hkk eAx hxl hbl hbl0 hkl0 hkl1 hks hkle hts hv hb0 hbt hr2 ho2 hb2 hb2' hr3 ho3 hb3 hb3' hx3 hI
  subst hw1
  go_enter Tryz.func57, Tryz.ntmps57
  go_wp2_with (at_builtin; first | (refine wpList_append_run rfl _ _ _ rfl _ _ _ _ rfl rfl HR.out.1 ?_) | (refine wpList_append_run rfl _ _ _ rfl _ _ _ _ rfl rfl HR.out.2 ?_))
  generalize w.alloc (.cells #[.int .i64 (kl : Int), .slice Ax 1 cx, .slice Ab bl cb, .slice Ak kl ck] 97) = w1 at *
  go_loopg [3, 4] kl (fun k ov iv wr => ∃ (j : Nat) (cs : List Value), iv = .int .i64 (j : Int) ∧ j + k = kl ∧ OwnH wr w1.heap.size ov (1 + bl + Gn.bSize (t.ks.list.take j)) cs ∧ RK F w0 (.hs (t.x :: (t.bs ++ Gn.bAll (t.ks.list.take j)))) cs ∧ Below w1.heap.size w1 wr)
  case atStart => exact ⟨0, xc ++ bc, rfl, by omega, by simpa [Gn.bSize] using H3.out.1, by simpa [Gn.bAll] using H3.out.2.2.1, H3.out.2.1⟩
  case round =>
    clear a1 a2 a3
    obtain ⟨j, cs, rfl, hj, hown, hk, hbe⟩ := hrel
    have a3 := (hbe.cell (p := ⟨w.heap.size, 3, none⟩) HBT.out).trans HV.out.c3
    have hbw1 := H.out.2.2.2.2.2.2.2.2.trans (hbe.mono H.out.2.2.2.2.2.2.2.2.size)
    have hbw := H.out.1.trans (hbw1.mono H.out.1.size)
    by_cases hlt : j < kl
    · have hjl : j < t.ks.list.length := by have := H.out; omega
      have hk0 := H.out.2.2.1
      obtain ⟨kb, ko, eAk⟩ := ts_some hk0 (by omega)
      subst eAk
      obtain ⟨Bx, Bb, Bk, bx, bb, bk, ⟨d0, d1, d2, d3⟩, hu⟩ := ts_at hk0 hjl
      replace d0 := stay_cell hbw d0
      replace d1 := stay_cell hbw d1
      replace d2 := stay_cell hbw d2
      replace d3 := stay_cell hbw d3
      have hta := bAll_take hjl
      have hsz : Gn.bSize (t.ks.list.take (j + 1)) = Gn.bSize (t.ks.list.take j) + t.ks.list[j].size := by rw [← bAll_length, hta, List.length_append, bAll_length, Tre.all_length]
      have hsl := bSize_take t.ks.list (j + 1)
      have hmem : t.ks.list[j] ∈ t.ks.list := List.getElem_mem hjl
      have hCA := H.out.2.2.2.2.2.2.2.1 _ hmem F Bx Bb Bk bx bb bk w0 wr hbw (by have := H.out; omega) hu
      generalize t.ks.list[j] = u at *
      obtain ⟨ur, hur⟩ : ∃ k, k = u.rank := ⟨_, rfl⟩
      obtain ⟨ub, hub⟩ : ∃ k, k = u.bs.length := ⟨_, rfl⟩
      rw [← hur] at d0 d3 hCA
      rw [← hub] at d2 hCA
      have HCA := Lib.hid hCA
      have HB := Lib.hid (And.intro hbe (And.intro hown (And.intro hk (And.intro hta (And.intro hsz (And.intro hsl hj))))))
      have q1 : (j : Int) < (kl : Int) := by omega
      have q2 : (0 : Int) ≤ (j : Int) := by omega
      have q3 : decide ((j : Int) < (kl : Int)) = true := by simp; omega
      have wj : IntKind.i64.wrap ((j : Int) + 1) = (j : Int) + 1 := by have := H.out; rw [IntKind.wrap_i64]; omega
      have HJ := Lib.hid hlt
      clear hjl hk0 hu hta hsz hsl hmem hCA hur hub hbw hbw1 hbe hown hk hj hlt
      go_wp2_with fail
      ((with_reducible refine (HCA.out).mono ?_); rintro e w4 ⟨A4, n4, c4, kc4, rfl, hn4, hcap4, hk4, hC4, hb4⟩)
      have hbz := HB.out.1.trans (hb4.mono HB.out.1.size)
      have hkl4 : kc4.length = n4 * 4 := by rw [hk4.length, hn4]; rfl
      have hn4' : n4 = u.size := by rw [hn4]; exact Tre.all_length u
      obtain ⟨v5, w5, hr5, ho5, hb5⟩ := append_H (fun _ => True) w4 w1.heap.size _ _ cs (HB.out.2.1.stay hb4) A4 n4 c4 kc4 hkl4 hk4.one hC4 hcap4.none hbz.size (by have := HB.out; have := H.out; omega)
      have hkk4 : RK F w0 (.hs (t.x :: (t.bs ++ Gn.bAll (t.ks.list.take (j + 1))))) (cs ++ kc4) := by
        rw [HB.out.2.2.2.1, ← List.append_assoc, ← List.cons_append]
        exact RK.append_h _ _ _ _ HB.out.2.2.1 hk4
      have Y := Lib.hid (show OwnH w5 w1.heap.size v5 (1 + bl + Gn.bSize (t.ks.list.take (j + 1))) (cs ++ kc4) ∧ RK F w0 (.hs (t.x :: (t.bs ++ Gn.bAll (t.ks.list.take (j + 1))))) (cs ++ kc4) ∧ Below w1.heap.size w1 w5 from ⟨by rw [HB.out.2.2.2.2.1, ← hn4', ← Nat.add_assoc]; exact ho5, hkk4, hbz.trans hb5⟩)
      clear hk4 hC4 hb4 hbz hkl4 hn4 hn4' ho5 hb5 hkk4 hcap4 d0 d1 d2 d3
      go_wp2_with (at_builtin; refine wpList_append_run rfl _ _ _ rfl _ _ _ _ rfl rfl hr5 ?_)
      go_roundg (kl - 1 - j)
      case measure => have := HB.out; have := HJ.out; omega
      case rel => exact ⟨j + 1, cs ++ kc4, by first | rfl | (congr 1; (first | omega | (unfold wrap64; omega))), by have := HB.out; have := HJ.out; omega, Y.out.1, Y.out.2.1, Y.out.2.2⟩
    · have hjn : j = t.ks.list.length := by have := H.out; omega
      have q1 : ¬ (j : Int) < (kl : Int) := by omega
      have q3 : decide ((j : Int) < (kl : Int)) = false := by simp; omega
      have htk : t.ks.list.take j = t.ks.list := List.take_of_length_le (by omega)
      rw [htk] at hown hk
      have hall : t.x :: (t.bs ++ Gn.bAll t.ks.list) = t.all := by rw [Wood.list_all]; rfl
      rw [hall] at hk
      have hlen : 1 + bl + Gn.bSize t.ks.list = t.all.length := by rw [Tre.all_length, Tre.size, H.out.2.2.2.2.1, H.out.2.2.2.2.2.2.1]
      obtain ⟨A6, n6, c6, ev, hn6, hcap6, hC6⟩ := hown.hat
      subst ev
      have HF := Lib.hid (And.intro (hn6.trans hlen) (And.intro hcap6 (And.intro hk (And.intro hC6.any hbw1))))
      clear hj hown hk hbe hbw hbw1 hlt hjn htk hall hlen hn6 hcap6 hC6
      go_wp2_with fail
      refine bodyPost_ret (v := .slice A6 n6 c6) (by simp [results, Tryz.results57, go_sem]) rfl ?_
      exact ⟨A6, n6, c6, cs, rfl, HF.out⟩
theorem refAll_le : ∀ (m : Nat) (t : Gn.Tre Lh), t.size ≤ m → AllR t
  | 0, t, h => absurd h (by have : t.size = 1 + t.bs.length + t.ks.size := rfl; omega)
  | m + 1, t, h => refAll_step t (fun u hu => refAll_le m u (by
      have h1 := bSize_mem hu
      have h2 : Gn.bSize t.ks.list = t.ks.size := by rw [← bAll_length, Wood.list_all, Wood.all_length]
      have h3 : t.size = 1 + t.bs.length + t.ks.size := rfl
      omega))
theorem refAll (t : Gn.Tre Lh) : AllR t := refAll_le t.size t (Nat.le_refl _)

end Go.Proofs.YtlmokendajgbdaaGreatDoor.Bo.Zr
