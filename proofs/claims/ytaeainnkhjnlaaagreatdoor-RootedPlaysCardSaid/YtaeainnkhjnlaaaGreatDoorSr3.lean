/-
  Contract of the reference's Pop (slagheapref09): what is left without the least one, and how many steps there were. Condition: fewer than 2 to the 27th things.
-/
import Derived.Test.YtaeainnkhjnlaaaGreatDoorSr2
import Derived.Test.YtaeainnkhjnlaaaGreatDoorBh
namespace Go.Proofs.YtaeainnkhjnlaaaGreatDoor.Hp
open Go.Sort Go.RowKit

set_option maxRecDepth 100000 in
theorem refPop9_nil (F : Nat → Prop) (A : Option Addr) (n c : Nat) (w : World) (h : HAt F w [] A n c) :
    Calls Tryz.prog 33 #[.agg #[.slice A n c]] w (GaveH F [] 0 w) := by
  obtain rfl : n = 0 := h.1
  have H := Lib.hid h
  clear h
  go_enter Tryz.func33, Tryz.ntmps33
  go_wp2_with fail
  refine bodyPost_ret (v := .tuple #[.agg #[.slice A 0 c], .int .i64 0]) (by simp [results, Tryz.results33, go_sem]) rfl ?_
  have hbe := ((Below.refl w.heap.size w).alloc (Nat.le_refl _) (.cells #[.slice A 0 c] 35)).alloc (by simp) (.cells #[.slice A 0 c] 35)
  exact ⟨A, 0, c, rfl, H.out.stay hbe, hbe⟩

/-- What stands beside a tree's root, as its cells. -/
theorem TIs.beside {F : Nat → Prop} {W : World} {t : Tre} {kl : Nat} {x1 x2 : Int} {Ab : Option Addr} {bl cb : Nat} {Ak : Option Addr} {ck sz : Nat} (h : TIs F W t kl x1 x2 Ab bl cb Ak ck sz) : bl = t.bs.length ∧ CAt F W Ab (cellsE t.bs) := by
  obtain ⟨⟨-, e2, -, -⟩, Ab', Ak', cb', ck', kc', e, h1, -⟩ := h
  simp only [tV, Value.agg.injEq, Array.mk.injEq, List.cons.injEq, Value.slice.injEq, true_and, and_true] at e
  obtain ⟨⟨rfl, rfl⟩, rfl, rfl⟩ := e
  exact ⟨e2, h1.1⟩
theorem sfold_size (l : List (Int × Int)) (h : List Tre) : bSize (l.foldl sIns h) = bSize h + l.length := by
  have := (sfold_all l h).length_eq
  rwa [bAll_length, List.length_append, bAll_length] at this
theorem sfold_take (l : List (Int × Int)) (h : List Tre) (k : Nat) (hk : k < l.length) : (l.take (k + 1)).foldl sIns h = sIns ((l.take k).foldl sIns h) l[k] ∧ sPutN h (l.take (k + 1)) + sPutM h (l.take (k + 1)) = sPutN h (l.take k) + sPutM h (l.take k) + (sInsN ((l.take k).foldl sIns h) + sInsM ((l.take k).foldl sIns h)) := by
  rw [List.take_succ_eq_append_getElem hk, sPutN_snoc, sPutM_snoc, List.foldl_append]
  exact ⟨rfl, by omega⟩
set_option maxRecDepth 100000 in
set_option maxHeartbeats 16000000 in
theorem refPop9_some (F : Nat → Prop) (l : List Tre) (A : Option Addr) (n c : Nat) (w : World) (hF : ∀ k, w.heap.size ≤ k → F k) (hs : bSize l < 134217728) (hn1 : 0 < n) (h : HAt F w l A n c) :
    Calls Tryz.prog 33 #[.agg #[.slice A n c]] w (GaveH F (sPop l) (sPopN l + sPopM l + (n - 1)) w) := by
  obtain ⟨b, of, rfl⟩ := h.some_at hn1
  have hnl := h.1
  have hll := bSize_len l
  have hln : l ≠ [] := by rintro rfl; simp at hnl; omega
  have hq := leastI_lt hln
  obtain ⟨q, hqe⟩ : ∃ q, q = leastI l := ⟨_, rfl⟩
  rw [← hqe] at hq
  obtain ⟨kc0, hkc0, hC0⟩ := h.2.2.2.2
  obtain ⟨kl, x1, x2, Ab, bl, cb, Ak, ck, sz, ⟨-, -, -, c3, c4, -⟩, ht⟩ := h.atJ hq
  have hbw : b < w.heap.size := block_lt_of_cell c4
  obtain ⟨hkl, kc, hkk, hkC⟩ := ht.kids
  obtain ⟨hbl, hbC⟩ := TIs.beside ht
  have hpop : sPop l = (l[q]'hq).bs.foldl sIns (bmeld (l[q]'hq).ks.list.reverse (levT (restAt l q))) ∧ sPopN l + sPopM l = 2 * levN (restAt l q) + 2 * bmeldN (l[q]'hq).ks.list.reverse (levT (restAt l q)) + (sPutN (bmeld (l[q]'hq).ks.list.reverse (levT (restAt l q))) (l[q]'hq).bs + sPutM (bmeld (l[q]'hq).ks.list.reverse (levT (restAt l q))) (l[q]'hq).bs) := by
    have hgt : l[leastI l]? = some (l[q]'hq) := by rw [← hqe]; exact List.getElem?_eq_getElem hq
    have hk : kidsAt l (leastI l) = (l[q]'hq).ks.list.reverse := by unfold kidsAt; rw [hgt]
    have hbs : besAt l (leastI l) = (l[q]'hq).bs := by unfold besAt; rw [hgt]
    cases l with
    | nil => exact absurd rfl hln
    | cons t r =>
      rw [← hk, ← hbs, hqe]
      refine ⟨rfl, ?_⟩
      show sBaseN (t :: r) (leastI (t :: r)) + sPutN (sBase (t :: r) (leastI (t :: r))) (besAt (t :: r) (leastI (t :: r))) + (sBaseN (t :: r) (leastI (t :: r)) + sPutM (sBase (t :: r) (leastI (t :: r))) (besAt (t :: r) (leastI (t :: r)))) = _
      unfold sBaseN sBase
      omega
  have hsum : bSize (l[q].ks.list.reverse) + bSize (restAt l q) + l[q].bs.length < 134217728 := by
    have h1 := (restAt_all hq).length_eq
    have h2 := (bAll_reverse (l[q].ks.list)).length_eq
    rw [bAll_length] at h1; rw [List.length_append, bAll_length, Tre.all_length] at h1; rw [bAll_length, bAll_length] at h2
    have h3 : bSize l[q].ks.list = l[q].ks.size := by rw [← bAll_length, Wood.list_all, Wood.all_length]
    simp only [Tre.size] at h1; omega
  have hlv := levT_len (restAt l q)
  have hlz := levT_size (restAt l q)
  have hpl := bmeld_len (l[q].ks.list.reverse) (levT (restAt l q))
  have hmz := bmeld_size (l[q].ks.list.reverse) (levT (restAt l q))
  have hkr := bSize_len (l[q].ks.list.reverse)
  have hrl := bSize_len (restAt l q)
  have hklen : kl ≤ bSize (l[q].ks.list.reverse) := by rw [hkl, ← List.length_reverse]; exact hkr
  have hput := sPutN_le l[q].bs (bmeld l[q].ks.list.reverse (levT (restAt l q)))
  generalize hks : l[q].ks.list = ks at *
  generalize hbs : l[q].bs = bs at *
  obtain ⟨K, hK⟩ : ∃ K, K = 2 * levN (restAt l q) := ⟨_, rfl⟩
  obtain ⟨N, hN⟩ : ∃ N, N = 2 * bmeldN ks.reverse (levT (restAt l q)) := ⟨_, rfl⟩
  obtain ⟨bas, hbas⟩ : ∃ x, x = bmeld ks.reverse (levT (restAt l q)) := ⟨_, rfl⟩
  rw [← hbas] at hpop hput hmz
  have hb0 := ((Below.refl w.heap.size w).alloc (Nat.le_refl _) (.cells #[.slice (some ⟨b, of, none⟩) n c] 35)).alloc (by simp) (.cells #[.slice none 0 0] 35)
  have hh : HV7 ((w.alloc (.cells #[.slice (some ⟨b, of, none⟩) n c] 35)).alloc (.cells #[.slice none 0 0] 35)) w.heap.size (some ⟨b, of, none⟩) n c := (((Below.refl (w.alloc (.cells #[.slice (some ⟨b, of, none⟩) n c] 35)).heap.size (w.alloc (.cells #[.slice (some ⟨b, of, none⟩) n c] 35))).alloc (Nat.le_refl _) _).block _ (by simp)).trans (new_at rfl)
  have hz : HV7 ((w.alloc (.cells #[.slice (some ⟨b, of, none⟩) n c] 35)).alloc (.cells #[.slice none 0 0] 35)) (w.heap.size + 1) none 0 0 := new_at (by simp)
  have hsz : ((w.alloc (.cells #[.slice (some ⟨b, of, none⟩) n c] 35)).alloc (.cells #[.slice none 0 0] 35)).heap.size = w.heap.size + 2 := by simp
  have H := Lib.hid (And.intro hF (And.intro hs (And.intro h (And.intro hb0 (And.intro hkc0 (And.intro hC0 (And.intro hkk hkC)))))))
  have HB := Lib.hid (And.intro hbl (And.intro hbC c3))
  have HD := Lib.hid (And.intro hpop (And.intro hsum (And.intro hkl (And.intro hN (And.intro hK (And.intro hbas (And.intro hmz hlz)))))))
  have HQ := Lib.hid (show q = leastI l ∧ q < n ∧ n < 134217728 ∧ q < l.length ∧ n = l.length ∧ n ≤ c ∧ c ≤ 9223372036854775807 from ⟨hqe, by omega, by omega, hq, hnl, h.2.1, h.2.2.1⟩)
  have HNB := Lib.hid (show N < 1000000000 ∧ kl < 134217728 ∧ ks.length = kl ∧ K < 1000000000 ∧ bl < 134217728 ∧ bs.length = bl ∧ sPutN bas bs ≤ 2 * bs.length ∧ sPutM bas bs ≤ 2 * bs.length from ⟨by rw [List.length_reverse] at hpl hkr; omega, by omega, hkl.symm, by omega, by omega, hbl.symm, hput.1, hput.2⟩)
  have hqn : q < n := HQ.out.2.1
  have q2 : (0 : Int) ≤ (q : Int) := by omega
  have q5 : (q : Int) < (n : Int) := by omega
  have z1 : ((n : Int) == 0) = false := by simp; omega
  have z2 : ¬ n = 0 := by omega
  have wk1 : IntKind.i64.wrap ((kl : Int) - 1) = (kl : Int) - 1 := by have := HNB.out; rw [IntKind.wrap_i64]; omega
  have HC4 := Lib.hid c4
  have HBW := Lib.hid hbw
  clear hs h hb0 hnl hll hln hqe hkc0 hC0 c4 hkk hkC hpop hsum hpl hkr hrl hklen hkl hN hF hlv hlz hmz hput hK hbas hbl hbC c3
  clear ht
  clear hks hbs
  clear hq
  go_enter Tryz.func33, Tryz.ntmps33
  go_wp2_with fail
  generalize (w.alloc (.cells #[.slice (some ⟨b, of, none⟩) n c] 35)).alloc (.cells #[.slice none 0 0] 35) = w1 at *
  obtain ⟨b0, hb0⟩ : ∃ b, b = w.heap.size := ⟨_, rfl⟩
  obtain ⟨b1, hb1⟩ : ∃ b, b = w.heap.size + 1 := ⟨_, rfl⟩
  rw [← hb1] at hz ⊢
  rw [← hb0] at hh ⊢
  have HO := Lib.hid (show b0 = w.heap.size ∧ b1 = b0 + 1 ∧ w1.heap.size = b1 + 1 from ⟨hb0, by omega, by omega⟩)
  have HH := Lib.hid hh
  have HZ := Lib.hid hz
  clear hb0 hb1 hsz hh hz hbw
  ((with_reducible refine (refLeast F l _ _ _ _ (by have := H.out.2.1; omega) hn1 (H.out.2.2.1.stay H.out.2.2.2.1)).mono ?_); rintro e w3 ⟨rfl, hb3⟩)
  rw [← HQ.out.1]
  have HB3 := Lib.hid (And.intro hb3 (H.out.2.2.2.1.trans (hb3.mono H.out.2.2.2.1.size)))
  have a0 := (HH.out.stay hb3).c0
  have a4 := (HB3.out.2.cell (p := ⟨b, of + q * 6 + 4, none⟩) HBW.out).trans HC4.out
  clear hb3
  go_wp2_with fail
  go_loopg [5, 6] kl (fun k kv iv wr => ∃ (m : Nat) (cs : List Value), iv = .int .i64 ((m : Int) - 1) ∧ m = k ∧ m ≤ kl ∧ OwnT wr w1.heap.size kv (kl - m) cs ∧ KL F w (wood (ks.drop m).reverse) cs ∧ Below w1.heap.size w1 wr)
  case atStart => exact ⟨kl, [], rfl, rfl, Nat.le_refl _, by rw [Nat.sub_self]; exact OwnT.nil _ _, by rw [List.drop_of_length_le (by have := HNB.out; omega)]; rfl, HB3.out.1⟩
  case round =>
    clear a0 a4 wk1
    obtain ⟨m, cs, rfl, hm, hmk, hown, hkl, hbe⟩ := hrel
    have a0 := (HH.out.stay hbe).c0
    have HBE := Lib.hid (And.intro hbe (H.out.2.2.2.1.trans (hbe.mono H.out.2.2.2.1.size)))
    have a4 := (HBE.out.2.cell (p := ⟨b, of + q * 6 + 4, none⟩) HBW.out).trans HC4.out
    cases m with
    | succ j =>
      have hjl : j < ks.length := by have := HNB.out; omega
      obtain ⟨kb, ko, eAk, -, -⟩ := H.out.2.2.2.2.2.2.2 (by rw [H.out.2.2.2.2.2.2.1.length, wood_len]; omega)
      subst eAk
      obtain ⟨ul, y1, y2, Bb, dl, db, Bk, dk, uz, ⟨d0, d1, d2, d3, d4, d5⟩, hu⟩ := H.out.2.2.2.2.2.2.1.atJ H.out.2.2.2.2.2.2.2 hjl
      replace d0 := (HBE.out.2.cell (p := ⟨kb, ko + j * 6, none⟩) (block_lt_of_cell d0)).trans d0
      replace d1 := (HBE.out.2.cell (p := ⟨kb, ko + j * 6 + 1, none⟩) (block_lt_of_cell d1)).trans d1
      replace d2 := (HBE.out.2.cell (p := ⟨kb, ko + j * 6 + 2, none⟩) (block_lt_of_cell d2)).trans d2
      replace d3 := (HBE.out.2.cell (p := ⟨kb, ko + j * 6 + 3, none⟩) (block_lt_of_cell d3)).trans d3
      replace d4 := (HBE.out.2.cell (p := ⟨kb, ko + j * 6 + 4, none⟩) (block_lt_of_cell d4)).trans d4
      replace d5 := (HBE.out.2.cell (p := ⟨kb, ko + j * 6 + 5, none⟩) (block_lt_of_cell d5)).trans d5
      have hdr : (ks.drop j).reverse = (ks.drop (j + 1)).reverse ++ [ks[j]] := by rw [List.drop_eq_getElem_cons hjl, List.reverse_cons]
      have hkl2 : KL F w (wood (ks.drop j).reverse) (cs ++ [.int .i64 ul, .int .i64 y1, .int .i64 y2, .slice Bb dl db, .slice Bk ul dk, .int .i64 uz]) := by rw [hdr]; exact KL.append hkl hu.cells
      have hba := (Below.refl wr.heap.size wr).alloc (Nat.le_refl _) (.cells #[.int .i64 ul, .int .i64 y1, .int .i64 y2, .slice Bb dl db, .slice Bk ul dk, .int .i64 uz] 104)
      have hcat : CAt (fun _ => True) (wr.alloc (.cells #[.int .i64 ul, .int .i64 y1, .int .i64 y2, .slice Bb dl db, .slice Bk ul dk, .int .i64 uz] 104)) (some ⟨wr.heap.size, 0, none⟩) [.int .i64 ul, .int .i64 y1, .int .i64 y2, .slice Bb dl db, .slice Bk ul dk, .int .i64 uz] := fun _ => ⟨wr.heap.size, 0, rfl, trivial, fun i v hv => by
        have h1 : (wr.alloc (.cells #[.int .i64 ul, .int .i64 y1, .int .i64 y2, .slice Bb dl db, .slice Bk ul dk, .int .i64 uz] 104)).heap[wr.heap.size]? = some (.cells #[.int .i64 ul, .int .i64 y1, .int .i64 y2, .slice Bb dl db, .slice Bk ul dk, .int .i64 uz] 104 (0, 0)) := new_at rfl
        unfold World.cell?; simp only [Nat.zero_add]; rw [h1]; simpa using hv⟩
      obtain ⟨v4, w4, hrun, hown4, hb4⟩ := append_T (fun _ => True) (wr.alloc (.cells #[.int .i64 ul, .int .i64 y1, .int .i64 y2, .slice Bb dl db, .slice Bk ul dk, .int .i64 uz] 104)) w1.heap.size _ _ cs (hown.stay hba) (some ⟨wr.heap.size, 0, none⟩) 1 1 _ rfl (by intro u hu; simp only [List.mem_cons, List.not_mem_nil, or_false] at hu; rcases hu with rfl | rfl | rfl | rfl | rfl | rfl <;> rfl) hcat (fun e => by cases e) (Nat.le_trans hbe.size hba.size) (by have := HNB.out; omega)
      have HB4 := Lib.hid ((hbe.trans (hba.mono hbe.size)).trans hb4)
      have HK4 := Lib.hid (show OwnT w4 w1.heap.size v4 (kl - j) (cs ++ [.int .i64 ul, .int .i64 y1, .int .i64 y2, .slice Bb dl db, .slice Bk ul dk, .int .i64 uz]) ∧ KL F w (wood (ks.drop j).reverse) (cs ++ [.int .i64 ul, .int .i64 y1, .int .i64 y2, .slice Bb dl db, .slice Bk ul dk, .int .i64 uz]) ∧ j + 1 = gk ∧ j + 1 ≤ kl from ⟨by rw [show kl - j = kl - (j + 1) + 1 by omega]; exact hown4, hkl2, hm, hmk⟩)
      have i1 : ((j + 1 : Nat) : Int) - 1 = (j : Int) := by omega
      have i2 : (0 : Int) ≤ (j : Int) := by omega
      have i3 : (j : Int) < (kl : Int) := by omega
      have i4 : decide ((0 : Int) ≤ (j : Int)) = true := by simp
      have wj : IntKind.i64.wrap ((j : Int) - 1) = (j : Int) - 1 := by have := HNB.out; rw [IntKind.wrap_i64]; omega
      have i5 : j < kl := by omega
      clear hjl hu hdr hkl2 hba hcat hown4 hb4 hown hkl hbe hm hmk
      rw [i1]
      clear i1
      go_wp2_with (at_builtin; refine wpList_append_run rfl _ _ _ rfl _ _ _ _ rfl rfl hrun ?_)
      go_roundg j
      case measure => have := HK4.out; omega
      case rel => exact ⟨j, cs ++ [.int .i64 ul, .int .i64 y1, .int .i64 y2, .slice Bb dl db, .slice Bk ul dk, .int .i64 uz], by first | rfl | (congr 1), rfl, by have := HK4.out; omega, HK4.out.1, HK4.out.2.1, HB4.out⟩
    | zero =>
      have i1 : ((0 : Nat) : Int) - 1 = -1 := rfl
      rw [i1]
      have i4 : decide ((0 : Int) ≤ (-1 : Int)) = false := rfl
      rw [Nat.sub_zero] at hown
      rw [List.drop_zero] at hkl
      have hOwn := Lib.hid (And.intro hown hkl)
      have hcat1 : CAt F wr (some ⟨b, of, none⟩) (kc0.take (q * 6)) := by
        have hC := (H.out.2.2.2.2.2.1).far (Far.below HBE.out.2)
        intro hpos
        obtain ⟨b', o', e1, hb', hc'⟩ := hC (by rw [List.length_take] at hpos; omega)
        cases e1
        exact ⟨b, of, rfl, hb', fun i v hv => hc' i v (by rw [List.getElem?_take] at hv; split at hv; exact hv; cases hv)⟩
      obtain ⟨v4, w4, hrun1, hown4, hb4⟩ := append_T F wr wr.heap.size (.slice none 0 0) 0 [] (OwnT.nil _ _) (some ⟨b, of, none⟩) q c (kc0.take (q * 6)) (by rw [List.length_take, H.out.2.2.2.2.1.length, wood_len]; have := HQ.out; omega) (fun u hu => H.out.2.2.2.2.1.one u (List.mem_of_mem_take hu)) hcat1 (fun e => by cases e) (Nat.le_refl _) (by have := HQ.out; omega)
      rw [Nat.zero_add, List.nil_append] at hown4
      have H4 := Lib.hid (And.intro hown4 (And.intro hb4 (HBE.out.1.trans (hb4.mono HBE.out.1.size))))
      have a0b := (HH.out.stay H4.out.2.2).c0
      have y1 : (q : Int) ≤ (c : Int) := by have := HQ.out; omega
      have y2 : q ≤ c := by have := HQ.out; omega
      have y3 : ¬ c = 0 := by have := HQ.out; omega
      have y4 : ¬ (c : Int) < (q : Int) := by have := HQ.out; omega
      have y5 : ¬ c < q := by have := HQ.out; omega
      have y6 : (q : Int) ≤ (n : Int) := by omega
      have y7 : q ≤ n := by omega
      have y8 : ¬ c ≤ 0 := by have := HQ.out; omega
      have y9 : 0 < c := by have := HQ.out; omega
      have wq1 : IntKind.i64.wrap ((q : Int) + 1) = (q : Int) + 1 := by have := HQ.out; rw [IntKind.wrap_i64]; omega
      clear hown hkl hbe hm hmk hown4 hb4
      by_cases hc1 : c = q + 1
      · have hn2 : n = q + 1 := by have := HQ.out; omega
        have hcat2 : CAt F w4 (some ⟨b, of, none⟩) (kc0.drop ((q + 1) * 6)) := by
          have hC := (H.out.2.2.2.2.2.1).far (Far.below (H.out.2.2.2.1.trans (H4.out.2.2.mono H.out.2.2.2.1.size)))
          intro hpos
          have hpl : 0 < kc0.length := by rw [List.length_drop] at hpos; omega
          rw [List.length_drop, H.out.2.2.2.2.1.length, wood_len] at hpos
          have := HQ.out; omega
        obtain ⟨v5, w5, hrun2, hown5, hb5⟩ := append_T F w4 wr.heap.size v4 q _ H4.out.1 (some ⟨b, of, none⟩) 0 0 (kc0.drop ((q + 1) * 6)) (by rw [List.length_drop, H.out.2.2.2.2.1.length, wood_len]; have := HQ.out; omega) (fun u hu => H.out.2.2.2.2.1.one u (List.mem_of_mem_drop hu)) hcat2 (fun e => by cases e) H4.out.2.1.size (by have := HQ.out; omega)
        have hrest : KL F w (wood (restAt l q)) (kc0.take (q * 6) ++ kc0.drop ((q + 1) * 6)) := KL.append (KL.takeW l kc0 q H.out.2.2.2.2.1) (KL.dropW l kc0 (q + 1) H.out.2.2.2.2.1)
        have hbz := H4.out.2.2.trans (hb5.mono (Nat.le_trans HBE.out.1.size (Nat.le_refl _)))
        have hbw5 := H.out.2.2.2.1.trans (hbz.mono H.out.2.2.2.1.size)
        have hfar : Far F (Fb F b1) w w5 := ⟨fun k hk _ => hbw5.block k hk, fun k hk hf => Fb.of hf (by have := HO.out; omega)⟩
        have hFb : ∀ k, w1.heap.size ≤ k → Fb F b1 k := fun k hk => Fb.of (H.out.1 k (by have := HO.out; omega)) (by have := HO.out; omega)
        have hown1 := hOwn.out.1.stay (H4.out.2.1.trans hb5)
        obtain ⟨A6, n6, c6, ekv, en6, hat1⟩ := hown1.hat hOwn.out.2 hfar hFb (by rw [List.length_reverse]; exact HNB.out.2.2.1.symm)
        subst ekv
        obtain ⟨A7, n7, c7, ev5, en7, hat2⟩ := hown5.hat hrest hfar (fun k hk => hFb k (Nat.le_trans HBE.out.1.size hk)) (by unfold restAt; rw [List.length_append, List.length_take, List.length_drop]; have := HQ.out; omega)
        subst ev5
        have H5 := Lib.hid (And.intro hat1 (And.intro hat2 (And.intro hbz (And.intro hbw5 hFb))))
        have x0 : (n : Int) = (q : Int) + 1 := by omega
        have x1 : (c : Int) = (q : Int) + 1 := by omega
        have x20 : ((q : Int) + 1).toNat = q + 1 := by omega
        subst hn2
        subst hc1
        have HR := Lib.hid (And.intro hrun1 hrun2)
        clear hrun1 hrun2 hown5 hb5 hrest hbz hbw5 hfar hFb hown1 hat1 hat2 en7
        subst en6
        go_wp2_with (at_builtin; first | (refine wpList_append_run rfl _ _ _ rfl _ _ _ _ rfl rfl HR.out.1 ?_) | (refine wpList_append_run rfl _ _ _ rfl _ _ _ _ rfl rfl HR.out.2 ?_))
        ((with_reducible refine (refLevel (Fb F b1) (restAt l q) _ _ _ w5 (fun k hk => H5.out.2.2.2.2 k (Nat.le_trans H5.out.2.2.1.size hk)) (by have := HD.out.2.1; omega) H5.out.2.1).mono ?_); rintro e w6 ⟨A8, n8, c8, rfl, hh8, hb8⟩)
        rw [← HD.out.2.2.2.2.1]
        have hb9 := H5.out.2.2.1.trans (hb8.mono H5.out.2.2.1.size)
        have H8 := Lib.hid (And.intro hh8 (And.intro hb9 (And.intro (H.out.2.2.2.1.trans (hb9.mono H.out.2.2.2.1.size)) (H5.out.1.stay hb8))))
        clear hh8 hb8 hb9
        go_wp2_with fail
        have hT := refTrees ks.reverse (levT (restAt l q))
        unfold TreesR at hT
        ((with_reducible refine (hT (Fb F b1) _ _ _ _ _ _ w6 (fun k hk => H5.out.2.2.2.2 k (Nat.le_trans H8.out.2.1.size hk)) (by rw [levT_size]; have := HD.out.2.1; omega) H8.out.2.2.2 H8.out.1).mono ?_); rintro e w7 ⟨A9, n9, c9, rfl, hh9, hb9⟩)
        rw [← HD.out.2.2.2.1]
        rw [← HD.out.2.2.2.2.2.1] at hh9
        have hb10 := H8.out.2.1.trans (hb9.mono H8.out.2.1.size)
        have hba := (Below.refl w7.heap.size w7).alloc (Nat.le_refl _) (.cells #[.slice A9 n9 c9] 35)
        have hb11 := hb10.alloc hb10.size (.cells #[.slice A9 n9 c9] 35)
        have hbo : HV7 (w7.alloc (.cells #[.slice A9 n9 c9] 35)) w7.heap.size A9 n9 c9 := new_at rfl
        have hsz7 : (w7.alloc (.cells #[.slice A9 n9 c9] 35)).heap.size = w7.heap.size + 1 := by simp
        have HL := Lib.hid (show w1.heap.size ≤ w7.heap.size from hb10.size)
        have hat := hh9.far (F' := Fb (Fb F b1) w7.heap.size) (W' := w7.alloc (.cells #[.slice A9 n9 c9] 35)) ⟨fun k hk _ => hba.block k hk, fun k hk hf => Fb.of hf (by omega)⟩
        have H9 := Lib.hid (And.intro hbo (And.intro hat (And.intro hb11 (And.intro (H.out.2.2.2.1.trans (hb11.mono H.out.2.2.2.1.size)) hsz7))))
        clear hT hh9 hb9 hb10 hba hb11 hbo hat hsz7
        have w71 := (HH.out.stay H9.out.2.2.1).c0
        have wn1 : IntKind.i64.wrap (((q + 1 : Nat) : Int) - 1) = ((q + 1 : Nat) : Int) - 1 := by have := HQ.out; rw [IntKind.wrap_i64]; omega
        have wn2 : IntKind.i64.wrap (((q + 1 : Nat) : Int) - 1 + (K : Int)) = ((q + 1 : Nat) : Int) - 1 + (K : Int) := by have := HQ.out; have := HNB.out; rw [IntKind.wrap_i64]; omega
        have wn3 : IntKind.i64.wrap (((q + 1 : Nat) : Int) - 1 + (K : Int) + (N : Int)) = ((q + 1 : Nat) : Int) - 1 + (K : Int) + (N : Int) := by have := HQ.out; have := HNB.out; rw [IntKind.wrap_i64]; omega
        have wo0 : (q : Int) + 1 - 1 = (q : Int) := by omega
        have wo1 : IntKind.i64.wrap ((q : Int) + 1 - 1) = (q : Int) := by have := HQ.out; rw [IntKind.wrap_i64]; omega
        have wo2 : IntKind.i64.wrap ((q : Int) + (K : Int)) = (q : Int) + (K : Int) := by have := HQ.out; have := HNB.out; rw [IntKind.wrap_i64]; omega
        have wo3 : IntKind.i64.wrap ((q : Int) + (K : Int) + (N : Int)) = (q : Int) + (K : Int) + (N : Int) := by have := HQ.out; have := HNB.out; rw [IntKind.wrap_i64]; omega
        have wo4 : IntKind.i64.wrap ((q : Int) + 1 - 1 + (K : Int)) = (q : Int) + (K : Int) := by have := HQ.out; have := HNB.out; rw [IntKind.wrap_i64]; omega
        have wo5 : IntKind.i64.wrap ((q : Int) + 1 - 1 + (K : Int) + (N : Int)) = (q : Int) + (K : Int) + (N : Int) := by have := HQ.out; have := HNB.out; rw [IntKind.wrap_i64]; omega
        go_wp2_with fail
        generalize w7.alloc (.cells #[.slice A9 n9 c9] 35) = w8 at *
        obtain ⟨bo, hbo⟩ : ∃ b, b = w7.heap.size := ⟨_, rfl⟩
        rw [← hbo] at H9 HL ⊢
        clear hbo w71 wn1 wn2 wn3 wo0 wo1 wo2 wo3 wo4 wo5
        have ew1 : wrap64 (q : Int) = (q : Int) := by unfold wrap64; have := HQ.out; omega
        have ew2 : wrap64 ((q : Int) + (K : Int)) = (q : Int) + (K : Int) := by unfold wrap64; have := HQ.out; have := HNB.out; omega
        have ew3 : wrap64 ((q : Int) + (K : Int) + (N : Int)) = (q : Int) + (K : Int) + (N : Int) := by unfold wrap64; have := HQ.out; have := HNB.out; omega
        have HWW := Lib.hid (show Value.int IntKind.i64 (wrap64 (wrap64 (wrap64 (q : Int) + (K : Int)) + (N : Int))) = Value.int IntKind.i64 ((q + 1 - 1 + K + N : Nat) : Int) from by rw [ew1, ew2, ew3]; rfl)
        clear ew1 ew2 ew3
        go_loopg [13, 14] bl (fun k sv jv wr => ∃ (j S : Nat) (Ao : Option Addr) (no co : Nat), jv = .int .i64 (j : Int) ∧ sv = .int .i64 (S : Int) ∧ j + k = bl ∧ S = (q + 1 - 1) + K + N + (sPutN bas (bs.take j) + sPutM bas (bs.take j)) ∧ HV7 wr bo Ao no co ∧ HAt (Fb (Fb F b1) bo) wr ((bs.take j).foldl sIns bas) Ao no co ∧ Below w1.heap.size w1 wr)
        case atStart => exact ⟨0, (q + 1 - 1) + K + N, A9, n9, c9, rfl, by first | rfl | (congr 1; omega) | exact HWW.out, by omega, by simp [sPutN, sPutM], H9.out.1, by rw [List.take_zero]; exact H9.out.2.1, H9.out.2.2.1⟩
        case round =>
          obtain ⟨j, S, Ao, no, co, rfl, rfl, hj, hS, hvo, hat, hbz⟩ := hrel
          have HBZ := Lib.hid (And.intro hbz (H.out.2.2.2.1.trans (hbz.mono H.out.2.2.2.1.size)))
          have a0 := (HH.out.stay hbz).c0
          have a3 := (HBZ.out.2.cell (p := ⟨b, of + q * 6 + 3, none⟩) HBW.out).trans HB.out.2.2
          have hpb := sPutN_le (bs.take j) bas
          rw [List.length_take] at hpb
          have HSB := Lib.hid (show S < 3000000000 ∧ S = (q + 1 - 1) + K + N + (sPutN bas (bs.take j) + sPutM bas (bs.take j)) ∧ j + gk = bl from ⟨by have := HNB.out; have := HQ.out; omega, hS, hj⟩)
          by_cases hlt : j < bl
          · have hjb : j < bs.length := by have := HNB.out; omega
            obtain ⟨eb, eo, eAb, -, hec⟩ := HB.out.2.1 (by rw [cellsE_length]; omega)
            subst eAb
            have hx := row_at (w := w) (b := eb) (o := eo) (xs := bs) (fun j v hj => hec j v hj) j hjb
            have hst := sfold_take bs bas j hjb
            have hsz := sfold_size (bs.take j) bas
            rw [List.length_take] at hsz
            generalize bs[j] = xx at *
            obtain ⟨i1, i2⟩ := xx
            have HX := Lib.hid hx
            have HST := Lib.hid (And.intro hst hsz)
            have HVO := Lib.hid (And.intro hvo hat)
            have g1 : decide ((j : Int) < (bl : Int)) = true := by simp; omega
            have g2 : (j : Int) < (bl : Int) := by omega
            have g3 : (0 : Int) ≤ (j : Int) := by omega
            have HJ := Lib.hid hlt
            have xq : (q : Int) < (q : Int) + 1 := by omega
            clear hx hst hsz hec hpb hS hj hjb hat hvo hlt
            have HS := Lib.hid (fun (w' : World) (hz : Below wr.heap.size wr w') => (show w'.cell? ⟨b0, 0, none⟩ = some (.slice (some ⟨b, of, none⟩) (q + 1) (q + 1)) ∧ w'.cell? ⟨b, of + q * 6 + 3, none⟩ = some (.slice (some ⟨eb, eo, none⟩) bl cb) ∧ w'.cell? ⟨eb, eo + j * 2, none⟩ = some (.int .i64 i1) ∧ w'.cell? ⟨eb, eo + j * 2 + 1, none⟩ = some (.int .i64 i2) ∧ w'.cell? ⟨bo, 0, none⟩ = some (.slice Ao no co) from by
              have hz1 := HBZ.out.2.trans (hz.mono HBZ.out.2.size)
              exact ⟨(HH.out.stay (HBZ.out.1.trans (hz.mono HBZ.out.1.size))).c0, (hz1.cell (p := ⟨b, of + q * 6 + 3, none⟩) HBW.out).trans HB.out.2.2, (hz1.cell (p := ⟨eb, _, none⟩) (block_lt_of_cell HX.out.1)).trans HX.out.1, (hz1.cell (p := ⟨eb, _, none⟩) (block_lt_of_cell HX.out.2)).trans HX.out.2, (HVO.out.1.stay hz).c0⟩))
            have HLO := Lib.hid (show bo < wr.heap.size ∧ b1 < wr.heap.size from ⟨lt_of_heap HVO.out.1, by have := HO.out; have := HBZ.out.1.size; omega⟩)
            clear hbz
            go_wp2_with fail
            refine wp_after (R := fun a a' w' => ∃ (u95 u96 u97 u98 u99 u100 u101 u102 u103 u104 u105 u94 u106 u107 : Value) (bg : Nat) (Az : Option Addr) (nz cz : Nat), a' = ((((((((((((((((a.put (some 95) u95).put (some 96) u96).put (some 97) u97).put (some 98) u98).put (some 99) u99).put (some 100) u100).put (some 101) u101).put (some 102) u102).put (some 103) u103).put (some 104) u104).put (some 105) u105).put (some 94) u94).put (some 106) u106).put (some 107) u107).put (some 15) (.pointer (some ⟨bg, 0, none⟩))).put (some 16) (.int .i64 ((sInsN ((bs.take j).foldl sIns bas) + sInsM ((bs.take j).foldl sIns bas) : Nat) : Int))) ∧ Below wr.heap.size wr w' ∧ HV7 w' bg Az nz cz ∧ HAt (Fb (Fb F b1) bo) w' (sIns ((bs.take j).foldl sIns bas) (i1, i2)) Az nz cz ∧ wr.heap.size ≤ bg) ?_ ?_
            · have hd0 : Below wr.heap.size wr wr.drew := (Below.refl _ _).drew
              refine wp_region_noPanic ?_
              refine wp_region_held_drew (S := fun w' => w'.cell? ⟨b0, 0, none⟩ = some (.slice (some ⟨b, of, none⟩) (q + 1) (q + 1)) ∧ w'.cell? ⟨b, of + q * 6 + 3, none⟩ = some (.slice (some ⟨eb, eo, none⟩) bl cb) ∧ w'.cell? ⟨eb, eo + j * 2, none⟩ = some (.int .i64 i1) ∧ w'.cell? ⟨eb, eo + j * 2 + 1, none⟩ = some (.int .i64 i2) ∧ w'.cell? ⟨bo, 0, none⟩ = some (.slice Ao no co)) (by kernel_rfl) (HS.out _ hd0) (fun hH => ?_)
              generalize wr.drew = wd at *
              refine wpAnyH_take (i := 0) (oi := { dst := some 95, op := Go.Op.fieldAddr 35 (Go.Operand.tmp 1) 0, type := 0, pos := "ref.go:63", after := #[], guard := none }) (v := ?v1_0_0) rfl (by as_aux_lemma => kernel_rfl) (by as_aux_lemma => kernel_rfl) (by as_aux_lemma => kernel_rfl) (fun _ _ _ h => h) (Or.inl ⟨(by as_aux_lemma => kernel_rfl), ?hy1_0_0⟩) hH ?rest1_0_0
              case hy1_0_0 => (intro w hSw; (try dsimp only at hSw); go_simp; try with_reducible rfl)
              try simp only [Act.put, List.setIfInBounds_toArray, List.set_cons_zero, List.set_cons_succ]
              refine wpAnyH_take (i := 1) (oi := { dst := some 96, op := Go.Op.load 33 (Go.Operand.tmp 95), type := 33, pos := "ref.go:63", after := #[{ on := 0, ground := Go.Ground.data }], guard := none }) (v := ?v1_0_1) rfl (by as_aux_lemma => kernel_rfl) (by as_aux_lemma => kernel_rfl) (by as_aux_lemma => kernel_rfl) (fun _ _ _ h => h) (Or.inl ⟨(by as_aux_lemma => kernel_rfl), ?hy1_0_1⟩) hH ?rest1_0_1
              case hy1_0_1 => (intro w hSw; (try dsimp only at hSw); go_simp; try with_reducible rfl)
              try simp only [Act.put, List.setIfInBounds_toArray, List.set_cons_zero, List.set_cons_succ]
              refine wpAnyH_take (i := 2) (oi := { dst := some 97, op := Go.Op.move (Go.Operand.tmp 4), type := 3, pos := "ref.go:63", after := #[], guard := none }) (v := ?v1_0_2) rfl (by as_aux_lemma => kernel_rfl) (by as_aux_lemma => kernel_rfl) (by as_aux_lemma => kernel_rfl) (fun _ _ _ h => h) (Or.inl ⟨(by as_aux_lemma => kernel_rfl), ?hy1_0_2⟩) hH ?rest1_0_2
              case hy1_0_2 => (intro w hSw; (try dsimp only at hSw); go_simp; try with_reducible rfl)
              try simp only [Act.put, List.setIfInBounds_toArray, List.set_cons_zero, List.set_cons_succ]
              refine wpAnyH_take (i := 3) (oi := { dst := some 98, op := Go.Op.indexAddr 33 (Go.Operand.tmp 96) (Go.Operand.tmp 97), type := 0, pos := "ref.go:63", after := #[{ on := 1, ground := Go.Ground.data }, { on := 2, ground := Go.Ground.data }], guard := none }) (v := ?v1_0_3) rfl (by as_aux_lemma => kernel_rfl) (by as_aux_lemma => kernel_rfl) (by as_aux_lemma => kernel_rfl) (fun _ _ _ h => h) (Or.inl ⟨(by as_aux_lemma => kernel_rfl), ?hy1_0_3⟩) hH ?rest1_0_3
              case hy1_0_3 => (intro w hSw; (try dsimp only at hSw); go_simp; try with_reducible rfl)
              try simp only [Act.put, List.setIfInBounds_toArray, List.set_cons_zero, List.set_cons_succ]
              refine wpAnyH_take (i := 4) (oi := { dst := some 99, op := Go.Op.fieldAddr 104 (Go.Operand.tmp 98) 2, type := 0, pos := "ref.go:63", after := #[{ on := 3, ground := Go.Ground.data }], guard := none }) (v := ?v1_0_4) rfl (by as_aux_lemma => kernel_rfl) (by as_aux_lemma => kernel_rfl) (by as_aux_lemma => kernel_rfl) (fun _ _ _ h => h) (Or.inl ⟨(by as_aux_lemma => kernel_rfl), ?hy1_0_4⟩) hH ?rest1_0_4
              case hy1_0_4 => (intro w hSw; (try dsimp only at hSw); go_simp; try with_reducible rfl)
              try simp only [Act.put, List.setIfInBounds_toArray, List.set_cons_zero, List.set_cons_succ]
              refine wpAnyH_take (i := 5) (oi := { dst := some 100, op := Go.Op.load 39 (Go.Operand.tmp 99), type := 39, pos := "ref.go:63", after := #[{ on := 4, ground := Go.Ground.data }], guard := none }) (v := ?v1_0_5) rfl (by as_aux_lemma => kernel_rfl) (by as_aux_lemma => kernel_rfl) (by as_aux_lemma => kernel_rfl) (fun _ _ _ h => h) (Or.inl ⟨(by as_aux_lemma => kernel_rfl), ?hy1_0_5⟩) hH ?rest1_0_5
              case hy1_0_5 => (intro w hSw; (try dsimp only at hSw); go_simp; try with_reducible rfl)
              try simp only [Act.put, List.setIfInBounds_toArray, List.set_cons_zero, List.set_cons_succ]
              refine wpAnyH_take (i := 6) (oi := { dst := some 101, op := Go.Op.move (Go.Operand.tmp 14), type := 3, pos := "ref.go:63", after := #[], guard := none }) (v := ?v1_0_6) rfl (by as_aux_lemma => kernel_rfl) (by as_aux_lemma => kernel_rfl) (by as_aux_lemma => kernel_rfl) (fun _ _ _ h => h) (Or.inl ⟨(by as_aux_lemma => kernel_rfl), ?hy1_0_6⟩) hH ?rest1_0_6
              case hy1_0_6 => (intro w hSw; (try dsimp only at hSw); go_simp; try with_reducible rfl)
              try simp only [Act.put, List.setIfInBounds_toArray, List.set_cons_zero, List.set_cons_succ]
              refine wpAnyH_take (i := 7) (oi := { dst := some 102, op := Go.Op.indexAddr 39 (Go.Operand.tmp 100) (Go.Operand.tmp 101), type := 0, pos := "ref.go:63", after := #[{ on := 5, ground := Go.Ground.data }, { on := 6, ground := Go.Ground.data }], guard := none }) (v := ?v1_0_7) rfl (by as_aux_lemma => kernel_rfl) (by as_aux_lemma => kernel_rfl) (by as_aux_lemma => kernel_rfl) (fun _ _ _ h => h) (Or.inl ⟨(by as_aux_lemma => kernel_rfl), ?hy1_0_7⟩) hH ?rest1_0_7
              case hy1_0_7 => (intro w hSw; (try dsimp only at hSw); go_simp; try with_reducible rfl)
              try simp only [Act.put, List.setIfInBounds_toArray, List.set_cons_zero, List.set_cons_succ]
              refine wpAnyH_take (i := 8) (oi := { dst := some 103, op := Go.Op.load 32 (Go.Operand.tmp 102), type := 32, pos := "ref.go:63", after := #[{ on := 7, ground := Go.Ground.data }], guard := none }) (v := ?v1_0_8) rfl (by as_aux_lemma => kernel_rfl) (by as_aux_lemma => kernel_rfl) (by as_aux_lemma => kernel_rfl) (fun _ _ _ h => h) (Or.inl ⟨(by as_aux_lemma => kernel_rfl), ?hy1_0_8⟩) hH ?rest1_0_8
              case hy1_0_8 => (intro w hSw; (try dsimp only at hSw); go_simp; try with_reducible rfl)
              try simp only [Act.put, List.setIfInBounds_toArray, List.set_cons_zero, List.set_cons_succ]
              refine wpAnyH_take (i := 9) (oi := { dst := some 104, op := Go.Op.load 35 (Go.Operand.tmp 12), type := 35, pos := "ref.go:63", after := #[], guard := none }) (v := ?v1_0_9) rfl (by as_aux_lemma => kernel_rfl) (by as_aux_lemma => kernel_rfl) (by as_aux_lemma => kernel_rfl) (fun _ _ _ h => h) (Or.inl ⟨(by as_aux_lemma => kernel_rfl), ?hy1_0_9⟩) hH ?rest1_0_9
              case hy1_0_9 => (intro w hSw; (try dsimp only at hSw); go_simp; try with_reducible rfl)
              try simp only [Act.put, List.setIfInBounds_toArray, List.set_cons_zero, List.set_cons_succ]
              refine wpAnyH_ready (rs := [10, 14]) (by as_aux_lemma => kernel_rfl) (by simp) ?_
              refine AllReadyH.cons (o := { dst := some 105, op := Go.Op.call { callee := Go.Callee.value (Go.Operand.func 27), args := #[Go.Operand.tmp 103, Go.Operand.tmp 104], argTypes := #[32, 35] }, type := 80, pos := "ref.go:63", after := #[{ on := 8, ground := Go.Ground.data }, { on := 9, ground := Go.Ground.data }], guard := none }) rfl (fun K hK => ?_) (AllReadyH.cons (o := { dst := some 15, op := Go.Op.alloc 35, type := 0, pos := "ref.go:63", after := #[], guard := none }) rfl (fun K hK => ?_) AllReadyH.nil)
              · have hFoA : ∀ k, wd.heap.size ≤ k → (Fb (Fb F b1) bo) k := fun k hk => Fb.of (Fb.of (H.out.1 k (by have := HLO.out; have := hd0.size; have := HO.out; omega)) (by have := HLO.out; have := hd0.size; omega)) (by have := HLO.out; have := hd0.size; omega)
                have rA := HVO.out.2.stay hd0
                go_simp
                go_at_call 27
                (with_reducible refine (refInsert9 _ ((bs.take j).foldl sIns bas) i1 i2 Ao no co _ hFoA (by have := HST.out.2; have := HD.out; omega) rA).mono ?_)
                rintro e w9 ⟨Az, nz, cz, rfl, ht9, hb9⟩
                refine hK.out _ _ ?_ (fun hH2 => ?_)
                · exact HS.out _ (hd0.trans (hb9.mono hd0.size))
                clear hK K hH
                have hH := hH2
                clear hH2
                have hbx0 := hd0.trans (hb9.mono hd0.size)
                try simp only [Act.put, List.setIfInBounds_toArray, List.set_cons_zero, List.set_cons_succ]
                refine wpAnyH_take (i := 11) (oi := { dst := some 94, op := Go.Op.move (Go.Operand.tmp 105), type := 80, pos := "ref.go:63", after := #[{ on := 10, ground := Go.Ground.data }], guard := none }) (v := ?v1_1_11) rfl (by as_aux_lemma => kernel_rfl) (by as_aux_lemma => kernel_rfl) (by as_aux_lemma => kernel_rfl) (fun _ _ _ h => h) (Or.inl ⟨(by as_aux_lemma => kernel_rfl), ?hy1_1_11⟩) hH ?rest1_1_11
                case hy1_1_11 => (intro w hSw; (try dsimp only at hSw); go_simp; try with_reducible rfl)
                try simp only [Act.put, List.setIfInBounds_toArray, List.set_cons_zero, List.set_cons_succ]
                refine wpAnyH_take (i := 12) (oi := { dst := some 106, op := Go.Op.extract (Go.Operand.tmp 94) 0, type := 35, pos := "ref.go:63", after := #[{ on := 11, ground := Go.Ground.data }], guard := none }) (v := ?v1_1_12) rfl (by as_aux_lemma => kernel_rfl) (by as_aux_lemma => kernel_rfl) (by as_aux_lemma => kernel_rfl) (fun _ _ _ h => h) (Or.inl ⟨(by as_aux_lemma => kernel_rfl), ?hy1_1_12⟩) hH ?rest1_1_12
                case hy1_1_12 => (intro w hSw; (try dsimp only at hSw); go_simp; try with_reducible rfl)
                try simp only [Act.put, List.setIfInBounds_toArray, List.set_cons_zero, List.set_cons_succ]
                refine wpAnyH_take (i := 13) (oi := { dst := some 107, op := Go.Op.extract (Go.Operand.tmp 94) 1, type := 3, pos := "ref.go:63", after := #[{ on := 11, ground := Go.Ground.data }, { on := 15, ground := Go.Ground.gcOnly Go.Departure.lateStores }], guard := none }) (v := ?v1_1_13) rfl (by as_aux_lemma => kernel_rfl) (by as_aux_lemma => kernel_rfl) (by as_aux_lemma => kernel_rfl) (fun _ _ _ h => h) (Or.inl ⟨(by as_aux_lemma => kernel_rfl), ?hy1_1_13⟩) hH ?rest1_1_13
                case hy1_1_13 => (intro w hSw; (try dsimp only at hSw); go_simp; try with_reducible rfl)
                try simp only [Act.put, List.setIfInBounds_toArray, List.set_cons_zero, List.set_cons_succ]
                refine wpAnyH_ready (rs := [14]) (by as_aux_lemma => kernel_rfl) (by simp) ?_
                refine AllReadyH.cons (o := { dst := some 15, op := Go.Op.alloc 35, type := 0, pos := "ref.go:63", after := #[], guard := none }) rfl (fun K hK => ?_) AllReadyH.nil
                go_simp
                refine hK.out _ _ ?_ (fun hH2 => ?_)
                · exact HS.out _ (hbx0.alloc hbx0.size _)
                clear hK K hH
                have hH := hH2
                clear hH2
                have hv : HV7 (w9.alloc (.cells #[.slice none 0 0] 35)) w9.heap.size none 0 0 := new_at rfl
                have hbx := hbx0.alloc hbx0.size (.cells #[.slice none 0 0] 35)
                have htx := ht9.far (F' := Fb (Fb (Fb F b1) bo) w9.heap.size) (W' := w9.alloc (.cells #[.slice none 0 0] 35)) ⟨fun k hk _ => ((Below.refl _ w9).alloc (Nat.le_refl _) _).block k hk, fun k hk hf => Fb.of hf (by omega)⟩
                have hSR0 : wr.heap.size ≤ w9.heap.size := hbx0.size
                obtain ⟨bg, hbv⟩ : ∃ b, b = w9.heap.size := ⟨_, rfl⟩
                rw [← hbv] at hv htx hSR0 ⊢
                have hSR := hSR0
                clear hbv hb9 ht9 hbx0 hSR0
                generalize w9.alloc (.cells #[.slice none 0 0] 35) = w10 at *
                try simp only [Act.put, List.setIfInBounds_toArray, List.set_cons_zero, List.set_cons_succ]
                have sv0 := hv.c0
                have sz0 := hv.z0
                refine wpAnyH_ready (rs := [15]) (by as_aux_lemma => kernel_rfl) (by simp) ?_
                refine AllReadyH.cons (o := { dst := none, op := Go.Op.store 35 (Go.Operand.tmp 15) (Go.Operand.tmp 106), type := 0, pos := "ref.go:63", after := #[{ on := 14, ground := Go.Ground.data }, { on := 12, ground := Go.Ground.data }, { on := 10, ground := Go.Ground.chain }, { on := 0, ground := Go.Ground.phase }, { on := 1, ground := Go.Ground.phase }, { on := 2, ground := Go.Ground.phase }, { on := 3, ground := Go.Ground.phase }, { on := 4, ground := Go.Ground.phase }, { on := 5, ground := Go.Ground.phase }, { on := 6, ground := Go.Ground.phase }, { on := 7, ground := Go.Ground.phase }, { on := 8, ground := Go.Ground.phase }, { on := 9, ground := Go.Ground.phase }, { on := 10, ground := Go.Ground.phase }, { on := 11, ground := Go.Ground.phase }, { on := 12, ground := Go.Ground.phase }, { on := 13, ground := Go.Ground.textOnly Go.Departure.lateStores }, { on := 14, ground := Go.Ground.phase }], guard := none }) rfl (fun K hK => ?_) AllReadyH.nil
                go_simp
                refine hK.out _ _ ?_ (fun hH2 => ?_)
                · exact HS.out _ (hbx.setCell (p := ⟨bg, 0, none⟩) hSR (.slice Az nz cz))
                clear hK K hH
                have hH := hH2
                clear hH2
                have hvz := hv.put Az nz cz
                have hbz := hbx.setCell (p := ⟨bg, 0, none⟩) hSR (.slice Az nz cz)
                have htz := HAt.set htx (.slice Az nz cz)
                clear sv0 sz0
                generalize w10.setCell ⟨bg, 0, none⟩ (.slice Az nz cz) = w11 at *
                try simp only [Act.put, List.setIfInBounds_toArray, List.set_cons_zero, List.set_cons_succ]
                refine wpAnyH_ready (rs := [16]) (by as_aux_lemma => kernel_rfl) (by simp) ?_
                refine AllReadyH.cons (o := { dst := some 16, op := Go.Op.assign (Go.Operand.tmp 107), type := 3, pos := "ref.go:63", after := #[{ on := 13, ground := Go.Ground.data }, { on := 15, ground := Go.Ground.chain }, { on := 0, ground := Go.Ground.phase }, { on := 1, ground := Go.Ground.phase }, { on := 2, ground := Go.Ground.phase }, { on := 3, ground := Go.Ground.phase }, { on := 4, ground := Go.Ground.phase }, { on := 5, ground := Go.Ground.phase }, { on := 6, ground := Go.Ground.phase }, { on := 7, ground := Go.Ground.phase }, { on := 8, ground := Go.Ground.phase }, { on := 9, ground := Go.Ground.phase }, { on := 10, ground := Go.Ground.phase }, { on := 11, ground := Go.Ground.phase }, { on := 12, ground := Go.Ground.phase }, { on := 13, ground := Go.Ground.phase }, { on := 14, ground := Go.Ground.phase }, { on := 15, ground := Go.Ground.phase }], guard := none }) rfl (fun K hK => ?_) AllReadyH.nil
                go_simp
                refine hK.out _ _ ?_ (fun hH2 => ?_)
                · exact HS.out _ hbz
                clear hK K hH
                have hH := hH2
                clear hH2
                try simp only [Act.put, List.setIfInBounds_toArray, List.set_cons_zero, List.set_cons_succ]
                refine wpAnyH_done (by as_aux_lemma => kernel_rfl) ?_ _
                refine NoPanic.normal ?_
                clear hH
                exact ⟨rfl, _, _, _, _, _, _, _, _, _, _, _, _, _, _, bg, Az, nz, cz, by (try simp only [Act.put, List.setIfInBounds_toArray, List.set_cons_zero, List.set_cons_succ]); rfl, hbz, hvz, htz, hSR⟩
              · go_simp
                refine hK.out _ _ ?_ (fun hH2 => ?_)
                · exact HS.out _ (hd0.alloc hd0.size _)
                clear hK K hH
                have hH := hH2
                clear hH2
                have hv : HV7 (wd.alloc (.cells #[.slice none 0 0] 35)) wd.heap.size none 0 0 := new_at rfl
                have hdx := hd0.alloc hd0.size (.cells #[.slice none 0 0] 35)
                have hsx : (wd.alloc (.cells #[.slice none 0 0] 35)).heap.size = wd.heap.size + 1 := by simp
                obtain ⟨bg, hbv⟩ : ∃ b, b = wd.heap.size := ⟨_, rfl⟩
                rw [← hbv] at hv hsx ⊢
                have hFo2 : ∀ k, (wd.alloc (.cells #[.slice none 0 0] 35)).heap.size ≤ k → Fb (Fb (Fb F b1) bo) bg k := fun k hk => Fb.of (Fb.of (Fb.of (H.out.1 k (by have := HLO.out; have := hd0.size; have := HO.out; omega)) (by have := HLO.out; have := hd0.size; omega)) (by have := HLO.out; have := hd0.size; omega)) (by omega)
                have hSR : wr.heap.size ≤ bg := by have := hd0.size; omega
                have r9 := (HVO.out.2.stay hd0).far (F' := Fb (Fb (Fb F b1) bo) bg) (W' := wd.alloc (.cells #[.slice none 0 0] 35)) ⟨fun k hk _ => ((Below.refl _ wd).alloc (Nat.le_refl _) _).block k hk, fun k hk hf => Fb.of hf (by omega)⟩
                clear hbv hsx
                generalize wd.alloc (.cells #[.slice none 0 0] 35) = wx at *
                try simp only [Act.put, List.setIfInBounds_toArray, List.set_cons_zero, List.set_cons_succ]
                refine wpAnyH_ready (rs := [10]) (by as_aux_lemma => kernel_rfl) (by simp) ?_
                refine AllReadyH.cons (o := { dst := some 105, op := Go.Op.call { callee := Go.Callee.value (Go.Operand.func 27), args := #[Go.Operand.tmp 103, Go.Operand.tmp 104], argTypes := #[32, 35] }, type := 80, pos := "ref.go:63", after := #[{ on := 8, ground := Go.Ground.data }, { on := 9, ground := Go.Ground.data }], guard := none }) rfl (fun K hK => ?_) AllReadyH.nil
                go_simp
                go_at_call 27
                (with_reducible refine (refInsert9 _ ((bs.take j).foldl sIns bas) i1 i2 Ao no co _ hFo2 (by have := HST.out.2; have := HD.out; omega) r9).mono ?_)
                rintro e w9 ⟨Az, nz, cz, rfl, ht9, hb9⟩
                refine hK.out _ _ ?_ (fun hH2 => ?_)
                · exact HS.out _ (hdx.trans (hb9.mono hdx.size))
                clear hK K hH
                have hH := hH2
                clear hH2
                have hbx := hdx.trans (hb9.mono hdx.size)
                replace hv := hv.stay hb9
                have htx := ht9
                clear hb9 ht9
                try simp only [Act.put, List.setIfInBounds_toArray, List.set_cons_zero, List.set_cons_succ]
                refine wpAnyH_take (i := 11) (oi := { dst := some 94, op := Go.Op.move (Go.Operand.tmp 105), type := 80, pos := "ref.go:63", after := #[{ on := 10, ground := Go.Ground.data }], guard := none }) (v := ?v1_2_11) rfl (by as_aux_lemma => kernel_rfl) (by as_aux_lemma => kernel_rfl) (by as_aux_lemma => kernel_rfl) (fun _ _ _ h => h) (Or.inl ⟨(by as_aux_lemma => kernel_rfl), ?hy1_2_11⟩) hH ?rest1_2_11
                case hy1_2_11 => (intro w hSw; (try dsimp only at hSw); go_simp; try with_reducible rfl)
                try simp only [Act.put, List.setIfInBounds_toArray, List.set_cons_zero, List.set_cons_succ]
                refine wpAnyH_take (i := 12) (oi := { dst := some 106, op := Go.Op.extract (Go.Operand.tmp 94) 0, type := 35, pos := "ref.go:63", after := #[{ on := 11, ground := Go.Ground.data }], guard := none }) (v := ?v1_2_12) rfl (by as_aux_lemma => kernel_rfl) (by as_aux_lemma => kernel_rfl) (by as_aux_lemma => kernel_rfl) (fun _ _ _ h => h) (Or.inl ⟨(by as_aux_lemma => kernel_rfl), ?hy1_2_12⟩) hH ?rest1_2_12
                case hy1_2_12 => (intro w hSw; (try dsimp only at hSw); go_simp; try with_reducible rfl)
                try simp only [Act.put, List.setIfInBounds_toArray, List.set_cons_zero, List.set_cons_succ]
                refine wpAnyH_take (i := 13) (oi := { dst := some 107, op := Go.Op.extract (Go.Operand.tmp 94) 1, type := 3, pos := "ref.go:63", after := #[{ on := 11, ground := Go.Ground.data }, { on := 15, ground := Go.Ground.gcOnly Go.Departure.lateStores }], guard := none }) (v := ?v1_2_13) rfl (by as_aux_lemma => kernel_rfl) (by as_aux_lemma => kernel_rfl) (by as_aux_lemma => kernel_rfl) (fun _ _ _ h => h) (Or.inl ⟨(by as_aux_lemma => kernel_rfl), ?hy1_2_13⟩) hH ?rest1_2_13
                case hy1_2_13 => (intro w hSw; (try dsimp only at hSw); go_simp; try with_reducible rfl)
                try simp only [Act.put, List.setIfInBounds_toArray, List.set_cons_zero, List.set_cons_succ]
                have sv0 := hv.c0
                have sz0 := hv.z0
                generalize w9 = w10 at *
                refine wpAnyH_ready (rs := [15]) (by as_aux_lemma => kernel_rfl) (by simp) ?_
                refine AllReadyH.cons (o := { dst := none, op := Go.Op.store 35 (Go.Operand.tmp 15) (Go.Operand.tmp 106), type := 0, pos := "ref.go:63", after := #[{ on := 14, ground := Go.Ground.data }, { on := 12, ground := Go.Ground.data }, { on := 10, ground := Go.Ground.chain }, { on := 0, ground := Go.Ground.phase }, { on := 1, ground := Go.Ground.phase }, { on := 2, ground := Go.Ground.phase }, { on := 3, ground := Go.Ground.phase }, { on := 4, ground := Go.Ground.phase }, { on := 5, ground := Go.Ground.phase }, { on := 6, ground := Go.Ground.phase }, { on := 7, ground := Go.Ground.phase }, { on := 8, ground := Go.Ground.phase }, { on := 9, ground := Go.Ground.phase }, { on := 10, ground := Go.Ground.phase }, { on := 11, ground := Go.Ground.phase }, { on := 12, ground := Go.Ground.phase }, { on := 13, ground := Go.Ground.textOnly Go.Departure.lateStores }, { on := 14, ground := Go.Ground.phase }], guard := none }) rfl (fun K hK => ?_) AllReadyH.nil
                go_simp
                refine hK.out _ _ ?_ (fun hH2 => ?_)
                · exact HS.out _ (hbx.setCell (p := ⟨bg, 0, none⟩) hSR (.slice Az nz cz))
                clear hK K hH
                have hH := hH2
                clear hH2
                have hvz := hv.put Az nz cz
                have hbz := hbx.setCell (p := ⟨bg, 0, none⟩) hSR (.slice Az nz cz)
                have htz := HAt.set htx (.slice Az nz cz)
                clear sv0 sz0
                generalize w10.setCell ⟨bg, 0, none⟩ (.slice Az nz cz) = w11 at *
                try simp only [Act.put, List.setIfInBounds_toArray, List.set_cons_zero, List.set_cons_succ]
                refine wpAnyH_ready (rs := [16]) (by as_aux_lemma => kernel_rfl) (by simp) ?_
                refine AllReadyH.cons (o := { dst := some 16, op := Go.Op.assign (Go.Operand.tmp 107), type := 3, pos := "ref.go:63", after := #[{ on := 13, ground := Go.Ground.data }, { on := 15, ground := Go.Ground.chain }, { on := 0, ground := Go.Ground.phase }, { on := 1, ground := Go.Ground.phase }, { on := 2, ground := Go.Ground.phase }, { on := 3, ground := Go.Ground.phase }, { on := 4, ground := Go.Ground.phase }, { on := 5, ground := Go.Ground.phase }, { on := 6, ground := Go.Ground.phase }, { on := 7, ground := Go.Ground.phase }, { on := 8, ground := Go.Ground.phase }, { on := 9, ground := Go.Ground.phase }, { on := 10, ground := Go.Ground.phase }, { on := 11, ground := Go.Ground.phase }, { on := 12, ground := Go.Ground.phase }, { on := 13, ground := Go.Ground.phase }, { on := 14, ground := Go.Ground.phase }, { on := 15, ground := Go.Ground.phase }], guard := none }) rfl (fun K hK => ?_) AllReadyH.nil
                go_simp
                refine hK.out _ _ ?_ (fun hH2 => ?_)
                · exact HS.out _ hbz
                clear hK K hH
                have hH := hH2
                clear hH2
                try simp only [Act.put, List.setIfInBounds_toArray, List.set_cons_zero, List.set_cons_succ]
                refine wpAnyH_done (by as_aux_lemma => kernel_rfl) ?_ _
                refine NoPanic.normal ?_
                clear hH
                exact ⟨rfl, _, _, _, _, _, _, _, _, _, _, _, _, _, _, bg, Az, nz, cz, by (try simp only [Act.put, List.setIfInBounds_toArray, List.set_cons_zero, List.set_cons_succ]); rfl, hbz, hvz, htz, hSR⟩
            rintro a' w' ⟨u95, u96, u97, u98, u99, u100, u101, u102, u103, u104, u105, u94, u106, u107, bg, Az, nz, cz, rfl, hbg, hvz, htz, hSR⟩
            try simp only [Act.put, List.setIfInBounds_toArray, List.set_cons_zero, List.set_cons_succ]
            have hvo2 := HVO.out.1.stay hbg
            have g0 := hvz.c0
            have k0 := hvo2.c0
            have kz := hvo2.z0
            have nbg : bg ≠ bo := by have := HLO.out; omega
            have hat2 := htz.far (F' := (Fb (Fb F b1) bo)) (W' := w'.setCell ⟨bo, 0, none⟩ (.slice Az nz cz)) ⟨fun k _ hf => Below.heap_setCell w' ⟨bo, 0, none⟩ _ k hf.2, fun _ _ hf => hf⟩
            have hbz2 := (HBZ.out.1.trans (hbg.mono HBZ.out.1.size)).setCell (p := ⟨bo, 0, none⟩) (by show _ ≤ bo; have := HL.out; omega) (.slice Az nz cz)
            have Y := Lib.hid (And.intro (hvo2.put Az nz cz) (And.intro hat2 hbz2))
            obtain ⟨d, hd⟩ : ∃ d, d = sInsN ((bs.take j).foldl sIns bas) + sInsM ((bs.take j).foldl sIns bas) := ⟨_, rfl⟩
            rw [← hd]
            have hd4 : d ≤ 4 := by have h1 := sInsN_le ((bs.take j).foldl sIns bas); have h2 := sInsM_le ((bs.take j).foldl sIns bas); omega
            have HDD := Lib.hid (And.intro hd hd4)
            have ws1 : IntKind.i64.wrap ((S : Int) + (d : Int)) = (S : Int) + (d : Int) := by have := HSB.out; rw [IntKind.wrap_i64]; omega
            have wj1 : IntKind.i64.wrap ((j : Int) + 1) = (j : Int) + 1 := by have := HSB.out; have := HNB.out; rw [IntKind.wrap_i64]; omega
            clear hvo2 hat2 hbz2 hd hd4 hbg hvz htz hSR
            go_wp2_with fail
            go_roundg (bl - 1 - j)
            case measure => have := HSB.out; have := HJ.out; omega
            case rel => exact ⟨j + 1, S + d, Az, nz, cz, by first | rfl | (congr 1; (first | omega | (unfold wrap64; omega))), by first | rfl | (congr 1; (first | omega | (unfold wrap64; omega))), by have := HSB.out; have := HJ.out; omega, by rw [HST.out.1.2, HSB.out.2.1, HDD.out.1]; omega, Y.out.1, HST.out.1.1 ▸ Y.out.2.1, Y.out.2.2⟩
          · have hjn : j = bl := by omega
            have g1 : decide ((j : Int) < (bl : Int)) = false := by simp; omega
            have g2 : ¬ (j : Int) < (bl : Int) := by omega
            have htk : bs.take j = bs := List.take_of_length_le (by have := HNB.out; omega)
            rw [htk] at hat hS
            have hz7 := HZ.out.stay hbz
            have v0 := hvo.c0
            have vz0 := hz7.c0
            have vz1 := hz7.z0
            have hz8 := hz7.put Ao no co
            have t0 := hz8.c0
            have hat2 := hat.far (F' := F) (W' := wr.setCell ⟨b1, 0, none⟩ (.slice Ao no co)) ⟨fun k _ hf => Below.heap_setCell wr ⟨b1, 0, none⟩ _ k hf.1.2, fun _ _ hf => hf.1.1⟩
            have hb12 := HBZ.out.2.setCell (p := ⟨b1, 0, none⟩) (by have := HO.out; show _ ≤ b1; omega) (.slice Ao no co)
            have Y := Lib.hid (And.intro hat2 (And.intro hb12 hS))
            clear hat hat2 hb12 hS hj htk hvo hz7 hz8 hbz hjn hlt hpb
            go_wp2_with fail
            refine bodyPost_ret (v := .tuple #[.agg #[.slice Ao no co], .int .i64 (S : Int)]) (by simp [results, Tryz.results33, go_sem, t0]) rfl ?_
            refine ⟨Ao, no, co, ?_, by rw [HD.out.1.1]; exact Y.out.1, Y.out.2.1⟩
            have hfin : S = sPopN l + sPopM l + q := by have h1 := Y.out.2.2; have h2 := HD.out.1.2; have h3 := HD.out.2.2.2.1; have h4 := HD.out.2.2.2.2.1; omega
            rw [hfin]
      · have hcat2 : CAt F w4 (some ⟨b, of + (q + 1) * 6, none⟩) (kc0.drop ((q + 1) * 6)) := by
          have hC := (H.out.2.2.2.2.2.1).far (Far.below (H.out.2.2.2.1.trans (H4.out.2.2.mono H.out.2.2.2.1.size)))
          intro hpos
          have hpl : 0 < kc0.length := by rw [List.length_drop] at hpos; omega
          obtain ⟨b', o', e1, hb', hc'⟩ := hC hpl
          cases e1
          exact ⟨b, of + (q + 1) * 6, rfl, hb', fun i v hv => by rw [List.getElem?_drop] at hv; have := hc' _ v hv; rwa [show of + ((q + 1) * 6 + i) = of + (q + 1) * 6 + i by omega] at this⟩
        obtain ⟨v5, w5, hrun2, hown5, hb5⟩ := append_T F w4 wr.heap.size v4 q _ H4.out.1 (some ⟨b, of + (q + 1) * 6, none⟩) (n - (q + 1)) (c - (q + 1)) (kc0.drop ((q + 1) * 6)) (by rw [List.length_drop, H.out.2.2.2.2.1.length, wood_len]; have := HQ.out; omega) (fun u hu => H.out.2.2.2.2.1.one u (List.mem_of_mem_drop hu)) hcat2 (fun e => by cases e) H4.out.2.1.size (by have := HQ.out; omega)
        have hrest : KL F w (wood (restAt l q)) (kc0.take (q * 6) ++ kc0.drop ((q + 1) * 6)) := KL.append (KL.takeW l kc0 q H.out.2.2.2.2.1) (KL.dropW l kc0 (q + 1) H.out.2.2.2.2.1)
        have hbz := H4.out.2.2.trans (hb5.mono (Nat.le_trans HBE.out.1.size (Nat.le_refl _)))
        have hbw5 := H.out.2.2.2.1.trans (hbz.mono H.out.2.2.2.1.size)
        have hfar : Far F (Fb F b1) w w5 := ⟨fun k hk _ => hbw5.block k hk, fun k hk hf => Fb.of hf (by have := HO.out; omega)⟩
        have hFb : ∀ k, w1.heap.size ≤ k → Fb F b1 k := fun k hk => Fb.of (H.out.1 k (by have := HO.out; omega)) (by have := HO.out; omega)
        have hown1 := hOwn.out.1.stay (H4.out.2.1.trans hb5)
        obtain ⟨A6, n6, c6, ekv, en6, hat1⟩ := hown1.hat hOwn.out.2 hfar hFb (by rw [List.length_reverse]; exact HNB.out.2.2.1.symm)
        subst ekv
        obtain ⟨A7, n7, c7, ev5, en7, hat2⟩ := hown5.hat hrest hfar (fun k hk => hFb k (Nat.le_trans HBE.out.1.size hk)) (by unfold restAt; rw [List.length_append, List.length_take, List.length_drop]; have := HQ.out; omega)
        subst ev5
        have H5 := Lib.hid (And.intro hat1 (And.intro hat2 (And.intro hbz (And.intro hbw5 hFb))))
        have x0 : q + 1 ≤ n := by have := HQ.out; omega
        have x1 : (q : Int) + 1 ≤ (n : Int) := by have := HQ.out; omega
        have x2 : ¬ (n : Int) < (q : Int) + 1 := by have := HQ.out; omega
        have x3 : q + 1 ≤ c := by have := HQ.out; omega
        have x4 : (q : Int) + 1 ≤ (c : Int) := by have := HQ.out; omega
        have x5 : ¬ c - (q + 1) = 0 := by have := HQ.out; omega
        have x6 : ¬ c ≤ q + 1 := by have := HQ.out; omega
        have x7 : q + 1 < c := by have := HQ.out; omega
        have x8 : (n : Int) ≤ (c : Int) := by have := HQ.out; omega
        have x9 : (0 : Int) ≤ (q : Int) + 1 := by have := HQ.out; omega
        have x10 : ¬ q + 1 = c := by have := HQ.out; omega
        have x20 : ((q : Int) + 1).toNat = q + 1 := by omega
        have HR := Lib.hid (And.intro hrun1 hrun2)
        clear hrun1 hrun2 hown5 hb5 hrest hbz hbw5 hfar hFb hown1 hat1 hat2 en7
        subst en6
        go_wp2_with (at_builtin; first | (refine wpList_append_run rfl _ _ _ rfl _ _ _ _ rfl rfl HR.out.1 ?_) | (refine wpList_append_run rfl _ _ _ rfl _ _ _ _ rfl rfl HR.out.2 ?_))
        ((with_reducible refine (refLevel (Fb F b1) (restAt l q) _ _ _ w5 (fun k hk => H5.out.2.2.2.2 k (Nat.le_trans H5.out.2.2.1.size hk)) (by have := HD.out.2.1; omega) H5.out.2.1).mono ?_); rintro e w6 ⟨A8, n8, c8, rfl, hh8, hb8⟩)
        rw [← HD.out.2.2.2.2.1]
        have hb9 := H5.out.2.2.1.trans (hb8.mono H5.out.2.2.1.size)
        have H8 := Lib.hid (And.intro hh8 (And.intro hb9 (And.intro (H.out.2.2.2.1.trans (hb9.mono H.out.2.2.2.1.size)) (H5.out.1.stay hb8))))
        clear hh8 hb8 hb9
        go_wp2_with fail
        have hT := refTrees ks.reverse (levT (restAt l q))
        unfold TreesR at hT
        ((with_reducible refine (hT (Fb F b1) _ _ _ _ _ _ w6 (fun k hk => H5.out.2.2.2.2 k (Nat.le_trans H8.out.2.1.size hk)) (by rw [levT_size]; have := HD.out.2.1; omega) H8.out.2.2.2 H8.out.1).mono ?_); rintro e w7 ⟨A9, n9, c9, rfl, hh9, hb9⟩)
        rw [← HD.out.2.2.2.1]
        rw [← HD.out.2.2.2.2.2.1] at hh9
        have hb10 := H8.out.2.1.trans (hb9.mono H8.out.2.1.size)
        have hba := (Below.refl w7.heap.size w7).alloc (Nat.le_refl _) (.cells #[.slice A9 n9 c9] 35)
        have hb11 := hb10.alloc hb10.size (.cells #[.slice A9 n9 c9] 35)
        have hbo : HV7 (w7.alloc (.cells #[.slice A9 n9 c9] 35)) w7.heap.size A9 n9 c9 := new_at rfl
        have hsz7 : (w7.alloc (.cells #[.slice A9 n9 c9] 35)).heap.size = w7.heap.size + 1 := by simp
        have HL := Lib.hid (show w1.heap.size ≤ w7.heap.size from hb10.size)
        have hat := hh9.far (F' := Fb (Fb F b1) w7.heap.size) (W' := w7.alloc (.cells #[.slice A9 n9 c9] 35)) ⟨fun k hk _ => hba.block k hk, fun k hk hf => Fb.of hf (by omega)⟩
        have H9 := Lib.hid (And.intro hbo (And.intro hat (And.intro hb11 (And.intro (H.out.2.2.2.1.trans (hb11.mono H.out.2.2.2.1.size)) hsz7))))
        clear hT hh9 hb9 hb10 hba hb11 hbo hat hsz7
        have w71 := (HH.out.stay H9.out.2.2.1).c0
        have wn1 : IntKind.i64.wrap ((n : Int) - 1) = (n : Int) - 1 := by have := HQ.out; rw [IntKind.wrap_i64]; omega
        have wn2 : IntKind.i64.wrap ((n : Int) - 1 + (K : Int)) = (n : Int) - 1 + (K : Int) := by have := HQ.out; have := HNB.out; rw [IntKind.wrap_i64]; omega
        have wn3 : IntKind.i64.wrap ((n : Int) - 1 + (K : Int) + (N : Int)) = (n : Int) - 1 + (K : Int) + (N : Int) := by have := HQ.out; have := HNB.out; rw [IntKind.wrap_i64]; omega
        go_wp2_with fail
        generalize w7.alloc (.cells #[.slice A9 n9 c9] 35) = w8 at *
        obtain ⟨bo, hbo⟩ : ∃ b, b = w7.heap.size := ⟨_, rfl⟩
        rw [← hbo] at H9 HL ⊢
        clear hbo w71 wn1 wn2 wn3
        go_loopg [13, 14] bl (fun k sv jv wr => ∃ (j S : Nat) (Ao : Option Addr) (no co : Nat), jv = .int .i64 (j : Int) ∧ sv = .int .i64 (S : Int) ∧ j + k = bl ∧ S = (n - 1) + K + N + (sPutN bas (bs.take j) + sPutM bas (bs.take j)) ∧ HV7 wr bo Ao no co ∧ HAt (Fb (Fb F b1) bo) wr ((bs.take j).foldl sIns bas) Ao no co ∧ Below w1.heap.size w1 wr)
        case atStart => exact ⟨0, (n - 1) + K + N, A9, n9, c9, rfl, by first | rfl | (congr 1; omega) | exact HWW.out, by omega, by simp [sPutN, sPutM], H9.out.1, by rw [List.take_zero]; exact H9.out.2.1, H9.out.2.2.1⟩
        case round =>
          obtain ⟨j, S, Ao, no, co, rfl, rfl, hj, hS, hvo, hat, hbz⟩ := hrel
          have HBZ := Lib.hid (And.intro hbz (H.out.2.2.2.1.trans (hbz.mono H.out.2.2.2.1.size)))
          have a0 := (HH.out.stay hbz).c0
          have a3 := (HBZ.out.2.cell (p := ⟨b, of + q * 6 + 3, none⟩) HBW.out).trans HB.out.2.2
          have hpb := sPutN_le (bs.take j) bas
          rw [List.length_take] at hpb
          have HSB := Lib.hid (show S < 3000000000 ∧ S = (n - 1) + K + N + (sPutN bas (bs.take j) + sPutM bas (bs.take j)) ∧ j + gk = bl from ⟨by have := HNB.out; have := HQ.out; omega, hS, hj⟩)
          by_cases hlt : j < bl
          · have hjb : j < bs.length := by have := HNB.out; omega
            obtain ⟨eb, eo, eAb, -, hec⟩ := HB.out.2.1 (by rw [cellsE_length]; omega)
            subst eAb
            have hx := row_at (w := w) (b := eb) (o := eo) (xs := bs) (fun j v hj => hec j v hj) j hjb
            have hst := sfold_take bs bas j hjb
            have hsz := sfold_size (bs.take j) bas
            rw [List.length_take] at hsz
            generalize bs[j] = xx at *
            obtain ⟨i1, i2⟩ := xx
            have HX := Lib.hid hx
            have HST := Lib.hid (And.intro hst hsz)
            have HVO := Lib.hid (And.intro hvo hat)
            have g1 : decide ((j : Int) < (bl : Int)) = true := by simp; omega
            have g2 : (j : Int) < (bl : Int) := by omega
            have g3 : (0 : Int) ≤ (j : Int) := by omega
            have HJ := Lib.hid hlt
            clear hx hst hsz hec hpb hS hj hjb hat hvo hlt
            have HS := Lib.hid (fun (w' : World) (hz : Below wr.heap.size wr w') => (show w'.cell? ⟨b0, 0, none⟩ = some (.slice (some ⟨b, of, none⟩) (n) (c)) ∧ w'.cell? ⟨b, of + q * 6 + 3, none⟩ = some (.slice (some ⟨eb, eo, none⟩) bl cb) ∧ w'.cell? ⟨eb, eo + j * 2, none⟩ = some (.int .i64 i1) ∧ w'.cell? ⟨eb, eo + j * 2 + 1, none⟩ = some (.int .i64 i2) ∧ w'.cell? ⟨bo, 0, none⟩ = some (.slice Ao no co) from by
              have hz1 := HBZ.out.2.trans (hz.mono HBZ.out.2.size)
              exact ⟨(HH.out.stay (HBZ.out.1.trans (hz.mono HBZ.out.1.size))).c0, (hz1.cell (p := ⟨b, of + q * 6 + 3, none⟩) HBW.out).trans HB.out.2.2, (hz1.cell (p := ⟨eb, _, none⟩) (block_lt_of_cell HX.out.1)).trans HX.out.1, (hz1.cell (p := ⟨eb, _, none⟩) (block_lt_of_cell HX.out.2)).trans HX.out.2, (HVO.out.1.stay hz).c0⟩))
            have HLO := Lib.hid (show bo < wr.heap.size ∧ b1 < wr.heap.size from ⟨lt_of_heap HVO.out.1, by have := HO.out; have := HBZ.out.1.size; omega⟩)
            clear hbz
            go_wp2_with fail
            refine wp_after (R := fun a a' w' => ∃ (u95 u96 u97 u98 u99 u100 u101 u102 u103 u104 u105 u94 u106 u107 : Value) (bg : Nat) (Az : Option Addr) (nz cz : Nat), a' = ((((((((((((((((a.put (some 95) u95).put (some 96) u96).put (some 97) u97).put (some 98) u98).put (some 99) u99).put (some 100) u100).put (some 101) u101).put (some 102) u102).put (some 103) u103).put (some 104) u104).put (some 105) u105).put (some 94) u94).put (some 106) u106).put (some 107) u107).put (some 15) (.pointer (some ⟨bg, 0, none⟩))).put (some 16) (.int .i64 ((sInsN ((bs.take j).foldl sIns bas) + sInsM ((bs.take j).foldl sIns bas) : Nat) : Int))) ∧ Below wr.heap.size wr w' ∧ HV7 w' bg Az nz cz ∧ HAt (Fb (Fb F b1) bo) w' (sIns ((bs.take j).foldl sIns bas) (i1, i2)) Az nz cz ∧ wr.heap.size ≤ bg) ?_ ?_
            · have hd0 : Below wr.heap.size wr wr.drew := (Below.refl _ _).drew
              refine wp_region_noPanic ?_
              refine wp_region_held_drew (S := fun w' => w'.cell? ⟨b0, 0, none⟩ = some (.slice (some ⟨b, of, none⟩) (n) (c)) ∧ w'.cell? ⟨b, of + q * 6 + 3, none⟩ = some (.slice (some ⟨eb, eo, none⟩) bl cb) ∧ w'.cell? ⟨eb, eo + j * 2, none⟩ = some (.int .i64 i1) ∧ w'.cell? ⟨eb, eo + j * 2 + 1, none⟩ = some (.int .i64 i2) ∧ w'.cell? ⟨bo, 0, none⟩ = some (.slice Ao no co)) (by kernel_rfl) (HS.out _ hd0) (fun hH => ?_)
              generalize wr.drew = wd at *
              refine wpAnyH_take (i := 0) (oi := { dst := some 95, op := Go.Op.fieldAddr 35 (Go.Operand.tmp 1) 0, type := 0, pos := "ref.go:63", after := #[], guard := none }) (v := ?v2_0_0) rfl (by as_aux_lemma => kernel_rfl) (by as_aux_lemma => kernel_rfl) (by as_aux_lemma => kernel_rfl) (fun _ _ _ h => h) (Or.inl ⟨(by as_aux_lemma => kernel_rfl), ?hy2_0_0⟩) hH ?rest2_0_0
              case hy2_0_0 => (intro w hSw; (try dsimp only at hSw); go_simp; try with_reducible rfl)
              try simp only [Act.put, List.setIfInBounds_toArray, List.set_cons_zero, List.set_cons_succ]
              refine wpAnyH_take (i := 1) (oi := { dst := some 96, op := Go.Op.load 33 (Go.Operand.tmp 95), type := 33, pos := "ref.go:63", after := #[{ on := 0, ground := Go.Ground.data }], guard := none }) (v := ?v2_0_1) rfl (by as_aux_lemma => kernel_rfl) (by as_aux_lemma => kernel_rfl) (by as_aux_lemma => kernel_rfl) (fun _ _ _ h => h) (Or.inl ⟨(by as_aux_lemma => kernel_rfl), ?hy2_0_1⟩) hH ?rest2_0_1
              case hy2_0_1 => (intro w hSw; (try dsimp only at hSw); go_simp; try with_reducible rfl)
              try simp only [Act.put, List.setIfInBounds_toArray, List.set_cons_zero, List.set_cons_succ]
              refine wpAnyH_take (i := 2) (oi := { dst := some 97, op := Go.Op.move (Go.Operand.tmp 4), type := 3, pos := "ref.go:63", after := #[], guard := none }) (v := ?v2_0_2) rfl (by as_aux_lemma => kernel_rfl) (by as_aux_lemma => kernel_rfl) (by as_aux_lemma => kernel_rfl) (fun _ _ _ h => h) (Or.inl ⟨(by as_aux_lemma => kernel_rfl), ?hy2_0_2⟩) hH ?rest2_0_2
              case hy2_0_2 => (intro w hSw; (try dsimp only at hSw); go_simp; try with_reducible rfl)
              try simp only [Act.put, List.setIfInBounds_toArray, List.set_cons_zero, List.set_cons_succ]
              refine wpAnyH_take (i := 3) (oi := { dst := some 98, op := Go.Op.indexAddr 33 (Go.Operand.tmp 96) (Go.Operand.tmp 97), type := 0, pos := "ref.go:63", after := #[{ on := 1, ground := Go.Ground.data }, { on := 2, ground := Go.Ground.data }], guard := none }) (v := ?v2_0_3) rfl (by as_aux_lemma => kernel_rfl) (by as_aux_lemma => kernel_rfl) (by as_aux_lemma => kernel_rfl) (fun _ _ _ h => h) (Or.inl ⟨(by as_aux_lemma => kernel_rfl), ?hy2_0_3⟩) hH ?rest2_0_3
              case hy2_0_3 => (intro w hSw; (try dsimp only at hSw); go_simp; try with_reducible rfl)
              try simp only [Act.put, List.setIfInBounds_toArray, List.set_cons_zero, List.set_cons_succ]
              refine wpAnyH_take (i := 4) (oi := { dst := some 99, op := Go.Op.fieldAddr 104 (Go.Operand.tmp 98) 2, type := 0, pos := "ref.go:63", after := #[{ on := 3, ground := Go.Ground.data }], guard := none }) (v := ?v2_0_4) rfl (by as_aux_lemma => kernel_rfl) (by as_aux_lemma => kernel_rfl) (by as_aux_lemma => kernel_rfl) (fun _ _ _ h => h) (Or.inl ⟨(by as_aux_lemma => kernel_rfl), ?hy2_0_4⟩) hH ?rest2_0_4
              case hy2_0_4 => (intro w hSw; (try dsimp only at hSw); go_simp; try with_reducible rfl)
              try simp only [Act.put, List.setIfInBounds_toArray, List.set_cons_zero, List.set_cons_succ]
              refine wpAnyH_take (i := 5) (oi := { dst := some 100, op := Go.Op.load 39 (Go.Operand.tmp 99), type := 39, pos := "ref.go:63", after := #[{ on := 4, ground := Go.Ground.data }], guard := none }) (v := ?v2_0_5) rfl (by as_aux_lemma => kernel_rfl) (by as_aux_lemma => kernel_rfl) (by as_aux_lemma => kernel_rfl) (fun _ _ _ h => h) (Or.inl ⟨(by as_aux_lemma => kernel_rfl), ?hy2_0_5⟩) hH ?rest2_0_5
              case hy2_0_5 => (intro w hSw; (try dsimp only at hSw); go_simp; try with_reducible rfl)
              try simp only [Act.put, List.setIfInBounds_toArray, List.set_cons_zero, List.set_cons_succ]
              refine wpAnyH_take (i := 6) (oi := { dst := some 101, op := Go.Op.move (Go.Operand.tmp 14), type := 3, pos := "ref.go:63", after := #[], guard := none }) (v := ?v2_0_6) rfl (by as_aux_lemma => kernel_rfl) (by as_aux_lemma => kernel_rfl) (by as_aux_lemma => kernel_rfl) (fun _ _ _ h => h) (Or.inl ⟨(by as_aux_lemma => kernel_rfl), ?hy2_0_6⟩) hH ?rest2_0_6
              case hy2_0_6 => (intro w hSw; (try dsimp only at hSw); go_simp; try with_reducible rfl)
              try simp only [Act.put, List.setIfInBounds_toArray, List.set_cons_zero, List.set_cons_succ]
              refine wpAnyH_take (i := 7) (oi := { dst := some 102, op := Go.Op.indexAddr 39 (Go.Operand.tmp 100) (Go.Operand.tmp 101), type := 0, pos := "ref.go:63", after := #[{ on := 5, ground := Go.Ground.data }, { on := 6, ground := Go.Ground.data }], guard := none }) (v := ?v2_0_7) rfl (by as_aux_lemma => kernel_rfl) (by as_aux_lemma => kernel_rfl) (by as_aux_lemma => kernel_rfl) (fun _ _ _ h => h) (Or.inl ⟨(by as_aux_lemma => kernel_rfl), ?hy2_0_7⟩) hH ?rest2_0_7
              case hy2_0_7 => (intro w hSw; (try dsimp only at hSw); go_simp; try with_reducible rfl)
              try simp only [Act.put, List.setIfInBounds_toArray, List.set_cons_zero, List.set_cons_succ]
              refine wpAnyH_take (i := 8) (oi := { dst := some 103, op := Go.Op.load 32 (Go.Operand.tmp 102), type := 32, pos := "ref.go:63", after := #[{ on := 7, ground := Go.Ground.data }], guard := none }) (v := ?v2_0_8) rfl (by as_aux_lemma => kernel_rfl) (by as_aux_lemma => kernel_rfl) (by as_aux_lemma => kernel_rfl) (fun _ _ _ h => h) (Or.inl ⟨(by as_aux_lemma => kernel_rfl), ?hy2_0_8⟩) hH ?rest2_0_8
              case hy2_0_8 => (intro w hSw; (try dsimp only at hSw); go_simp; try with_reducible rfl)
              try simp only [Act.put, List.setIfInBounds_toArray, List.set_cons_zero, List.set_cons_succ]
              refine wpAnyH_take (i := 9) (oi := { dst := some 104, op := Go.Op.load 35 (Go.Operand.tmp 12), type := 35, pos := "ref.go:63", after := #[], guard := none }) (v := ?v2_0_9) rfl (by as_aux_lemma => kernel_rfl) (by as_aux_lemma => kernel_rfl) (by as_aux_lemma => kernel_rfl) (fun _ _ _ h => h) (Or.inl ⟨(by as_aux_lemma => kernel_rfl), ?hy2_0_9⟩) hH ?rest2_0_9
              case hy2_0_9 => (intro w hSw; (try dsimp only at hSw); go_simp; try with_reducible rfl)
              try simp only [Act.put, List.setIfInBounds_toArray, List.set_cons_zero, List.set_cons_succ]
              refine wpAnyH_ready (rs := [10, 14]) (by as_aux_lemma => kernel_rfl) (by simp) ?_
              refine AllReadyH.cons (o := { dst := some 105, op := Go.Op.call { callee := Go.Callee.value (Go.Operand.func 27), args := #[Go.Operand.tmp 103, Go.Operand.tmp 104], argTypes := #[32, 35] }, type := 80, pos := "ref.go:63", after := #[{ on := 8, ground := Go.Ground.data }, { on := 9, ground := Go.Ground.data }], guard := none }) rfl (fun K hK => ?_) (AllReadyH.cons (o := { dst := some 15, op := Go.Op.alloc 35, type := 0, pos := "ref.go:63", after := #[], guard := none }) rfl (fun K hK => ?_) AllReadyH.nil)
              · have hFoA : ∀ k, wd.heap.size ≤ k → (Fb (Fb F b1) bo) k := fun k hk => Fb.of (Fb.of (H.out.1 k (by have := HLO.out; have := hd0.size; have := HO.out; omega)) (by have := HLO.out; have := hd0.size; omega)) (by have := HLO.out; have := hd0.size; omega)
                have rA := HVO.out.2.stay hd0
                go_simp
                go_at_call 27
                (with_reducible refine (refInsert9 _ ((bs.take j).foldl sIns bas) i1 i2 Ao no co _ hFoA (by have := HST.out.2; have := HD.out; omega) rA).mono ?_)
                rintro e w9 ⟨Az, nz, cz, rfl, ht9, hb9⟩
                refine hK.out _ _ ?_ (fun hH2 => ?_)
                · exact HS.out _ (hd0.trans (hb9.mono hd0.size))
                clear hK K hH
                have hH := hH2
                clear hH2
                have hbx0 := hd0.trans (hb9.mono hd0.size)
                try simp only [Act.put, List.setIfInBounds_toArray, List.set_cons_zero, List.set_cons_succ]
                refine wpAnyH_take (i := 11) (oi := { dst := some 94, op := Go.Op.move (Go.Operand.tmp 105), type := 80, pos := "ref.go:63", after := #[{ on := 10, ground := Go.Ground.data }], guard := none }) (v := ?v2_1_11) rfl (by as_aux_lemma => kernel_rfl) (by as_aux_lemma => kernel_rfl) (by as_aux_lemma => kernel_rfl) (fun _ _ _ h => h) (Or.inl ⟨(by as_aux_lemma => kernel_rfl), ?hy2_1_11⟩) hH ?rest2_1_11
                case hy2_1_11 => (intro w hSw; (try dsimp only at hSw); go_simp; try with_reducible rfl)
                try simp only [Act.put, List.setIfInBounds_toArray, List.set_cons_zero, List.set_cons_succ]
                refine wpAnyH_take (i := 12) (oi := { dst := some 106, op := Go.Op.extract (Go.Operand.tmp 94) 0, type := 35, pos := "ref.go:63", after := #[{ on := 11, ground := Go.Ground.data }], guard := none }) (v := ?v2_1_12) rfl (by as_aux_lemma => kernel_rfl) (by as_aux_lemma => kernel_rfl) (by as_aux_lemma => kernel_rfl) (fun _ _ _ h => h) (Or.inl ⟨(by as_aux_lemma => kernel_rfl), ?hy2_1_12⟩) hH ?rest2_1_12
                case hy2_1_12 => (intro w hSw; (try dsimp only at hSw); go_simp; try with_reducible rfl)
                try simp only [Act.put, List.setIfInBounds_toArray, List.set_cons_zero, List.set_cons_succ]
                refine wpAnyH_take (i := 13) (oi := { dst := some 107, op := Go.Op.extract (Go.Operand.tmp 94) 1, type := 3, pos := "ref.go:63", after := #[{ on := 11, ground := Go.Ground.data }, { on := 15, ground := Go.Ground.gcOnly Go.Departure.lateStores }], guard := none }) (v := ?v2_1_13) rfl (by as_aux_lemma => kernel_rfl) (by as_aux_lemma => kernel_rfl) (by as_aux_lemma => kernel_rfl) (fun _ _ _ h => h) (Or.inl ⟨(by as_aux_lemma => kernel_rfl), ?hy2_1_13⟩) hH ?rest2_1_13
                case hy2_1_13 => (intro w hSw; (try dsimp only at hSw); go_simp; try with_reducible rfl)
                try simp only [Act.put, List.setIfInBounds_toArray, List.set_cons_zero, List.set_cons_succ]
                refine wpAnyH_ready (rs := [14]) (by as_aux_lemma => kernel_rfl) (by simp) ?_
                refine AllReadyH.cons (o := { dst := some 15, op := Go.Op.alloc 35, type := 0, pos := "ref.go:63", after := #[], guard := none }) rfl (fun K hK => ?_) AllReadyH.nil
                go_simp
                refine hK.out _ _ ?_ (fun hH2 => ?_)
                · exact HS.out _ (hbx0.alloc hbx0.size _)
                clear hK K hH
                have hH := hH2
                clear hH2
                have hv : HV7 (w9.alloc (.cells #[.slice none 0 0] 35)) w9.heap.size none 0 0 := new_at rfl
                have hbx := hbx0.alloc hbx0.size (.cells #[.slice none 0 0] 35)
                have htx := ht9.far (F' := Fb (Fb (Fb F b1) bo) w9.heap.size) (W' := w9.alloc (.cells #[.slice none 0 0] 35)) ⟨fun k hk _ => ((Below.refl _ w9).alloc (Nat.le_refl _) _).block k hk, fun k hk hf => Fb.of hf (by omega)⟩
                have hSR0 : wr.heap.size ≤ w9.heap.size := hbx0.size
                obtain ⟨bg, hbv⟩ : ∃ b, b = w9.heap.size := ⟨_, rfl⟩
                rw [← hbv] at hv htx hSR0 ⊢
                have hSR := hSR0
                clear hbv hb9 ht9 hbx0 hSR0
                generalize w9.alloc (.cells #[.slice none 0 0] 35) = w10 at *
                try simp only [Act.put, List.setIfInBounds_toArray, List.set_cons_zero, List.set_cons_succ]
                have sv0 := hv.c0
                have sz0 := hv.z0
                refine wpAnyH_ready (rs := [15]) (by as_aux_lemma => kernel_rfl) (by simp) ?_
                refine AllReadyH.cons (o := { dst := none, op := Go.Op.store 35 (Go.Operand.tmp 15) (Go.Operand.tmp 106), type := 0, pos := "ref.go:63", after := #[{ on := 14, ground := Go.Ground.data }, { on := 12, ground := Go.Ground.data }, { on := 10, ground := Go.Ground.chain }, { on := 0, ground := Go.Ground.phase }, { on := 1, ground := Go.Ground.phase }, { on := 2, ground := Go.Ground.phase }, { on := 3, ground := Go.Ground.phase }, { on := 4, ground := Go.Ground.phase }, { on := 5, ground := Go.Ground.phase }, { on := 6, ground := Go.Ground.phase }, { on := 7, ground := Go.Ground.phase }, { on := 8, ground := Go.Ground.phase }, { on := 9, ground := Go.Ground.phase }, { on := 10, ground := Go.Ground.phase }, { on := 11, ground := Go.Ground.phase }, { on := 12, ground := Go.Ground.phase }, { on := 13, ground := Go.Ground.textOnly Go.Departure.lateStores }, { on := 14, ground := Go.Ground.phase }], guard := none }) rfl (fun K hK => ?_) AllReadyH.nil
                go_simp
                refine hK.out _ _ ?_ (fun hH2 => ?_)
                · exact HS.out _ (hbx.setCell (p := ⟨bg, 0, none⟩) hSR (.slice Az nz cz))
                clear hK K hH
                have hH := hH2
                clear hH2
                have hvz := hv.put Az nz cz
                have hbz := hbx.setCell (p := ⟨bg, 0, none⟩) hSR (.slice Az nz cz)
                have htz := HAt.set htx (.slice Az nz cz)
                clear sv0 sz0
                generalize w10.setCell ⟨bg, 0, none⟩ (.slice Az nz cz) = w11 at *
                try simp only [Act.put, List.setIfInBounds_toArray, List.set_cons_zero, List.set_cons_succ]
                refine wpAnyH_ready (rs := [16]) (by as_aux_lemma => kernel_rfl) (by simp) ?_
                refine AllReadyH.cons (o := { dst := some 16, op := Go.Op.assign (Go.Operand.tmp 107), type := 3, pos := "ref.go:63", after := #[{ on := 13, ground := Go.Ground.data }, { on := 15, ground := Go.Ground.chain }, { on := 0, ground := Go.Ground.phase }, { on := 1, ground := Go.Ground.phase }, { on := 2, ground := Go.Ground.phase }, { on := 3, ground := Go.Ground.phase }, { on := 4, ground := Go.Ground.phase }, { on := 5, ground := Go.Ground.phase }, { on := 6, ground := Go.Ground.phase }, { on := 7, ground := Go.Ground.phase }, { on := 8, ground := Go.Ground.phase }, { on := 9, ground := Go.Ground.phase }, { on := 10, ground := Go.Ground.phase }, { on := 11, ground := Go.Ground.phase }, { on := 12, ground := Go.Ground.phase }, { on := 13, ground := Go.Ground.phase }, { on := 14, ground := Go.Ground.phase }, { on := 15, ground := Go.Ground.phase }], guard := none }) rfl (fun K hK => ?_) AllReadyH.nil
                go_simp
                refine hK.out _ _ ?_ (fun hH2 => ?_)
                · exact HS.out _ hbz
                clear hK K hH
                have hH := hH2
                clear hH2
                try simp only [Act.put, List.setIfInBounds_toArray, List.set_cons_zero, List.set_cons_succ]
                refine wpAnyH_done (by as_aux_lemma => kernel_rfl) ?_ _
                refine NoPanic.normal ?_
                clear hH
                exact ⟨rfl, _, _, _, _, _, _, _, _, _, _, _, _, _, _, bg, Az, nz, cz, by (try simp only [Act.put, List.setIfInBounds_toArray, List.set_cons_zero, List.set_cons_succ]); rfl, hbz, hvz, htz, hSR⟩
              · go_simp
                refine hK.out _ _ ?_ (fun hH2 => ?_)
                · exact HS.out _ (hd0.alloc hd0.size _)
                clear hK K hH
                have hH := hH2
                clear hH2
                have hv : HV7 (wd.alloc (.cells #[.slice none 0 0] 35)) wd.heap.size none 0 0 := new_at rfl
                have hdx := hd0.alloc hd0.size (.cells #[.slice none 0 0] 35)
                have hsx : (wd.alloc (.cells #[.slice none 0 0] 35)).heap.size = wd.heap.size + 1 := by simp
                obtain ⟨bg, hbv⟩ : ∃ b, b = wd.heap.size := ⟨_, rfl⟩
                rw [← hbv] at hv hsx ⊢
                have hFo2 : ∀ k, (wd.alloc (.cells #[.slice none 0 0] 35)).heap.size ≤ k → Fb (Fb (Fb F b1) bo) bg k := fun k hk => Fb.of (Fb.of (Fb.of (H.out.1 k (by have := HLO.out; have := hd0.size; have := HO.out; omega)) (by have := HLO.out; have := hd0.size; omega)) (by have := HLO.out; have := hd0.size; omega)) (by omega)
                have hSR : wr.heap.size ≤ bg := by have := hd0.size; omega
                have r9 := (HVO.out.2.stay hd0).far (F' := Fb (Fb (Fb F b1) bo) bg) (W' := wd.alloc (.cells #[.slice none 0 0] 35)) ⟨fun k hk _ => ((Below.refl _ wd).alloc (Nat.le_refl _) _).block k hk, fun k hk hf => Fb.of hf (by omega)⟩
                clear hbv hsx
                generalize wd.alloc (.cells #[.slice none 0 0] 35) = wx at *
                try simp only [Act.put, List.setIfInBounds_toArray, List.set_cons_zero, List.set_cons_succ]
                refine wpAnyH_ready (rs := [10]) (by as_aux_lemma => kernel_rfl) (by simp) ?_
                refine AllReadyH.cons (o := { dst := some 105, op := Go.Op.call { callee := Go.Callee.value (Go.Operand.func 27), args := #[Go.Operand.tmp 103, Go.Operand.tmp 104], argTypes := #[32, 35] }, type := 80, pos := "ref.go:63", after := #[{ on := 8, ground := Go.Ground.data }, { on := 9, ground := Go.Ground.data }], guard := none }) rfl (fun K hK => ?_) AllReadyH.nil
                go_simp
                go_at_call 27
                (with_reducible refine (refInsert9 _ ((bs.take j).foldl sIns bas) i1 i2 Ao no co _ hFo2 (by have := HST.out.2; have := HD.out; omega) r9).mono ?_)
                rintro e w9 ⟨Az, nz, cz, rfl, ht9, hb9⟩
                refine hK.out _ _ ?_ (fun hH2 => ?_)
                · exact HS.out _ (hdx.trans (hb9.mono hdx.size))
                clear hK K hH
                have hH := hH2
                clear hH2
                have hbx := hdx.trans (hb9.mono hdx.size)
                replace hv := hv.stay hb9
                have htx := ht9
                clear hb9 ht9
                try simp only [Act.put, List.setIfInBounds_toArray, List.set_cons_zero, List.set_cons_succ]
                refine wpAnyH_take (i := 11) (oi := { dst := some 94, op := Go.Op.move (Go.Operand.tmp 105), type := 80, pos := "ref.go:63", after := #[{ on := 10, ground := Go.Ground.data }], guard := none }) (v := ?v2_2_11) rfl (by as_aux_lemma => kernel_rfl) (by as_aux_lemma => kernel_rfl) (by as_aux_lemma => kernel_rfl) (fun _ _ _ h => h) (Or.inl ⟨(by as_aux_lemma => kernel_rfl), ?hy2_2_11⟩) hH ?rest2_2_11
                case hy2_2_11 => (intro w hSw; (try dsimp only at hSw); go_simp; try with_reducible rfl)
                try simp only [Act.put, List.setIfInBounds_toArray, List.set_cons_zero, List.set_cons_succ]
                refine wpAnyH_take (i := 12) (oi := { dst := some 106, op := Go.Op.extract (Go.Operand.tmp 94) 0, type := 35, pos := "ref.go:63", after := #[{ on := 11, ground := Go.Ground.data }], guard := none }) (v := ?v2_2_12) rfl (by as_aux_lemma => kernel_rfl) (by as_aux_lemma => kernel_rfl) (by as_aux_lemma => kernel_rfl) (fun _ _ _ h => h) (Or.inl ⟨(by as_aux_lemma => kernel_rfl), ?hy2_2_12⟩) hH ?rest2_2_12
                case hy2_2_12 => (intro w hSw; (try dsimp only at hSw); go_simp; try with_reducible rfl)
                try simp only [Act.put, List.setIfInBounds_toArray, List.set_cons_zero, List.set_cons_succ]
                refine wpAnyH_take (i := 13) (oi := { dst := some 107, op := Go.Op.extract (Go.Operand.tmp 94) 1, type := 3, pos := "ref.go:63", after := #[{ on := 11, ground := Go.Ground.data }, { on := 15, ground := Go.Ground.gcOnly Go.Departure.lateStores }], guard := none }) (v := ?v2_2_13) rfl (by as_aux_lemma => kernel_rfl) (by as_aux_lemma => kernel_rfl) (by as_aux_lemma => kernel_rfl) (fun _ _ _ h => h) (Or.inl ⟨(by as_aux_lemma => kernel_rfl), ?hy2_2_13⟩) hH ?rest2_2_13
                case hy2_2_13 => (intro w hSw; (try dsimp only at hSw); go_simp; try with_reducible rfl)
                try simp only [Act.put, List.setIfInBounds_toArray, List.set_cons_zero, List.set_cons_succ]
                have sv0 := hv.c0
                have sz0 := hv.z0
                generalize w9 = w10 at *
                refine wpAnyH_ready (rs := [15]) (by as_aux_lemma => kernel_rfl) (by simp) ?_
                refine AllReadyH.cons (o := { dst := none, op := Go.Op.store 35 (Go.Operand.tmp 15) (Go.Operand.tmp 106), type := 0, pos := "ref.go:63", after := #[{ on := 14, ground := Go.Ground.data }, { on := 12, ground := Go.Ground.data }, { on := 10, ground := Go.Ground.chain }, { on := 0, ground := Go.Ground.phase }, { on := 1, ground := Go.Ground.phase }, { on := 2, ground := Go.Ground.phase }, { on := 3, ground := Go.Ground.phase }, { on := 4, ground := Go.Ground.phase }, { on := 5, ground := Go.Ground.phase }, { on := 6, ground := Go.Ground.phase }, { on := 7, ground := Go.Ground.phase }, { on := 8, ground := Go.Ground.phase }, { on := 9, ground := Go.Ground.phase }, { on := 10, ground := Go.Ground.phase }, { on := 11, ground := Go.Ground.phase }, { on := 12, ground := Go.Ground.phase }, { on := 13, ground := Go.Ground.textOnly Go.Departure.lateStores }, { on := 14, ground := Go.Ground.phase }], guard := none }) rfl (fun K hK => ?_) AllReadyH.nil
                go_simp
                refine hK.out _ _ ?_ (fun hH2 => ?_)
                · exact HS.out _ (hbx.setCell (p := ⟨bg, 0, none⟩) hSR (.slice Az nz cz))
                clear hK K hH
                have hH := hH2
                clear hH2
                have hvz := hv.put Az nz cz
                have hbz := hbx.setCell (p := ⟨bg, 0, none⟩) hSR (.slice Az nz cz)
                have htz := HAt.set htx (.slice Az nz cz)
                clear sv0 sz0
                generalize w10.setCell ⟨bg, 0, none⟩ (.slice Az nz cz) = w11 at *
                try simp only [Act.put, List.setIfInBounds_toArray, List.set_cons_zero, List.set_cons_succ]
                refine wpAnyH_ready (rs := [16]) (by as_aux_lemma => kernel_rfl) (by simp) ?_
                refine AllReadyH.cons (o := { dst := some 16, op := Go.Op.assign (Go.Operand.tmp 107), type := 3, pos := "ref.go:63", after := #[{ on := 13, ground := Go.Ground.data }, { on := 15, ground := Go.Ground.chain }, { on := 0, ground := Go.Ground.phase }, { on := 1, ground := Go.Ground.phase }, { on := 2, ground := Go.Ground.phase }, { on := 3, ground := Go.Ground.phase }, { on := 4, ground := Go.Ground.phase }, { on := 5, ground := Go.Ground.phase }, { on := 6, ground := Go.Ground.phase }, { on := 7, ground := Go.Ground.phase }, { on := 8, ground := Go.Ground.phase }, { on := 9, ground := Go.Ground.phase }, { on := 10, ground := Go.Ground.phase }, { on := 11, ground := Go.Ground.phase }, { on := 12, ground := Go.Ground.phase }, { on := 13, ground := Go.Ground.phase }, { on := 14, ground := Go.Ground.phase }, { on := 15, ground := Go.Ground.phase }], guard := none }) rfl (fun K hK => ?_) AllReadyH.nil
                go_simp
                refine hK.out _ _ ?_ (fun hH2 => ?_)
                · exact HS.out _ hbz
                clear hK K hH
                have hH := hH2
                clear hH2
                try simp only [Act.put, List.setIfInBounds_toArray, List.set_cons_zero, List.set_cons_succ]
                refine wpAnyH_done (by as_aux_lemma => kernel_rfl) ?_ _
                refine NoPanic.normal ?_
                clear hH
                exact ⟨rfl, _, _, _, _, _, _, _, _, _, _, _, _, _, _, bg, Az, nz, cz, by (try simp only [Act.put, List.setIfInBounds_toArray, List.set_cons_zero, List.set_cons_succ]); rfl, hbz, hvz, htz, hSR⟩
            rintro a' w' ⟨u95, u96, u97, u98, u99, u100, u101, u102, u103, u104, u105, u94, u106, u107, bg, Az, nz, cz, rfl, hbg, hvz, htz, hSR⟩
            try simp only [Act.put, List.setIfInBounds_toArray, List.set_cons_zero, List.set_cons_succ]
            have hvo2 := HVO.out.1.stay hbg
            have g0 := hvz.c0
            have k0 := hvo2.c0
            have kz := hvo2.z0
            have nbg : bg ≠ bo := by have := HLO.out; omega
            have hat2 := htz.far (F' := (Fb (Fb F b1) bo)) (W' := w'.setCell ⟨bo, 0, none⟩ (.slice Az nz cz)) ⟨fun k _ hf => Below.heap_setCell w' ⟨bo, 0, none⟩ _ k hf.2, fun _ _ hf => hf⟩
            have hbz2 := (HBZ.out.1.trans (hbg.mono HBZ.out.1.size)).setCell (p := ⟨bo, 0, none⟩) (by show _ ≤ bo; have := HL.out; omega) (.slice Az nz cz)
            have Y := Lib.hid (And.intro (hvo2.put Az nz cz) (And.intro hat2 hbz2))
            obtain ⟨d, hd⟩ : ∃ d, d = sInsN ((bs.take j).foldl sIns bas) + sInsM ((bs.take j).foldl sIns bas) := ⟨_, rfl⟩
            rw [← hd]
            have hd4 : d ≤ 4 := by have h1 := sInsN_le ((bs.take j).foldl sIns bas); have h2 := sInsM_le ((bs.take j).foldl sIns bas); omega
            have HDD := Lib.hid (And.intro hd hd4)
            have ws1 : IntKind.i64.wrap ((S : Int) + (d : Int)) = (S : Int) + (d : Int) := by have := HSB.out; rw [IntKind.wrap_i64]; omega
            have wj1 : IntKind.i64.wrap ((j : Int) + 1) = (j : Int) + 1 := by have := HSB.out; have := HNB.out; rw [IntKind.wrap_i64]; omega
            clear hvo2 hat2 hbz2 hd hd4 hbg hvz htz hSR
            go_wp2_with fail
            go_roundg (bl - 1 - j)
            case measure => have := HSB.out; have := HJ.out; omega
            case rel => exact ⟨j + 1, S + d, Az, nz, cz, by first | rfl | (congr 1; (first | omega | (unfold wrap64; omega))), by first | rfl | (congr 1; (first | omega | (unfold wrap64; omega))), by have := HSB.out; have := HJ.out; omega, by rw [HST.out.1.2, HSB.out.2.1, HDD.out.1]; omega, Y.out.1, HST.out.1.1 ▸ Y.out.2.1, Y.out.2.2⟩
          · have hjn : j = bl := by omega
            have g1 : decide ((j : Int) < (bl : Int)) = false := by simp; omega
            have g2 : ¬ (j : Int) < (bl : Int) := by omega
            have htk : bs.take j = bs := List.take_of_length_le (by have := HNB.out; omega)
            rw [htk] at hat hS
            have hz7 := HZ.out.stay hbz
            have v0 := hvo.c0
            have vz0 := hz7.c0
            have vz1 := hz7.z0
            have hz8 := hz7.put Ao no co
            have t0 := hz8.c0
            have hat2 := hat.far (F' := F) (W' := wr.setCell ⟨b1, 0, none⟩ (.slice Ao no co)) ⟨fun k _ hf => Below.heap_setCell wr ⟨b1, 0, none⟩ _ k hf.1.2, fun _ _ hf => hf.1.1⟩
            have hb12 := HBZ.out.2.setCell (p := ⟨b1, 0, none⟩) (by have := HO.out; show _ ≤ b1; omega) (.slice Ao no co)
            have Y := Lib.hid (And.intro hat2 (And.intro hb12 hS))
            clear hat hat2 hb12 hS hj htk hvo hz7 hz8 hbz hjn hlt hpb
            go_wp2_with fail
            refine bodyPost_ret (v := .tuple #[.agg #[.slice Ao no co], .int .i64 (S : Int)]) (by simp [results, Tryz.results33, go_sem, t0]) rfl ?_
            refine ⟨Ao, no, co, ?_, by rw [HD.out.1.1]; exact Y.out.1, Y.out.2.1⟩
            have hfin : S = sPopN l + sPopM l + (n - 1) := by have h1 := Y.out.2.2; have h2 := HD.out.1.2; have h3 := HD.out.2.2.2.1; have h4 := HD.out.2.2.2.2.1; omega
            rw [hfin]

end Go.Proofs.YtaeainnkhjnlaaaGreatDoor.Hp
