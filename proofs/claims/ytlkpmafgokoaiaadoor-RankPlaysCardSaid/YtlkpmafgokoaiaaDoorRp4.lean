/-
  The walk of the statement RankPlays: for any acts it returns true, and nothing that was there has changed, in any world where the library's table is as it is laid.
-/
import Derived.Test.YtlkpmafgokoaiaaDoorRp3
namespace Go.Proofs.YtlkpmafgokoaiaaDoor
open Go.Sort Go.RowKit

set_option maxRecDepth 100000 in
set_option maxHeartbeats 64000000 in
theorem plays_any (A : Option Addr) (n c : Nat) (X : Nat → ActR) (w : World) (he : Env w) (hr : ActRowR w A n X) (hX : ∀ i, i < n → (X i).ok) :
    Calls Tryd.prog 3 #[.slice A n c] w fun e w' => e = .returned (.bool true) ∧ Below w.heap.size w w' := by
  have H := Lib.hid (And.intro he (And.intro hr hX))
  clear he hr hX
  by_cases h24 : 24 < n
  · have g1 : decide ((24 : Int) < (n : Int)) = true := by simp; omega
    have g2 : (24 : Int) < (n : Int) := by omega
    go_enter Tryd.func3, Tryd.ntmps3
    go_wp2_with fail
    ((with_reducible refine (awake_any _ H.out.1).mono ?_); rintro e w1 ⟨rfl, hb1⟩)
    go_wp2_with fail
    go_ret
    exact ⟨rfl, hb1⟩
  · have g1 : decide ((24 : Int) < (n : Int)) = false := by simp; omega
    have g2 : ¬ ((24 : Int) < (n : Int)) := by omega
    go_enter Tryd.func3, Tryd.ntmps3
    go_wp2_with fail
    ((with_reducible refine (awake_any _ H.out.1).mono ?_); rintro e w1 ⟨rfl, hb1⟩)
    have B1 := Lib.hid hb1
    clear hb1
    go_wp2_with fail
    ((with_reducible refine (mNew _).mono ?_); rintro e w2 ⟨rfl, hm2, hb2⟩)
    have O2 := Lib.hid (Own1.mk (B1.out.trans (hb2.mono B1.out.size)) B1.out.size hm2)
    obtain ⟨mb, hmb⟩ : ∃ mb, mb = w1.heap.size := ⟨_, rfl⟩
    rw [← hmb] at O2
    rw [← hmb]
    clear hmb hm2 hb2 B1 g1 g2
    go_wp2_with fail
    go_loopg [5, 6, 7, 8, 9, 10, 11, 12, 13, 14, 15, 16, 17] n (fun k u v sv iv _ _ _ _ _ _ _ _ _ wr => ∃ (i st : Nat) (ps : List (Option Addr)) (ts : List (Option Tre)) (cs : List Value) (c m : Int), iv = .int .i64 (i : Int) ∧ sv = .int .i64 (st : Int) ∧ i + k = n ∧ Rel w mb u v i st ps ts cs c m wr)
    case atStart => exact ⟨0, 0, _, _, _, 0, 0, rfl, rfl, by omega, St.start O2.out, Trees.start, rfl, by omega, by omega, by omega, by omega⟩
    case round =>
      clear O2
      obtain ⟨i, st, ps, ts, cs, cc, mm, rfl, rfl, hk, hrel⟩ := hrel
      obtain ⟨gu, cu, gv, cv, rfl, rfl, ⟨hgu, hgu1, hgu2⟩, hgv, hgv1, hgv2⟩ := hrel.blocks
      obtain ⟨L, hL⟩ : ∃ L, L = i + 1 := ⟨_, rfl⟩
      rw [← hL] at hrel hgu1 hgv1 ⊢
      by_cases hlt : i < n
      · obtain ⟨b0, o, rfl, hrow⟩ := H.out.2.1 (by omega)
        have hok := H.out.2.2 i hlt
        have hc := hrow i hlt
        have up : ∀ (j : Nat) (z : Value), w.cell? ⟨b0, j, none⟩ = some z → wr.cell? ⟨b0, j, none⟩ = some z := fun j z h => (hrel.here.o1.below.cell (p := ⟨b0, j, none⟩) (block_lt_of_cell h)).trans h
        have hb0 : b0 < w.heap.size := block_lt_of_cell hc.1
        have e0 := up _ _ hc.1
        have e1 := up _ _ hc.2.1
        have e2 := up _ _ hc.2.2.1
        have e3 := up _ _ hc.2.2.2.1
        have e4 := up _ _ hc.2.2.2.2
        clear up hrow hc
        generalize X i = y at *
        obtain ⟨yk, ya, yb, ⟨y1, y2⟩⟩ := y
        obtain ⟨q0, q1, q2, q3⟩ := hok
        simp only at q0 q1 q2 q3 e0 e1 e2 e3 e4
        have hLn : L ≤ 24 := by omega
        have hL1 : 0 < L := by omega
        obtain ⟨ja, hja⟩ : ∃ j, j = ya % L := ⟨_, rfl⟩
        obtain ⟨jb, hjb⟩ : ∃ j, j = yb % L := ⟨_, rfl⟩
        have hjaL : ja < L := by rw [hja]; exact Nat.mod_lt _ hL1
        have hjbL : jb < L := by rw [hjb]; exact Nat.mod_lt _ hL1
        have r1 : ((ya : Int)).tmod (L : Int) = (ja : Int) := by rw [hja]; exact (Int.ofNat_tmod ya L).symm
        have r2 : ((yb : Int)).tmod (L : Int) = (jb : Int) := by rw [hjb]; exact (Int.ofNat_tmod yb L).symm
        have z1 : ((L : Int) == 0) = false := by simp; omega
        have i0 : (0 : Int) ≤ (i : Int) := by omega
        have i1 : (i : Int) < (n : Int) := by omega
        have i2 : decide ((i : Int) < (n : Int)) = true := by simp; omega
        have i3 : decide (i < n) = true := by simp; omega
        have wi : IntKind.i64.wrap ((i : Int) + 1) = (i : Int) + 1 := by rw [IntKind.wrap_i64]; omega
        obtain ⟨ta, pa, ra, xa, Aa, Aa', na, ka, na', ka', hma, ⟨hTa, ca⟩, ⟨a0, a1, a2, a3, a4, a5⟩, hRa⟩ := hrel.at hL hjaL
        obtain ⟨tb, pb, rb, xb, Ab, Ab', nb, kb, nb', kb', hmb, ⟨hTb, cb⟩, ⟨b0', b1, b2, b3, b4, b5⟩, hRb⟩ := hrel.at hL hjbL
        have hsa := hrel.tr.small _ hma
        have hsb := hrel.tr.small _ hmb
        have hfa := hrel.tr.fits _ hma
        have hfb := hrel.tr.fits _ hmb
        have A1 := Lib.hid (And.intro hrel (And.intro hL (And.intro hk (And.intro (show L ≤ 24 ∧ i < n ∧ ja < L ∧ jb < L ∧ n ≤ 24 from ⟨hLn, hlt, hjaL, hjbL, by omega⟩) (And.intro q3 (And.intro hTa (And.intro hTb (And.intro hRa (And.intro hRb (And.intro hfa hfb))))))))))
        have hgm : gv ≠ mb ∧ gu ≠ mb ∧ b0 ≠ mb := by
          have h1 := hrel.here.v_mb
          have h2 := hrel.here.u_mb
          simp only [Value.ownBlock, ne_eq, Option.some.injEq] at h1 h2
          have h3 := hrel.here.o1.own
          exact ⟨h1, h2, by omega⟩
        have HC := Lib.hid (fun W (hb : Bt (some mb) wr W) => show (W.cell? ⟨b0, o + i * 5, none⟩ = some (.int .u8 yk) ∧ W.cell? ⟨b0, o + i * 5 + 3, none⟩ = some (.int .i64 y1) ∧ W.cell? ⟨b0, o + i * 5 + 4, none⟩ = some (.int .i64 y2)) ∧ (W.cell? ⟨gu, ja, none⟩ = some (.pointer pa) ∧ W.cell? ⟨gu, jb, none⟩ = some (.pointer pb)) ∧
            (W.cell? ⟨gv, ja * 6, none⟩ = some (.int .i64 ra) ∧ W.cell? ⟨gv, ja * 6 + 1, none⟩ = some (.int .i64 xa.1) ∧ W.cell? ⟨gv, ja * 6 + 2, none⟩ = some (.int .i64 xa.2) ∧ W.cell? ⟨gv, ja * 6 + 3, none⟩ = some (.slice Aa na ka) ∧ W.cell? ⟨gv, ja * 6 + 4, none⟩ = some (.slice Aa' na' ka') ∧ W.cell? ⟨gv, ja * 6 + 5, none⟩ = some (.int .i64 (osize ta : Nat))) ∧
            (W.cell? ⟨gv, jb * 6, none⟩ = some (.int .i64 rb) ∧ W.cell? ⟨gv, jb * 6 + 1, none⟩ = some (.int .i64 xb.1) ∧ W.cell? ⟨gv, jb * 6 + 2, none⟩ = some (.int .i64 xb.2) ∧ W.cell? ⟨gv, jb * 6 + 3, none⟩ = some (.slice Ab nb kb) ∧ W.cell? ⟨gv, jb * 6 + 4, none⟩ = some (.slice Ab' nb' kb') ∧ W.cell? ⟨gv, jb * 6 + 5, none⟩ = some (.int .i64 (osize tb : Nat))) from by
          have hm0 : ∀ b, (some mb : Option Nat) = some b → b0 ≠ b := fun b e => by injection e with e; subst e; exact hgm.2.2
          have hmu : ∀ b, (some mb : Option Nat) = some b → gu ≠ b := fun b e => by injection e with e; subst e; exact hgm.2.1
          have hmv : ∀ b, (some mb : Option Nat) = some b → gv ≠ b := fun b e => by injection e with e; subst e; exact hgm.1
          exact ⟨⟨hb.cell e0 hm0, hb.cell e3 hm0, hb.cell e4 hm0⟩, ⟨hb.cell ca hmu, hb.cell cb hmu⟩, ⟨hb.cell a0 hmv, hb.cell a1 hmv, hb.cell a2 hmv, hb.cell a3 hmv, hb.cell a4 hmv, hb.cell a5 hmv⟩, hb.cell b0' hmv, hb.cell b1 hmv, hb.cell b2 hmv, hb.cell b3 hmv, hb.cell b4 hmv, hb.cell b5 hmv⟩)
        have wk : IntKind.i64.wrap ((osize ta : Int) + (osize tb : Int)) = (osize ta : Int) + (osize tb : Int) := by rw [IntKind.wrap_i64]; omega
        have k1 : (0 : Int) ≤ (ja : Int) := by omega
        have k2 : (ja : Int) < (L : Int) := by omega
        have k3 : (0 : Int) ≤ (jb : Int) := by omega
        have k4 : (jb : Int) < (L : Int) := by omega
        have HH := Lib.hid H.out.1
        clear hb0 hrel hL hk hTa hTb hRa hRb hfa hfb hma hmb hja hjb hLn hgm ca cb a0 a1 a2 a3 a4 b0' b1 b2 b3 b4 e3 e4
        go_wp2_with fail
        by_cases htot : 200 < osize ta + osize tb
        · have g1 : decide ((200 : Int) < (osize ta : Int) + (osize tb : Int)) = true := by simp; omega
          have g2 : (200 : Int) < (osize ta : Int) + (osize tb : Int) := by omega
          go_quiet (fail)
          go_wp2_with fail
          go_ret
          exact ⟨rfl, below_drawn A1.out.1.here.o1.below⟩
        · have g1 : decide ((200 : Int) < (osize ta : Int) + (osize tb : Int)) = false := by simp; omega
          have g2 : ¬ ((200 : Int) < (osize ta : Int) + (osize tb : Int)) := by omega
          go_quiet (fail)
          clear g1 g2 wk e0 e1 e2 a5 b5 r1 r2 z1
          have HT := Lib.hid htot
          clear htot
          have B2 := Lib.hid (show Below wr.heap.size wr (wr.drewN nq) from below_drewN wr nq)
          generalize wr.drewN nq = wd at *
          obtain ⟨⟨e0, e3, e4⟩, -⟩ := HC.out _ (Bt.ofBelow B2.out)
          go_wp2_with fail
          ((with_reducible refine (refLeaf_any (Fp (.slice (some ⟨gu, 0, none⟩) L cu) (.slice (some ⟨gv, 0, none⟩) L cv) mb) (y1, y2) _).mono ?_); rintro e w3 ⟨V, rfl, hV, hb3⟩)
          obtain ⟨rl, ⟨l1, l2⟩, Al, Al', nl, kl, nl', kl', rfl⟩ := hV.size
          have hb4 := (Below.refl w3.heap.size w3).alloc (Nat.le_refl _) (.cells #[.int .i64 rl, .int .i64 l1, .int .i64 l2, .slice Al nl kl, .slice Al' nl' kl', .int .i64 (osize (some (leafT (y1, y2))) : Nat)] 32)
          have X4 := hex_at (new_at (W := w3) (o := .cells #[.int .i64 rl, .int .i64 l1, .int .i64 l2, .slice Al nl kl, .slice Al' nl' kl', .int .i64 (osize (some (leafT (y1, y2))) : Nat)] 32) rfl)
          have hbr3 : Below wr.heap.size wr w3 := B2.out.trans (hb3.mono B2.out.size)
          have hbr4 := hbr3.trans (hb4.mono hbr3.size)
          have Z4 := new_at (W := w3) (o := .cells #[.int .i64 rl, .int .i64 l1, .int .i64 l2, .slice Al nl kl, .slice Al' nl' kl', .int .i64 (osize (some (leafT (y1, y2))) : Nat)] 32) rfl
          have E0 := Lib.hid hbr3.size
          have V4 := Lib.hid (hV.stay hb4)
          have S4 := Lib.hid (A1.out.1.here.stay hbr4)
          have B4 := Lib.hid hbr4
          have D5 := Lib.hid (show (Fp (.slice (some ⟨gu, 0, none⟩) L cu) (.slice (some ⟨gv, 0, none⟩) L cv) mb) w3.heap.size from by
            have h1 := hbr3.size
            refine ⟨?_, ?_, ?_⟩
            · simp only [Value.ownBlock, ne_eq, Option.some.injEq]; omega
            · simp only [Value.ownBlock, ne_eq, Option.some.injEq]; omega
            · have := lt_of_heap (show wr.heap[mb]? = _ from A1.out.1.here.o1.mt); omega)
          obtain ⟨⟨f0, f3, f4⟩, ⟨g0, g1⟩, -⟩ := HC.out _ (Bt.ofBelow hbr4)
          clear hb3 hV hb4 hbr3 hbr4 e0 e3 e4 B2
          unfold tV
          by_cases hk0 : yk = 0
          · subst hk0
            go_wp2_with fail
            generalize w3.alloc (.cells #[.int .i64 rl, .int .i64 l1, .int .i64 l2, .slice Al nl kl, .slice Al' nl' kl', .int .i64 (osize (some (leafT (y1, y2))) : Nat)] 32) = w4 at *
            ((with_reducible refine (leaf_any (some mb) cc mm (y1, y2) _ S4.out.o1.mt (by have := A1.out.1.cm; omega) (by have := A1.out.1.cm; have := A1.out.2.2.2.1; omega)).mono ?_); rintro e w5 ⟨p5, rfl, ht5, hm5, hb5⟩)
            have S5 := Lib.hid (S4.out.turn hm5 hb5)
            have T5 := Lib.hid ht5
            have X5 := X4.keep (hb5.block _ (block_lt_of_cell X4.c0) (fun e => by injection e with e; exact D5.out.2.2 e.symm))
            have V5 := Lib.hid (V4.out.far (bt_far (fun hf => hf.2.2 rfl) hb5))
            obtain ⟨nn, hnn⟩ : ∃ nn : Nat, nn = 1 := ⟨_, rfl⟩
            have C5 := Lib.hid (show cc + (mm + 1) = (st : Int) + (nn : Int) ∧ 0 ≤ cc ∧ cc ≤ 2 * (i + 1 : Nat) ∧ 0 ≤ mm + 1 ∧ mm + 1 ≤ 2 * (i + 1 : Nat) ∧ nn ≤ 4 from by have := A1.out.1.cm; omega)
            have G5 := Lib.hid (show osize (some (leafT (y1, y2))) ≤ 201 ∧ fits (oall (some (leafT (y1, y2)))) from ⟨by simp [osize, leafT_size], leafT_fits' (y1, y2) A1.out.2.2.2.2.1⟩)
            rw [show (Value.int IntKind.i64 1) = .int .i64 (nn : Int) from by rw [hnn]; rfl]
            clear hm5 hb5 ht5 S4 V4 X4 hnn f0 f3 f4 g0 g1
            obtain ⟨u6, w6', hrun6, S6, F6⟩ := push_u S5.out T5.out (by have := A1.out; rw [A1.out.1.here.tl.len, A1.out.1.tr.len]; omega)
            have X6 := X5.keep (F6.keep _ (block_lt_of_cell X5.c0) D5.out)
            obtain ⟨v7, w7', cs7, hrun7, S7⟩ := push_v S6 rfl (V5.out.far F6) (by have := A1.out; rw [A1.out.1.tr.len]; omega)
            have Q7 := Lib.hid S7
            have ws : IntKind.i64.wrap ((st : Int) + (nn : Int)) = (st : Int) + (nn : Int) := by have := C5.out; have := A1.out.1.cm; have := A1.out.2.2.2.1; rw [IntKind.wrap_i64]; omega
            clear S6 F6 S7 X5
            go_wp2_with (first
              | (refine wpList_load_hex rfl _ rfl _ rfl X6 ?_)
              | (at_builtin; first | (refine wpList_append_run rfl _ _ _ rfl _ _ _ _ rfl rfl hrun6 ?_) | (refine wpList_append_run rfl _ _ _ rfl _ _ _ _ rfl rfl hrun7 ?_))
              | (go_at_call 16; ((with_reducible refine (mSteps mb _ _ w7' Q7.out.o1.mt (by have := C5.out; omega) (by have := C5.out; have := A1.out.2.2.2.1; omega) (by have := C5.out; omega) (by have := C5.out; have := A1.out.2.2.2.1; omega)).mono ?_); rintro e w8' ⟨rfl, hb8⟩; rw [C5.out.1]; have Q8 := Lib.hid (Q7.out.stay hb8); clear hb8)))
            go_roundg (n - (i + 1))
            case measure => have := A1.out; omega
            case rel => exact ⟨i + 1, st + nn, _, _, _, _, _, by congr 1, by congr 1, by have := A1.out; omega, Q8.out, A1.out.1.tr.snoc G5.out.1 G5.out.2, by rw [C5.out.1]; rfl, by have := C5.out; omega, by have := C5.out; omega, by have := C5.out; omega, by have := C5.out; omega⟩
          · have E3 := Lib.hid (show wr.heap.size ≤ w3.heap.size from E0.out)
            by_cases hk1 : yk = 1
            · subst hk1
              have HK := Lib.hid (show osize ta < 536870912 ∧ osize tb < 536870912 ∧ osize ta < 268435456 ∧ osize tb < 268435456 from ⟨by omega, by omega, by omega, by omega⟩)
              have HCM := Lib.hid (show 0 ≤ cc ∧ cc < 2305843009213693952 ∧ 0 ≤ mm ∧ mm < 2305843009213693952 from by have := A1.out.1.cm; have := A1.out.2.2.2.1; omega)
              have hN : lnkN ta tb ≤ 1 := by cases ta <;> cases tb <;> simp [lnkN]
              obtain ⟨nn, hnn⟩ : ∃ nn : Nat, nn = 2 * lnkN ta tb := ⟨_, rfl⟩
              have HN := Lib.hid (show nn = 2 * lnkN ta tb ∧ lnkN ta tb ≤ 1 from ⟨hnn, hN⟩)
              clear hnn hN
              go_wp2_with fail
              generalize w3.alloc (.cells #[.int .i64 rl, .int .i64 l1, .int .i64 l2, .slice Al nl kl, .slice Al' nl' kl', .int .i64 (osize (some (leafT (y1, y2))) : Nat)] 32) = w4 at *
              go_region_held3 (fun w' => w'.cell? ⟨gu, ja, none⟩ = some (.pointer pa) ∧ w'.cell? ⟨gu, jb, none⟩ = some (.pointer pb)) (go_keep)
                (first | (go_at_call 12; have hd : Below wr.heap.size wr w4.drew := B4.out.trans ((Below.refl _ w4).drew.mono B4.out.size); (with_reducible refine (link_any (some mb) cc mm pa pb ta tb _ (A1.out.1.here.stay hd).o1.mt HCM.out.1 HCM.out.2.1 HCM.out.2.2.1 HCM.out.2.2.2 (A1.out.2.2.2.2.2.1.stay hd) (A1.out.2.2.2.2.2.2.1.stay hd) HK.out.1 HK.out.2.1).mono ?_); rintro e w5 ⟨p5, rfl, ht5, hm5, hb5⟩; have hB5 : Bt (some mb) wr w5 := (Bt.ofBelow hd).trans hb5; have Z5 := (hb5.block _ (lt_of_heap (show w4.drew.heap[w3.heap.size]? = _ from Z4)) (fun e => by injection e with e; exact D5.out.2.2 e.symm)).trans (show w4.drew.heap[w3.heap.size]? = _ from Z4); obtain ⟨⟨-, h3, h4⟩, ⟨h5, h6⟩, ⟨c0, c1, c2, c3, c4, c5⟩, ⟨d0, d1, d2, d3, d4, d5⟩⟩ := HC.out _ hB5; have W5 := Lib.hid hB5; have T5a := Lib.hid ht5; have M5a := Lib.hid hm5; clear hB5 ht5 hm5 hb5 hd))
              clear f0 f3 f4 g0 g1 h5 h6
              go_wp2_with fail
              have HF := Lib.hid (show (∀ k, w5.heap.size ≤ k → (Fp (.slice (some ⟨gu, 0, none⟩) L cu) (.slice (some ⟨gv, 0, none⟩) L cv) mb) k ∧ k ≠ w3.heap.size) ∧ (∀ W, Bt (some mb) wr W → Far (Fp (.slice (some ⟨gu, 0, none⟩) L cu) (.slice (some ⟨gv, 0, none⟩) L cv) mb) (fun k => (Fp (.slice (some ⟨gu, 0, none⟩) L cu) (.slice (some ⟨gv, 0, none⟩) L cv) mb) k ∧ k ≠ w3.heap.size) wr W ∧ Far (Fp (.slice (some ⟨gu, 0, none⟩) L cu) (.slice (some ⟨gv, 0, none⟩) L cv) mb) (fun k => (Fp (.slice (some ⟨gu, 0, none⟩) L cu) (.slice (some ⟨gv, 0, none⟩) L cv) mb) k ∧ k ≠ w3.heap.size ∧ k ≠ w5.heap.size) wr W) from by
                have q1 := E3.out
                have q2 := lt_of_heap (show wr.heap[mb]? = _ from A1.out.1.here.o1.mt)
                have q3 := lt_of_heap Z5
                have q4 := W5.out.size
                refine ⟨fun k hk => ⟨⟨?_, ?_, ?_⟩, ?_⟩, fun W hW => ⟨⟨fun k hk hf => hW.block k hk (fun e => by injection e with e; exact hf.2.2 e.symm), fun k hk hf => ⟨hf, by omega⟩⟩, ⟨fun k hk hf => hW.block k hk (fun e => by injection e with e; exact hf.2.2 e.symm), fun k hk hf => ⟨hf, by omega, by omega⟩⟩⟩⟩
                all_goals first | (simp only [Value.ownBlock, ne_eq, Option.some.injEq]; omega) | omega)
              have HG := Lib.hid (show gv ≠ w5.heap.size ∧ b0 ≠ w5.heap.size from by
                have q4 := W5.out.size
                have q5 : b0 < wr.heap.size := block_lt_of_cell (HC.out _ (Bt.refl _ _)).1.1
                omega)
              go_region_held3 (fun w' => w'.cell? ⟨gv, ja * 6, none⟩ = some (.int .i64 ra) ∧ w'.cell? ⟨gv, ja * 6 + 1, none⟩ = some (.int .i64 xa.1) ∧ w'.cell? ⟨gv, ja * 6 + 2, none⟩ = some (.int .i64 xa.2) ∧ w'.cell? ⟨gv, ja * 6 + 3, none⟩ = some (.slice Aa na ka) ∧ w'.cell? ⟨gv, ja * 6 + 4, none⟩ = some (.slice Aa' na' ka') ∧ w'.cell? ⟨gv, ja * 6 + 5, none⟩ = some (.int .i64 (osize ta : Nat)) ∧ w'.cell? ⟨gv, jb * 6, none⟩ = some (.int .i64 rb) ∧ w'.cell? ⟨gv, jb * 6 + 1, none⟩ = some (.int .i64 xb.1) ∧ w'.cell? ⟨gv, jb * 6 + 2, none⟩ = some (.int .i64 xb.2) ∧ w'.cell? ⟨gv, jb * 6 + 3, none⟩ = some (.slice Ab nb kb) ∧ w'.cell? ⟨gv, jb * 6 + 4, none⟩ = some (.slice Ab' nb' kb') ∧ w'.cell? ⟨gv, jb * 6 + 5, none⟩ = some (.int .i64 (osize tb : Nat))) (first | go_keep | exact KS.out)
                (first | (go_at_call 13; have hb1 : Below w5.heap.size w5 (w5.alloc (.cells #[.int .i64 0, .int .i64 0, .int .i64 0, .slice none 0 0, .slice none 0 0, .int .i64 0] 32)).drew := ((Below.refl _ w5).alloc (Nat.le_refl _) _).drew; have hs1 : (w5.alloc (.cells #[.int .i64 0, .int .i64 0, .int .i64 0, .slice none 0 0, .slice none 0 0, .int .i64 0] 32)).drew.heap.size = w5.heap.size + 1 := (by first | rfl | simp); have hd : Bt (some mb) wr (w5.alloc (.cells #[.int .i64 0, .int .i64 0, .int .i64 0, .slice none 0 0, .slice none 0 0, .int .i64 0] 32)).drew := W5.out.trans (Bt.ofBelow hb1); have hc := refLink_any (fun k => (Fp (.slice (some ⟨gu, 0, none⟩) L cu) (.slice (some ⟨gv, 0, none⟩) L cv) mb) k ∧ k ≠ w3.heap.size ∧ k ≠ w5.heap.size) (tV ra xa (.slice Aa na ka) (.slice Aa' na' ka') (osize ta : Nat)) (tV rb xb (.slice Ab nb kb) (.slice Ab' nb' kb') (osize tb : Nat)) ta tb (w5.alloc (.cells #[.int .i64 0, .int .i64 0, .int .i64 0, .slice none 0 0, .slice none 0 0, .int .i64 0] 32)).drew (fun k hk => ⟨(HF.out.1 k (Nat.le_of_succ_le (Nat.le_trans (Nat.le_of_eq hs1.symm) hk))).1, (HF.out.1 k (Nat.le_of_succ_le (Nat.le_trans (Nat.le_of_eq hs1.symm) hk))).2, Nat.ne_of_gt (Nat.le_trans (Nat.le_of_eq hs1.symm) hk)⟩) (A1.out.2.2.2.2.2.2.2.1.far (HF.out.2 _ hd).2) (A1.out.2.2.2.2.2.2.2.2.1.far (HF.out.2 _ hd).2) HK.out.2.2.1 HK.out.2.2.2; simp only [tV] at hc; (with_reducible refine hc.mono ?_); rintro e w6 ⟨V, rfl, hV, hb6⟩; obtain ⟨r6, ⟨l61, l62⟩, A6, A6', n6, k6, n6', k6', rfl⟩ := hV.size; rw [← HN.out.1]; unfold tV; have h56 := (hb1.trans (hb6.mono (by rw [hs1]; exact Nat.le_succ _))); obtain ⟨⟨-, m3, m4⟩, -, ⟨p0, p1, p2, p3, p4, p5_⟩, ⟨s0, s1, s2, s3, s4, s5⟩⟩ := HC.out _ (W5.out.trans (Bt.ofBelow h56)); have W6 := Lib.hid h56; have V6 := Lib.hid hV; have X14 := hex_at ((hb6.block w5.heap.size (by rw [hs1]; exact Nat.lt_succ_self _)).trans (new_at (W := w5) (o := (.cells #[.int .i64 0, .int .i64 0, .int .i64 0, .slice none 0 0, .slice none 0 0, .int .i64 0] 32)) rfl)); obtain ⟨x0, x1, x2, x3, x4, x5, xz0, xz1, xz2, xz3, xz4, xz5⟩ := X14; have KS := Lib.hid (set6_12 (.int .i64 r6) (.int .i64 l61) (.int .i64 l62) (.slice A6 n6 k6) (.slice A6' n6' k6') (.int .i64 (osize (olnk ta tb) : Nat)) HG.out.1 ⟨p0, p1, p2, p3, p4, p5_, s0, s1, s2, s3, s4, s5⟩); clear hc hd hV hb6 hb1 hs1 h56) | (go_at_call 13; have hb1 : Below w5.heap.size w5 w5.drew := (Below.refl _ w5).drew; have hd : Bt (some mb) wr w5.drew := W5.out.trans (Bt.ofBelow hb1); have hc := refLink_any (fun k => (Fp (.slice (some ⟨gu, 0, none⟩) L cu) (.slice (some ⟨gv, 0, none⟩) L cv) mb) k ∧ k ≠ w3.heap.size) (tV ra xa (.slice Aa na ka) (.slice Aa' na' ka') (osize ta : Nat)) (tV rb xb (.slice Ab nb kb) (.slice Ab' nb' kb') (osize tb : Nat)) ta tb w5.drew (fun k hk => HF.out.1 k hk) (A1.out.2.2.2.2.2.2.2.1.far (HF.out.2 _ hd).1) (A1.out.2.2.2.2.2.2.2.2.1.far (HF.out.2 _ hd).1) HK.out.2.2.1 HK.out.2.2.2; simp only [tV] at hc; (with_reducible refine hc.mono ?_); rintro e w6 ⟨V, rfl, hV, hb6⟩; obtain ⟨r6, ⟨l61, l62⟩, A6, A6', n6, k6, n6', k6', rfl⟩ := hV.size; rw [← HN.out.1]; unfold tV; have h56 := (hb1.trans hb6); obtain ⟨⟨-, m3, m4⟩, -, ⟨p0, p1, p2, p3, p4, p5_⟩, ⟨s0, s1, s2, s3, s4, s5⟩⟩ := HC.out _ (W5.out.trans (Bt.ofBelow h56)); have W6 := Lib.hid h56; have V6 := Lib.hid (hV.far (F' := fun k => (Fp (.slice (some ⟨gu, 0, none⟩) L cu) (.slice (some ⟨gv, 0, none⟩) L cv) mb) k ∧ k ≠ w3.heap.size ∧ k ≠ w6.heap.size) ⟨fun _ _ _ => rfl, fun k hk hf => ⟨hf.1, hf.2, Nat.ne_of_lt hk⟩⟩); clear hc hd hV hb6 hb1 h56))
              all_goals (clear h3 h4 c0 c1 c2 c3 c4 c5 d0 d1 d2 d3 d4 d5 m3 m4 p0 p1 p2 p3 p4 p5_ s0 s1 s2 s3 s4 s5)
              all_goals first
                | (have Y14 := set6_hex' ⟨x0, x1, x2, x3, x4, x5, xz0, xz1, xz2, xz3, xz4, xz5⟩ (.int .i64 r6) (.int .i64 l61) (.int .i64 l62) (.slice A6 n6 k6) (.slice A6' n6' k6') (.int .i64 (osize (olnk ta tb) : Nat)); have far7 := set6_far w6 w5.heap.size (.int .i64 r6) (.int .i64 l61) (.int .i64 l62) (.slice A6 n6 k6) (.slice A6' n6' k6') (.int .i64 (osize (olnk ta tb) : Nat)); have bel7 := set6_below W6.out (Nat.le_refl w5.heap.size) (.int .i64 r6) (.int .i64 l61) (.int .i64 l62) (.slice A6 n6 k6) (.slice A6' n6' k6') (.int .i64 (osize (olnk ta tb) : Nat)); simp only [set6] at Y14 far7 bel7; clear x0 x1 x2 x3 x4 x5 xz0 xz1 xz2 xz3 xz4 xz5 KS; generalize World.setCell (World.setCell (World.setCell (World.setCell (World.setCell (World.setCell w6 _ _) _ _) _ _) _ _) _ _) _ _ = w7 at *)
                | (have Y14 := hex_at (new_at (W := w6) (o := (.cells #[.int .i64 r6, .int .i64 l61, .int .i64 l62, .slice A6 n6 k6, .slice A6' n6' k6', .int .i64 (osize (olnk ta tb) : Nat)] 32)) rfl); have far7 := fun k h => alloc_far w6 (.cells #[.int .i64 r6, .int .i64 l61, .int .i64 l62, .slice A6 n6 k6, .slice A6' n6' k6', .int .i64 (osize (olnk ta tb) : Nat)] 32) k h; have bel7 := W6.out.alloc W6.out.size (.cells #[.int .i64 r6, .int .i64 l61, .int .i64 l62, .slice A6 n6 k6, .slice A6' n6' k6', .int .i64 (osize (olnk ta tb) : Nat)] 32); generalize w6.alloc (.cells #[.int .i64 r6, .int .i64 l61, .int .i64 l62, .slice A6 n6 k6, .slice A6' n6' k6', .int .i64 (osize (olnk ta tb) : Nat)] 32) = w7 at *)
              all_goals
                have X12 := hex_at ((bel7.block _ (lt_of_heap Z5)).trans Z5)
                have G5 := Lib.hid (show osize (olnk ta tb) ≤ 201 ∧ fits (oall (olnk ta tb)) from ⟨by rw [olnk_size]; have := HT.out; omega, olnk_fits A1.out.2.2.2.2.2.2.2.2.2.1 A1.out.2.2.2.2.2.2.2.2.2.2⟩)
                go_wp2_with (first
                  | (refine wpList_load_hex rfl _ rfl _ rfl Y14 ?_)
                  | (refine wpList_store_hex rfl _ _ rfl _ rfl rfl X12 ⟨rfl, rfl, rfl, rfl, rfl, rfl⟩ ?_
                     intro w8 X5 hk8 hbl8 hs8
                     obtain ⟨S5', T5', V5'⟩ := settle A1.out.1.here E3.out W5.out M5a.out T5a.out Z5 V6.out far7 bel7 hk8 hbl8
                     have S5 := Lib.hid S5'
                     have T5 := Lib.hid T5'
                     have V5 := Lib.hid V5'
                     have C5 := Lib.hid (show cc + (lnkN ta tb : Nat) + (mm + (lnkN ta tb : Nat)) = (st : Int) + (nn : Int) ∧ 0 ≤ cc + (lnkN ta tb : Nat) ∧ cc + (lnkN ta tb : Nat) ≤ 2 * (i + 1 : Nat) ∧ 0 ≤ mm + (lnkN ta tb : Nat) ∧ mm + (lnkN ta tb : Nat) ≤ 2 * (i + 1 : Nat) ∧ nn ≤ 4 from by have := A1.out.1.cm; have := HN.out; omega)
                     clear Y14 X12 far7 bel7 hk8 hbl8 hs8 S5' T5' V5'
                     obtain ⟨u6, w6', hrun6, S6, F6⟩ := push_u S5.out T5.out (by have := A1.out; rw [A1.out.1.here.tl.len, A1.out.1.tr.len]; omega)
                     have X6 := X5.keep (F6.keep _ (block_lt_of_cell X5.c0) D5.out)
                     obtain ⟨v7, w7', cs7, hrun7, S7⟩ := push_v S6 rfl (V5.out.far F6) (by have := A1.out; rw [A1.out.1.tr.len]; omega)
                     have Q7 := Lib.hid S7
                     have ws : IntKind.i64.wrap ((st : Int) + (nn : Int)) = (st : Int) + (nn : Int) := by have := C5.out; have := A1.out.1.cm; have := A1.out.2.2.2.1; rw [IntKind.wrap_i64]; omega
                     clear S6 F6 S7 X5)
                  | (refine wpList_load_hex rfl _ rfl _ rfl X6 ?_)
                  | (at_builtin; first | (refine wpList_append_run rfl _ _ _ rfl _ _ _ _ rfl rfl hrun6 ?_) | (refine wpList_append_run rfl _ _ _ rfl _ _ _ _ rfl rfl hrun7 ?_))
                  | (go_at_call 16; ((with_reducible refine (mSteps mb _ _ w7' Q7.out.o1.mt (by have := C5.out; omega) (by have := C5.out; have := A1.out.2.2.2.1; omega) (by have := C5.out; omega) (by have := C5.out; have := A1.out.2.2.2.1; omega)).mono ?_); rintro e w8' ⟨rfl, hb8⟩; rw [C5.out.1]; have Q8 := Lib.hid (Q7.out.stay hb8); clear hb8)))
                go_roundg (n - (i + 1))
                case measure => have := A1.out; omega
                case rel => exact ⟨i + 1, st + nn, _, _, _, _, _, by congr 1, by congr 1, by have := A1.out; omega, Q8.out, A1.out.1.tr.snoc G5.out.1 G5.out.2, by rw [C5.out.1]; rfl, by have := C5.out; omega, by have := C5.out; omega, by have := C5.out; omega, by have := C5.out; omega⟩
            · have h0k : ((yk : Int) == 0) = false := by simp; omega
              have h1k : ((yk : Int) == 1) = false := by simp; omega
              have HK := Lib.hid (show osize ta < 268435456 ∧ osize tb < 268435456 ∧ osize ta < 134217728 ∧ osize tb < 134217728 from ⟨by omega, by omega, by omega, by omega⟩)
              have HCM := Lib.hid (show 0 ≤ cc ∧ cc < 1152921504606846976 ∧ 0 ≤ mm ∧ mm < 1152921504606846976 from by have := A1.out.1.cm; have := A1.out.2.2.2.1; omega)
              have hN : (lnkN ta tb ≤ 1 ∧ skwN ta tb ≤ 1) ∧ (if olnk ta tb = none then 1 else 2) = skwN ta tb + 1 := by cases ta <;> cases tb <;> simp [lnkN, skwN, olnk]
              obtain ⟨nn, hnn⟩ : ∃ nn : Nat, nn = 2 * lnkN ta tb + (if olnk ta tb = none then 1 else 2) := ⟨_, rfl⟩
              have HN := Lib.hid (show nn = 2 * lnkN ta tb + (if olnk ta tb = none then 1 else 2) ∧ lnkN ta tb ≤ 1 ∧ skwN ta tb ≤ 1 ∧ nn = 2 * lnkN ta tb + (skwN ta tb + 1) from ⟨hnn, hN.1.1, hN.1.2, by rw [← hN.2]; exact hnn⟩)
              clear hnn hN
              go_wp2_with fail
              generalize w3.alloc (.cells #[.int .i64 rl, .int .i64 l1, .int .i64 l2, .slice Al nl kl, .slice Al' nl' kl', .int .i64 (osize (some (leafT (y1, y2))) : Nat)] 32) = w4 at *
              go_region_held3 (fun w' => w'.cell? ⟨b0, o + i * 5 + 3, none⟩ = some (.int .i64 y1) ∧ w'.cell? ⟨b0, o + i * 5 + 4, none⟩ = some (.int .i64 y2) ∧ w'.cell? ⟨gu, ja, none⟩ = some (.pointer pa) ∧ w'.cell? ⟨gu, jb, none⟩ = some (.pointer pb)) (go_keep)
                (first | (go_at_call 14; have hd : Below wr.heap.size wr w4.drew := B4.out.trans ((Below.refl _ w4).drew.mono B4.out.size); (with_reducible refine (skew_any (some mb) cc mm (y1, y2) pa pb ta tb _ (A1.out.1.here.stay hd).o1.mt HCM.out.1 HCM.out.2.1 HCM.out.2.2.1 HCM.out.2.2.2 (A1.out.2.2.2.2.2.1.stay hd) (A1.out.2.2.2.2.2.2.1.stay hd) HK.out.1 HK.out.2.1).mono ?_); rintro e w5 ⟨p5, rfl, ht5, hm5, hb5⟩; have hB5 : Bt (some mb) wr w5 := (Bt.ofBelow hd).trans hb5; have Z5 := (hb5.block _ (lt_of_heap (show w4.drew.heap[w3.heap.size]? = _ from Z4)) (fun e => by injection e with e; exact D5.out.2.2 e.symm)).trans (show w4.drew.heap[w3.heap.size]? = _ from Z4); obtain ⟨⟨-, h3, h4⟩, ⟨h5, h6⟩, ⟨c0, c1, c2, c3, c4, c5⟩, ⟨d0, d1, d2, d3, d4, d5⟩⟩ := HC.out _ hB5; have W5 := Lib.hid hB5; have T5a := Lib.hid ht5; have M5a := Lib.hid hm5; clear hB5 ht5 hm5 hb5 hd))
              clear f0 f3 f4 g0 g1 h5 h6
              go_wp2_with fail
              have HF := Lib.hid (show (∀ k, w5.heap.size ≤ k → (Fp (.slice (some ⟨gu, 0, none⟩) L cu) (.slice (some ⟨gv, 0, none⟩) L cv) mb) k ∧ k ≠ w3.heap.size) ∧ (∀ W, Bt (some mb) wr W → Far (Fp (.slice (some ⟨gu, 0, none⟩) L cu) (.slice (some ⟨gv, 0, none⟩) L cv) mb) (fun k => (Fp (.slice (some ⟨gu, 0, none⟩) L cu) (.slice (some ⟨gv, 0, none⟩) L cv) mb) k ∧ k ≠ w3.heap.size) wr W ∧ Far (Fp (.slice (some ⟨gu, 0, none⟩) L cu) (.slice (some ⟨gv, 0, none⟩) L cv) mb) (fun k => (Fp (.slice (some ⟨gu, 0, none⟩) L cu) (.slice (some ⟨gv, 0, none⟩) L cv) mb) k ∧ k ≠ w3.heap.size ∧ k ≠ w5.heap.size) wr W) from by
                have q1 := E3.out
                have q2 := lt_of_heap (show wr.heap[mb]? = _ from A1.out.1.here.o1.mt)
                have q3 := lt_of_heap Z5
                have q4 := W5.out.size
                refine ⟨fun k hk => ⟨⟨?_, ?_, ?_⟩, ?_⟩, fun W hW => ⟨⟨fun k hk hf => hW.block k hk (fun e => by injection e with e; exact hf.2.2 e.symm), fun k hk hf => ⟨hf, by omega⟩⟩, ⟨fun k hk hf => hW.block k hk (fun e => by injection e with e; exact hf.2.2 e.symm), fun k hk hf => ⟨hf, by omega, by omega⟩⟩⟩⟩
                all_goals first | (simp only [Value.ownBlock, ne_eq, Option.some.injEq]; omega) | omega)
              have HG := Lib.hid (show gv ≠ w5.heap.size ∧ b0 ≠ w5.heap.size from by
                have q4 := W5.out.size
                have q5 : b0 < wr.heap.size := block_lt_of_cell (HC.out _ (Bt.refl _ _)).1.1
                omega)
              go_region_held3 (fun w' => w'.cell? ⟨b0, o + i * 5 + 3, none⟩ = some (.int .i64 y1) ∧ w'.cell? ⟨b0, o + i * 5 + 4, none⟩ = some (.int .i64 y2) ∧ w'.cell? ⟨gv, ja * 6, none⟩ = some (.int .i64 ra) ∧ w'.cell? ⟨gv, ja * 6 + 1, none⟩ = some (.int .i64 xa.1) ∧ w'.cell? ⟨gv, ja * 6 + 2, none⟩ = some (.int .i64 xa.2) ∧ w'.cell? ⟨gv, ja * 6 + 3, none⟩ = some (.slice Aa na ka) ∧ w'.cell? ⟨gv, ja * 6 + 4, none⟩ = some (.slice Aa' na' ka') ∧ w'.cell? ⟨gv, ja * 6 + 5, none⟩ = some (.int .i64 (osize ta : Nat)) ∧ w'.cell? ⟨gv, jb * 6, none⟩ = some (.int .i64 rb) ∧ w'.cell? ⟨gv, jb * 6 + 1, none⟩ = some (.int .i64 xb.1) ∧ w'.cell? ⟨gv, jb * 6 + 2, none⟩ = some (.int .i64 xb.2) ∧ w'.cell? ⟨gv, jb * 6 + 3, none⟩ = some (.slice Ab nb kb) ∧ w'.cell? ⟨gv, jb * 6 + 4, none⟩ = some (.slice Ab' nb' kb') ∧ w'.cell? ⟨gv, jb * 6 + 5, none⟩ = some (.int .i64 (osize tb : Nat))) (first | go_keep | exact KS.out)
                (first | (go_at_call 15; have hb1 : Below w5.heap.size w5 (w5.alloc (.cells #[.int .i64 0, .int .i64 0, .int .i64 0, .slice none 0 0, .slice none 0 0, .int .i64 0] 32)).drew := ((Below.refl _ w5).alloc (Nat.le_refl _) _).drew; have hs1 : (w5.alloc (.cells #[.int .i64 0, .int .i64 0, .int .i64 0, .slice none 0 0, .slice none 0 0, .int .i64 0] 32)).drew.heap.size = w5.heap.size + 1 := (by first | rfl | simp); have hd : Bt (some mb) wr (w5.alloc (.cells #[.int .i64 0, .int .i64 0, .int .i64 0, .slice none 0 0, .slice none 0 0, .int .i64 0] 32)).drew := W5.out.trans (Bt.ofBelow hb1); have hc := refSkew_any (fun k => (Fp (.slice (some ⟨gu, 0, none⟩) L cu) (.slice (some ⟨gv, 0, none⟩) L cv) mb) k ∧ k ≠ w3.heap.size ∧ k ≠ w5.heap.size) (y1, y2) (tV ra xa (.slice Aa na ka) (.slice Aa' na' ka') (osize ta : Nat)) (tV rb xb (.slice Ab nb kb) (.slice Ab' nb' kb') (osize tb : Nat)) ta tb (w5.alloc (.cells #[.int .i64 0, .int .i64 0, .int .i64 0, .slice none 0 0, .slice none 0 0, .int .i64 0] 32)).drew (fun k hk => ⟨(HF.out.1 k (Nat.le_of_succ_le (Nat.le_trans (Nat.le_of_eq hs1.symm) hk))).1, (HF.out.1 k (Nat.le_of_succ_le (Nat.le_trans (Nat.le_of_eq hs1.symm) hk))).2, Nat.ne_of_gt (Nat.le_trans (Nat.le_of_eq hs1.symm) hk)⟩) (A1.out.2.2.2.2.2.2.2.1.far (HF.out.2 _ hd).2) (A1.out.2.2.2.2.2.2.2.2.1.far (HF.out.2 _ hd).2) HK.out.2.2.1 HK.out.2.2.2; simp only [tV] at hc; (with_reducible refine hc.mono ?_); rintro e w6 ⟨V, rfl, hV, hb6⟩; obtain ⟨r6, ⟨l61, l62⟩, A6, A6', n6, k6, n6', k6', rfl⟩ := hV.size; rw [← HN.out.1]; unfold tV; have h56 := (hb1.trans (hb6.mono (by rw [hs1]; exact Nat.le_succ _))); obtain ⟨⟨-, m3, m4⟩, -, ⟨p0, p1, p2, p3, p4, p5_⟩, ⟨s0, s1, s2, s3, s4, s5⟩⟩ := HC.out _ (W5.out.trans (Bt.ofBelow h56)); have W6 := Lib.hid h56; have V6 := Lib.hid hV; have X14 := hex_at ((hb6.block w5.heap.size (by rw [hs1]; exact Nat.lt_succ_self _)).trans (new_at (W := w5) (o := (.cells #[.int .i64 0, .int .i64 0, .int .i64 0, .slice none 0 0, .slice none 0 0, .int .i64 0] 32)) rfl)); obtain ⟨x0, x1, x2, x3, x4, x5, xz0, xz1, xz2, xz3, xz4, xz5⟩ := X14; have KS := Lib.hid (And.intro (set6_cell (.int .i64 r6) (.int .i64 l61) (.int .i64 l62) (.slice A6 n6 k6) (.slice A6' n6' k6') (.int .i64 (osize (oskw (y1, y2) ta tb) : Nat)) HG.out.2 m3) (And.intro (set6_cell (.int .i64 r6) (.int .i64 l61) (.int .i64 l62) (.slice A6 n6 k6) (.slice A6' n6' k6') (.int .i64 (osize (oskw (y1, y2) ta tb) : Nat)) HG.out.2 m4) (set6_12 (.int .i64 r6) (.int .i64 l61) (.int .i64 l62) (.slice A6 n6 k6) (.slice A6' n6' k6') (.int .i64 (osize (oskw (y1, y2) ta tb) : Nat)) HG.out.1 ⟨p0, p1, p2, p3, p4, p5_, s0, s1, s2, s3, s4, s5⟩))); clear hc hd hV hb6 hb1 hs1 h56) | (go_at_call 15; have hb1 : Below w5.heap.size w5 w5.drew := (Below.refl _ w5).drew; have hd : Bt (some mb) wr w5.drew := W5.out.trans (Bt.ofBelow hb1); have hc := refSkew_any (fun k => (Fp (.slice (some ⟨gu, 0, none⟩) L cu) (.slice (some ⟨gv, 0, none⟩) L cv) mb) k ∧ k ≠ w3.heap.size) (y1, y2) (tV ra xa (.slice Aa na ka) (.slice Aa' na' ka') (osize ta : Nat)) (tV rb xb (.slice Ab nb kb) (.slice Ab' nb' kb') (osize tb : Nat)) ta tb w5.drew (fun k hk => HF.out.1 k hk) (A1.out.2.2.2.2.2.2.2.1.far (HF.out.2 _ hd).1) (A1.out.2.2.2.2.2.2.2.2.1.far (HF.out.2 _ hd).1) HK.out.2.2.1 HK.out.2.2.2; simp only [tV] at hc; (with_reducible refine hc.mono ?_); rintro e w6 ⟨V, rfl, hV, hb6⟩; obtain ⟨r6, ⟨l61, l62⟩, A6, A6', n6, k6, n6', k6', rfl⟩ := hV.size; rw [← HN.out.1]; unfold tV; have h56 := (hb1.trans hb6); obtain ⟨⟨-, m3, m4⟩, -, ⟨p0, p1, p2, p3, p4, p5_⟩, ⟨s0, s1, s2, s3, s4, s5⟩⟩ := HC.out _ (W5.out.trans (Bt.ofBelow h56)); have W6 := Lib.hid h56; have V6 := Lib.hid (hV.far (F' := fun k => (Fp (.slice (some ⟨gu, 0, none⟩) L cu) (.slice (some ⟨gv, 0, none⟩) L cv) mb) k ∧ k ≠ w3.heap.size ∧ k ≠ w6.heap.size) ⟨fun _ _ _ => rfl, fun k hk hf => ⟨hf.1, hf.2, Nat.ne_of_lt hk⟩⟩); clear hc hd hV hb6 hb1 h56))
              all_goals (clear h3 h4 c0 c1 c2 c3 c4 c5 d0 d1 d2 d3 d4 d5 m3 m4 p0 p1 p2 p3 p4 p5_ s0 s1 s2 s3 s4 s5)
              all_goals first
                | (have Y14 := set6_hex' ⟨x0, x1, x2, x3, x4, x5, xz0, xz1, xz2, xz3, xz4, xz5⟩ (.int .i64 r6) (.int .i64 l61) (.int .i64 l62) (.slice A6 n6 k6) (.slice A6' n6' k6') (.int .i64 (osize (oskw (y1, y2) ta tb) : Nat)); have far7 := set6_far w6 w5.heap.size (.int .i64 r6) (.int .i64 l61) (.int .i64 l62) (.slice A6 n6 k6) (.slice A6' n6' k6') (.int .i64 (osize (oskw (y1, y2) ta tb) : Nat)); have bel7 := set6_below W6.out (Nat.le_refl w5.heap.size) (.int .i64 r6) (.int .i64 l61) (.int .i64 l62) (.slice A6 n6 k6) (.slice A6' n6' k6') (.int .i64 (osize (oskw (y1, y2) ta tb) : Nat)); simp only [set6] at Y14 far7 bel7; clear x0 x1 x2 x3 x4 x5 xz0 xz1 xz2 xz3 xz4 xz5 KS; generalize World.setCell (World.setCell (World.setCell (World.setCell (World.setCell (World.setCell w6 _ _) _ _) _ _) _ _) _ _) _ _ = w7 at *)
                | (have Y14 := hex_at (new_at (W := w6) (o := (.cells #[.int .i64 r6, .int .i64 l61, .int .i64 l62, .slice A6 n6 k6, .slice A6' n6' k6', .int .i64 (osize (oskw (y1, y2) ta tb) : Nat)] 32)) rfl); have far7 := fun k h => alloc_far w6 (.cells #[.int .i64 r6, .int .i64 l61, .int .i64 l62, .slice A6 n6 k6, .slice A6' n6' k6', .int .i64 (osize (oskw (y1, y2) ta tb) : Nat)] 32) k h; have bel7 := W6.out.alloc W6.out.size (.cells #[.int .i64 r6, .int .i64 l61, .int .i64 l62, .slice A6 n6 k6, .slice A6' n6' k6', .int .i64 (osize (oskw (y1, y2) ta tb) : Nat)] 32); generalize w6.alloc (.cells #[.int .i64 r6, .int .i64 l61, .int .i64 l62, .slice A6 n6 k6, .slice A6' n6' k6', .int .i64 (osize (oskw (y1, y2) ta tb) : Nat)] 32) = w7 at *)
              all_goals
                have X12 := hex_at ((bel7.block _ (lt_of_heap Z5)).trans Z5)
                have G5 := Lib.hid (show osize (oskw (y1, y2) ta tb) ≤ 201 ∧ fits (oall (oskw (y1, y2) ta tb)) from ⟨by rw [oskw_size]; have := HT.out; omega, oskw_fits A1.out.2.2.2.2.1 A1.out.2.2.2.2.2.2.2.2.2.1 A1.out.2.2.2.2.2.2.2.2.2.2⟩)
                go_wp2_with (first
                  | (refine wpList_load_hex rfl _ rfl _ rfl Y14 ?_)
                  | (refine wpList_store_hex rfl _ _ rfl _ rfl rfl X12 ⟨rfl, rfl, rfl, rfl, rfl, rfl⟩ ?_
                     intro w8 X5 hk8 hbl8 hs8
                     obtain ⟨S5', T5', V5'⟩ := settle A1.out.1.here E3.out W5.out M5a.out T5a.out Z5 V6.out far7 bel7 hk8 hbl8
                     have S5 := Lib.hid S5'
                     have T5 := Lib.hid T5'
                     have V5 := Lib.hid V5'
                     have C5 := Lib.hid (show cc + (lnkN ta tb : Nat) + (skwN ta tb : Nat) + (mm + (lnkN ta tb : Nat) + 1) = (st : Int) + (nn : Int) ∧ 0 ≤ cc + (lnkN ta tb : Nat) + (skwN ta tb : Nat) ∧ cc + (lnkN ta tb : Nat) + (skwN ta tb : Nat) ≤ 2 * (i + 1 : Nat) ∧ 0 ≤ mm + (lnkN ta tb : Nat) + 1 ∧ mm + (lnkN ta tb : Nat) + 1 ≤ 2 * (i + 1 : Nat) ∧ nn ≤ 4 from by have := A1.out.1.cm; have := HN.out; omega)
                     clear Y14 X12 far7 bel7 hk8 hbl8 hs8 S5' T5' V5'
                     obtain ⟨u6, w6', hrun6, S6, F6⟩ := push_u S5.out T5.out (by have := A1.out; rw [A1.out.1.here.tl.len, A1.out.1.tr.len]; omega)
                     have X6 := X5.keep (F6.keep _ (block_lt_of_cell X5.c0) D5.out)
                     obtain ⟨v7, w7', cs7, hrun7, S7⟩ := push_v S6 rfl (V5.out.far F6) (by have := A1.out; rw [A1.out.1.tr.len]; omega)
                     have Q7 := Lib.hid S7
                     have ws : IntKind.i64.wrap ((st : Int) + (nn : Int)) = (st : Int) + (nn : Int) := by have := C5.out; have := A1.out.1.cm; have := A1.out.2.2.2.1; rw [IntKind.wrap_i64]; omega
                     clear S6 F6 S7 X5)
                  | (refine wpList_load_hex rfl _ rfl _ rfl X6 ?_)
                  | (at_builtin; first | (refine wpList_append_run rfl _ _ _ rfl _ _ _ _ rfl rfl hrun6 ?_) | (refine wpList_append_run rfl _ _ _ rfl _ _ _ _ rfl rfl hrun7 ?_))
                  | (go_at_call 16; ((with_reducible refine (mSteps mb _ _ w7' Q7.out.o1.mt (by have := C5.out; omega) (by have := C5.out; have := A1.out.2.2.2.1; omega) (by have := C5.out; omega) (by have := C5.out; have := A1.out.2.2.2.1; omega)).mono ?_); rintro e w8' ⟨rfl, hb8⟩; rw [C5.out.1]; have Q8 := Lib.hid (Q7.out.stay hb8); clear hb8)))
                go_roundg (n - (i + 1))
                case measure => have := A1.out; omega
                case rel => exact ⟨i + 1, st + nn, _, _, _, _, _, by congr 1, by congr 1, by have := A1.out; omega, Q8.out, A1.out.1.tr.snoc G5.out.1 G5.out.2, by rw [C5.out.1]; rfl, by have := C5.out; omega, by have := C5.out; omega, by have := C5.out; omega, by have := C5.out; omega⟩
      -- END OF THE ROUND
      · obtain rfl : i = n := by omega
        have A2 := Lib.hid (And.intro hrel (And.intro hL (show L ≤ 25 by omega)))
        have i2 : decide ((i : Int) < (i : Int)) = false := by simp
        have HE := Lib.hid H.out.1
        clear hrel hL hk hlt hgu hgv H
        go_wp2_with fail
        clear i2
        generalize wr = wl at *
        go_loopg [18, 19, 20] L (fun m jv _ _ wr => ∃ j : Nat, jv = .int .i64 (j : Int) ∧ j + m = L ∧ Below wl.heap.size wl wr)
        case atStart => exact ⟨0, rfl, by omega, Below.refl _ _⟩
        case round =>
          obtain ⟨j, rfl, hj, hbe⟩ := hrel
          by_cases hlt : j < L
          · obtain ⟨t, p, r, x, A1, A2', n1, k1, n2, k2, hmem, ⟨hT, cp⟩, ⟨c0, c1, c2, c3, c4, c5⟩, hR⟩ := A2.out.1.at A2.out.2.1 hlt
            obtain ⟨x1, x2⟩ := x
            have hs := A2.out.1.tr.small _ hmem
            have hf := A2.out.1.tr.fits _ hmem
            obtain ⟨hroot, rfl, hrow, rfl⟩ := hR.told
            have B0 := Lib.hid hbe
            have HC := Lib.hid (fun W (hb : Below wl.heap.size wl W) => show W.cell? ⟨gu, j, none⟩ = some (.pointer p) ∧ W.cell? ⟨gv, j * 6, none⟩ = some (.int .i64 r) ∧ W.cell? ⟨gv, j * 6 + 1, none⟩ = some (.int .i64 x1) ∧ W.cell? ⟨gv, j * 6 + 2, none⟩ = some (.int .i64 x2) ∧ W.cell? ⟨gv, j * 6 + 3, none⟩ = some (.slice A1 (obeside t).length k1) ∧ W.cell? ⟨gv, j * 6 + 4, none⟩ = some (.slice A2' (okids t).len k2) ∧ W.cell? ⟨gv, j * 6 + 5, none⟩ = some (.int .i64 (osize t : Nat)) from
              ⟨(hb.cell (block_lt_of_cell cp)).trans cp, (hb.cell (block_lt_of_cell c0)).trans c0, (hb.cell (block_lt_of_cell c1)).trans c1, (hb.cell (block_lt_of_cell c2)).trans c2, (hb.cell (block_lt_of_cell c3)).trans c3, (hb.cell (block_lt_of_cell c4)).trans c4, (hb.cell (block_lt_of_cell c5)).trans c5⟩)
            have HT := Lib.hid (And.intro hT (And.intro hR (And.intro hrow (And.intro hs (And.intro hf (And.intro hroot hj))))))
            have HW := Lib.hid (show ∀ W, Below wl.heap.size wl W → Env W ∧ TAt W p t ∧ RT (Fp (.slice (some ⟨gu, 0, none⟩) L cu) (.slice (some ⟨gv, 0, none⟩) L cv) mb) W (tV r (x1, x2) (.slice A1 (obeside t).length k1) (.slice A2' (okids t).len k2) (osize t : Nat)) t ∧ Row W A1 (obeside t) from fun W hb => ⟨HE.out.below (A2.out.1.here.o1.below.trans (hb.mono A2.out.1.here.o1.below.size)), hT.stay hb, hR.far (Far.below hb), hrow.below hb⟩)
            have g1 : decide ((j : Int) < (L : Int)) = true := by simp; omega
            have g2 : (0 : Int) ≤ (j : Int) := by omega
            have g3 : (j : Int) < (L : Int) := by omega
            have g4 : j < L := hlt
            have g5 : decide (j < L) = true := by simp; omega
            have wj : IntKind.i64.wrap ((j : Int) + 1) = (j : Int) + 1 := by have := A2.out.2.2; rw [IntKind.wrap_i64]; omega
            clear hT hR hrow hs hf hroot hj hmem cp c0 c1 c2 c3 c4 c5 hbe hlt
            obtain ⟨a0, a1, a2, a3, a4, a5, a6⟩ := HC.out _ B0.out
            have HBD := Lib.hid (show osize t < 1073741824 ∧ osize t < 268435456 from by have := HT.out.2.2.2.1; omega)
            have HLn := Lib.hid (show (oall t).length < 2147483648 ∧ (obeside t).length < 2147483648 from by have h0 := HT.out.2.2.2.1; cases t with | none => exact ⟨by simp [oall], by simp [obeside]⟩ | some t => exact ⟨by rw [show oall (some t) = t.all from rfl, t.all_length]; simp only [osize] at h0; omega, by simp only [obeside, osize, Tre.size] at h0 ⊢; omega⟩)
            obtain ⟨fl, hfl⟩ : ∃ fl, fl = decide ((0 : Int) < (osize t : Nat)) := ⟨_, rfl⟩
            have f1 : decide ((0 : Int) < (osize t : Int)) = fl := hfl.symm
            have f2 : decide (0 < osize t) = fl := by rw [hfl, Bool.eq_iff_iff]; simp
            have HFL := Lib.hid (show rootV t = .tuple #[el (x1, x2), .bool fl] from by rw [hfl]; exact HT.out.2.2.2.2.2.1)
            clear hfl
            go_wp2_with fail
            ((with_reducible refine (root_any p t _ (HW.out _ B0.out).2.1).mono ?_); rintro e w3 ⟨rfl, hb3⟩)
            rw [HFL.out]
            have hb4 := hb3.alloc (Nat.le_trans hb3.size (Nat.le_refl _)) (.cells #[.int .i64 x1, .int .i64 x2] 28)
            have B4 := Lib.hid (B0.out.trans (hb4.mono B0.out.size))
            have P4 := Lib.hid (PairAt.new w3 x1 x2 28)
            clear a0 a1 a2 a3 a4 a5 a6 hb3 hb4
            go_wp2_with fail
            generalize w3.alloc (.cells #[.int .i64 x1, .int .i64 x2] 28) = w4 at *
            generalize w3.heap.size = b19 at *
            dsimp only [List.append]
            refine told_any wl w4 mb gu cu gv cv L j b19 k1 k2 t p r x1 x2 A1 A2' fl _ _ _ _ _ _ _ _ _ _ _ _ _ _ _ _ _ _ _ _ _ _ _ _ _ _ _ _ _ _ _ _ _ _ _ _ _ _ _ _ _ _ _ _ _ _ _ _ _ _ _ _ _ _ _ _ _ _ _ _ _ _ _ _ _ _ _ _ _ _ _ _ _ _ _ _ _ _ _ _ _ _ _ _ _ _ _ _ _ _ _ _ _ _ _ _ _ _ _ _ _ _ _ _ _ _ _ _ _ _ _ _ _ _ _ _ _ _ _ _ _ _ _ _ _ _ _ _ _ _ _ _ _ _ _ _ _ _ _ _ _ _ _ _ _ _ _ _ _ _ _ _ _ _ _ _ _ _ _ _ _ _ _ _ _ _ _ _ _ _ _ _ _ _ _ _ _ _ _ _ _ _ _ _ _ _ _ _ _ _ _ _ _ _ _ _ _ _ _ _ _ _ _ _ _ _ _ _ _ _ _ _ _ _ _ _ _ _ _ _ _ _ _ _ _ _ _ _ _ _ _ _ _ _ _ _ _ _ _ _ _ _ _ _ _ _ _ _ _ _ _ _ _ _ _ _ _ _ _ _ _ _ _ _ _ _ _ _ _ _ _ _ _ _ _ _ _ _ _ _ _ _ _ _ _ _ _ _ HW HC (Lib.hid HT.out.2.2.2.2.1) HBD HLn B4 P4 f2 g2 g3 ?_
            intro x180 x181 x182 x183 x184 x185 x186 x187 x188 x189 x190 x191 x192 x193 x194 x195 x196 x197 x198 x199 x200 x201 x202 x203 x204 x205 x206 x207 x208 x209 x210 x211 x212 x213 x214 x215 x216 x217 x218 x219 x220 x221 x222 x223 x224 x225 x226 x227 x228 x229 x230 x231 x232 x233 x234 x235 x236 x237 x238 x239 x240 x241 x242 x243 x244 x245 x246 x247 x248 x249 x250 x251 x252 x253 x254 x255 x256 x257 x258 x259 x260 x261 x262 x263 x264 x265 x266 x267 x268 x269 x270 x271 x272 x273 x274 x275 x276 x277 x278 x279 x280 x281 x282 x283 x284 x285 x286 x287 x288 x289 x290 w16 hb16
            have B16 := Lib.hid hb16
            clear hb16
            go_wp2_with fail
            go_roundg (L - (j + 1))
            case measure => have := HT.out.2.2.2.2.2.2; omega
            case rel => exact ⟨j + 1, by congr 1, by have := HT.out.2.2.2.2.2.2; omega, B16.out⟩
          · obtain rfl : j = L := by omega
            have g1 : decide ((j : Int) < (j : Int)) = false := by simp
            have B0 := Lib.hid hbe
            clear hj hlt hbe
            go_wp2_with fail
            go_ret
            exact ⟨rfl, A2.out.1.here.o1.below.trans (B0.out.mono A2.out.1.here.o1.below.size)⟩

end Go.Proofs.YtlkpmafgokoaiaaDoor
