/-
  The walk of the statement BootPlays: for any acts it returns true, and nothing that was there has changed, in any world where the library's table is as it is laid.
-/
import Derived.Test.YtlmokendajgbdaaGreatDoorZq
import Derived.Test.YtlmokendajgbdaaGreatDoorWe
import Derived.Deep.LoopGhost
import Derived.Deep.RegionHeld3
namespace Go.Proofs.YtlmokendajgbdaaGreatDoor.Bo.Zr
open Go.Sort Go.RowKit Go.Proofs.YtlmokendajgbdaaGreatDoor.Gn Go.Proofs.YtlmokendajgbdaaGreatDoor.Bo

set_option maxRecDepth 100000 in
set_option maxHeartbeats 64000000 in
theorem plays_any (A : Option Addr) (n c : Nat) (X : Nat → ActH) (w : World) (he : Env w) (hr : ActRowH w A n X) (hn : n ≤ 9223372036854775807) (hX : ∀ i, i < n → (X i).ok) :
    Calls Tryz.prog 3 #[.slice A n c] w fun e w' => e = .returned (.bool true) ∧ Below w.heap.size w w' := by
  have HA := Lib.hid (And.intro hr (And.intro hn hX))
  clear hr hn hX
  have HE := Lib.hid he
  have HM0 := Lib.hid (show MAt w (none : Option Nat) 0 0 from trivial)
  have HR0 := Lib.hid (fun W (hb : Bt none w W) => Bas.bt (Bas.first he) he hb (fun _ e => by cases e))
  clear he
  go_enter Tryz.func3, Tryz.ntmps3
  go_wp2_with fail
  ((with_reducible refine (awake_any _ HE.out).mono ?_); rintro e w1 ⟨rfl, hb⟩)
  have HM1 := Lib.hid (show MAt w1 (none : Option Nat) 0 0 from trivial)
  have HR1 := Lib.hid (fun W (hz : Bt none w1 W) => HR0.out W ((Bt.ofBelow hb).trans hz))
  clear HR0 HM0 
  clear hb
  go_wp2_with fail
  cases hfb : fewB n X with
  | false =>
    ((with_reducible refine (few_is A n c X w _ HA.out.1 HA.out.2.1 (HR1.out _ (Bt.refl _ _)).below _ hfb).mono ?_); rintro e w9 ⟨rfl, hb⟩)
    go_wp2_with fail
    go_ret
    exact ⟨rfl, (HR1.out _ (Bt.refl _ _)).below.trans (hb.mono (HR1.out _ (Bt.refl _ _)).below.size)⟩
  | true =>
    ((with_reducible refine (few_is A n c X w _ HA.out.1 HA.out.2.1 (HR1.out _ (Bt.refl _ _)).below _ hfb).mono ?_); rintro e w2 ⟨rfl, hb⟩)
    have HM2 := Lib.hid (show MAt w2 (none : Option Nat) 0 0 from trivial)
    have HR2 := Lib.hid (fun W (hz : Bt none w2 W) => HR1.out W ((Bt.ofBelow hb).trans hz))
    clear HR1 HM1 
    clear hb
    have HF := Lib.hid (fewB_true hfb)
    clear hfb
    go_wp2_with fail
    ((with_reducible refine (mNew _).mono ?_); rintro e w3 ⟨rfl, hm, hb⟩)
    obtain ⟨mb, hmb⟩ : ∃ b, b = w2.heap.size := ⟨_, rfl⟩
    rw [← hmb] at hm ⊢
    have B_mb := Lib.hid (show w.heap.size ≤ mb by rw [hmb]; exact (HR2.out _ (Bt.refl _ _)).below.size)
    clear hmb
    have HM3 := Lib.hid hm
    have HR3 := Lib.hid (fun W (hz : Bt (some mb) w3 W) => ((HR2.out _ (Bt.ofBelow hb))).bt HE.out hz (fun b e => by cases e; exact B_mb.out))
    clear HR2 HM2 hm hb 
    go_wp2_with fail
    have HS := Lib.hid (PRel.start HM3.out (HR3.out _ (Bt.refl _ _)) HE.out)
    go_loopg [6, 7, 8, 9] n (fun k s u v iv wr => ∃ (i gu cu gv cv : Nat) (ts : List Lh) (cc mm st : Int), iv = .int .i64 (i : Int) ∧ s = .int .i64 st ∧ u = .slice (some ⟨gu, 0, none⟩) (i + 1) cu ∧ v = .slice (some ⟨gv, 0, none⟩) (i + 1) cv ∧ st = cc + mm ∧ i + k = n ∧ PRel w mb gu cu gv cv i ts cc mm wr)
    case atStart => exact ⟨0, _, _, _, _, _, _, _, 0, rfl, rfl, rfl, rfl, rfl, by omega, HS.out⟩
    case round =>
      clear HR3 HM3 HS
      obtain ⟨i, gu, cu, gv, cv, ts, cc, mm, st, rfl, rfl, rfl, rfl, hst, hk, hrel⟩ := hrel
      obtain ⟨⟨hu1, hu2⟩, ⟨hv1, hv2⟩, hgu, hgv⟩ := hrel.caps
      obtain ⟨L, hL⟩ : ∃ L, L = i + 1 := ⟨_, rfl⟩
      have hUU := hrel.uu
      have hVV := hrel.vv
      rw [← hL] at hUU hVV hu1 hv1 ⊢
      have HCAP := Lib.hid (show (L ≤ cu ∧ L ≤ cv) ∧ cu ≤ 9223372036854775807 ∧ cv ≤ 9223372036854775807 from ⟨⟨hu1, hv1⟩, hu2, hv2⟩)
      have HOWN := Lib.hid (show w.heap.size ≤ gu ∧ w.heap.size ≤ gv from ⟨hgu, hgv⟩)
      have Z := Lib.hid (And.intro hrel.cm (And.intro hrel.hs (And.intro hL (And.intro hk hst))))
      have HST := Lib.hid hst
      clear hu1 hu2 hv1 hv2 hgu hgv hst
      by_cases hlt : i < n
      · have hLn : L ≤ 30 := by have := HF.out.1; omega
        have hL1 : 0 < L := by omega
        obtain ⟨b0, o, rfl, hrow⟩ := HA.out.1 (by omega)
        have hok := HA.out.2.2 i hlt
        have h40 := HF.out.2 i hlt
        have hc := hrow i hlt
        generalize X i = y at *
        obtain ⟨yk, ya, yb, ⟨y1, y2⟩, yA, yl, yc⟩ := y
        obtain ⟨q0, q1, q2, q3, q4⟩ := hok
        simp only at q0 q1 q2 q3 q4 h40 hc
        obtain ⟨nl, hnl⟩ : ∃ m, m = yl.length := ⟨_, rfl⟩
        rw [← hnl] at hc h40
        have HAC := Lib.hid (fun (W : World) (hb : Below w.heap.size w W) => (show W.cell? ⟨b0, o + i * 6, none⟩ = some (.int .u8 yk) ∧ W.cell? ⟨b0, o + i * 6 + 1, none⟩ = some (.int .u8 ya) ∧ W.cell? ⟨b0, o + i * 6 + 2, none⟩ = some (.int .u8 yb) ∧ W.cell? ⟨b0, o + i * 6 + 3, none⟩ = some (.int .i64 y1) ∧ W.cell? ⟨b0, o + i * 6 + 4, none⟩ = some (.int .i64 y2) ∧ W.cell? ⟨b0, o + i * 6 + 5, none⟩ = some (.slice yA nl yc) from by
          have hlt0 : b0 < w.heap.size := block_lt_of_cell hc.1.1
          exact ⟨(hb.cell (p := ⟨b0, _, none⟩) hlt0).trans hc.1.1, (hb.cell (p := ⟨b0, _, none⟩) hlt0).trans hc.1.2.1, (hb.cell (p := ⟨b0, _, none⟩) hlt0).trans hc.1.2.2.1, (hb.cell (p := ⟨b0, _, none⟩) hlt0).trans hc.1.2.2.2.1, (hb.cell (p := ⟨b0, _, none⟩) hlt0).trans hc.1.2.2.2.2.1, (hb.cell (p := ⟨b0, _, none⟩) hlt0).trans hc.1.2.2.2.2.2⟩))
        have HY := Lib.hid (show in64 y1 ∧ in64 y2 from q3 (y1, y2) (by simp))
        have HL := Lib.hid (show Row w yA yl ∧ nl = yl.length ∧ nl ≤ 40 ∧ fits yl from ⟨hc.2, hnl, h40, q4⟩)
        clear hrow hc h40 q3 q4 hnl
        obtain ⟨ja, hja⟩ : ∃ j, j = ya % L := ⟨_, rfl⟩
        obtain ⟨jb, hjb⟩ : ∃ j, j = yb % L := ⟨_, rfl⟩
        have hjaL : ja < L := by rw [hja]; exact Nat.mod_lt _ hL1
        have hjbL : jb < L := by rw [hjb]; exact Nat.mod_lt _ hL1
        have r1 : ((ya : Int)).tmod (L : Int) = (ja : Int) := by rw [hja]; exact (Int.ofNat_tmod ya L).symm
        have r2 : ((yb : Int)).tmod (L : Int) = (jb : Int) := by rw [hjb]; exact (Int.ofNat_tmod yb L).symm
        have z1 : ((L : Int) == 0) = false := by simp; omega
        have z2 : ¬ L = 0 := by omega
        have i0 : (0 : Int) ≤ (i : Int) := by omega
        have i1 : (i : Int) < (n : Int) := by omega
        have i2 : decide ((i : Int) < (n : Int)) = true := by simp; omega
        have wi : IntKind.i64.wrap ((i : Int) + 1) = (i : Int) + 1 := by rw [IntKind.wrap_i64]; omega
        have k1 : (0 : Int) ≤ (ja : Int) := by omega
        have k2 : (ja : Int) < (L : Int) := by omega
        have k3 : (0 : Int) ≤ (jb : Int) := by omega
        have k4 : (jb : Int) < (L : Int) := by omega
        obtain ⟨ta, hta, hsa, hga⟩ := hrel.hs.at (j := ja) (by omega)
        obtain ⟨tb, htb, hsb, hgb⟩ := hrel.hs.at (j := jb) (by omega)
        obtain ⟨pa, cua, lpa⟩ := Col.cell hUU hta
        obtain ⟨a1, a2, Aa, na, ka, Ga, cva, lra⟩ := WCol.cell hVV hta
        obtain ⟨pb, cub, lpb⟩ := Col.cell hUU htb
        obtain ⟨d1, d2, Ab, nb, kb, Gb, cvb, lrb⟩ := WCol.cell hVV htb
        have HM5 := Lib.hid (hrel.mt)
        have HR5 := Lib.hid (fun W (hz : Bt (some mb) wr W) => And.intro ((cua).bt hz HM5.out) ( And.intro ((cub).bt hz HM5.out) ( And.intro ((cva).bt hz HM5.out) ( And.intro ((cvb).bt hz HM5.out) ( And.intro ((lpa).bt hz HM5.out) ( And.intro ((lpb).bt hz HM5.out) ( And.intro ((lra).bt hz HM5.out) ( And.intro ((lrb).bt hz HM5.out) ( And.intro ((hUU).bt hz HM5.out) ( And.intro ((hVV).bt hz HM5.out) ((hrel.bas).bt HE.out hz (fun b e => by cases e; exact B_mb.out))))))))))))
        obtain ⟨sza, hsza⟩ : ∃ s, s = ta.size := ⟨_, rfl⟩
        obtain ⟨szb, hszb⟩ : ∃ s, s = tb.size := ⟨_, rfl⟩
        have HT := Lib.hid (And.intro (And.intro hsza (And.intro hszb (And.intro (hsza ▸ hsa : sza ≤ 121) (hszb ▸ hsb : szb ≤ 121)))) (And.intro hga hgb))
        have HN := Lib.hid (show i < n ∧ n ≤ 30 ∧ L = i + 1 from ⟨hlt, HF.out.1, hL⟩)
        have hj1 : ja * 4 < 9223372036854775807 := by omega
        clear hta htb hsa hsb hga hgb cua cub cva cvb lpa lpb lra lrb hUU hVV hrel hL hk hja hjb hLn hL1 hlt hjaL hjbL hsza hszb hj1
        obtain ⟨e0, e1, e2, -⟩ := HAC.out _ (HR5.out _ (Bt.refl _ _)).2.2.2.2.2.2.2.2.2.2.below
        have wk : IntKind.i64.wrap ((sza : Int) + (szb : Int)) = (sza : Int) + (szb : Int) := by have := HT.out.1.2.2; rw [IntKind.wrap_i64]; omega
        go_wp2_with fail
        have kc0 := fun d os => cell_regrown (HR5.out _ (Bt.refl _ _)).2.2.1.c0 d os
        have kc1 := fun d os => cell_regrown (HR5.out _ (Bt.refl _ _)).2.2.1.c1 d os
        have kc2 := fun d os => cell_regrown (HR5.out _ (Bt.refl _ _)).2.2.1.c2 d os
        have kc3 := fun d os => cell_regrown (HR5.out _ (Bt.refl _ _)).2.2.1.c3 d os
        have kc4 := fun d os => cell_regrown (HR5.out _ (Bt.refl _ _)).2.2.2.1.c0 d os
        have kc5 := fun d os => cell_regrown (HR5.out _ (Bt.refl _ _)).2.2.2.1.c1 d os
        have kc6 := fun d os => cell_regrown (HR5.out _ (Bt.refl _ _)).2.2.2.1.c2 d os
        have kc7 := fun d os => cell_regrown (HR5.out _ (Bt.refl _ _)).2.2.2.1.c3 d os
        have HC1 := Lib.hid (fun d os => in_class (w := wr) (fun W hb => refSize_any _ ta a1 a2 Aa na ka Ga sza W (HR5.out _ (Bt.ofBelow hb)).2.2.2.2.2.2.1 HT.out.1.1 (by have := HT.out.1; omega) HT.out.2.1.ok) d os)
        have HC2 := Lib.hid (fun d os => in_class (w := wr) (fun W hb => refSize_any _ tb d1 d2 Ab nb kb Gb szb W (HR5.out _ (Bt.ofBelow hb)).2.2.2.2.2.2.2.1 HT.out.1.2.1 (by have := HT.out.1; omega) HT.out.2.2.ok) d os)
        rw [world_self wr]
        generalize wr.drawn = d0
        generalize (#[] : Array Obj) = os0
        refine wp_region_class (by kernel_rfl) (by kernel_rfl) ?_
        repeat (go_big_quiet_step (first | (with_reducible exact HC1.out _ _) | (with_reducible exact HC2.out _ _) | fail))
        refine wpQuiet_nil ?_
        intro _ hw'
        obtain ⟨⟨dq, osq⟩, hw''⟩ := hw'
        subst hw''
        have hb := below_regrown wr dq osq
        have HM6 := Lib.hid (HM5.out.stay hb)
        have HR6 := Lib.hid (fun W (hz : Bt (some mb) (grow (redrawn wr dq) osq) W) => HR5.out W ((Bt.ofBelow hb).trans hz))
        clear HR5 HM5 hb kc0 kc1 kc2 kc3 kc4 kc5 kc6 kc7 HC1 HC2 
        generalize grow (redrawn wr dq) osq = w6 at *
        clear e0 e1 e2 r1 r2 z1 z2
        by_cases htot : 120 < sza + szb
        · have g1 : decide ((120 : Int) < (sza : Int) + (szb : Int)) = true := by simp; omega
          have g2 : (120 : Int) < (sza : Int) + (szb : Int) := by omega
          go_wp2_with fail
          go_ret
          exact ⟨rfl, (HR6.out _ (Bt.refl _ _)).2.2.2.2.2.2.2.2.2.2.below⟩
        have g1 : decide ((120 : Int) < (sza : Int) + (szb : Int)) = false := by simp; omega
        have g2 : ¬ ((120 : Int) < (sza : Int) + (szb : Int)) := by omega
        have HTOT := Lib.hid (Nat.le_of_not_lt htot)
        clear htot wk
        obtain ⟨e0, -⟩ := HAC.out ((w6.alloc (.cells #[.pointer none] 29)).alloc (.cells #[.bool false, .int .i64 0, .int .i64 0, .slice none 0 0] 35)) ((HR6.out _ (((Bt.refl _ _).alloc _).alloc _)).2.2.2.2.2.2.2.2.2.2.below)
        have HS0 := Lib.hid (show w.heap.size ≤ w6.heap.size ∧ gu < w6.heap.size ∧ gv < w6.heap.size ∧ mb < w6.heap.size from ⟨(HR6.out _ (Bt.refl _ _)).2.2.2.2.2.2.2.2.2.2.below.size, (HR6.out _ (Bt.refl _ _)).1.lt, (HR6.out _ (Bt.refl _ _)).2.2.1.lt, HM6.out.lt⟩)
        have HCM := Lib.hid (show 0 ≤ cc ∧ cc ≤ 300000 ∧ 0 ≤ mm ∧ mm ≤ 300000 from by have := Z.out.1; have := HN.out; omega)
        by_cases hy0 : yk = 0
        · subst hy0
          as_aux_lemma =>
            go_wp2_with fail
            obtain ⟨bH, hbH⟩ : ∃ b, b = w6.heap.size := ⟨_, rfl⟩
            obtain ⟨bW, hbW⟩ : ∃ b, b = w6.heap.size + 1 := ⟨_, rfl⟩
            have hb2 : Bt (some mb) w6 ((w6.alloc (.cells #[.pointer none] 29)).alloc (.cells #[.bool false, .int .i64 0, .int .i64 0, .slice none 0 0] 35)) := ((Bt.refl _ _).alloc _).alloc _
            have hvh : HVar ((w6.alloc (.cells #[.pointer none] 29)).alloc (.cells #[.bool false, .int .i64 0, .int .i64 0, .slice none 0 0] 35)) bH none := HVar.bt (HVar.new w6 none hbH) ((Bt.refl (some mb) (w6.alloc (.cells #[.pointer none] 29))).alloc (.cells #[.bool false, .int .i64 0, .int .i64 0, .slice none 0 0] 35)) (HM6.out.alloc _)
            have hvw : QVar ((w6.alloc (.cells #[.pointer none] 29)).alloc (.cells #[.bool false, .int .i64 0, .int .i64 0, .slice none 0 0] 35)) bW (0, 0) none 0 0 false := new_at (by rw [hbW]; simp)
            have hwk : ∀ k, k < w6.heap.size → FP gv mb gu mb mb k → FP gv mb gu bW bH k := fun k hk hf => ⟨hf.1, hf.2.1, hf.2.2.1, by omega, by omega⟩
            have HM7 := Lib.hid ((HM6.out.alloc (.cells #[.pointer none] 29)).alloc (.cells #[.bool false, .int .i64 0, .int .i64 0, .slice none 0 0] 35))
            have HR7 := Lib.hid (fun W (hz : Bt (some mb) ((w6.alloc (.cells #[.pointer none] 29)).alloc (.cells #[.bool false, .int .i64 0, .int .i64 0, .slice none 0 0] 35)) W) => And.intro ((hvh).bt hz HM7.out) ( And.intro ((hvw).bt hz HM7.out) ( And.intro (((HR6.out _ hb2).1).bt hz HM7.out) ( And.intro (((HR6.out _ hb2).2.1).bt hz HM7.out) ( And.intro (((HR6.out _ hb2).2.2.1).bt hz HM7.out) ( And.intro (((HR6.out _ hb2).2.2.2.1).bt hz HM7.out) ( And.intro (((HR6.out _ hb2).2.2.2.2.1).bt hz HM7.out) ( And.intro (((HR6.out _ hb2).2.2.2.2.2.1).bt hz HM7.out) ( And.intro (((((HR6.out _ (Bt.refl _ _)).2.2.2.2.2.2.1.weak hwk).bt hb2 HM6.out)).bt hz HM7.out) ( And.intro (((((HR6.out _ (Bt.refl _ _)).2.2.2.2.2.2.2.1.weak hwk).bt hb2 HM6.out)).bt hz HM7.out) ( And.intro (((HR6.out _ hb2).2.2.2.2.2.2.2.2.1).bt hz HM7.out) ( And.intro (((((HR6.out _ (Bt.refl _ _)).2.2.2.2.2.2.2.2.2.1.weak hwk).bt hb2 HM6.out)).bt hz HM7.out) (((HR6.out _ hb2).2.2.2.2.2.2.2.2.2.2).bt HE.out hz (fun b e => by cases e; exact B_mb.out))))))))))))))
            clear hb2 hvh hvw hwk HR6 HM6
            generalize (w6.alloc (.cells #[.pointer none] 29)).alloc (.cells #[.bool false, .int .i64 0, .int .i64 0, .slice none 0 0] 35) = w7 at *
            rw [← hbW, ← hbH]
            have NHU := Lib.hid (show bH ≠ gu ∧ bH ≠ gv ∧ bW ≠ gu ∧ bW ≠ gv ∧ bW ≠ bH ∧ bW ≠ mb from by have := HS0.out; omega)
            have B_bH := Lib.hid (show w.heap.size ≤ bH from by have := HS0.out; omega)
            have B_bW := Lib.hid (show w.heap.size ≤ bW from by have := HS0.out; omega)
            clear hbH hbW
            clear e0 g1 g2
            obtain ⟨P, hP⟩ : ∃ P, P = ta.insC (y1, y2) + ta.insM (y1, y2) := ⟨_, rfl⟩
            have HP := Lib.hid (show P = ta.insC (y1, y2) + ta.insM (y1, y2) ∧ ta.insC (y1, y2) ≤ 3 ∧ ta.insM (y1, y2) ≤ 4 from ⟨hP, insC_le ta _, insM_le ta _⟩)
            obtain ⟨nn, hnn⟩ : ∃ q, q = ta.insC (y1, y2) + ta.insM (y1, y2) := ⟨_, rfl⟩
            have HNN := Lib.hid (show nn = ta.insC (y1, y2) + ta.insM (y1, y2) ∧ nn = P from ⟨hnn, by omega⟩)
            clear hnn hP
            have a0 := (show _ ∧ _ ∧ _ from ⟨(HR7.out _ ((Bt.refl _ _).drew)).2.2.1.c, (HAC.out _ (HR7.out _ ((Bt.refl _ _).drew)).2.2.2.2.2.2.2.2.2.2.2.2.below).2.2.2.1, (HAC.out _ (HR7.out _ ((Bt.refl _ _).drew)).2.2.2.2.2.2.2.2.2.2.2.2.below).2.2.2.2.1⟩)
            refine wp_region_noPanic ?_
            refine wp_region_held_drew (S := fun w' => w'.cell? ⟨gu, ja, none⟩ = some (.pointer pa) ∧ w'.cell? ⟨b0, o + i * 6 + 3, none⟩ = some (.int .i64 y1) ∧ w'.cell? ⟨b0, o + i * 6 + 4, none⟩ = some (.int .i64 y2)) (by kernel_rfl) a0 (fun hH => ?_)
            refine wpAnyH_take (i := 0) (oi := { dst := some 122, op := Go.Op.move (Go.Operand.tmp 7), type := 30, pos := "law.go:80", after := #[], guard := none }) (v := ?v1_0_0) rfl (by as_aux_lemma => kernel_rfl) (by as_aux_lemma => kernel_rfl) (by as_aux_lemma => kernel_rfl) (fun _ _ _ h => h) (Or.inl ⟨(by as_aux_lemma => kernel_rfl), ?hy1_0_0⟩) hH ?rest1_0_0
            case hy1_0_0 => (intro w hSw; (try dsimp only at hSw); go_simp; try with_reducible rfl)
            try simp only [Act.put, List.setIfInBounds_toArray, List.set_cons_zero, List.set_cons_succ]
            refine wpAnyH_take (i := 1) (oi := { dst := some 123, op := Go.Op.move (Go.Operand.tmp 10), type := 3, pos := "law.go:80", after := #[], guard := none }) (v := ?v1_0_1) rfl (by as_aux_lemma => kernel_rfl) (by as_aux_lemma => kernel_rfl) (by as_aux_lemma => kernel_rfl) (fun _ _ _ h => h) (Or.inl ⟨(by as_aux_lemma => kernel_rfl), ?hy1_0_1⟩) hH ?rest1_0_1
            case hy1_0_1 => (intro w hSw; (try dsimp only at hSw); go_simp; try with_reducible rfl)
            try simp only [Act.put, List.setIfInBounds_toArray, List.set_cons_zero, List.set_cons_succ]
            refine wpAnyH_take (i := 2) (oi := { dst := some 124, op := Go.Op.indexAddr 30 (Go.Operand.tmp 122) (Go.Operand.tmp 123), type := 0, pos := "law.go:80", after := #[{ on := 0, ground := Go.Ground.data }, { on := 1, ground := Go.Ground.data }], guard := none }) (v := ?v1_0_2) rfl (by as_aux_lemma => kernel_rfl) (by as_aux_lemma => kernel_rfl) (by as_aux_lemma => kernel_rfl) (fun _ _ _ h => h) (Or.inl ⟨(by as_aux_lemma => kernel_rfl), ?hy1_0_2⟩) hH ?rest1_0_2
            case hy1_0_2 => (intro w hSw; (try dsimp only at hSw); go_simp; try with_reducible rfl)
            try simp only [Act.put, List.setIfInBounds_toArray, List.set_cons_zero, List.set_cons_succ]
            refine wpAnyH_take (i := 3) (oi := { dst := some 125, op := Go.Op.load 29 (Go.Operand.tmp 124), type := 29, pos := "law.go:80", after := #[{ on := 2, ground := Go.Ground.data }], guard := none }) (v := ?v1_0_3) rfl (by as_aux_lemma => kernel_rfl) (by as_aux_lemma => kernel_rfl) (by as_aux_lemma => kernel_rfl) (fun _ _ _ h => h) (Or.inl ⟨(by as_aux_lemma => kernel_rfl), ?hy1_0_3⟩) hH ?rest1_0_3
            case hy1_0_3 => (intro w hSw; (try dsimp only at hSw); go_simp; try with_reducible rfl)
            try simp only [Act.put, List.setIfInBounds_toArray, List.set_cons_zero, List.set_cons_succ]
            refine wpAnyH_take (i := 4) (oi := { dst := some 126, op := Go.Op.move (Go.Operand.tmp 5), type := 25, pos := "law.go:80", after := #[], guard := none }) (v := ?v1_0_4) rfl (by as_aux_lemma => kernel_rfl) (by as_aux_lemma => kernel_rfl) (by as_aux_lemma => kernel_rfl) (fun _ _ _ h => h) (Or.inl ⟨(by as_aux_lemma => kernel_rfl), ?hy1_0_4⟩) hH ?rest1_0_4
            case hy1_0_4 => (intro w hSw; (try dsimp only at hSw); go_simp; try with_reducible rfl)
            try simp only [Act.put, List.setIfInBounds_toArray, List.set_cons_zero, List.set_cons_succ]
            refine wpAnyH_take (i := 5) (oi := { dst := some 127, op := Go.Op.move (Go.Operand.tmp 0), type := 22, pos := "law.go:80", after := #[], guard := none }) (v := ?v1_0_5) rfl (by as_aux_lemma => kernel_rfl) (by as_aux_lemma => kernel_rfl) (by as_aux_lemma => kernel_rfl) (fun _ _ _ h => h) (Or.inl ⟨(by as_aux_lemma => kernel_rfl), ?hy1_0_5⟩) hH ?rest1_0_5
            case hy1_0_5 => (intro w hSw; (try dsimp only at hSw); go_simp; try with_reducible rfl)
            try simp only [Act.put, List.setIfInBounds_toArray, List.set_cons_zero, List.set_cons_succ]
            refine wpAnyH_take (i := 6) (oi := { dst := some 128, op := Go.Op.move (Go.Operand.tmp 9), type := 3, pos := "law.go:80", after := #[], guard := none }) (v := ?v1_0_6) rfl (by as_aux_lemma => kernel_rfl) (by as_aux_lemma => kernel_rfl) (by as_aux_lemma => kernel_rfl) (fun _ _ _ h => h) (Or.inl ⟨(by as_aux_lemma => kernel_rfl), ?hy1_0_6⟩) hH ?rest1_0_6
            case hy1_0_6 => (intro w hSw; (try dsimp only at hSw); go_simp; try with_reducible rfl)
            try simp only [Act.put, List.setIfInBounds_toArray, List.set_cons_zero, List.set_cons_succ]
            refine wpAnyH_take (i := 7) (oi := { dst := some 129, op := Go.Op.indexAddr 22 (Go.Operand.tmp 127) (Go.Operand.tmp 128), type := 0, pos := "law.go:80", after := #[{ on := 5, ground := Go.Ground.data }, { on := 6, ground := Go.Ground.data }], guard := none }) (v := ?v1_0_7) rfl (by as_aux_lemma => kernel_rfl) (by as_aux_lemma => kernel_rfl) (by as_aux_lemma => kernel_rfl) (fun _ _ _ h => h) (Or.inl ⟨(by as_aux_lemma => kernel_rfl), ?hy1_0_7⟩) hH ?rest1_0_7
            case hy1_0_7 => (intro w hSw; (try dsimp only at hSw); go_simp; try with_reducible rfl)
            try simp only [Act.put, List.setIfInBounds_toArray, List.set_cons_zero, List.set_cons_succ]
            refine wpAnyH_take (i := 8) (oi := { dst := some 130, op := Go.Op.fieldAddr 39 (Go.Operand.tmp 129) 3, type := 0, pos := "law.go:80", after := #[{ on := 7, ground := Go.Ground.data }], guard := none }) (v := ?v1_0_8) rfl (by as_aux_lemma => kernel_rfl) (by as_aux_lemma => kernel_rfl) (by as_aux_lemma => kernel_rfl) (fun _ _ _ h => h) (Or.inl ⟨(by as_aux_lemma => kernel_rfl), ?hy1_0_8⟩) hH ?rest1_0_8
            case hy1_0_8 => (intro w hSw; (try dsimp only at hSw); go_simp; try with_reducible rfl)
            try simp only [Act.put, List.setIfInBounds_toArray, List.set_cons_zero, List.set_cons_succ]
            refine wpAnyH_take (i := 9) (oi := { dst := some 131, op := Go.Op.load 32 (Go.Operand.tmp 130), type := 32, pos := "law.go:80", after := #[{ on := 8, ground := Go.Ground.data }], guard := none }) (v := ?v1_0_9) rfl (by as_aux_lemma => kernel_rfl) (by as_aux_lemma => kernel_rfl) (by as_aux_lemma => kernel_rfl) (fun _ _ _ h => h) (Or.inl ⟨(by as_aux_lemma => kernel_rfl), ?hy1_0_9⟩) hH ?rest1_0_9
            case hy1_0_9 => (intro w hSw; (try dsimp only at hSw); go_simp; try with_reducible rfl)
            try simp only [Act.put, List.setIfInBounds_toArray, List.set_cons_zero, List.set_cons_succ]
            refine wpAnyH_ready (rs := [10]) (by as_aux_lemma => kernel_rfl) (by simp) ?_
            refine AllReadyH.cons (o := { dst := some 132, op := Go.Op.call { callee := Go.Callee.value (Go.Operand.func 17), args := #[Go.Operand.tmp 125, Go.Operand.tmp 126, Go.Operand.tmp 131], argTypes := #[29, 25, 32] }, type := 29, pos := "law.go:80", after := #[{ on := 3, ground := Go.Ground.data }, { on := 4, ground := Go.Ground.data }, { on := 9, ground := Go.Ground.data }], guard := none }) rfl (fun K hK => ?_) AllReadyH.nil
            go_simp
            go_at_call 17
            (with_reducible refine (insert_any (some mb) cc mm ta (y1, y2) pa _ (by have := HT.out.1; omega) (HM7.out.drew) (by have := HCM.out; omega) (by have := HCM.out; omega) (by have := HCM.out; omega) (by have := HCM.out; omega) (HR7.out _ ((Bt.refl _ _).drew)).2.2.2.2.2.2.1).mono ?_)
            rintro e w8 ⟨p2, rfl, ht, hm, hb⟩
            have HM8 := Lib.hid hm
            have HR8 := Lib.hid (on_inv (mo := (some mb)) HR7.out (((Bt.refl (some mb) w7).drew).trans hb) (fun W hz => ht.bt hz HM8.out))
            have pv := (HR8.out _ (Bt.refl _ _)).2.1
            have pc := pv.c0
            have pz := pv.z0
            have PV := Lib.hid pv
            clear ht hb pv HR7 HM7 hm
            refine hK.out _ _ ?_ (fun hH2 => ?_)
            · exact (show _ ∧ _ ∧ _ from ⟨(HR8.out _ (Bt.refl _ _)).2.2.2.1.c, (HAC.out _ (HR8.out _ (Bt.refl _ _)).2.2.2.2.2.2.2.2.2.2.2.2.2.below).2.2.2.1, (HAC.out _ (HR8.out _ (Bt.refl _ _)).2.2.2.2.2.2.2.2.2.2.2.2.2.below).2.2.2.2.1⟩)
            clear hK K hH
            have hH := hH2
            clear hH2
            try simp only [Act.put, List.setIfInBounds_toArray, List.set_cons_zero, List.set_cons_succ]
            refine wpAnyH_ready (rs := [11]) (by as_aux_lemma => kernel_rfl) (by simp) ?_
            refine AllReadyH.cons (o := { dst := none, op := Go.Op.store 29 (Go.Operand.tmp 12) (Go.Operand.tmp 132), type := 0, pos := "law.go:80", after := #[{ on := 10, ground := Go.Ground.data }, { on := 10, ground := Go.Ground.chain }, { on := 0, ground := Go.Ground.phase }, { on := 1, ground := Go.Ground.phase }, { on := 2, ground := Go.Ground.phase }, { on := 3, ground := Go.Ground.phase }, { on := 4, ground := Go.Ground.phase }, { on := 5, ground := Go.Ground.phase }, { on := 6, ground := Go.Ground.phase }, { on := 7, ground := Go.Ground.phase }, { on := 8, ground := Go.Ground.phase }, { on := 9, ground := Go.Ground.phase }, { on := 10, ground := Go.Ground.phase }], guard := none }) rfl (fun K hK => ?_) AllReadyH.nil
            go_simp
            refine hK.out _ _ ?_ (fun hH2 => ?_)
            · exact (show _ ∧ _ ∧ _ from ⟨((HR8.out _ (Bt.refl _ _)).2.2.2.1.set NHU.out.1.symm 0 _).c, (HAC.out _ ((HR8.out _ (Bt.refl _ _)).2.2.2.2.2.2.2.2.2.2.2.2.2.set HE.out B_bH.out 0 _).below).2.2.2.1, (HAC.out _ ((HR8.out _ (Bt.refl _ _)).2.2.2.2.2.2.2.2.2.2.2.2.2.set HE.out B_bH.out 0 _).below).2.2.2.2.1⟩)
            clear hK K hH
            have hH := hH2
            clear hH2
            try simp only [Act.put, List.setIfInBounds_toArray, List.set_cons_zero, List.set_cons_succ]
            refine wpAnyH_done (by as_aux_lemma => kernel_rfl) ?_ _
            refine NoPanic.normal ?_
            clear hH
            clear a0
            have HM9 := Lib.hid (HM8.out.set PV.out (.pointer p2))
            have HR9 := Lib.hid (fun W (hz : Bt (some mb) (w8.setCell ⟨bH, 0, none⟩ (.pointer p2)) W) => And.intro ((((HR8.out _ (Bt.refl _ _)).1.set PV.out (.pointer p2))).bt hz HM9.out) ( And.intro (((PV.out.put p2)).bt hz HM9.out) ( And.intro ((((HR8.out _ (Bt.refl _ _)).2.2.1.set NHU.out.2.2.2.2.1 0 (.pointer p2))).bt hz HM9.out) ( And.intro ((((HR8.out _ (Bt.refl _ _)).2.2.2.1.set NHU.out.1.symm 0 (.pointer p2))).bt hz HM9.out) ( And.intro ((((HR8.out _ (Bt.refl _ _)).2.2.2.2.1.set NHU.out.1.symm 0 (.pointer p2))).bt hz HM9.out) ( And.intro ((((HR8.out _ (Bt.refl _ _)).2.2.2.2.2.1.set NHU.out.2.1.symm 0 (.pointer p2))).bt hz HM9.out) ( And.intro ((((HR8.out _ (Bt.refl _ _)).2.2.2.2.2.2.1.set NHU.out.2.1.symm 0 (.pointer p2))).bt hz HM9.out) ( And.intro ((((HR8.out _ (Bt.refl _ _)).2.2.2.2.2.2.2.1.set PV.out (.pointer p2))).bt hz HM9.out) ( And.intro ((((HR8.out _ (Bt.refl _ _)).2.2.2.2.2.2.2.2.1.set PV.out (.pointer p2))).bt hz HM9.out) ( And.intro ((((HR8.out _ (Bt.refl _ _)).2.2.2.2.2.2.2.2.2.1.set PV.out (.pointer p2))).bt hz HM9.out) ( And.intro ((((HR8.out _ (Bt.refl _ _)).2.2.2.2.2.2.2.2.2.2.1.set PV.out (.pointer p2))).bt hz HM9.out) ( And.intro ((((HR8.out _ (Bt.refl _ _)).2.2.2.2.2.2.2.2.2.2.2.1.set PV.out NHU.out.1 (.pointer p2))).bt hz HM9.out) ( And.intro ((((HR8.out _ (Bt.refl _ _)).2.2.2.2.2.2.2.2.2.2.2.2.1.set PV.out NHU.out.2.1 (.pointer p2))).bt hz HM9.out) ((((HR8.out _ (Bt.refl _ _)).2.2.2.2.2.2.2.2.2.2.2.2.2.set HE.out B_bH.out 0 (.pointer p2))).bt HE.out hz (fun b e => by cases e; exact B_mb.out)))))))))))))))
            clear HR8 HM8 PV pc pz 
            generalize w8.setCell ⟨bH, 0, none⟩ (.pointer p2) = w9 at *
            have HMID := Lib.hid (show Mid w mb gu cu gv cv L bH bW ts (cc + (ta.insC (y1, y2) : Int)) (mm + (ta.insM (y1, y2) : Int)) (ta.insert (y1, y2)) p2 w9 from ⟨HM9.out, (HR9.out _ (Bt.refl _ _)).2.2.2.2.2.2.2.2.2.2.2.1, (HR9.out _ (Bt.refl _ _)).2.2.2.2.2.2.2.2.2.2.2.2.1, (HR9.out _ (Bt.refl _ _)).2.2.2.2.2.2.2.2.2.2.2.2.2, (HR9.out _ (Bt.refl _ _)).1, (HR9.out _ (Bt.refl _ _)).2.1, ⟨HOWN.out.1, HOWN.out.2, B_bW.out⟩, ⟨NHU.out.1, NHU.out.2.2.2.1⟩⟩)
            have HC := Lib.hid (show (cc + (ta.insC (y1, y2) : Int)) + (mm + (ta.insM (y1, y2) : Int)) = st + (nn : Int) ∧ 0 ≤ cc + (ta.insC (y1, y2) : Int) ∧ cc + (ta.insC (y1, y2) : Int) ≤ 10000 * ((i + 1 : Nat) : Int) ∧ 0 ≤ mm + (ta.insM (y1, y2) : Int) ∧ mm + (ta.insM (y1, y2) : Int) ≤ 10000 * ((i + 1 : Nat) : Int) from (by have := HCM.out; have := HP.out; have := HNN.out; have := Z.out; have := HST.out; omega))
            have ws : IntKind.i64.wrap (st + (nn : Int)) = st + (nn : Int) := by have := HC.out; have := HN.out; rw [IntKind.wrap_i64]; omega
            have HRA := Lib.hid (HR9.out _ (Bt.refl _ _)).2.2.2.2.2.2.2.2.2.1
            have HVW := Lib.hid (HR9.out _ (Bt.refl _ _)).2.2.1
            have HS1 := Lib.hid (fun (w' : World) (hz : Below w9.heap.size w9 w') => (show w'.cell? ⟨b0, o + i * 6 + 3, none⟩ = some (.int .i64 y1) ∧ w'.cell? ⟨b0, o + i * 6 + 4, none⟩ = some (.int .i64 y2) ∧ w'.cell? ⟨gv, ja * 4, none⟩ = some (.bool Ga) ∧ w'.cell? ⟨gv, ja * 4 + 1, none⟩ = some (.int .i64 a1) ∧ w'.cell? ⟨gv, ja * 4 + 2, none⟩ = some (.int .i64 a2) ∧ w'.cell? ⟨gv, ja * 4 + 3, none⟩ = some (.slice Aa na ka) from ⟨(HAC.out _ ((HR9.out _ (Bt.ofBelow hz)).2.2.2.2.2.2.2.2.2.2.2.2.2.below)).2.2.2.1, (HAC.out _ ((HR9.out _ (Bt.ofBelow hz)).2.2.2.2.2.2.2.2.2.2.2.2.2.below)).2.2.2.2.1, (HR9.out _ (Bt.ofBelow hz)).2.2.2.2.2.1.c0, (HR9.out _ (Bt.ofBelow hz)).2.2.2.2.2.1.c1, (HR9.out _ (Bt.ofBelow hz)).2.2.2.2.2.1.c2, (HR9.out _ (Bt.ofBelow hz)).2.2.2.2.2.1.c3⟩))
            have hFo1 : ∀ k, w9.heap.size ≤ k → FP gv mb gu bW bH k := by have h1 := (HR9.out _ (Bt.refl _ _)).2.2.2.2.2.1.lt; have h2 := HM9.out.lt; have h3 := HVW.out.lt; have h4 := (HR9.out _ (Bt.refl _ _)).2.2.2.1.lt; have h5 := (HR9.out _ (Bt.refl _ _)).2.1.lt; exact fun k hk => ⟨by omega, by omega, by omega, by omega, by omega⟩
            clear HR9 HM9
            go_wp2_with fail
            refine wp_after (R := fun a a' w' => ∃ (u134 u135 u136 u137 u138 u139 u140 u141 u142 u143 u133 u144 u145 : Value) (bv : Nat) (z1 z2 : Int) (Az : Option Addr) (nz cz : Nat) (Nz : Bool), a' = (((((((((((((((a.put (some 134) u134).put (some 135) u135).put (some 136) u136).put (some 137) u137).put (some 138) u138).put (some 139) u139).put (some 140) u140).put (some 141) u141).put (some 142) u142).put (some 143) u143).put (some 133) u133).put (some 144) u144).put (some 145) u145).put (some 15) (.pointer (some ⟨bv, 0, none⟩))).put (some 16) (.int .i64 (nn : Int))) ∧ Below w9.heap.size w9 w' ∧ QVar w' bv (z1, z2) Az nz cz Nz ∧ RAt (FP gv mb gu bW bH) w' (ta.insert (y1, y2)) (z1, z2) Az nz cz Nz) ?_ ?_
            · have hd0 : Below w9.heap.size w9 w9.drew := (Below.refl _ _).drew
              have hSd : w9.heap.size = w9.drew.heap.size := rfl
              refine wp_region_noPanic ?_
              refine wp_region_held_drew (S := fun w' => w'.cell? ⟨b0, o + i * 6 + 3, none⟩ = some (.int .i64 y1) ∧ w'.cell? ⟨b0, o + i * 6 + 4, none⟩ = some (.int .i64 y2) ∧ w'.cell? ⟨gv, ja * 4, none⟩ = some (.bool Ga) ∧ w'.cell? ⟨gv, ja * 4 + 1, none⟩ = some (.int .i64 a1) ∧ w'.cell? ⟨gv, ja * 4 + 2, none⟩ = some (.int .i64 a2) ∧ w'.cell? ⟨gv, ja * 4 + 3, none⟩ = some (.slice Aa na ka)) (by kernel_rfl) (HS1.out _ hd0) (fun hH => ?_)
              generalize w9.drew = wd at *
              refine wpAnyH_take (i := 0) (oi := { dst := some 134, op := Go.Op.move (Go.Operand.tmp 0), type := 22, pos := "law.go:81", after := #[], guard := none }) (v := ?v2_0_0) rfl (by as_aux_lemma => kernel_rfl) (by as_aux_lemma => kernel_rfl) (by as_aux_lemma => kernel_rfl) (fun _ _ _ h => h) (Or.inl ⟨(by as_aux_lemma => kernel_rfl), ?hy2_0_0⟩) hH ?rest2_0_0
              case hy2_0_0 => (intro w hSw; (try dsimp only at hSw); go_simp; try with_reducible rfl)
              try simp only [Act.put, List.setIfInBounds_toArray, List.set_cons_zero, List.set_cons_succ]
              refine wpAnyH_take (i := 1) (oi := { dst := some 135, op := Go.Op.move (Go.Operand.tmp 9), type := 3, pos := "law.go:81", after := #[], guard := none }) (v := ?v2_0_1) rfl (by as_aux_lemma => kernel_rfl) (by as_aux_lemma => kernel_rfl) (by as_aux_lemma => kernel_rfl) (fun _ _ _ h => h) (Or.inl ⟨(by as_aux_lemma => kernel_rfl), ?hy2_0_1⟩) hH ?rest2_0_1
              case hy2_0_1 => (intro w hSw; (try dsimp only at hSw); go_simp; try with_reducible rfl)
              try simp only [Act.put, List.setIfInBounds_toArray, List.set_cons_zero, List.set_cons_succ]
              refine wpAnyH_take (i := 2) (oi := { dst := some 136, op := Go.Op.indexAddr 22 (Go.Operand.tmp 134) (Go.Operand.tmp 135), type := 0, pos := "law.go:81", after := #[{ on := 0, ground := Go.Ground.data }, { on := 1, ground := Go.Ground.data }], guard := none }) (v := ?v2_0_2) rfl (by as_aux_lemma => kernel_rfl) (by as_aux_lemma => kernel_rfl) (by as_aux_lemma => kernel_rfl) (fun _ _ _ h => h) (Or.inl ⟨(by as_aux_lemma => kernel_rfl), ?hy2_0_2⟩) hH ?rest2_0_2
              case hy2_0_2 => (intro w hSw; (try dsimp only at hSw); go_simp; try with_reducible rfl)
              try simp only [Act.put, List.setIfInBounds_toArray, List.set_cons_zero, List.set_cons_succ]
              refine wpAnyH_take (i := 3) (oi := { dst := some 137, op := Go.Op.fieldAddr 39 (Go.Operand.tmp 136) 3, type := 0, pos := "law.go:81", after := #[{ on := 2, ground := Go.Ground.data }], guard := none }) (v := ?v2_0_3) rfl (by as_aux_lemma => kernel_rfl) (by as_aux_lemma => kernel_rfl) (by as_aux_lemma => kernel_rfl) (fun _ _ _ h => h) (Or.inl ⟨(by as_aux_lemma => kernel_rfl), ?hy2_0_3⟩) hH ?rest2_0_3
              case hy2_0_3 => (intro w hSw; (try dsimp only at hSw); go_simp; try with_reducible rfl)
              try simp only [Act.put, List.setIfInBounds_toArray, List.set_cons_zero, List.set_cons_succ]
              refine wpAnyH_take (i := 4) (oi := { dst := some 138, op := Go.Op.load 32 (Go.Operand.tmp 137), type := 32, pos := "law.go:81", after := #[{ on := 3, ground := Go.Ground.data }], guard := none }) (v := ?v2_0_4) rfl (by as_aux_lemma => kernel_rfl) (by as_aux_lemma => kernel_rfl) (by as_aux_lemma => kernel_rfl) (fun _ _ _ h => h) (Or.inl ⟨(by as_aux_lemma => kernel_rfl), ?hy2_0_4⟩) hH ?rest2_0_4
              case hy2_0_4 => (intro w hSw; (try dsimp only at hSw); go_simp; try with_reducible rfl)
              try simp only [Act.put, List.setIfInBounds_toArray, List.set_cons_zero, List.set_cons_succ]
              refine wpAnyH_take (i := 5) (oi := { dst := some 139, op := Go.Op.move (Go.Operand.tmp 8), type := 36, pos := "law.go:81", after := #[], guard := none }) (v := ?v2_0_5) rfl (by as_aux_lemma => kernel_rfl) (by as_aux_lemma => kernel_rfl) (by as_aux_lemma => kernel_rfl) (fun _ _ _ h => h) (Or.inl ⟨(by as_aux_lemma => kernel_rfl), ?hy2_0_5⟩) hH ?rest2_0_5
              case hy2_0_5 => (intro w hSw; (try dsimp only at hSw); go_simp; try with_reducible rfl)
              try simp only [Act.put, List.setIfInBounds_toArray, List.set_cons_zero, List.set_cons_succ]
              refine wpAnyH_take (i := 6) (oi := { dst := some 140, op := Go.Op.move (Go.Operand.tmp 10), type := 3, pos := "law.go:81", after := #[], guard := none }) (v := ?v2_0_6) rfl (by as_aux_lemma => kernel_rfl) (by as_aux_lemma => kernel_rfl) (by as_aux_lemma => kernel_rfl) (fun _ _ _ h => h) (Or.inl ⟨(by as_aux_lemma => kernel_rfl), ?hy2_0_6⟩) hH ?rest2_0_6
              case hy2_0_6 => (intro w hSw; (try dsimp only at hSw); go_simp; try with_reducible rfl)
              try simp only [Act.put, List.setIfInBounds_toArray, List.set_cons_zero, List.set_cons_succ]
              refine wpAnyH_take (i := 7) (oi := { dst := some 141, op := Go.Op.indexAddr 36 (Go.Operand.tmp 139) (Go.Operand.tmp 140), type := 0, pos := "law.go:81", after := #[{ on := 5, ground := Go.Ground.data }, { on := 6, ground := Go.Ground.data }], guard := none }) (v := ?v2_0_7) rfl (by as_aux_lemma => kernel_rfl) (by as_aux_lemma => kernel_rfl) (by as_aux_lemma => kernel_rfl) (fun _ _ _ h => h) (Or.inl ⟨(by as_aux_lemma => kernel_rfl), ?hy2_0_7⟩) hH ?rest2_0_7
              case hy2_0_7 => (intro w hSw; (try dsimp only at hSw); go_simp; try with_reducible rfl)
              try simp only [Act.put, List.setIfInBounds_toArray, List.set_cons_zero, List.set_cons_succ]
              refine wpAnyH_take (i := 8) (oi := { dst := some 142, op := Go.Op.load 35 (Go.Operand.tmp 141), type := 35, pos := "law.go:81", after := #[{ on := 7, ground := Go.Ground.data }], guard := none }) (v := ?v2_0_8) rfl (by as_aux_lemma => kernel_rfl) (by as_aux_lemma => kernel_rfl) (by as_aux_lemma => kernel_rfl) (fun _ _ _ h => h) (Or.inl ⟨(by as_aux_lemma => kernel_rfl), ?hy2_0_8⟩) hH ?rest2_0_8
              case hy2_0_8 => (intro w hSw; (try dsimp only at hSw); go_simp; try with_reducible rfl)
              try simp only [Act.put, List.setIfInBounds_toArray, List.set_cons_zero, List.set_cons_succ]
              refine wpAnyH_ready (rs := [9, 13]) (by as_aux_lemma => kernel_rfl) (by simp) ?_
              refine AllReadyH.cons (o := { dst := some 143, op := Go.Op.call { callee := Go.Callee.value (Go.Operand.func 18), args := #[Go.Operand.tmp 138, Go.Operand.tmp 142], argTypes := #[32, 35] }, type := 42, pos := "law.go:81", after := #[{ on := 4, ground := Go.Ground.data }, { on := 8, ground := Go.Ground.data }], guard := none }) rfl (fun K hK => ?_) (AllReadyH.cons (o := { dst := some 15, op := Go.Op.alloc 35, type := 0, pos := "law.go:81", after := #[], guard := none }) rfl (fun K hK => ?_) AllReadyH.nil)
              · have hFoA : ∀ k, wd.heap.size ≤ k → (FP gv mb gu bW bH) k := fun k hk => hFo1 k (by have := hd0.size; omega)
                have rA0 := HRA.out.stay hd0
                go_simp
                go_at_call 18
                (with_reducible refine (refInsert_any _ ta y1 y2 a1 a2 Aa na ka Ga _ hFoA (by have := HT.out.1; omega) HT.out.2.1.ok rA0).mono ?_)
                rintro e wc9 ⟨z1, z2, Az, nz, cz, Nz, rfl, ht9, hb9⟩
                rw [← HNN.out.1]
                refine hK.out _ _ ?_ (fun hH2 => ?_)
                · exact HS1.out _ (hd0.trans (hb9.mono hd0.size))
                clear hK K hH
                have hH := hH2
                clear hH2
                have hbx0 := hd0.trans (hb9.mono hd0.size)
                try simp only [Act.put, List.setIfInBounds_toArray, List.set_cons_zero, List.set_cons_succ]
                refine wpAnyH_take (i := 10) (oi := { dst := some 133, op := Go.Op.move (Go.Operand.tmp 143), type := 42, pos := "law.go:81", after := #[{ on := 9, ground := Go.Ground.data }], guard := none }) (v := ?v2_1_10) rfl (by as_aux_lemma => kernel_rfl) (by as_aux_lemma => kernel_rfl) (by as_aux_lemma => kernel_rfl) (fun _ _ _ h => h) (Or.inl ⟨(by as_aux_lemma => kernel_rfl), ?hy2_1_10⟩) hH ?rest2_1_10
                case hy2_1_10 => (intro w hSw; (try dsimp only at hSw); go_simp; try with_reducible rfl)
                try simp only [Act.put, List.setIfInBounds_toArray, List.set_cons_zero, List.set_cons_succ]
                refine wpAnyH_take (i := 11) (oi := { dst := some 144, op := Go.Op.extract (Go.Operand.tmp 133) 0, type := 35, pos := "law.go:81", after := #[{ on := 10, ground := Go.Ground.data }], guard := none }) (v := ?v2_1_11) rfl (by as_aux_lemma => kernel_rfl) (by as_aux_lemma => kernel_rfl) (by as_aux_lemma => kernel_rfl) (fun _ _ _ h => h) (Or.inl ⟨(by as_aux_lemma => kernel_rfl), ?hy2_1_11⟩) hH ?rest2_1_11
                case hy2_1_11 => (intro w hSw; (try dsimp only at hSw); go_simp; try with_reducible rfl)
                try simp only [Act.put, List.setIfInBounds_toArray, List.set_cons_zero, List.set_cons_succ]
                refine wpAnyH_take (i := 12) (oi := { dst := some 145, op := Go.Op.extract (Go.Operand.tmp 133) 1, type := 3, pos := "law.go:81", after := #[{ on := 10, ground := Go.Ground.data }, { on := 14, ground := Go.Ground.gcOnly Go.Departure.lateStores }], guard := none }) (v := ?v2_1_12) rfl (by as_aux_lemma => kernel_rfl) (by as_aux_lemma => kernel_rfl) (by as_aux_lemma => kernel_rfl) (fun _ _ _ h => h) (Or.inl ⟨(by as_aux_lemma => kernel_rfl), ?hy2_1_12⟩) hH ?rest2_1_12
                case hy2_1_12 => (intro w hSw; (try dsimp only at hSw); go_simp; try with_reducible rfl)
                try simp only [Act.put, List.setIfInBounds_toArray, List.set_cons_zero, List.set_cons_succ]
                refine wpAnyH_ready (rs := [13]) (by as_aux_lemma => kernel_rfl) (by simp) ?_
                refine AllReadyH.cons (o := { dst := some 15, op := Go.Op.alloc 35, type := 0, pos := "law.go:81", after := #[], guard := none }) rfl (fun K hK => ?_) AllReadyH.nil
                go_simp
                refine hK.out _ _ ?_ (fun hH2 => ?_)
                · exact HS1.out _ (hbx0.alloc hbx0.size _)
                clear hK K hH
                have hH := hH2
                clear hH2
                have hv := QVar.new wc9 0 0 none 0 0 false rfl
                have hbx := hbx0.alloc hbx0.size (.cells #[.bool false, .int .i64 0, .int .i64 0, .slice none 0 0] 35)
                have htx := ht9.far (F' := fun k => (FP gv mb gu bW bH) k ∧ k ≠ wc9.heap.size) (W' := wc9.alloc (.cells #[.bool false, .int .i64 0, .int .i64 0, .slice none 0 0] 35)) ⟨fun k hk _ => ((Below.refl _ wc9).alloc (Nat.le_refl _) _).block k hk, fun k hk hf => ⟨hf, by omega⟩⟩
                have hSR0 : w9.heap.size ≤ wc9.heap.size := hbx0.size
                obtain ⟨bv, hbv⟩ : ∃ b, b = wc9.heap.size := ⟨_, rfl⟩
                rw [← hbv] at hv htx hSR0 ⊢
                have hSR := hSR0
                clear hbv hb9 ht9 hbx0 hSR0
                generalize wc9.alloc (.cells #[.bool false, .int .i64 0, .int .i64 0, .slice none 0 0] 35) = wc10 at *
                try simp only [Act.put, List.setIfInBounds_toArray, List.set_cons_zero, List.set_cons_succ]
                have v0 := hv.c0
                have vz0 := hv.z0
                have v1 := hv.c1
                have vz1 := hv.z1
                have v2 := hv.c2
                have vz2 := hv.z2
                have v3 := hv.c3
                have vz3 := hv.z3
                refine wpAnyH_ready (rs := [14]) (by as_aux_lemma => kernel_rfl) (by simp) ?_
                refine AllReadyH.cons (o := { dst := none, op := Go.Op.store 35 (Go.Operand.tmp 15) (Go.Operand.tmp 144), type := 0, pos := "law.go:81", after := #[{ on := 13, ground := Go.Ground.data }, { on := 11, ground := Go.Ground.data }, { on := 9, ground := Go.Ground.chain }, { on := 0, ground := Go.Ground.phase }, { on := 1, ground := Go.Ground.phase }, { on := 2, ground := Go.Ground.phase }, { on := 3, ground := Go.Ground.phase }, { on := 4, ground := Go.Ground.phase }, { on := 5, ground := Go.Ground.phase }, { on := 6, ground := Go.Ground.phase }, { on := 7, ground := Go.Ground.phase }, { on := 8, ground := Go.Ground.phase }, { on := 9, ground := Go.Ground.phase }, { on := 10, ground := Go.Ground.phase }, { on := 11, ground := Go.Ground.phase }, { on := 12, ground := Go.Ground.textOnly Go.Departure.lateStores }, { on := 13, ground := Go.Ground.phase }], guard := none }) rfl (fun K hK => ?_) AllReadyH.nil
                go_simp
                refine hK.out _ _ ?_ (fun hH2 => ?_)
                · exact HS1.out _ ((hv.wrote z1 z2 Az nz cz Nz).2.below hbx hSR)
                clear hK K hH
                have hH := hH2
                clear hH2
                obtain ⟨hvz, hw⟩ := hv.wrote z1 z2 Az nz cz Nz
                have hbz := hw.below hbx hSR
                have htz := htx.far (F' := (FP gv mb gu bW bH)) (W' := _) ⟨fun k hk hf => hw.keep k hf.2, fun _ _ hf => hf.1⟩
                clear v0 v1 v2 v3 vz0 vz1 vz2 vz3
                generalize (((wc10.setCell ⟨bv, 0, none⟩ (.bool Nz)).setCell ⟨bv, 1, none⟩ (.int .i64 z1)).setCell ⟨bv, 2, none⟩ (.int .i64 z2)).setCell ⟨bv, 3, none⟩ (.slice Az nz cz) = wc11 at *
                try simp only [Act.put, List.setIfInBounds_toArray, List.set_cons_zero, List.set_cons_succ]
                refine wpAnyH_ready (rs := [15]) (by as_aux_lemma => kernel_rfl) (by simp) ?_
                refine AllReadyH.cons (o := { dst := some 16, op := Go.Op.assign (Go.Operand.tmp 145), type := 3, pos := "law.go:81", after := #[{ on := 12, ground := Go.Ground.data }, { on := 14, ground := Go.Ground.chain }, { on := 0, ground := Go.Ground.phase }, { on := 1, ground := Go.Ground.phase }, { on := 2, ground := Go.Ground.phase }, { on := 3, ground := Go.Ground.phase }, { on := 4, ground := Go.Ground.phase }, { on := 5, ground := Go.Ground.phase }, { on := 6, ground := Go.Ground.phase }, { on := 7, ground := Go.Ground.phase }, { on := 8, ground := Go.Ground.phase }, { on := 9, ground := Go.Ground.phase }, { on := 10, ground := Go.Ground.phase }, { on := 11, ground := Go.Ground.phase }, { on := 12, ground := Go.Ground.phase }, { on := 13, ground := Go.Ground.phase }, { on := 14, ground := Go.Ground.phase }], guard := none }) rfl (fun K hK => ?_) AllReadyH.nil
                go_simp
                refine hK.out _ _ ?_ (fun hH2 => ?_)
                · exact HS1.out _ hbz
                clear hK K hH
                have hH := hH2
                clear hH2
                try simp only [Act.put, List.setIfInBounds_toArray, List.set_cons_zero, List.set_cons_succ]
                refine wpAnyH_done (by as_aux_lemma => kernel_rfl) ?_ _
                refine NoPanic.normal ?_
                clear hH
                exact ⟨rfl, _, _, _, _, _, _, _, _, _, _, _, _, _, bv, z1, z2, Az, nz, cz, Nz, by (try simp only [Act.put, List.setIfInBounds_toArray, List.set_cons_zero, List.set_cons_succ]); rfl, hbz, hvz, htz⟩
              · go_simp
                refine hK.out _ _ ?_ (fun hH2 => ?_)
                · exact HS1.out _ (hd0.alloc hd0.size _)
                clear hK K hH
                have hH := hH2
                clear hH2
                have hv := QVar.new wd 0 0 none 0 0 false rfl
                have hdx := hd0.alloc hd0.size (.cells #[.bool false, .int .i64 0, .int .i64 0, .slice none 0 0] 35)
                have hsx : (wd.alloc (.cells #[.bool false, .int .i64 0, .int .i64 0, .slice none 0 0] 35)).heap.size = wd.heap.size + 1 := by simp
                obtain ⟨bv, hbv⟩ : ∃ b, b = wd.heap.size := ⟨_, rfl⟩
                rw [← hbv] at hv hsx ⊢
                have hFo2 : ∀ k, (wd.alloc (.cells #[.bool false, .int .i64 0, .int .i64 0, .slice none 0 0] 35)).heap.size ≤ k → (fun k => (FP gv mb gu bW bH) k ∧ k ≠ bv) k := fun k hk => ⟨hFo1 k (by have := hd0.size; omega), by omega⟩
                have hSR : w9.heap.size ≤ bv := by have := hd0.size; omega
                have r90 := (HRA.out.stay hd0).far (F' := fun k => (FP gv mb gu bW bH) k ∧ k ≠ bv) (W' := wd.alloc (.cells #[.bool false, .int .i64 0, .int .i64 0, .slice none 0 0] 35)) ⟨fun k hk _ => ((Below.refl _ wd).alloc (Nat.le_refl _) _).block k hk, fun k hk hf => ⟨hf, by omega⟩⟩
                clear hbv hsx
                generalize wd.alloc (.cells #[.bool false, .int .i64 0, .int .i64 0, .slice none 0 0] 35) = wx at *
                try simp only [Act.put, List.setIfInBounds_toArray, List.set_cons_zero, List.set_cons_succ]
                refine wpAnyH_ready (rs := [9]) (by as_aux_lemma => kernel_rfl) (by simp) ?_
                refine AllReadyH.cons (o := { dst := some 143, op := Go.Op.call { callee := Go.Callee.value (Go.Operand.func 18), args := #[Go.Operand.tmp 138, Go.Operand.tmp 142], argTypes := #[32, 35] }, type := 42, pos := "law.go:81", after := #[{ on := 4, ground := Go.Ground.data }, { on := 8, ground := Go.Ground.data }], guard := none }) rfl (fun K hK => ?_) AllReadyH.nil
                go_simp
                go_at_call 18
                (with_reducible refine (refInsert_any _ ta y1 y2 a1 a2 Aa na ka Ga _ hFo2 (by have := HT.out.1; omega) HT.out.2.1.ok r90).mono ?_)
                rintro e wc9 ⟨z1, z2, Az, nz, cz, Nz, rfl, ht9, hb9⟩
                rw [← HNN.out.1]
                refine hK.out _ _ ?_ (fun hH2 => ?_)
                · exact HS1.out _ (hdx.trans (hb9.mono hdx.size))
                clear hK K hH
                have hH := hH2
                clear hH2
                have hbx := hdx.trans (hb9.mono hdx.size)
                replace hv := hv.stay hb9
                have htx := ht9
                clear hb9 ht9
                try simp only [Act.put, List.setIfInBounds_toArray, List.set_cons_zero, List.set_cons_succ]
                refine wpAnyH_take (i := 10) (oi := { dst := some 133, op := Go.Op.move (Go.Operand.tmp 143), type := 42, pos := "law.go:81", after := #[{ on := 9, ground := Go.Ground.data }], guard := none }) (v := ?v2_2_10) rfl (by as_aux_lemma => kernel_rfl) (by as_aux_lemma => kernel_rfl) (by as_aux_lemma => kernel_rfl) (fun _ _ _ h => h) (Or.inl ⟨(by as_aux_lemma => kernel_rfl), ?hy2_2_10⟩) hH ?rest2_2_10
                case hy2_2_10 => (intro w hSw; (try dsimp only at hSw); go_simp; try with_reducible rfl)
                try simp only [Act.put, List.setIfInBounds_toArray, List.set_cons_zero, List.set_cons_succ]
                refine wpAnyH_take (i := 11) (oi := { dst := some 144, op := Go.Op.extract (Go.Operand.tmp 133) 0, type := 35, pos := "law.go:81", after := #[{ on := 10, ground := Go.Ground.data }], guard := none }) (v := ?v2_2_11) rfl (by as_aux_lemma => kernel_rfl) (by as_aux_lemma => kernel_rfl) (by as_aux_lemma => kernel_rfl) (fun _ _ _ h => h) (Or.inl ⟨(by as_aux_lemma => kernel_rfl), ?hy2_2_11⟩) hH ?rest2_2_11
                case hy2_2_11 => (intro w hSw; (try dsimp only at hSw); go_simp; try with_reducible rfl)
                try simp only [Act.put, List.setIfInBounds_toArray, List.set_cons_zero, List.set_cons_succ]
                refine wpAnyH_take (i := 12) (oi := { dst := some 145, op := Go.Op.extract (Go.Operand.tmp 133) 1, type := 3, pos := "law.go:81", after := #[{ on := 10, ground := Go.Ground.data }, { on := 14, ground := Go.Ground.gcOnly Go.Departure.lateStores }], guard := none }) (v := ?v2_2_12) rfl (by as_aux_lemma => kernel_rfl) (by as_aux_lemma => kernel_rfl) (by as_aux_lemma => kernel_rfl) (fun _ _ _ h => h) (Or.inl ⟨(by as_aux_lemma => kernel_rfl), ?hy2_2_12⟩) hH ?rest2_2_12
                case hy2_2_12 => (intro w hSw; (try dsimp only at hSw); go_simp; try with_reducible rfl)
                try simp only [Act.put, List.setIfInBounds_toArray, List.set_cons_zero, List.set_cons_succ]
                have v0 := hv.c0
                have vz0 := hv.z0
                have v1 := hv.c1
                have vz1 := hv.z1
                have v2 := hv.c2
                have vz2 := hv.z2
                have v3 := hv.c3
                have vz3 := hv.z3
                generalize wc9 = wc10 at *
                refine wpAnyH_ready (rs := [14]) (by as_aux_lemma => kernel_rfl) (by simp) ?_
                refine AllReadyH.cons (o := { dst := none, op := Go.Op.store 35 (Go.Operand.tmp 15) (Go.Operand.tmp 144), type := 0, pos := "law.go:81", after := #[{ on := 13, ground := Go.Ground.data }, { on := 11, ground := Go.Ground.data }, { on := 9, ground := Go.Ground.chain }, { on := 0, ground := Go.Ground.phase }, { on := 1, ground := Go.Ground.phase }, { on := 2, ground := Go.Ground.phase }, { on := 3, ground := Go.Ground.phase }, { on := 4, ground := Go.Ground.phase }, { on := 5, ground := Go.Ground.phase }, { on := 6, ground := Go.Ground.phase }, { on := 7, ground := Go.Ground.phase }, { on := 8, ground := Go.Ground.phase }, { on := 9, ground := Go.Ground.phase }, { on := 10, ground := Go.Ground.phase }, { on := 11, ground := Go.Ground.phase }, { on := 12, ground := Go.Ground.textOnly Go.Departure.lateStores }, { on := 13, ground := Go.Ground.phase }], guard := none }) rfl (fun K hK => ?_) AllReadyH.nil
                go_simp
                refine hK.out _ _ ?_ (fun hH2 => ?_)
                · exact HS1.out _ ((hv.wrote z1 z2 Az nz cz Nz).2.below hbx hSR)
                clear hK K hH
                have hH := hH2
                clear hH2
                obtain ⟨hvz, hw⟩ := hv.wrote z1 z2 Az nz cz Nz
                have hbz := hw.below hbx hSR
                have htz := htx.far (F' := (FP gv mb gu bW bH)) (W' := _) ⟨fun k hk hf => hw.keep k hf.2, fun _ _ hf => hf.1⟩
                clear v0 v1 v2 v3 vz0 vz1 vz2 vz3
                generalize (((wc10.setCell ⟨bv, 0, none⟩ (.bool Nz)).setCell ⟨bv, 1, none⟩ (.int .i64 z1)).setCell ⟨bv, 2, none⟩ (.int .i64 z2)).setCell ⟨bv, 3, none⟩ (.slice Az nz cz) = wc11 at *
                try simp only [Act.put, List.setIfInBounds_toArray, List.set_cons_zero, List.set_cons_succ]
                refine wpAnyH_ready (rs := [15]) (by as_aux_lemma => kernel_rfl) (by simp) ?_
                refine AllReadyH.cons (o := { dst := some 16, op := Go.Op.assign (Go.Operand.tmp 145), type := 3, pos := "law.go:81", after := #[{ on := 12, ground := Go.Ground.data }, { on := 14, ground := Go.Ground.chain }, { on := 0, ground := Go.Ground.phase }, { on := 1, ground := Go.Ground.phase }, { on := 2, ground := Go.Ground.phase }, { on := 3, ground := Go.Ground.phase }, { on := 4, ground := Go.Ground.phase }, { on := 5, ground := Go.Ground.phase }, { on := 6, ground := Go.Ground.phase }, { on := 7, ground := Go.Ground.phase }, { on := 8, ground := Go.Ground.phase }, { on := 9, ground := Go.Ground.phase }, { on := 10, ground := Go.Ground.phase }, { on := 11, ground := Go.Ground.phase }, { on := 12, ground := Go.Ground.phase }, { on := 13, ground := Go.Ground.phase }, { on := 14, ground := Go.Ground.phase }], guard := none }) rfl (fun K hK => ?_) AllReadyH.nil
                go_simp
                refine hK.out _ _ ?_ (fun hH2 => ?_)
                · exact HS1.out _ hbz
                clear hK K hH
                have hH := hH2
                clear hH2
                try simp only [Act.put, List.setIfInBounds_toArray, List.set_cons_zero, List.set_cons_succ]
                refine wpAnyH_done (by as_aux_lemma => kernel_rfl) ?_ _
                refine NoPanic.normal ?_
                clear hH
                exact ⟨rfl, _, _, _, _, _, _, _, _, _, _, _, _, _, bv, z1, z2, Az, nz, cz, Nz, by (try simp only [Act.put, List.setIfInBounds_toArray, List.set_cons_zero, List.set_cons_succ]); rfl, hbz, hvz, htz⟩
            rintro a' w' ⟨u134, u135, u136, u137, u138, u139, u140, u141, u142, u143, u133, u144, u145, bv, z1, z2, Az, nz, cz, Nz, rfl, hbz, hvz, htz⟩
            try simp only [Act.put, List.setIfInBounds_toArray, List.set_cons_zero, List.set_cons_succ]
            have M7 := Lib.hid (HMID.out.stay HE.out hbz)
            have V7 := Lib.hid (HVW.out.stay hbz)
            have HTZ := Lib.hid htz
            have v0 := hvz.c0
            have v1 := hvz.c1
            have v2 := hvz.c2
            have v3 := hvz.c3
            clear htz hvz hbz hFo1
            go_wp2_with (first
              | (refine wpList_store_w rfl _ _ rfl _ rfl rfl V7.out ?_
                 intro wc8 hv8 hw8
                 have M8 := Lib.hid (M7.out.wrote HE.out V7.out hw8)
                 have R8 := Lib.hid (HTZ.out.far (F' := FP gv mb gu bW bH) ⟨fun k _ hf => hw8.keep k hf.2.2.2.1, fun _ _ hf => hf⟩)
                 have X8 := Lib.hid hv8
                 clear hw8 hv8 v0 v1 v2 v3)
              | (go_at_call 24; (with_reducible refine (mSteps mb _ _ _ M8.out.mt (by have := HC.out; omega) (by have := HC.out; have := HN.out; omega) (by have := HC.out; omega) (by have := HC.out; have := HN.out; omega)).mono ?_)
                 rintro e wc9 ⟨rfl, hb9⟩
                 rw [HC.out.1]
                 have M9 := Lib.hid (M8.out.stay HE.out hb9)
                 obtain ⟨g1_, c1_, W1, g2_, c2_, W2, hr1, hx1, hr2, hrel⟩ := plays_push (i := i) HE.out HN.out.2.2 (by have := HN.out; omega) M9.out ⟨HC.out.2.1, HC.out.2.2.1, HC.out.2.2.2.1, HC.out.2.2.2.2⟩ Z.out.2.1 (by rw [insert_size]; have := HT.out.1; have := HTOT.out; omega) (good_insert HT.out.2.1 HY.out) (R8.out.stay hb9) (X8.out.stay hb9)
                 have HRUN := Lib.hid (And.intro hr1 hr2)
                 have HREL := Lib.hid hrel
                 have x0 := M9.out.hv.c0
                 have x1 := hx1.c0
                 have x2 := hx1.c1
                 have x3 := hx1.c2
                 have x3b := hx1.c3
                 clear hr1 hr2 hrel hx1 hb9)
              | (at_builtin; first | (refine wpList_append_run rfl _ _ _ rfl _ _ _ _ rfl rfl HRUN.out.1 ?_) | (refine wpList_append_run rfl _ _ _ rfl _ _ _ _ rfl rfl HRUN.out.2 ?_)))
            go_roundg (n - (i + 1))
            case measure => have := Z.out.2.2.2; have := HN.out; omega
            case rel => exact ⟨i + 1, g1_, c1_, g2_, c2_, _, _, _, st + (nn : Int), by first | rfl | (congr 1; unfold wrap64; have := HN.out; omega), rfl, by rw [← HN.out.2.2], by rw [← HN.out.2.2], HC.out.1.symm, by have := HN.out; omega, HREL.out⟩
        by_cases hy1 : yk = 1
        · subst hy1
          as_aux_lemma =>
            go_wp2_with fail
            obtain ⟨bH, hbH⟩ : ∃ b, b = w6.heap.size := ⟨_, rfl⟩
            obtain ⟨bW, hbW⟩ : ∃ b, b = w6.heap.size + 1 := ⟨_, rfl⟩
            have hb2 : Bt (some mb) w6 ((w6.alloc (.cells #[.pointer none] 29)).alloc (.cells #[.bool false, .int .i64 0, .int .i64 0, .slice none 0 0] 35)) := ((Bt.refl _ _).alloc _).alloc _
            have hvh : HVar ((w6.alloc (.cells #[.pointer none] 29)).alloc (.cells #[.bool false, .int .i64 0, .int .i64 0, .slice none 0 0] 35)) bH none := HVar.bt (HVar.new w6 none hbH) ((Bt.refl (some mb) (w6.alloc (.cells #[.pointer none] 29))).alloc (.cells #[.bool false, .int .i64 0, .int .i64 0, .slice none 0 0] 35)) (HM6.out.alloc _)
            have hvw : QVar ((w6.alloc (.cells #[.pointer none] 29)).alloc (.cells #[.bool false, .int .i64 0, .int .i64 0, .slice none 0 0] 35)) bW (0, 0) none 0 0 false := new_at (by rw [hbW]; simp)
            have hwk : ∀ k, k < w6.heap.size → FP gv mb gu mb mb k → FP gv mb gu bW bH k := fun k hk hf => ⟨hf.1, hf.2.1, hf.2.2.1, by omega, by omega⟩
            have HM7 := Lib.hid ((HM6.out.alloc (.cells #[.pointer none] 29)).alloc (.cells #[.bool false, .int .i64 0, .int .i64 0, .slice none 0 0] 35))
            have HR7 := Lib.hid (fun W (hz : Bt (some mb) ((w6.alloc (.cells #[.pointer none] 29)).alloc (.cells #[.bool false, .int .i64 0, .int .i64 0, .slice none 0 0] 35)) W) => And.intro ((hvh).bt hz HM7.out) ( And.intro ((hvw).bt hz HM7.out) ( And.intro (((HR6.out _ hb2).1).bt hz HM7.out) ( And.intro (((HR6.out _ hb2).2.1).bt hz HM7.out) ( And.intro (((HR6.out _ hb2).2.2.1).bt hz HM7.out) ( And.intro (((HR6.out _ hb2).2.2.2.1).bt hz HM7.out) ( And.intro (((HR6.out _ hb2).2.2.2.2.1).bt hz HM7.out) ( And.intro (((HR6.out _ hb2).2.2.2.2.2.1).bt hz HM7.out) ( And.intro (((((HR6.out _ (Bt.refl _ _)).2.2.2.2.2.2.1.weak hwk).bt hb2 HM6.out)).bt hz HM7.out) ( And.intro (((((HR6.out _ (Bt.refl _ _)).2.2.2.2.2.2.2.1.weak hwk).bt hb2 HM6.out)).bt hz HM7.out) ( And.intro (((HR6.out _ hb2).2.2.2.2.2.2.2.2.1).bt hz HM7.out) ( And.intro (((((HR6.out _ (Bt.refl _ _)).2.2.2.2.2.2.2.2.2.1.weak hwk).bt hb2 HM6.out)).bt hz HM7.out) (((HR6.out _ hb2).2.2.2.2.2.2.2.2.2.2).bt HE.out hz (fun b e => by cases e; exact B_mb.out))))))))))))))
            clear hb2 hvh hvw hwk HR6 HM6
            generalize (w6.alloc (.cells #[.pointer none] 29)).alloc (.cells #[.bool false, .int .i64 0, .int .i64 0, .slice none 0 0] 35) = w7 at *
            rw [← hbW, ← hbH]
            have NHU := Lib.hid (show bH ≠ gu ∧ bH ≠ gv ∧ bW ≠ gu ∧ bW ≠ gv ∧ bW ≠ bH ∧ bW ≠ mb from by have := HS0.out; omega)
            have B_bH := Lib.hid (show w.heap.size ≤ bH from by have := HS0.out; omega)
            have B_bW := Lib.hid (show w.heap.size ≤ bW from by have := HS0.out; omega)
            clear hbH hbW
            clear e0 g1 g2
            obtain ⟨P, hP⟩ : ∃ P, P = meldC ta tb + meldM ta tb := ⟨_, rfl⟩
            have HP := Lib.hid (show P = meldC ta tb + meldM ta tb ∧ meldC ta tb ≤ 250 ∧ meldM ta tb ≤ 250 from ⟨hP, by have := meld_le ta tb; have := HT.out.1; omega, by have := meld_le ta tb; have := HT.out.1; omega⟩)
            obtain ⟨nn, hnn⟩ : ∃ q, q = meldC ta tb + meldM ta tb := ⟨_, rfl⟩
            have HNN := Lib.hid (show nn = meldC ta tb + meldM ta tb ∧ nn = P from ⟨hnn, by omega⟩)
            clear hnn hP
            have a0 := (show _ ∧ _ from ⟨(HR7.out _ ((Bt.refl _ _).drew)).2.2.1.c, (HR7.out _ ((Bt.refl _ _).drew)).2.2.2.1.c⟩)
            refine wp_region_noPanic ?_
            refine wp_region_held_drew (S := fun w' => w'.cell? ⟨gu, ja, none⟩ = some (.pointer pa) ∧ w'.cell? ⟨gu, jb, none⟩ = some (.pointer pb)) (by kernel_rfl) a0 (fun hH => ?_)
            refine wpAnyH_take (i := 0) (oi := { dst := some 150, op := Go.Op.move (Go.Operand.tmp 7), type := 30, pos := "law.go:85", after := #[], guard := none }) (v := ?v3_0_0) rfl (by as_aux_lemma => kernel_rfl) (by as_aux_lemma => kernel_rfl) (by as_aux_lemma => kernel_rfl) (fun _ _ _ h => h) (Or.inl ⟨(by as_aux_lemma => kernel_rfl), ?hy3_0_0⟩) hH ?rest3_0_0
            case hy3_0_0 => (intro w hSw; (try dsimp only at hSw); go_simp; try with_reducible rfl)
            try simp only [Act.put, List.setIfInBounds_toArray, List.set_cons_zero, List.set_cons_succ]
            refine wpAnyH_take (i := 1) (oi := { dst := some 151, op := Go.Op.move (Go.Operand.tmp 10), type := 3, pos := "law.go:85", after := #[], guard := none }) (v := ?v3_0_1) rfl (by as_aux_lemma => kernel_rfl) (by as_aux_lemma => kernel_rfl) (by as_aux_lemma => kernel_rfl) (fun _ _ _ h => h) (Or.inl ⟨(by as_aux_lemma => kernel_rfl), ?hy3_0_1⟩) hH ?rest3_0_1
            case hy3_0_1 => (intro w hSw; (try dsimp only at hSw); go_simp; try with_reducible rfl)
            try simp only [Act.put, List.setIfInBounds_toArray, List.set_cons_zero, List.set_cons_succ]
            refine wpAnyH_take (i := 2) (oi := { dst := some 152, op := Go.Op.indexAddr 30 (Go.Operand.tmp 150) (Go.Operand.tmp 151), type := 0, pos := "law.go:85", after := #[{ on := 0, ground := Go.Ground.data }, { on := 1, ground := Go.Ground.data }], guard := none }) (v := ?v3_0_2) rfl (by as_aux_lemma => kernel_rfl) (by as_aux_lemma => kernel_rfl) (by as_aux_lemma => kernel_rfl) (fun _ _ _ h => h) (Or.inl ⟨(by as_aux_lemma => kernel_rfl), ?hy3_0_2⟩) hH ?rest3_0_2
            case hy3_0_2 => (intro w hSw; (try dsimp only at hSw); go_simp; try with_reducible rfl)
            try simp only [Act.put, List.setIfInBounds_toArray, List.set_cons_zero, List.set_cons_succ]
            refine wpAnyH_take (i := 3) (oi := { dst := some 153, op := Go.Op.load 29 (Go.Operand.tmp 152), type := 29, pos := "law.go:85", after := #[{ on := 2, ground := Go.Ground.data }], guard := none }) (v := ?v3_0_3) rfl (by as_aux_lemma => kernel_rfl) (by as_aux_lemma => kernel_rfl) (by as_aux_lemma => kernel_rfl) (fun _ _ _ h => h) (Or.inl ⟨(by as_aux_lemma => kernel_rfl), ?hy3_0_3⟩) hH ?rest3_0_3
            case hy3_0_3 => (intro w hSw; (try dsimp only at hSw); go_simp; try with_reducible rfl)
            try simp only [Act.put, List.setIfInBounds_toArray, List.set_cons_zero, List.set_cons_succ]
            refine wpAnyH_take (i := 4) (oi := { dst := some 154, op := Go.Op.move (Go.Operand.tmp 5), type := 25, pos := "law.go:85", after := #[], guard := none }) (v := ?v3_0_4) rfl (by as_aux_lemma => kernel_rfl) (by as_aux_lemma => kernel_rfl) (by as_aux_lemma => kernel_rfl) (fun _ _ _ h => h) (Or.inl ⟨(by as_aux_lemma => kernel_rfl), ?hy3_0_4⟩) hH ?rest3_0_4
            case hy3_0_4 => (intro w hSw; (try dsimp only at hSw); go_simp; try with_reducible rfl)
            try simp only [Act.put, List.setIfInBounds_toArray, List.set_cons_zero, List.set_cons_succ]
            refine wpAnyH_take (i := 5) (oi := { dst := some 155, op := Go.Op.move (Go.Operand.tmp 7), type := 30, pos := "law.go:85", after := #[], guard := none }) (v := ?v3_0_5) rfl (by as_aux_lemma => kernel_rfl) (by as_aux_lemma => kernel_rfl) (by as_aux_lemma => kernel_rfl) (fun _ _ _ h => h) (Or.inl ⟨(by as_aux_lemma => kernel_rfl), ?hy3_0_5⟩) hH ?rest3_0_5
            case hy3_0_5 => (intro w hSw; (try dsimp only at hSw); go_simp; try with_reducible rfl)
            try simp only [Act.put, List.setIfInBounds_toArray, List.set_cons_zero, List.set_cons_succ]
            refine wpAnyH_take (i := 6) (oi := { dst := some 156, op := Go.Op.move (Go.Operand.tmp 11), type := 3, pos := "law.go:85", after := #[], guard := none }) (v := ?v3_0_6) rfl (by as_aux_lemma => kernel_rfl) (by as_aux_lemma => kernel_rfl) (by as_aux_lemma => kernel_rfl) (fun _ _ _ h => h) (Or.inl ⟨(by as_aux_lemma => kernel_rfl), ?hy3_0_6⟩) hH ?rest3_0_6
            case hy3_0_6 => (intro w hSw; (try dsimp only at hSw); go_simp; try with_reducible rfl)
            try simp only [Act.put, List.setIfInBounds_toArray, List.set_cons_zero, List.set_cons_succ]
            refine wpAnyH_take (i := 7) (oi := { dst := some 157, op := Go.Op.indexAddr 30 (Go.Operand.tmp 155) (Go.Operand.tmp 156), type := 0, pos := "law.go:85", after := #[{ on := 5, ground := Go.Ground.data }, { on := 6, ground := Go.Ground.data }], guard := none }) (v := ?v3_0_7) rfl (by as_aux_lemma => kernel_rfl) (by as_aux_lemma => kernel_rfl) (by as_aux_lemma => kernel_rfl) (fun _ _ _ h => h) (Or.inl ⟨(by as_aux_lemma => kernel_rfl), ?hy3_0_7⟩) hH ?rest3_0_7
            case hy3_0_7 => (intro w hSw; (try dsimp only at hSw); go_simp; try with_reducible rfl)
            try simp only [Act.put, List.setIfInBounds_toArray, List.set_cons_zero, List.set_cons_succ]
            refine wpAnyH_take (i := 8) (oi := { dst := some 158, op := Go.Op.load 29 (Go.Operand.tmp 157), type := 29, pos := "law.go:85", after := #[{ on := 7, ground := Go.Ground.data }], guard := none }) (v := ?v3_0_8) rfl (by as_aux_lemma => kernel_rfl) (by as_aux_lemma => kernel_rfl) (by as_aux_lemma => kernel_rfl) (fun _ _ _ h => h) (Or.inl ⟨(by as_aux_lemma => kernel_rfl), ?hy3_0_8⟩) hH ?rest3_0_8
            case hy3_0_8 => (intro w hSw; (try dsimp only at hSw); go_simp; try with_reducible rfl)
            try simp only [Act.put, List.setIfInBounds_toArray, List.set_cons_zero, List.set_cons_succ]
            refine wpAnyH_ready (rs := [9]) (by as_aux_lemma => kernel_rfl) (by simp) ?_
            refine AllReadyH.cons (o := { dst := some 159, op := Go.Op.call { callee := Go.Callee.value (Go.Operand.func 19), args := #[Go.Operand.tmp 153, Go.Operand.tmp 154, Go.Operand.tmp 158], argTypes := #[29, 25, 29] }, type := 29, pos := "law.go:85", after := #[{ on := 3, ground := Go.Ground.data }, { on := 4, ground := Go.Ground.data }, { on := 8, ground := Go.Ground.data }], guard := none }) rfl (fun K hK => ?_) AllReadyH.nil
            go_simp
            go_at_call 19
            (with_reducible refine (meld_any (some mb) ta tb cc mm pa pb _ (by have := HT.out.1; omega) (HM7.out.drew) (by have := HCM.out; omega) (by have := HCM.out; omega) (by have := HCM.out; omega) (by have := HCM.out; omega) (HR7.out _ ((Bt.refl _ _).drew)).2.2.2.2.2.2.1 (HR7.out _ ((Bt.refl _ _).drew)).2.2.2.2.2.2.2.1).mono ?_)
            rintro e w8 ⟨p2, rfl, ht, hm, hb⟩
            have HM8 := Lib.hid hm
            have HR8 := Lib.hid (on_inv (mo := (some mb)) HR7.out (((Bt.refl (some mb) w7).drew).trans hb) (fun W hz => ht.bt hz HM8.out))
            have pv := (HR8.out _ (Bt.refl _ _)).2.1
            have pc := pv.c0
            have pz := pv.z0
            have PV := Lib.hid pv
            clear ht hb pv HR7 HM7 hm
            refine hK.out _ _ ?_ (fun hH2 => ?_)
            · exact (show _ ∧ _ from ⟨(HR8.out _ (Bt.refl _ _)).2.2.2.1.c, (HR8.out _ (Bt.refl _ _)).2.2.2.2.1.c⟩)
            clear hK K hH
            have hH := hH2
            clear hH2
            try simp only [Act.put, List.setIfInBounds_toArray, List.set_cons_zero, List.set_cons_succ]
            refine wpAnyH_ready (rs := [10]) (by as_aux_lemma => kernel_rfl) (by simp) ?_
            refine AllReadyH.cons (o := { dst := none, op := Go.Op.store 29 (Go.Operand.tmp 12) (Go.Operand.tmp 159), type := 0, pos := "law.go:85", after := #[{ on := 9, ground := Go.Ground.data }, { on := 9, ground := Go.Ground.chain }, { on := 0, ground := Go.Ground.phase }, { on := 1, ground := Go.Ground.phase }, { on := 2, ground := Go.Ground.phase }, { on := 3, ground := Go.Ground.phase }, { on := 4, ground := Go.Ground.phase }, { on := 5, ground := Go.Ground.phase }, { on := 6, ground := Go.Ground.phase }, { on := 7, ground := Go.Ground.phase }, { on := 8, ground := Go.Ground.phase }, { on := 9, ground := Go.Ground.phase }], guard := none }) rfl (fun K hK => ?_) AllReadyH.nil
            go_simp
            refine hK.out _ _ ?_ (fun hH2 => ?_)
            · exact (show _ ∧ _ from ⟨((HR8.out _ (Bt.refl _ _)).2.2.2.1.set NHU.out.1.symm 0 _).c, ((HR8.out _ (Bt.refl _ _)).2.2.2.2.1.set NHU.out.1.symm 0 _).c⟩)
            clear hK K hH
            have hH := hH2
            clear hH2
            try simp only [Act.put, List.setIfInBounds_toArray, List.set_cons_zero, List.set_cons_succ]
            refine wpAnyH_done (by as_aux_lemma => kernel_rfl) ?_ _
            refine NoPanic.normal ?_
            clear hH
            clear a0
            have HM9 := Lib.hid (HM8.out.set PV.out (.pointer p2))
            have HR9 := Lib.hid (fun W (hz : Bt (some mb) (w8.setCell ⟨bH, 0, none⟩ (.pointer p2)) W) => And.intro ((((HR8.out _ (Bt.refl _ _)).1.set PV.out (.pointer p2))).bt hz HM9.out) ( And.intro (((PV.out.put p2)).bt hz HM9.out) ( And.intro ((((HR8.out _ (Bt.refl _ _)).2.2.1.set NHU.out.2.2.2.2.1 0 (.pointer p2))).bt hz HM9.out) ( And.intro ((((HR8.out _ (Bt.refl _ _)).2.2.2.1.set NHU.out.1.symm 0 (.pointer p2))).bt hz HM9.out) ( And.intro ((((HR8.out _ (Bt.refl _ _)).2.2.2.2.1.set NHU.out.1.symm 0 (.pointer p2))).bt hz HM9.out) ( And.intro ((((HR8.out _ (Bt.refl _ _)).2.2.2.2.2.1.set NHU.out.2.1.symm 0 (.pointer p2))).bt hz HM9.out) ( And.intro ((((HR8.out _ (Bt.refl _ _)).2.2.2.2.2.2.1.set NHU.out.2.1.symm 0 (.pointer p2))).bt hz HM9.out) ( And.intro ((((HR8.out _ (Bt.refl _ _)).2.2.2.2.2.2.2.1.set PV.out (.pointer p2))).bt hz HM9.out) ( And.intro ((((HR8.out _ (Bt.refl _ _)).2.2.2.2.2.2.2.2.1.set PV.out (.pointer p2))).bt hz HM9.out) ( And.intro ((((HR8.out _ (Bt.refl _ _)).2.2.2.2.2.2.2.2.2.1.set PV.out (.pointer p2))).bt hz HM9.out) ( And.intro ((((HR8.out _ (Bt.refl _ _)).2.2.2.2.2.2.2.2.2.2.1.set PV.out (.pointer p2))).bt hz HM9.out) ( And.intro ((((HR8.out _ (Bt.refl _ _)).2.2.2.2.2.2.2.2.2.2.2.1.set PV.out NHU.out.1 (.pointer p2))).bt hz HM9.out) ( And.intro ((((HR8.out _ (Bt.refl _ _)).2.2.2.2.2.2.2.2.2.2.2.2.1.set PV.out NHU.out.2.1 (.pointer p2))).bt hz HM9.out) ((((HR8.out _ (Bt.refl _ _)).2.2.2.2.2.2.2.2.2.2.2.2.2.set HE.out B_bH.out 0 (.pointer p2))).bt HE.out hz (fun b e => by cases e; exact B_mb.out)))))))))))))))
            clear HR8 HM8 PV pc pz 
            generalize w8.setCell ⟨bH, 0, none⟩ (.pointer p2) = w9 at *
            have HMID := Lib.hid (show Mid w mb gu cu gv cv L bH bW ts (cc + (meldC ta tb : Int)) (mm + (meldM ta tb : Int)) (meld ta tb) p2 w9 from ⟨HM9.out, (HR9.out _ (Bt.refl _ _)).2.2.2.2.2.2.2.2.2.2.2.1, (HR9.out _ (Bt.refl _ _)).2.2.2.2.2.2.2.2.2.2.2.2.1, (HR9.out _ (Bt.refl _ _)).2.2.2.2.2.2.2.2.2.2.2.2.2, (HR9.out _ (Bt.refl _ _)).1, (HR9.out _ (Bt.refl _ _)).2.1, ⟨HOWN.out.1, HOWN.out.2, B_bW.out⟩, ⟨NHU.out.1, NHU.out.2.2.2.1⟩⟩)
            have HC := Lib.hid (show (cc + (meldC ta tb : Int)) + (mm + (meldM ta tb : Int)) = st + (nn : Int) ∧ 0 ≤ cc + (meldC ta tb : Int) ∧ cc + (meldC ta tb : Int) ≤ 10000 * ((i + 1 : Nat) : Int) ∧ 0 ≤ mm + (meldM ta tb : Int) ∧ mm + (meldM ta tb : Int) ≤ 10000 * ((i + 1 : Nat) : Int) from (by have := HCM.out; have := HP.out; have := HNN.out; have := Z.out; have := HST.out; omega))
            have ws : IntKind.i64.wrap (st + (nn : Int)) = st + (nn : Int) := by have := HC.out; have := HN.out; rw [IntKind.wrap_i64]; omega
            have HRA := Lib.hid (HR9.out _ (Bt.refl _ _)).2.2.2.2.2.2.2.2.2.1
            have HRB := Lib.hid (HR9.out _ (Bt.refl _ _)).2.2.2.2.2.2.2.2.2.2.1
            have HVW := Lib.hid (HR9.out _ (Bt.refl _ _)).2.2.1
            have HS1 := Lib.hid (fun (w' : World) (hz : Below w9.heap.size w9 w') => (show w'.cell? ⟨gv, ja * 4, none⟩ = some (.bool Ga) ∧ w'.cell? ⟨gv, ja * 4 + 1, none⟩ = some (.int .i64 a1) ∧ w'.cell? ⟨gv, ja * 4 + 2, none⟩ = some (.int .i64 a2) ∧ w'.cell? ⟨gv, ja * 4 + 3, none⟩ = some (.slice Aa na ka) ∧ w'.cell? ⟨gv, jb * 4, none⟩ = some (.bool Gb) ∧ w'.cell? ⟨gv, jb * 4 + 1, none⟩ = some (.int .i64 d1) ∧ w'.cell? ⟨gv, jb * 4 + 2, none⟩ = some (.int .i64 d2) ∧ w'.cell? ⟨gv, jb * 4 + 3, none⟩ = some (.slice Ab nb kb) from ⟨(HR9.out _ (Bt.ofBelow hz)).2.2.2.2.2.1.c0, (HR9.out _ (Bt.ofBelow hz)).2.2.2.2.2.1.c1, (HR9.out _ (Bt.ofBelow hz)).2.2.2.2.2.1.c2, (HR9.out _ (Bt.ofBelow hz)).2.2.2.2.2.1.c3, (HR9.out _ (Bt.ofBelow hz)).2.2.2.2.2.2.1.c0, (HR9.out _ (Bt.ofBelow hz)).2.2.2.2.2.2.1.c1, (HR9.out _ (Bt.ofBelow hz)).2.2.2.2.2.2.1.c2, (HR9.out _ (Bt.ofBelow hz)).2.2.2.2.2.2.1.c3⟩))
            have hFo1 : ∀ k, w9.heap.size ≤ k → FP gv mb gu bW bH k := by have h1 := (HR9.out _ (Bt.refl _ _)).2.2.2.2.2.1.lt; have h2 := HM9.out.lt; have h3 := HVW.out.lt; have h4 := (HR9.out _ (Bt.refl _ _)).2.2.2.1.lt; have h5 := (HR9.out _ (Bt.refl _ _)).2.1.lt; exact fun k hk => ⟨by omega, by omega, by omega, by omega, by omega⟩
            clear HR9 HM9
            go_wp2_with fail
            refine wp_after (R := fun a a' w' => ∃ (u161 u162 u163 u164 u165 u166 u167 u168 u169 u160 u170 u171 : Value) (bv : Nat) (z1 z2 : Int) (Az : Option Addr) (nz cz : Nat) (Nz : Bool), a' = ((((((((((((((a.put (some 161) u161).put (some 162) u162).put (some 163) u163).put (some 164) u164).put (some 165) u165).put (some 166) u166).put (some 167) u167).put (some 168) u168).put (some 169) u169).put (some 160) u160).put (some 170) u170).put (some 171) u171).put (some 17) (.pointer (some ⟨bv, 0, none⟩))).put (some 18) (.int .i64 (nn : Int))) ∧ Below w9.heap.size w9 w' ∧ QVar w' bv (z1, z2) Az nz cz Nz ∧ RAt (FP gv mb gu bW bH) w' (meld ta tb) (z1, z2) Az nz cz Nz) ?_ ?_
            · have hd0 : Below w9.heap.size w9 w9.drew := (Below.refl _ _).drew
              have hSd : w9.heap.size = w9.drew.heap.size := rfl
              refine wp_region_noPanic ?_
              refine wp_region_held_drew (S := fun w' => w'.cell? ⟨gv, ja * 4, none⟩ = some (.bool Ga) ∧ w'.cell? ⟨gv, ja * 4 + 1, none⟩ = some (.int .i64 a1) ∧ w'.cell? ⟨gv, ja * 4 + 2, none⟩ = some (.int .i64 a2) ∧ w'.cell? ⟨gv, ja * 4 + 3, none⟩ = some (.slice Aa na ka) ∧ w'.cell? ⟨gv, jb * 4, none⟩ = some (.bool Gb) ∧ w'.cell? ⟨gv, jb * 4 + 1, none⟩ = some (.int .i64 d1) ∧ w'.cell? ⟨gv, jb * 4 + 2, none⟩ = some (.int .i64 d2) ∧ w'.cell? ⟨gv, jb * 4 + 3, none⟩ = some (.slice Ab nb kb)) (by kernel_rfl) (HS1.out _ hd0) (fun hH => ?_)
              generalize w9.drew = wd at *
              refine wpAnyH_take (i := 0) (oi := { dst := some 161, op := Go.Op.move (Go.Operand.tmp 8), type := 36, pos := "law.go:86", after := #[], guard := none }) (v := ?v4_0_0) rfl (by as_aux_lemma => kernel_rfl) (by as_aux_lemma => kernel_rfl) (by as_aux_lemma => kernel_rfl) (fun _ _ _ h => h) (Or.inl ⟨(by as_aux_lemma => kernel_rfl), ?hy4_0_0⟩) hH ?rest4_0_0
              case hy4_0_0 => (intro w hSw; (try dsimp only at hSw); go_simp; try with_reducible rfl)
              try simp only [Act.put, List.setIfInBounds_toArray, List.set_cons_zero, List.set_cons_succ]
              refine wpAnyH_take (i := 1) (oi := { dst := some 162, op := Go.Op.move (Go.Operand.tmp 10), type := 3, pos := "law.go:86", after := #[], guard := none }) (v := ?v4_0_1) rfl (by as_aux_lemma => kernel_rfl) (by as_aux_lemma => kernel_rfl) (by as_aux_lemma => kernel_rfl) (fun _ _ _ h => h) (Or.inl ⟨(by as_aux_lemma => kernel_rfl), ?hy4_0_1⟩) hH ?rest4_0_1
              case hy4_0_1 => (intro w hSw; (try dsimp only at hSw); go_simp; try with_reducible rfl)
              try simp only [Act.put, List.setIfInBounds_toArray, List.set_cons_zero, List.set_cons_succ]
              refine wpAnyH_take (i := 2) (oi := { dst := some 163, op := Go.Op.indexAddr 36 (Go.Operand.tmp 161) (Go.Operand.tmp 162), type := 0, pos := "law.go:86", after := #[{ on := 0, ground := Go.Ground.data }, { on := 1, ground := Go.Ground.data }], guard := none }) (v := ?v4_0_2) rfl (by as_aux_lemma => kernel_rfl) (by as_aux_lemma => kernel_rfl) (by as_aux_lemma => kernel_rfl) (fun _ _ _ h => h) (Or.inl ⟨(by as_aux_lemma => kernel_rfl), ?hy4_0_2⟩) hH ?rest4_0_2
              case hy4_0_2 => (intro w hSw; (try dsimp only at hSw); go_simp; try with_reducible rfl)
              try simp only [Act.put, List.setIfInBounds_toArray, List.set_cons_zero, List.set_cons_succ]
              refine wpAnyH_take (i := 3) (oi := { dst := some 164, op := Go.Op.load 35 (Go.Operand.tmp 163), type := 35, pos := "law.go:86", after := #[{ on := 2, ground := Go.Ground.data }], guard := none }) (v := ?v4_0_3) rfl (by as_aux_lemma => kernel_rfl) (by as_aux_lemma => kernel_rfl) (by as_aux_lemma => kernel_rfl) (fun _ _ _ h => h) (Or.inl ⟨(by as_aux_lemma => kernel_rfl), ?hy4_0_3⟩) hH ?rest4_0_3
              case hy4_0_3 => (intro w hSw; (try dsimp only at hSw); go_simp; try with_reducible rfl)
              try simp only [Act.put, List.setIfInBounds_toArray, List.set_cons_zero, List.set_cons_succ]
              refine wpAnyH_take (i := 4) (oi := { dst := some 165, op := Go.Op.move (Go.Operand.tmp 8), type := 36, pos := "law.go:86", after := #[], guard := none }) (v := ?v4_0_4) rfl (by as_aux_lemma => kernel_rfl) (by as_aux_lemma => kernel_rfl) (by as_aux_lemma => kernel_rfl) (fun _ _ _ h => h) (Or.inl ⟨(by as_aux_lemma => kernel_rfl), ?hy4_0_4⟩) hH ?rest4_0_4
              case hy4_0_4 => (intro w hSw; (try dsimp only at hSw); go_simp; try with_reducible rfl)
              try simp only [Act.put, List.setIfInBounds_toArray, List.set_cons_zero, List.set_cons_succ]
              refine wpAnyH_take (i := 5) (oi := { dst := some 166, op := Go.Op.move (Go.Operand.tmp 11), type := 3, pos := "law.go:86", after := #[], guard := none }) (v := ?v4_0_5) rfl (by as_aux_lemma => kernel_rfl) (by as_aux_lemma => kernel_rfl) (by as_aux_lemma => kernel_rfl) (fun _ _ _ h => h) (Or.inl ⟨(by as_aux_lemma => kernel_rfl), ?hy4_0_5⟩) hH ?rest4_0_5
              case hy4_0_5 => (intro w hSw; (try dsimp only at hSw); go_simp; try with_reducible rfl)
              try simp only [Act.put, List.setIfInBounds_toArray, List.set_cons_zero, List.set_cons_succ]
              refine wpAnyH_take (i := 6) (oi := { dst := some 167, op := Go.Op.indexAddr 36 (Go.Operand.tmp 165) (Go.Operand.tmp 166), type := 0, pos := "law.go:86", after := #[{ on := 4, ground := Go.Ground.data }, { on := 5, ground := Go.Ground.data }], guard := none }) (v := ?v4_0_6) rfl (by as_aux_lemma => kernel_rfl) (by as_aux_lemma => kernel_rfl) (by as_aux_lemma => kernel_rfl) (fun _ _ _ h => h) (Or.inl ⟨(by as_aux_lemma => kernel_rfl), ?hy4_0_6⟩) hH ?rest4_0_6
              case hy4_0_6 => (intro w hSw; (try dsimp only at hSw); go_simp; try with_reducible rfl)
              try simp only [Act.put, List.setIfInBounds_toArray, List.set_cons_zero, List.set_cons_succ]
              refine wpAnyH_take (i := 7) (oi := { dst := some 168, op := Go.Op.load 35 (Go.Operand.tmp 167), type := 35, pos := "law.go:86", after := #[{ on := 6, ground := Go.Ground.data }], guard := none }) (v := ?v4_0_7) rfl (by as_aux_lemma => kernel_rfl) (by as_aux_lemma => kernel_rfl) (by as_aux_lemma => kernel_rfl) (fun _ _ _ h => h) (Or.inl ⟨(by as_aux_lemma => kernel_rfl), ?hy4_0_7⟩) hH ?rest4_0_7
              case hy4_0_7 => (intro w hSw; (try dsimp only at hSw); go_simp; try with_reducible rfl)
              try simp only [Act.put, List.setIfInBounds_toArray, List.set_cons_zero, List.set_cons_succ]
              refine wpAnyH_ready (rs := [8, 12]) (by as_aux_lemma => kernel_rfl) (by simp) ?_
              refine AllReadyH.cons (o := { dst := some 169, op := Go.Op.call { callee := Go.Callee.value (Go.Operand.func 20), args := #[Go.Operand.tmp 164, Go.Operand.tmp 168], argTypes := #[35, 35] }, type := 42, pos := "law.go:86", after := #[{ on := 3, ground := Go.Ground.data }, { on := 7, ground := Go.Ground.data }], guard := none }) rfl (fun K hK => ?_) (AllReadyH.cons (o := { dst := some 17, op := Go.Op.alloc 35, type := 0, pos := "law.go:86", after := #[], guard := none }) rfl (fun K hK => ?_) AllReadyH.nil)
              · have hFoA : ∀ k, wd.heap.size ≤ k → (FP gv mb gu bW bH) k := fun k hk => hFo1 k (by have := hd0.size; omega)
                have rA0 := HRA.out.stay hd0
                have rA1 := HRB.out.stay hd0
                go_simp
                go_at_call 20
                (with_reducible refine (refMeld_any _ ta tb a1 a2 Aa na ka Ga d1 d2 Ab nb kb Gb _ hFoA (by have := HT.out.1; omega) ⟨HT.out.2.1.ok, HT.out.2.2.ok⟩ rA0 rA1).mono ?_)
                rintro e wc9 ⟨z1, z2, Az, nz, cz, Nz, rfl, ht9, hb9⟩
                rw [← HNN.out.1]
                refine hK.out _ _ ?_ (fun hH2 => ?_)
                · exact HS1.out _ (hd0.trans (hb9.mono hd0.size))
                clear hK K hH
                have hH := hH2
                clear hH2
                have hbx0 := hd0.trans (hb9.mono hd0.size)
                try simp only [Act.put, List.setIfInBounds_toArray, List.set_cons_zero, List.set_cons_succ]
                refine wpAnyH_take (i := 9) (oi := { dst := some 160, op := Go.Op.move (Go.Operand.tmp 169), type := 42, pos := "law.go:86", after := #[{ on := 8, ground := Go.Ground.data }], guard := none }) (v := ?v4_1_9) rfl (by as_aux_lemma => kernel_rfl) (by as_aux_lemma => kernel_rfl) (by as_aux_lemma => kernel_rfl) (fun _ _ _ h => h) (Or.inl ⟨(by as_aux_lemma => kernel_rfl), ?hy4_1_9⟩) hH ?rest4_1_9
                case hy4_1_9 => (intro w hSw; (try dsimp only at hSw); go_simp; try with_reducible rfl)
                try simp only [Act.put, List.setIfInBounds_toArray, List.set_cons_zero, List.set_cons_succ]
                refine wpAnyH_take (i := 10) (oi := { dst := some 170, op := Go.Op.extract (Go.Operand.tmp 160) 0, type := 35, pos := "law.go:86", after := #[{ on := 9, ground := Go.Ground.data }], guard := none }) (v := ?v4_1_10) rfl (by as_aux_lemma => kernel_rfl) (by as_aux_lemma => kernel_rfl) (by as_aux_lemma => kernel_rfl) (fun _ _ _ h => h) (Or.inl ⟨(by as_aux_lemma => kernel_rfl), ?hy4_1_10⟩) hH ?rest4_1_10
                case hy4_1_10 => (intro w hSw; (try dsimp only at hSw); go_simp; try with_reducible rfl)
                try simp only [Act.put, List.setIfInBounds_toArray, List.set_cons_zero, List.set_cons_succ]
                refine wpAnyH_take (i := 11) (oi := { dst := some 171, op := Go.Op.extract (Go.Operand.tmp 160) 1, type := 3, pos := "law.go:86", after := #[{ on := 9, ground := Go.Ground.data }, { on := 13, ground := Go.Ground.gcOnly Go.Departure.lateStores }], guard := none }) (v := ?v4_1_11) rfl (by as_aux_lemma => kernel_rfl) (by as_aux_lemma => kernel_rfl) (by as_aux_lemma => kernel_rfl) (fun _ _ _ h => h) (Or.inl ⟨(by as_aux_lemma => kernel_rfl), ?hy4_1_11⟩) hH ?rest4_1_11
                case hy4_1_11 => (intro w hSw; (try dsimp only at hSw); go_simp; try with_reducible rfl)
                try simp only [Act.put, List.setIfInBounds_toArray, List.set_cons_zero, List.set_cons_succ]
                refine wpAnyH_ready (rs := [12]) (by as_aux_lemma => kernel_rfl) (by simp) ?_
                refine AllReadyH.cons (o := { dst := some 17, op := Go.Op.alloc 35, type := 0, pos := "law.go:86", after := #[], guard := none }) rfl (fun K hK => ?_) AllReadyH.nil
                go_simp
                refine hK.out _ _ ?_ (fun hH2 => ?_)
                · exact HS1.out _ (hbx0.alloc hbx0.size _)
                clear hK K hH
                have hH := hH2
                clear hH2
                have hv := QVar.new wc9 0 0 none 0 0 false rfl
                have hbx := hbx0.alloc hbx0.size (.cells #[.bool false, .int .i64 0, .int .i64 0, .slice none 0 0] 35)
                have htx := ht9.far (F' := fun k => (FP gv mb gu bW bH) k ∧ k ≠ wc9.heap.size) (W' := wc9.alloc (.cells #[.bool false, .int .i64 0, .int .i64 0, .slice none 0 0] 35)) ⟨fun k hk _ => ((Below.refl _ wc9).alloc (Nat.le_refl _) _).block k hk, fun k hk hf => ⟨hf, by omega⟩⟩
                have hSR0 : w9.heap.size ≤ wc9.heap.size := hbx0.size
                obtain ⟨bv, hbv⟩ : ∃ b, b = wc9.heap.size := ⟨_, rfl⟩
                rw [← hbv] at hv htx hSR0 ⊢
                have hSR := hSR0
                clear hbv hb9 ht9 hbx0 hSR0
                generalize wc9.alloc (.cells #[.bool false, .int .i64 0, .int .i64 0, .slice none 0 0] 35) = wc10 at *
                try simp only [Act.put, List.setIfInBounds_toArray, List.set_cons_zero, List.set_cons_succ]
                have v0 := hv.c0
                have vz0 := hv.z0
                have v1 := hv.c1
                have vz1 := hv.z1
                have v2 := hv.c2
                have vz2 := hv.z2
                have v3 := hv.c3
                have vz3 := hv.z3
                refine wpAnyH_ready (rs := [13]) (by as_aux_lemma => kernel_rfl) (by simp) ?_
                refine AllReadyH.cons (o := { dst := none, op := Go.Op.store 35 (Go.Operand.tmp 17) (Go.Operand.tmp 170), type := 0, pos := "law.go:86", after := #[{ on := 12, ground := Go.Ground.data }, { on := 10, ground := Go.Ground.data }, { on := 8, ground := Go.Ground.chain }, { on := 0, ground := Go.Ground.phase }, { on := 1, ground := Go.Ground.phase }, { on := 2, ground := Go.Ground.phase }, { on := 3, ground := Go.Ground.phase }, { on := 4, ground := Go.Ground.phase }, { on := 5, ground := Go.Ground.phase }, { on := 6, ground := Go.Ground.phase }, { on := 7, ground := Go.Ground.phase }, { on := 8, ground := Go.Ground.phase }, { on := 9, ground := Go.Ground.phase }, { on := 10, ground := Go.Ground.phase }, { on := 11, ground := Go.Ground.textOnly Go.Departure.lateStores }, { on := 12, ground := Go.Ground.phase }], guard := none }) rfl (fun K hK => ?_) AllReadyH.nil
                go_simp
                refine hK.out _ _ ?_ (fun hH2 => ?_)
                · exact HS1.out _ ((hv.wrote z1 z2 Az nz cz Nz).2.below hbx hSR)
                clear hK K hH
                have hH := hH2
                clear hH2
                obtain ⟨hvz, hw⟩ := hv.wrote z1 z2 Az nz cz Nz
                have hbz := hw.below hbx hSR
                have htz := htx.far (F' := (FP gv mb gu bW bH)) (W' := _) ⟨fun k hk hf => hw.keep k hf.2, fun _ _ hf => hf.1⟩
                clear v0 v1 v2 v3 vz0 vz1 vz2 vz3
                generalize (((wc10.setCell ⟨bv, 0, none⟩ (.bool Nz)).setCell ⟨bv, 1, none⟩ (.int .i64 z1)).setCell ⟨bv, 2, none⟩ (.int .i64 z2)).setCell ⟨bv, 3, none⟩ (.slice Az nz cz) = wc11 at *
                try simp only [Act.put, List.setIfInBounds_toArray, List.set_cons_zero, List.set_cons_succ]
                refine wpAnyH_ready (rs := [14]) (by as_aux_lemma => kernel_rfl) (by simp) ?_
                refine AllReadyH.cons (o := { dst := some 18, op := Go.Op.assign (Go.Operand.tmp 171), type := 3, pos := "law.go:86", after := #[{ on := 11, ground := Go.Ground.data }, { on := 13, ground := Go.Ground.chain }, { on := 0, ground := Go.Ground.phase }, { on := 1, ground := Go.Ground.phase }, { on := 2, ground := Go.Ground.phase }, { on := 3, ground := Go.Ground.phase }, { on := 4, ground := Go.Ground.phase }, { on := 5, ground := Go.Ground.phase }, { on := 6, ground := Go.Ground.phase }, { on := 7, ground := Go.Ground.phase }, { on := 8, ground := Go.Ground.phase }, { on := 9, ground := Go.Ground.phase }, { on := 10, ground := Go.Ground.phase }, { on := 11, ground := Go.Ground.phase }, { on := 12, ground := Go.Ground.phase }, { on := 13, ground := Go.Ground.phase }], guard := none }) rfl (fun K hK => ?_) AllReadyH.nil
                go_simp
                refine hK.out _ _ ?_ (fun hH2 => ?_)
                · exact HS1.out _ hbz
                clear hK K hH
                have hH := hH2
                clear hH2
                try simp only [Act.put, List.setIfInBounds_toArray, List.set_cons_zero, List.set_cons_succ]
                refine wpAnyH_done (by as_aux_lemma => kernel_rfl) ?_ _
                refine NoPanic.normal ?_
                clear hH
                exact ⟨rfl, _, _, _, _, _, _, _, _, _, _, _, _, bv, z1, z2, Az, nz, cz, Nz, by (try simp only [Act.put, List.setIfInBounds_toArray, List.set_cons_zero, List.set_cons_succ]); rfl, hbz, hvz, htz⟩
              · go_simp
                refine hK.out _ _ ?_ (fun hH2 => ?_)
                · exact HS1.out _ (hd0.alloc hd0.size _)
                clear hK K hH
                have hH := hH2
                clear hH2
                have hv := QVar.new wd 0 0 none 0 0 false rfl
                have hdx := hd0.alloc hd0.size (.cells #[.bool false, .int .i64 0, .int .i64 0, .slice none 0 0] 35)
                have hsx : (wd.alloc (.cells #[.bool false, .int .i64 0, .int .i64 0, .slice none 0 0] 35)).heap.size = wd.heap.size + 1 := by simp
                obtain ⟨bv, hbv⟩ : ∃ b, b = wd.heap.size := ⟨_, rfl⟩
                rw [← hbv] at hv hsx ⊢
                have hFo2 : ∀ k, (wd.alloc (.cells #[.bool false, .int .i64 0, .int .i64 0, .slice none 0 0] 35)).heap.size ≤ k → (fun k => (FP gv mb gu bW bH) k ∧ k ≠ bv) k := fun k hk => ⟨hFo1 k (by have := hd0.size; omega), by omega⟩
                have hSR : w9.heap.size ≤ bv := by have := hd0.size; omega
                have r90 := (HRA.out.stay hd0).far (F' := fun k => (FP gv mb gu bW bH) k ∧ k ≠ bv) (W' := wd.alloc (.cells #[.bool false, .int .i64 0, .int .i64 0, .slice none 0 0] 35)) ⟨fun k hk _ => ((Below.refl _ wd).alloc (Nat.le_refl _) _).block k hk, fun k hk hf => ⟨hf, by omega⟩⟩
                have r91 := (HRB.out.stay hd0).far (F' := fun k => (FP gv mb gu bW bH) k ∧ k ≠ bv) (W' := wd.alloc (.cells #[.bool false, .int .i64 0, .int .i64 0, .slice none 0 0] 35)) ⟨fun k hk _ => ((Below.refl _ wd).alloc (Nat.le_refl _) _).block k hk, fun k hk hf => ⟨hf, by omega⟩⟩
                clear hbv hsx
                generalize wd.alloc (.cells #[.bool false, .int .i64 0, .int .i64 0, .slice none 0 0] 35) = wx at *
                try simp only [Act.put, List.setIfInBounds_toArray, List.set_cons_zero, List.set_cons_succ]
                refine wpAnyH_ready (rs := [8]) (by as_aux_lemma => kernel_rfl) (by simp) ?_
                refine AllReadyH.cons (o := { dst := some 169, op := Go.Op.call { callee := Go.Callee.value (Go.Operand.func 20), args := #[Go.Operand.tmp 164, Go.Operand.tmp 168], argTypes := #[35, 35] }, type := 42, pos := "law.go:86", after := #[{ on := 3, ground := Go.Ground.data }, { on := 7, ground := Go.Ground.data }], guard := none }) rfl (fun K hK => ?_) AllReadyH.nil
                go_simp
                go_at_call 20
                (with_reducible refine (refMeld_any _ ta tb a1 a2 Aa na ka Ga d1 d2 Ab nb kb Gb _ hFo2 (by have := HT.out.1; omega) ⟨HT.out.2.1.ok, HT.out.2.2.ok⟩ r90 r91).mono ?_)
                rintro e wc9 ⟨z1, z2, Az, nz, cz, Nz, rfl, ht9, hb9⟩
                rw [← HNN.out.1]
                refine hK.out _ _ ?_ (fun hH2 => ?_)
                · exact HS1.out _ (hdx.trans (hb9.mono hdx.size))
                clear hK K hH
                have hH := hH2
                clear hH2
                have hbx := hdx.trans (hb9.mono hdx.size)
                replace hv := hv.stay hb9
                have htx := ht9
                clear hb9 ht9
                try simp only [Act.put, List.setIfInBounds_toArray, List.set_cons_zero, List.set_cons_succ]
                refine wpAnyH_take (i := 9) (oi := { dst := some 160, op := Go.Op.move (Go.Operand.tmp 169), type := 42, pos := "law.go:86", after := #[{ on := 8, ground := Go.Ground.data }], guard := none }) (v := ?v4_2_9) rfl (by as_aux_lemma => kernel_rfl) (by as_aux_lemma => kernel_rfl) (by as_aux_lemma => kernel_rfl) (fun _ _ _ h => h) (Or.inl ⟨(by as_aux_lemma => kernel_rfl), ?hy4_2_9⟩) hH ?rest4_2_9
                case hy4_2_9 => (intro w hSw; (try dsimp only at hSw); go_simp; try with_reducible rfl)
                try simp only [Act.put, List.setIfInBounds_toArray, List.set_cons_zero, List.set_cons_succ]
                refine wpAnyH_take (i := 10) (oi := { dst := some 170, op := Go.Op.extract (Go.Operand.tmp 160) 0, type := 35, pos := "law.go:86", after := #[{ on := 9, ground := Go.Ground.data }], guard := none }) (v := ?v4_2_10) rfl (by as_aux_lemma => kernel_rfl) (by as_aux_lemma => kernel_rfl) (by as_aux_lemma => kernel_rfl) (fun _ _ _ h => h) (Or.inl ⟨(by as_aux_lemma => kernel_rfl), ?hy4_2_10⟩) hH ?rest4_2_10
                case hy4_2_10 => (intro w hSw; (try dsimp only at hSw); go_simp; try with_reducible rfl)
                try simp only [Act.put, List.setIfInBounds_toArray, List.set_cons_zero, List.set_cons_succ]
                refine wpAnyH_take (i := 11) (oi := { dst := some 171, op := Go.Op.extract (Go.Operand.tmp 160) 1, type := 3, pos := "law.go:86", after := #[{ on := 9, ground := Go.Ground.data }, { on := 13, ground := Go.Ground.gcOnly Go.Departure.lateStores }], guard := none }) (v := ?v4_2_11) rfl (by as_aux_lemma => kernel_rfl) (by as_aux_lemma => kernel_rfl) (by as_aux_lemma => kernel_rfl) (fun _ _ _ h => h) (Or.inl ⟨(by as_aux_lemma => kernel_rfl), ?hy4_2_11⟩) hH ?rest4_2_11
                case hy4_2_11 => (intro w hSw; (try dsimp only at hSw); go_simp; try with_reducible rfl)
                try simp only [Act.put, List.setIfInBounds_toArray, List.set_cons_zero, List.set_cons_succ]
                have v0 := hv.c0
                have vz0 := hv.z0
                have v1 := hv.c1
                have vz1 := hv.z1
                have v2 := hv.c2
                have vz2 := hv.z2
                have v3 := hv.c3
                have vz3 := hv.z3
                generalize wc9 = wc10 at *
                refine wpAnyH_ready (rs := [13]) (by as_aux_lemma => kernel_rfl) (by simp) ?_
                refine AllReadyH.cons (o := { dst := none, op := Go.Op.store 35 (Go.Operand.tmp 17) (Go.Operand.tmp 170), type := 0, pos := "law.go:86", after := #[{ on := 12, ground := Go.Ground.data }, { on := 10, ground := Go.Ground.data }, { on := 8, ground := Go.Ground.chain }, { on := 0, ground := Go.Ground.phase }, { on := 1, ground := Go.Ground.phase }, { on := 2, ground := Go.Ground.phase }, { on := 3, ground := Go.Ground.phase }, { on := 4, ground := Go.Ground.phase }, { on := 5, ground := Go.Ground.phase }, { on := 6, ground := Go.Ground.phase }, { on := 7, ground := Go.Ground.phase }, { on := 8, ground := Go.Ground.phase }, { on := 9, ground := Go.Ground.phase }, { on := 10, ground := Go.Ground.phase }, { on := 11, ground := Go.Ground.textOnly Go.Departure.lateStores }, { on := 12, ground := Go.Ground.phase }], guard := none }) rfl (fun K hK => ?_) AllReadyH.nil
                go_simp
                refine hK.out _ _ ?_ (fun hH2 => ?_)
                · exact HS1.out _ ((hv.wrote z1 z2 Az nz cz Nz).2.below hbx hSR)
                clear hK K hH
                have hH := hH2
                clear hH2
                obtain ⟨hvz, hw⟩ := hv.wrote z1 z2 Az nz cz Nz
                have hbz := hw.below hbx hSR
                have htz := htx.far (F' := (FP gv mb gu bW bH)) (W' := _) ⟨fun k hk hf => hw.keep k hf.2, fun _ _ hf => hf.1⟩
                clear v0 v1 v2 v3 vz0 vz1 vz2 vz3
                generalize (((wc10.setCell ⟨bv, 0, none⟩ (.bool Nz)).setCell ⟨bv, 1, none⟩ (.int .i64 z1)).setCell ⟨bv, 2, none⟩ (.int .i64 z2)).setCell ⟨bv, 3, none⟩ (.slice Az nz cz) = wc11 at *
                try simp only [Act.put, List.setIfInBounds_toArray, List.set_cons_zero, List.set_cons_succ]
                refine wpAnyH_ready (rs := [14]) (by as_aux_lemma => kernel_rfl) (by simp) ?_
                refine AllReadyH.cons (o := { dst := some 18, op := Go.Op.assign (Go.Operand.tmp 171), type := 3, pos := "law.go:86", after := #[{ on := 11, ground := Go.Ground.data }, { on := 13, ground := Go.Ground.chain }, { on := 0, ground := Go.Ground.phase }, { on := 1, ground := Go.Ground.phase }, { on := 2, ground := Go.Ground.phase }, { on := 3, ground := Go.Ground.phase }, { on := 4, ground := Go.Ground.phase }, { on := 5, ground := Go.Ground.phase }, { on := 6, ground := Go.Ground.phase }, { on := 7, ground := Go.Ground.phase }, { on := 8, ground := Go.Ground.phase }, { on := 9, ground := Go.Ground.phase }, { on := 10, ground := Go.Ground.phase }, { on := 11, ground := Go.Ground.phase }, { on := 12, ground := Go.Ground.phase }, { on := 13, ground := Go.Ground.phase }], guard := none }) rfl (fun K hK => ?_) AllReadyH.nil
                go_simp
                refine hK.out _ _ ?_ (fun hH2 => ?_)
                · exact HS1.out _ hbz
                clear hK K hH
                have hH := hH2
                clear hH2
                try simp only [Act.put, List.setIfInBounds_toArray, List.set_cons_zero, List.set_cons_succ]
                refine wpAnyH_done (by as_aux_lemma => kernel_rfl) ?_ _
                refine NoPanic.normal ?_
                clear hH
                exact ⟨rfl, _, _, _, _, _, _, _, _, _, _, _, _, bv, z1, z2, Az, nz, cz, Nz, by (try simp only [Act.put, List.setIfInBounds_toArray, List.set_cons_zero, List.set_cons_succ]); rfl, hbz, hvz, htz⟩
            rintro a' w' ⟨u161, u162, u163, u164, u165, u166, u167, u168, u169, u160, u170, u171, bv, z1, z2, Az, nz, cz, Nz, rfl, hbz, hvz, htz⟩
            try simp only [Act.put, List.setIfInBounds_toArray, List.set_cons_zero, List.set_cons_succ]
            have M7 := Lib.hid (HMID.out.stay HE.out hbz)
            have V7 := Lib.hid (HVW.out.stay hbz)
            have HTZ := Lib.hid htz
            have v0 := hvz.c0
            have v1 := hvz.c1
            have v2 := hvz.c2
            have v3 := hvz.c3
            clear htz hvz hbz hFo1
            go_wp2_with (first
              | (refine wpList_store_w rfl _ _ rfl _ rfl rfl V7.out ?_
                 intro wc8 hv8 hw8
                 have M8 := Lib.hid (M7.out.wrote HE.out V7.out hw8)
                 have R8 := Lib.hid (HTZ.out.far (F' := FP gv mb gu bW bH) ⟨fun k _ hf => hw8.keep k hf.2.2.2.1, fun _ _ hf => hf⟩)
                 have X8 := Lib.hid hv8
                 clear hw8 hv8 v0 v1 v2 v3)
              | (go_at_call 24; (with_reducible refine (mSteps mb _ _ _ M8.out.mt (by have := HC.out; omega) (by have := HC.out; have := HN.out; omega) (by have := HC.out; omega) (by have := HC.out; have := HN.out; omega)).mono ?_)
                 rintro e wc9 ⟨rfl, hb9⟩
                 rw [HC.out.1]
                 have M9 := Lib.hid (M8.out.stay HE.out hb9)
                 obtain ⟨g1_, c1_, W1, g2_, c2_, W2, hr1, hx1, hr2, hrel⟩ := plays_push (i := i) HE.out HN.out.2.2 (by have := HN.out; omega) M9.out ⟨HC.out.2.1, HC.out.2.2.1, HC.out.2.2.2.1, HC.out.2.2.2.2⟩ Z.out.2.1 (by rw [meld_size]; have := HT.out.1; have := HTOT.out; omega) (good_meld HT.out.2.1 HT.out.2.2) (R8.out.stay hb9) (X8.out.stay hb9)
                 have HRUN := Lib.hid (And.intro hr1 hr2)
                 have HREL := Lib.hid hrel
                 have x0 := M9.out.hv.c0
                 have x1 := hx1.c0
                 have x2 := hx1.c1
                 have x3 := hx1.c2
                 have x3b := hx1.c3
                 clear hr1 hr2 hrel hx1 hb9)
              | (at_builtin; first | (refine wpList_append_run rfl _ _ _ rfl _ _ _ _ rfl rfl HRUN.out.1 ?_) | (refine wpList_append_run rfl _ _ _ rfl _ _ _ _ rfl rfl HRUN.out.2 ?_)))
            go_roundg (n - (i + 1))
            case measure => have := Z.out.2.2.2; have := HN.out; omega
            case rel => exact ⟨i + 1, g1_, c1_, g2_, c2_, _, _, _, st + (nn : Int), by first | rfl | (congr 1; unfold wrap64; have := HN.out; omega), rfl, by rw [← HN.out.2.2], by rw [← HN.out.2.2], HC.out.1.symm, by have := HN.out; omega, HREL.out⟩
        by_cases hy2 : yk = 2
        · subst hy2
          as_aux_lemma =>
            have x0 : ((w6.alloc (.cells #[.pointer none] 29)).alloc (.cells #[.bool false, .int .i64 0, .int .i64 0, .slice none 0 0] 35)).cell? ⟨gu, ja, none⟩ = some (.pointer pa) := (HR6.out _ (((Bt.refl _ _).alloc _).alloc _)).1.c
            go_wp2_with fail
            obtain ⟨bH, hbH⟩ : ∃ b, b = w6.heap.size := ⟨_, rfl⟩
            obtain ⟨bW, hbW⟩ : ∃ b, b = w6.heap.size + 1 := ⟨_, rfl⟩
            have hb2 : Bt (some mb) w6 ((w6.alloc (.cells #[.pointer none] 29)).alloc (.cells #[.bool false, .int .i64 0, .int .i64 0, .slice none 0 0] 35)) := ((Bt.refl _ _).alloc _).alloc _
            have hvh : HVar ((w6.alloc (.cells #[.pointer none] 29)).alloc (.cells #[.bool false, .int .i64 0, .int .i64 0, .slice none 0 0] 35)) bH none := HVar.bt (HVar.new w6 none hbH) ((Bt.refl (some mb) (w6.alloc (.cells #[.pointer none] 29))).alloc (.cells #[.bool false, .int .i64 0, .int .i64 0, .slice none 0 0] 35)) (HM6.out.alloc _)
            have hvw : QVar ((w6.alloc (.cells #[.pointer none] 29)).alloc (.cells #[.bool false, .int .i64 0, .int .i64 0, .slice none 0 0] 35)) bW (0, 0) none 0 0 false := new_at (by rw [hbW]; simp)
            have hwk : ∀ k, k < w6.heap.size → FP gv mb gu mb mb k → FP gv mb gu bW bH k := fun k hk hf => ⟨hf.1, hf.2.1, hf.2.2.1, by omega, by omega⟩
            have HM7 := Lib.hid ((HM6.out.alloc (.cells #[.pointer none] 29)).alloc (.cells #[.bool false, .int .i64 0, .int .i64 0, .slice none 0 0] 35))
            have HR7 := Lib.hid (fun W (hz : Bt (some mb) ((w6.alloc (.cells #[.pointer none] 29)).alloc (.cells #[.bool false, .int .i64 0, .int .i64 0, .slice none 0 0] 35)) W) => And.intro ((hvh).bt hz HM7.out) ( And.intro ((hvw).bt hz HM7.out) ( And.intro (((HR6.out _ hb2).1).bt hz HM7.out) ( And.intro (((HR6.out _ hb2).2.1).bt hz HM7.out) ( And.intro (((HR6.out _ hb2).2.2.1).bt hz HM7.out) ( And.intro (((HR6.out _ hb2).2.2.2.1).bt hz HM7.out) ( And.intro (((HR6.out _ hb2).2.2.2.2.1).bt hz HM7.out) ( And.intro (((HR6.out _ hb2).2.2.2.2.2.1).bt hz HM7.out) ( And.intro (((((HR6.out _ (Bt.refl _ _)).2.2.2.2.2.2.1.weak hwk).bt hb2 HM6.out)).bt hz HM7.out) ( And.intro (((((HR6.out _ (Bt.refl _ _)).2.2.2.2.2.2.2.1.weak hwk).bt hb2 HM6.out)).bt hz HM7.out) ( And.intro (((HR6.out _ hb2).2.2.2.2.2.2.2.2.1).bt hz HM7.out) ( And.intro (((((HR6.out _ (Bt.refl _ _)).2.2.2.2.2.2.2.2.2.1.weak hwk).bt hb2 HM6.out)).bt hz HM7.out) (((HR6.out _ hb2).2.2.2.2.2.2.2.2.2.2).bt HE.out hz (fun b e => by cases e; exact B_mb.out))))))))))))))
            clear hb2 hvh hvw hwk HR6 HM6
            generalize (w6.alloc (.cells #[.pointer none] 29)).alloc (.cells #[.bool false, .int .i64 0, .int .i64 0, .slice none 0 0] 35) = w7 at *
            rw [← hbW, ← hbH]
            have NHU := Lib.hid (show bH ≠ gu ∧ bH ≠ gv ∧ bW ≠ gu ∧ bW ≠ gv ∧ bW ≠ bH ∧ bW ≠ mb from by have := HS0.out; omega)
            have B_bH := Lib.hid (show w.heap.size ≤ bH from by have := HS0.out; omega)
            have B_bW := Lib.hid (show w.heap.size ≤ bW from by have := HS0.out; omega)
            clear hbH hbW
            clear g1 g2
            obtain ⟨P, hP⟩ : ∃ P, P = ta.popC + ta.popM := ⟨_, rfl⟩
            have HP := Lib.hid (show P = ta.popC + ta.popM ∧ ta.popC ≤ 500 ∧ ta.popM ≤ 250 from ⟨hP, by have := pop_counts HT.out.2.1.ok (by have := HT.out.1; omega); have := HT.out.1; omega, by have := pop_counts HT.out.2.1.ok (by have := HT.out.1; omega); have := HT.out.1; omega⟩)
            obtain ⟨nn, hnn⟩ : ∃ q, q = ta.popC + ta.popM := ⟨_, rfl⟩
            have HNN := Lib.hid (show nn = ta.popC + ta.popM ∧ nn = P from ⟨hnn, by omega⟩)
            clear hnn hP
            obtain ⟨sb, hsb⟩ : ∃ b, b = ta.some := ⟨_, rfl⟩
            have HSB := Lib.hid (show sb = ta.some from hsb)
            have sb1 : decide ((0 : Int) < (sza : Int)) = sb := by rw [hsb, HT.out.1.1]; exact some_size ta
            have sb2 : decide (0 < sza) = sb := by rw [hsb, HT.out.1.1]; exact some_size' ta
            clear hsb e0
            ((with_reducible refine (pop_any (some mb) cc mm ta pa _ (by have := HT.out.1; omega) HM7.out (by have := HCM.out; omega) (by have := HCM.out; omega) (by have := HCM.out; omega) (by have := HCM.out; omega) (HR7.out _ (Bt.refl _ _)).2.2.2.2.2.2.1).mono ?_); rintro e w8 ⟨p2, rfl, ht, hm, hb⟩)
            have HM8 := Lib.hid hm
            have HR8 := Lib.hid (on_inv (mo := (some mb)) HR7.out hb (fun W hz => ht.bt hz HM8.out))
            clear HR7 HM7 
            rw [← HSB.out]
            clear ht hb hm x0
            have PV := Lib.hid (show HVar (w8.alloc (.cells #[.pointer p2] 29)) bH none from (HR8.out _ ((Bt.refl _ _).alloc _)).2.1)
            have HM9 := Lib.hid ((HM8.out.alloc (.cells #[.pointer p2] 29)).set PV.out (.pointer p2))
            have HR9 := Lib.hid (fun W (hz : Bt (some mb) ((w8.alloc (.cells #[.pointer p2] 29)).setCell ⟨bH, 0, none⟩ (.pointer p2)) W) => And.intro ((((HR8.out _ ((Bt.refl _ _).alloc _)).1.set PV.out (.pointer p2))).bt hz HM9.out) ( And.intro (((PV.out.put p2)).bt hz HM9.out) ( And.intro ((((HR8.out _ ((Bt.refl _ _).alloc _)).2.2.1.set NHU.out.2.2.2.2.1 0 (.pointer p2))).bt hz HM9.out) ( And.intro ((((HR8.out _ ((Bt.refl _ _).alloc _)).2.2.2.1.set NHU.out.1.symm 0 (.pointer p2))).bt hz HM9.out) ( And.intro ((((HR8.out _ ((Bt.refl _ _).alloc _)).2.2.2.2.1.set NHU.out.1.symm 0 (.pointer p2))).bt hz HM9.out) ( And.intro ((((HR8.out _ ((Bt.refl _ _).alloc _)).2.2.2.2.2.1.set NHU.out.2.1.symm 0 (.pointer p2))).bt hz HM9.out) ( And.intro ((((HR8.out _ ((Bt.refl _ _).alloc _)).2.2.2.2.2.2.1.set NHU.out.2.1.symm 0 (.pointer p2))).bt hz HM9.out) ( And.intro ((((HR8.out _ ((Bt.refl _ _).alloc _)).2.2.2.2.2.2.2.1.set PV.out (.pointer p2))).bt hz HM9.out) ( And.intro ((((HR8.out _ ((Bt.refl _ _).alloc _)).2.2.2.2.2.2.2.2.1.set PV.out (.pointer p2))).bt hz HM9.out) ( And.intro ((((HR8.out _ ((Bt.refl _ _).alloc _)).2.2.2.2.2.2.2.2.2.1.set PV.out (.pointer p2))).bt hz HM9.out) ( And.intro ((((HR8.out _ ((Bt.refl _ _).alloc _)).2.2.2.2.2.2.2.2.2.2.1.set PV.out (.pointer p2))).bt hz HM9.out) ( And.intro ((((HR8.out _ ((Bt.refl _ _).alloc _)).2.2.2.2.2.2.2.2.2.2.2.1.set PV.out NHU.out.1 (.pointer p2))).bt hz HM9.out) ( And.intro ((((HR8.out _ ((Bt.refl _ _).alloc _)).2.2.2.2.2.2.2.2.2.2.2.2.1.set PV.out NHU.out.2.1 (.pointer p2))).bt hz HM9.out) ((((HR8.out _ ((Bt.refl _ _).alloc _)).2.2.2.2.2.2.2.2.2.2.2.2.2.set HE.out B_bH.out 0 (.pointer p2))).bt HE.out hz (fun b e => by cases e; exact B_mb.out)))))))))))))))
            clear HR8 HM8
            obtain ⟨w9, hw9⟩ : ∃ u, u = ((w8.alloc (.cells #[.pointer p2] 29)).setCell ⟨bH, 0, none⟩ (.pointer p2)) := ⟨_, rfl⟩
            rw [← hw9] at HM9 HR9
            have y0 := (HR9.out _ (Bt.refl _ _)).2.2.2.2.2.1.c0
            have y1 := (HR9.out _ (Bt.refl _ _)).2.2.2.2.2.1.c1
            have y2 := (HR9.out _ (Bt.refl _ _)).2.2.2.2.2.1.c2
            have y3 := (HR9.out _ (Bt.refl _ _)).2.2.2.2.2.1.c3
            have HMID := Lib.hid (show Mid w mb gu cu gv cv L bH bW ts (cc + (ta.popC : Int)) (mm + (ta.popM : Int)) (ta.pop) p2 w9 from ⟨HM9.out, (HR9.out _ (Bt.refl _ _)).2.2.2.2.2.2.2.2.2.2.2.1, (HR9.out _ (Bt.refl _ _)).2.2.2.2.2.2.2.2.2.2.2.2.1, (HR9.out _ (Bt.refl _ _)).2.2.2.2.2.2.2.2.2.2.2.2.2, (HR9.out _ (Bt.refl _ _)).1, (HR9.out _ (Bt.refl _ _)).2.1, ⟨HOWN.out.1, HOWN.out.2, B_bW.out⟩, ⟨NHU.out.1, NHU.out.2.2.2.1⟩⟩)
            have HC := Lib.hid (show (cc + (ta.popC : Int)) + (mm + (ta.popM : Int)) = st + (nn : Int) ∧ 0 ≤ cc + (ta.popC : Int) ∧ cc + (ta.popC : Int) ≤ 10000 * ((i + 1 : Nat) : Int) ∧ 0 ≤ mm + (ta.popM : Int) ∧ mm + (ta.popM : Int) ≤ 10000 * ((i + 1 : Nat) : Int) from (by have := HCM.out; have := HP.out; have := HNN.out; have := Z.out; have := HST.out; omega))
            have ws : IntKind.i64.wrap (st + (nn : Int)) = st + (nn : Int) := by have := HC.out; have := HN.out; rw [IntKind.wrap_i64]; omega
            have HRA := Lib.hid (HR9.out _ (Bt.refl _ _)).2.2.2.2.2.2.2.2.2.1
            have HVA := Lib.hid (HR9.out _ (Bt.refl _ _)).2.2.2.2.2.1
            have HVW := Lib.hid (HR9.out _ (Bt.refl _ _)).2.2.1
            have hFo1 : ∀ k, w9.heap.size ≤ k → FP gv mb gu bW bH k := by have h1 := (HR9.out _ (Bt.refl _ _)).2.2.2.2.2.1.lt; have h2 := HM9.out.lt; have h3 := HVW.out.lt; have h4 := (HR9.out _ (Bt.refl _ _)).2.2.2.1.lt; have h5 := (HR9.out _ (Bt.refl _ _)).2.1.lt; exact fun k hk => ⟨by omega, by omega, by omega, by omega, by omega⟩
            have HFO := Lib.hid hFo1
            clear HR9 HM9 hFo1
            have HW9 := Lib.hid hw9
            clear hw9
            go_wp2_with (refine Go.Proofs.YtlmokendajgbdaaGreatDoor.Bo.wpList_store_h rfl _ _ rfl _ rfl rfl PV.out ?_; intro wz9 ez9; rw [← HW9.out] at ez9; subst ez9)
            ((with_reducible refine (refPop_ok (FP gv mb gu bW bH) ta a1 a2 Aa na ka Ga _ (by have := HT.out.1; omega) HT.out.2.1.ok HFO.out HRA.out).mono ?_); rintro e wb ⟨z1, z2, Az, nz, cz, Nz, rfl, ht, hb⟩)
            rw [← HNN.out.1]
            have hbz := hb.alloc hb.size (.cells #[.bool Nz, .int .i64 z1, .int .i64 z2, .slice Az nz cz] 35)
            have M7 := Lib.hid (HMID.out.stay HE.out hbz)
            have V7 := Lib.hid (HVW.out.stay hbz)
            have HTZ := Lib.hid (ht.stay ((Below.refl wb.heap.size wb).alloc (Nat.le_refl _) (.cells #[.bool Nz, .int .i64 z1, .int .i64 z2, .slice Az nz cz] 35)))
            have HA7 := Lib.hid (And.intro (HVA.out.stay hbz) (HRA.out.stay hbz))
            clear hb hbz ht y0 y1 y2 y3
            go_wp2_with (refine wpList_store_w rfl _ _ rfl _ rfl rfl V7.out ?_; intro wc8 hv8 hw8; have M8 := Lib.hid (M7.out.wrote HE.out V7.out hw8); have R8 := Lib.hid (HTZ.out.far (F' := FP gv mb gu bW bH) ⟨fun k _ hf => hw8.keep k hf.2.2.2.1, fun _ _ hf => hf⟩); have X8 := Lib.hid hv8; have y0 := (HA7.out.1.keep (hw8.keep gv (fun e => NHU.out.2.2.2.1 e.symm))).c0; have y1 := (HA7.out.1.keep (hw8.keep gv (fun e => NHU.out.2.2.2.1 e.symm))).c1; have y2 := (HA7.out.1.keep (hw8.keep gv (fun e => NHU.out.2.2.2.1 e.symm))).c2; have y3 := (HA7.out.1.keep (hw8.keep gv (fun e => NHU.out.2.2.2.1 e.symm))).c3; have RA8 := Lib.hid (HA7.out.2.far (F' := FP gv mb gu bW bH) ⟨fun k _ hf => hw8.keep k hf.2.2.2.1, fun _ _ hf => hf⟩); clear hw8 hv8)
            ((with_reducible refine (refSize_any _ ta a1 a2 Aa na ka Ga sza _ RA8.out HT.out.1.1 (by have := HT.out.1; omega) HT.out.2.1.ok).mono ?_); rintro e ws8 ⟨rfl, hb⟩)
            have M8_ := Lib.hid (M8.out.stay HE.out hb)
            have R8_ := Lib.hid (R8.out.stay hb)
            have X8_ := Lib.hid (X8.out.stay hb)
            clear M8 R8 X8 RA8 hb y0 y1 y2 y3
            have M8 := M8_
            have R8 := R8_
            have X8 := X8_
            clear M8_ R8_ X8_
            go_wp2_with (first
              | (go_at_call 24; (with_reducible refine (mSteps mb _ _ _ M8.out.mt (by have := HC.out; omega) (by have := HC.out; have := HN.out; omega) (by have := HC.out; omega) (by have := HC.out; have := HN.out; omega)).mono ?_)
                 rintro e wc9 ⟨rfl, hb9⟩
                 rw [HC.out.1]
                 have M9 := Lib.hid (M8.out.stay HE.out hb9)
                 obtain ⟨g1_, c1_, W1, g2_, c2_, W2, hr1, hx1, hr2, hrel⟩ := plays_push (i := i) HE.out HN.out.2.2 (by have := HN.out; omega) M9.out ⟨HC.out.2.1, HC.out.2.2.1, HC.out.2.2.2.1, HC.out.2.2.2.2⟩ Z.out.2.1 (by rw [pop_size HT.out.2.1.ok]; have := HT.out.1; omega) (good_pop HT.out.2.1) (R8.out.stay hb9) (X8.out.stay hb9)
                 have HRUN := Lib.hid (And.intro hr1 hr2)
                 have HREL := Lib.hid hrel
                 have x0 := M9.out.hv.c0
                 have x1 := hx1.c0
                 have x2 := hx1.c1
                 have x3 := hx1.c2
                 have x3b := hx1.c3
                 clear hr1 hr2 hrel hx1 hb9)
              | (at_builtin; first | (refine wpList_append_run rfl _ _ _ rfl _ _ _ _ rfl rfl HRUN.out.1 ?_) | (refine wpList_append_run rfl _ _ _ rfl _ _ _ _ rfl rfl HRUN.out.2 ?_)))
            go_roundg (n - (i + 1))
            case measure => have := Z.out.2.2.2; have := HN.out; omega
            case rel => exact ⟨i + 1, g1_, c1_, g2_, c2_, _, _, _, st + (nn : Int), by first | rfl | (congr 1; unfold wrap64; have := HN.out; omega), rfl, by rw [← HN.out.2.2], by rw [← HN.out.2.2], HC.out.1.symm, by have := HN.out; omega, HREL.out⟩
        have y0 : ((yk : Int) == 0) = false := by simp; omega
        have y1 : ((yk : Int) == 1) = false := by simp; omega
        have y2 : ((yk : Int) == 2) = false := by simp; omega
        have yn0 : ¬ ((yk : Int) = 0) := by omega
        have yn1 : ¬ ((yk : Int) = 1) := by omega
        have yn2 : ¬ ((yk : Int) = 2) := by omega
        as_aux_lemma =>
          have x5 : ((w6.alloc (.cells #[.pointer none] 29)).alloc (.cells #[.bool false, .int .i64 0, .int .i64 0, .slice none 0 0] 35)).cell? ⟨b0, o + i * 6 + 5, none⟩ = some (.slice yA nl yc) := (HAC.out _ (HR6.out _ (((Bt.refl _ _).alloc _).alloc _)).2.2.2.2.2.2.2.2.2.2.below).2.2.2.2.2
          go_wp2_with fail
          obtain ⟨bH, hbH⟩ : ∃ b, b = w6.heap.size := ⟨_, rfl⟩
          obtain ⟨bW, hbW⟩ : ∃ b, b = w6.heap.size + 1 := ⟨_, rfl⟩
          have hb2 : Bt (some mb) w6 ((w6.alloc (.cells #[.pointer none] 29)).alloc (.cells #[.bool false, .int .i64 0, .int .i64 0, .slice none 0 0] 35)) := ((Bt.refl _ _).alloc _).alloc _
          have hvh : HVar ((w6.alloc (.cells #[.pointer none] 29)).alloc (.cells #[.bool false, .int .i64 0, .int .i64 0, .slice none 0 0] 35)) bH none := HVar.bt (HVar.new w6 none hbH) ((Bt.refl (some mb) (w6.alloc (.cells #[.pointer none] 29))).alloc (.cells #[.bool false, .int .i64 0, .int .i64 0, .slice none 0 0] 35)) (HM6.out.alloc _)
          have hvw : QVar ((w6.alloc (.cells #[.pointer none] 29)).alloc (.cells #[.bool false, .int .i64 0, .int .i64 0, .slice none 0 0] 35)) bW (0, 0) none 0 0 false := new_at (by rw [hbW]; simp)
          have hwk : ∀ k, k < w6.heap.size → FP gv mb gu mb mb k → FP gv mb gu bW bH k := fun k hk hf => ⟨hf.1, hf.2.1, hf.2.2.1, by omega, by omega⟩
          have HM7 := Lib.hid ((HM6.out.alloc (.cells #[.pointer none] 29)).alloc (.cells #[.bool false, .int .i64 0, .int .i64 0, .slice none 0 0] 35))
          have HR7 := Lib.hid (fun W (hz : Bt (some mb) ((w6.alloc (.cells #[.pointer none] 29)).alloc (.cells #[.bool false, .int .i64 0, .int .i64 0, .slice none 0 0] 35)) W) => And.intro ((hvh).bt hz HM7.out) ( And.intro ((hvw).bt hz HM7.out) ( And.intro (((HR6.out _ hb2).1).bt hz HM7.out) ( And.intro (((HR6.out _ hb2).2.1).bt hz HM7.out) ( And.intro (((HR6.out _ hb2).2.2.1).bt hz HM7.out) ( And.intro (((HR6.out _ hb2).2.2.2.1).bt hz HM7.out) ( And.intro (((HR6.out _ hb2).2.2.2.2.1).bt hz HM7.out) ( And.intro (((HR6.out _ hb2).2.2.2.2.2.1).bt hz HM7.out) ( And.intro (((((HR6.out _ (Bt.refl _ _)).2.2.2.2.2.2.1.weak hwk).bt hb2 HM6.out)).bt hz HM7.out) ( And.intro (((((HR6.out _ (Bt.refl _ _)).2.2.2.2.2.2.2.1.weak hwk).bt hb2 HM6.out)).bt hz HM7.out) ( And.intro (((HR6.out _ hb2).2.2.2.2.2.2.2.2.1).bt hz HM7.out) ( And.intro (((((HR6.out _ (Bt.refl _ _)).2.2.2.2.2.2.2.2.2.1.weak hwk).bt hb2 HM6.out)).bt hz HM7.out) (((HR6.out _ hb2).2.2.2.2.2.2.2.2.2.2).bt HE.out hz (fun b e => by cases e; exact B_mb.out))))))))))))))
          clear hb2 hvh hvw hwk HR6 HM6
          generalize (w6.alloc (.cells #[.pointer none] 29)).alloc (.cells #[.bool false, .int .i64 0, .int .i64 0, .slice none 0 0] 35) = w7 at *
          rw [← hbW, ← hbH]
          have NHU := Lib.hid (show bH ≠ gu ∧ bH ≠ gv ∧ bW ≠ gu ∧ bW ≠ gv ∧ bW ≠ bH ∧ bW ≠ mb from by have := HS0.out; omega)
          have B_bH := Lib.hid (show w.heap.size ≤ bH from by have := HS0.out; omega)
          have B_bW := Lib.hid (show w.heap.size ≤ bW from by have := HS0.out; omega)
          clear hbH hbW
          clear y0 y1 y2 yn0 yn1 yn2 g1 g2 e0
          obtain ⟨P, hP⟩ : ∃ P, P = putC .nil yl + putM .nil yl := ⟨_, rfl⟩
          have HP := Lib.hid (show P = putC .nil yl + putM .nil yl ∧ putC .nil yl ≤ 160 ∧ putM .nil yl ≤ 160 from ⟨hP, by have h1 := put_le yl .nil; have := HL.out; omega, by have h1 := put_le yl .nil; have := HL.out; omega⟩)
          obtain ⟨nn, hnn⟩ : ∃ q, q = putC .nil yl + putM .nil yl := ⟨_, rfl⟩
          have HNN := Lib.hid (show nn = putC .nil yl + putM .nil yl ∧ nn = P from ⟨hnn, by omega⟩)
          clear hnn hP
          ((with_reducible refine (ofMeter mb cc mm yA yl nl yc w _ HL.out.1 HL.out.2.1 (by have := HL.out; omega) (HR7.out _ (Bt.refl _ _)).2.2.2.2.2.2.2.2.2.2.2.2.below B_mb.out HM7.out (by have := HCM.out; omega) (by have := HCM.out; omega) (by have := HCM.out; omega) (by have := HCM.out; omega)).mono ?_); rintro e w8 ⟨p2, rfl, ht, hm, hb⟩)
          have HM8 := Lib.hid hm
          have HR8 := Lib.hid (on_inv (mo := (some mb)) HR7.out hb (fun W hz => ht.bt hz HM8.out))
          clear HR7 HM7 
          clear ht hb hm x5
          have pv := (HR8.out _ (Bt.refl _ _)).2.1
          have pc := pv.c0
          have pz := pv.z0
          have PV := Lib.hid pv
          clear pv
          go_wp2_with fail
          have HM9 := Lib.hid (HM8.out.set PV.out (.pointer p2))
          have HR9 := Lib.hid (fun W (hz : Bt (some mb) (w8.setCell ⟨bH, 0, none⟩ (.pointer p2)) W) => And.intro ((((HR8.out _ (Bt.refl _ _)).1.set PV.out (.pointer p2))).bt hz HM9.out) ( And.intro (((PV.out.put p2)).bt hz HM9.out) ( And.intro ((((HR8.out _ (Bt.refl _ _)).2.2.1.set NHU.out.2.2.2.2.1 0 (.pointer p2))).bt hz HM9.out) ( And.intro ((((HR8.out _ (Bt.refl _ _)).2.2.2.1.set NHU.out.1.symm 0 (.pointer p2))).bt hz HM9.out) ( And.intro ((((HR8.out _ (Bt.refl _ _)).2.2.2.2.1.set NHU.out.1.symm 0 (.pointer p2))).bt hz HM9.out) ( And.intro ((((HR8.out _ (Bt.refl _ _)).2.2.2.2.2.1.set NHU.out.2.1.symm 0 (.pointer p2))).bt hz HM9.out) ( And.intro ((((HR8.out _ (Bt.refl _ _)).2.2.2.2.2.2.1.set NHU.out.2.1.symm 0 (.pointer p2))).bt hz HM9.out) ( And.intro ((((HR8.out _ (Bt.refl _ _)).2.2.2.2.2.2.2.1.set PV.out (.pointer p2))).bt hz HM9.out) ( And.intro ((((HR8.out _ (Bt.refl _ _)).2.2.2.2.2.2.2.2.1.set PV.out (.pointer p2))).bt hz HM9.out) ( And.intro ((((HR8.out _ (Bt.refl _ _)).2.2.2.2.2.2.2.2.2.1.set PV.out (.pointer p2))).bt hz HM9.out) ( And.intro ((((HR8.out _ (Bt.refl _ _)).2.2.2.2.2.2.2.2.2.2.1.set PV.out (.pointer p2))).bt hz HM9.out) ( And.intro ((((HR8.out _ (Bt.refl _ _)).2.2.2.2.2.2.2.2.2.2.2.1.set PV.out NHU.out.1 (.pointer p2))).bt hz HM9.out) ( And.intro ((((HR8.out _ (Bt.refl _ _)).2.2.2.2.2.2.2.2.2.2.2.2.1.set PV.out NHU.out.2.1 (.pointer p2))).bt hz HM9.out) ((((HR8.out _ (Bt.refl _ _)).2.2.2.2.2.2.2.2.2.2.2.2.2.set HE.out B_bH.out 0 (.pointer p2))).bt HE.out hz (fun b e => by cases e; exact B_mb.out)))))))))))))))
          clear HR8 HM8 PV pc pz 
          generalize w8.setCell ⟨bH, 0, none⟩ (.pointer p2) = w9 at *
          have HMID := Lib.hid (show Mid w mb gu cu gv cv L bH bW ts (cc + (putC .nil yl : Int)) (mm + (putM .nil yl : Int)) (ofL yl) p2 w9 from ⟨HM9.out, (HR9.out _ (Bt.refl _ _)).2.2.2.2.2.2.2.2.2.2.2.1, (HR9.out _ (Bt.refl _ _)).2.2.2.2.2.2.2.2.2.2.2.2.1, (HR9.out _ (Bt.refl _ _)).2.2.2.2.2.2.2.2.2.2.2.2.2, (HR9.out _ (Bt.refl _ _)).1, (HR9.out _ (Bt.refl _ _)).2.1, ⟨HOWN.out.1, HOWN.out.2, B_bW.out⟩, ⟨NHU.out.1, NHU.out.2.2.2.1⟩⟩)
          have HC := Lib.hid (show (cc + (putC .nil yl : Int)) + (mm + (putM .nil yl : Int)) = st + (nn : Int) ∧ 0 ≤ cc + (putC .nil yl : Int) ∧ cc + (putC .nil yl : Int) ≤ 10000 * ((i + 1 : Nat) : Int) ∧ 0 ≤ mm + (putM .nil yl : Int) ∧ mm + (putM .nil yl : Int) ≤ 10000 * ((i + 1 : Nat) : Int) from (by have := HCM.out; have := HP.out; have := HNN.out; have := Z.out; have := HST.out; have := HL.out; omega))
          have ws : IntKind.i64.wrap (st + (nn : Int)) = st + (nn : Int) := by have := HC.out; have := HN.out; rw [IntKind.wrap_i64]; omega
          have HVW := Lib.hid (HR9.out _ (Bt.refl _ _)).2.2.1
          have HFQ := Lib.hid (show gv ≠ mb from by have h1 := HM9.out.ne (HR9.out _ (Bt.refl _ _)).2.2.2.2.2.1.choose_spec.1 (by decide) rfl; exact h1)
          have HLT := Lib.hid (show gv < w9.heap.size ∧ mb < w9.heap.size ∧ bW < w9.heap.size ∧ gu < w9.heap.size ∧ bH < w9.heap.size from ⟨(HR9.out _ (Bt.refl _ _)).2.2.2.2.2.1.lt, HM9.out.lt, HVW.out.lt, (HR9.out _ (Bt.refl _ _)).2.2.2.1.lt, (HR9.out _ (Bt.refl _ _)).2.1.lt⟩)
          clear HR9 HM9
          go_loopg [14, 23] nl (fun k nv jv wj => ∃ (j nj : Nat) (z1 z2 : Int) (Az : Option Addr) (nz cz : Nat) (Nz : Bool), jv = .int .i64 (j : Int) ∧ nv = .int .i64 (nj : Int) ∧ j + k = nl ∧ nj = putC .nil (yl.take j) + putM .nil (yl.take j) ∧ w9.heap.size ≤ wj.heap.size ∧ Mid w mb gu cu gv cv L bH bW ts (cc + (putC .nil yl : Int)) (mm + (putM .nil yl : Int)) (ofL yl) p2 wj ∧ QVar wj bW (z1, z2) Az nz cz Nz ∧ RAt (FP gv mb gu bW bH) wj (ofL (yl.take j)) (z1, z2) Az nz cz Nz)
          case atStart => exact ⟨0, 0, 0, 0, none, 0, 0, false, rfl, rfl, by omega, by rw [List.take_zero]; rfl, Nat.le_refl _, HMID.out, HVW.out, by rw [List.take_zero]; exact RAt.zero _ _⟩
          case round =>
            obtain ⟨j, nj, z1, z2, Az, nz, cz, Nz, rfl, rfl, hj, hnj, hsz, hM, hV, hR⟩ := hrel
            clear HMID HVW
            by_cases hlt : j < nl
            · have hll : j < yl.length := by have := HL.out; omega
              obtain ⟨br, ro, hyA, hrc⟩ := HL.out.1 (by omega)
              subst hyA
              have hra := row_at hrc j hll
              have htk := ofL_take yl j hll
              have hpk := put_take yl j hll
              have hfe : in64 yl[j].1 ∧ in64 yl[j].2 := HL.out.2.2.2 _ (List.getElem_mem hll)
              generalize yl[j] = ye at *
              obtain ⟨f1, f2⟩ := ye
              obtain ⟨tj, htj⟩ : ∃ t, t = ofL (yl.take j) := ⟨_, rfl⟩
              have hsj : tj.size ≤ 40 := by rw [htj, ofL_size, List.length_take]; have := HL.out; omega
              rw [← htj] at hR htk hpk
              obtain ⟨kk, hkk⟩ : ∃ q, q = tj.insC (f1, f2) + tj.insM (f1, f2) := ⟨_, rfl⟩
              have hpb : putC .nil (yl.take (j + 1)) ≤ 160 ∧ putM .nil (yl.take (j + 1)) ≤ 160 := by have h9 := put_le (yl.take (j + 1)) .nil; rw [List.length_take] at h9; have := HL.out; omega
              have HKK := Lib.hid (show kk = tj.insC (f1, f2) + tj.insM (f1, f2) ∧ nj + kk = putC .nil (yl.take (j + 1)) + putM .nil (yl.take (j + 1)) ∧ nj + kk ≤ 4000 from ⟨hkk, by rw [hpk.1, hpk.2]; omega, by have h9 : nj + kk = putC .nil (yl.take (j + 1)) + putM .nil (yl.take (j + 1)) := (by rw [hpk.1, hpk.2]; omega); omega⟩)
              have HTJ := Lib.hid (show ofL (yl.take (j + 1)) = tj.insert (f1, f2) ∧ tj.size ≤ 40 ∧ j + gk = nl ∧ j < nl ∧ nl ≤ 40 ∧ w9.heap.size ≤ wr.heap.size from ⟨htk, hsj, hj, hlt, HL.out.2.2.1, hsz⟩)
              have HTK := Lib.hid (show tj.ok from htj ▸ ofL_ok _)
              have HM_ := Lib.hid hM
              have HV_ := Lib.hid hV
              have HR_ := Lib.hid hR
              have j0 : (0 : Int) ≤ (j : Int) := by omega
              have j1 : (j : Int) < (nl : Int) := by omega
              have j2 : decide ((j : Int) < (nl : Int)) = true := by simp; omega
              have wj : IntKind.i64.wrap ((j : Int) + 1) = (j : Int) + 1 := by have := HL.out; rw [IntKind.wrap_i64]; omega
              have wn : IntKind.i64.wrap ((nj : Int) + (kk : Int)) = (nj : Int) + (kk : Int) := by have := HKK.out; rw [IntKind.wrap_i64]; omega
              have HS1 := Lib.hid (fun (w' : World) (hz : Below wr.heap.size wr w') => (show w'.cell? ⟨b0, o + i * 6 + 5, none⟩ = some (.slice (some ⟨br, ro, none⟩) nl yc) ∧ w'.cell? ⟨br, ro + j * 2, none⟩ = some (.int .i64 f1) ∧ w'.cell? ⟨br, ro + j * 2 + 1, none⟩ = some (.int .i64 f2) ∧ w'.cell? ⟨bW, 0, none⟩ = some (.bool Nz) ∧ w'.cell? ⟨bW, 1, none⟩ = some (.int .i64 z1) ∧ w'.cell? ⟨bW, 2, none⟩ = some (.int .i64 z2) ∧ w'.cell? ⟨bW, 3, none⟩ = some (.slice Az nz cz) from by
                have hzz := hM.bas.below.trans (hz.mono hM.bas.below.size)
                exact ⟨(HAC.out _ hzz).2.2.2.2.2, (hzz.cell (p := ⟨br, ro + j * 2, none⟩) (block_lt_of_cell hra.1)).trans hra.1, (hzz.cell (p := ⟨br, ro + j * 2 + 1, none⟩) (block_lt_of_cell hra.2)).trans hra.2, (hV.stay hz).c0, (hV.stay hz).c1, (hV.stay hz).c2, (hV.stay hz).c3⟩))
              have x5 := (HS1.out _ (Below.refl _ _)).1
              have hFo1 : ∀ k, wr.heap.size ≤ k → FP gv mb gu bW bH k := fun k hk => by have := HLT.out; have := HTJ.out; exact ⟨by omega, by omega, by omega, by omega, by omega⟩
              have HFO := Lib.hid hFo1
              clear hra htk hpk hfe hrc hsj htj hkk hpb hM hV hR hj hnj hsz hll hlt hFo1
              go_wp2_with fail
              clear x5
              have hFo1 := HFO.out
              refine wp_after (R := fun a a' w' => ∃ (u104 u105 u106 u107 u108 u109 u110 u111 u112 u113 u103 u114 u115 : Value) (bv : Nat) (z1 z2 : Int) (Az : Option Addr) (nz cz : Nat) (Nz : Bool), a' = (((((((((((((((a.put (some 104) u104).put (some 105) u105).put (some 106) u106).put (some 107) u107).put (some 108) u108).put (some 109) u109).put (some 110) u110).put (some 111) u111).put (some 112) u112).put (some 113) u113).put (some 103) u103).put (some 114) u114).put (some 115) u115).put (some 24) (.pointer (some ⟨bv, 0, none⟩))).put (some 25) (.int .i64 (kk : Int))) ∧ Below wr.heap.size wr w' ∧ QVar w' bv (z1, z2) Az nz cz Nz ∧ RAt (FP gv mb gu bW bH) w' (tj.insert (f1, f2)) (z1, z2) Az nz cz Nz) ?_ ?_
              · have hd0 : Below wr.heap.size wr wr.drew := (Below.refl _ _).drew
                have hSd : wr.heap.size = wr.drew.heap.size := rfl
                refine wp_region_noPanic ?_
                refine wp_region_held_drew (S := fun w' => w'.cell? ⟨b0, o + i * 6 + 5, none⟩ = some (.slice (some ⟨br, ro, none⟩) nl yc) ∧ w'.cell? ⟨br, ro + j * 2, none⟩ = some (.int .i64 f1) ∧ w'.cell? ⟨br, ro + j * 2 + 1, none⟩ = some (.int .i64 f2) ∧ w'.cell? ⟨bW, 0, none⟩ = some (.bool Nz) ∧ w'.cell? ⟨bW, 1, none⟩ = some (.int .i64 z1) ∧ w'.cell? ⟨bW, 2, none⟩ = some (.int .i64 z2) ∧ w'.cell? ⟨bW, 3, none⟩ = some (.slice Az nz cz)) (by kernel_rfl) (HS1.out _ hd0) (fun hH => ?_)
                generalize wr.drew = wd at *
                refine wpAnyH_take (i := 0) (oi := { dst := some 104, op := Go.Op.move (Go.Operand.tmp 0), type := 22, pos := "law.go:101", after := #[], guard := none }) (v := ?v5_0_0) rfl (by as_aux_lemma => kernel_rfl) (by as_aux_lemma => kernel_rfl) (by as_aux_lemma => kernel_rfl) (fun _ _ _ h => h) (Or.inl ⟨(by as_aux_lemma => kernel_rfl), ?hy5_0_0⟩) hH ?rest5_0_0
                case hy5_0_0 => (intro w hSw; (try dsimp only at hSw); go_simp; try with_reducible rfl)
                try simp only [Act.put, List.setIfInBounds_toArray, List.set_cons_zero, List.set_cons_succ]
                refine wpAnyH_take (i := 1) (oi := { dst := some 105, op := Go.Op.move (Go.Operand.tmp 9), type := 3, pos := "law.go:101", after := #[], guard := none }) (v := ?v5_0_1) rfl (by as_aux_lemma => kernel_rfl) (by as_aux_lemma => kernel_rfl) (by as_aux_lemma => kernel_rfl) (fun _ _ _ h => h) (Or.inl ⟨(by as_aux_lemma => kernel_rfl), ?hy5_0_1⟩) hH ?rest5_0_1
                case hy5_0_1 => (intro w hSw; (try dsimp only at hSw); go_simp; try with_reducible rfl)
                try simp only [Act.put, List.setIfInBounds_toArray, List.set_cons_zero, List.set_cons_succ]
                refine wpAnyH_take (i := 2) (oi := { dst := some 106, op := Go.Op.indexAddr 22 (Go.Operand.tmp 104) (Go.Operand.tmp 105), type := 0, pos := "law.go:101", after := #[{ on := 0, ground := Go.Ground.data }, { on := 1, ground := Go.Ground.data }], guard := none }) (v := ?v5_0_2) rfl (by as_aux_lemma => kernel_rfl) (by as_aux_lemma => kernel_rfl) (by as_aux_lemma => kernel_rfl) (fun _ _ _ h => h) (Or.inl ⟨(by as_aux_lemma => kernel_rfl), ?hy5_0_2⟩) hH ?rest5_0_2
                case hy5_0_2 => (intro w hSw; (try dsimp only at hSw); go_simp; try with_reducible rfl)
                try simp only [Act.put, List.setIfInBounds_toArray, List.set_cons_zero, List.set_cons_succ]
                refine wpAnyH_take (i := 3) (oi := { dst := some 107, op := Go.Op.fieldAddr 39 (Go.Operand.tmp 106) 4, type := 0, pos := "law.go:101", after := #[{ on := 2, ground := Go.Ground.data }], guard := none }) (v := ?v5_0_3) rfl (by as_aux_lemma => kernel_rfl) (by as_aux_lemma => kernel_rfl) (by as_aux_lemma => kernel_rfl) (fun _ _ _ h => h) (Or.inl ⟨(by as_aux_lemma => kernel_rfl), ?hy5_0_3⟩) hH ?rest5_0_3
                case hy5_0_3 => (intro w hSw; (try dsimp only at hSw); go_simp; try with_reducible rfl)
                try simp only [Act.put, List.setIfInBounds_toArray, List.set_cons_zero, List.set_cons_succ]
                refine wpAnyH_take (i := 4) (oi := { dst := some 108, op := Go.Op.load 37 (Go.Operand.tmp 107), type := 37, pos := "law.go:101", after := #[{ on := 3, ground := Go.Ground.data }], guard := none }) (v := ?v5_0_4) rfl (by as_aux_lemma => kernel_rfl) (by as_aux_lemma => kernel_rfl) (by as_aux_lemma => kernel_rfl) (fun _ _ _ h => h) (Or.inl ⟨(by as_aux_lemma => kernel_rfl), ?hy5_0_4⟩) hH ?rest5_0_4
                case hy5_0_4 => (intro w hSw; (try dsimp only at hSw); go_simp; try with_reducible rfl)
                try simp only [Act.put, List.setIfInBounds_toArray, List.set_cons_zero, List.set_cons_succ]
                refine wpAnyH_take (i := 5) (oi := { dst := some 109, op := Go.Op.move (Go.Operand.tmp 23), type := 3, pos := "law.go:101", after := #[], guard := none }) (v := ?v5_0_5) rfl (by as_aux_lemma => kernel_rfl) (by as_aux_lemma => kernel_rfl) (by as_aux_lemma => kernel_rfl) (fun _ _ _ h => h) (Or.inl ⟨(by as_aux_lemma => kernel_rfl), ?hy5_0_5⟩) hH ?rest5_0_5
                case hy5_0_5 => (intro w hSw; (try dsimp only at hSw); go_simp; try with_reducible rfl)
                try simp only [Act.put, List.setIfInBounds_toArray, List.set_cons_zero, List.set_cons_succ]
                refine wpAnyH_take (i := 6) (oi := { dst := some 110, op := Go.Op.indexAddr 37 (Go.Operand.tmp 108) (Go.Operand.tmp 109), type := 0, pos := "law.go:101", after := #[{ on := 4, ground := Go.Ground.data }, { on := 5, ground := Go.Ground.data }], guard := none }) (v := ?v5_0_6) rfl (by as_aux_lemma => kernel_rfl) (by as_aux_lemma => kernel_rfl) (by as_aux_lemma => kernel_rfl) (fun _ _ _ h => h) (Or.inl ⟨(by as_aux_lemma => kernel_rfl), ?hy5_0_6⟩) hH ?rest5_0_6
                case hy5_0_6 => (intro w hSw; (try dsimp only at hSw); go_simp; try with_reducible rfl)
                try simp only [Act.put, List.setIfInBounds_toArray, List.set_cons_zero, List.set_cons_succ]
                refine wpAnyH_take (i := 7) (oi := { dst := some 111, op := Go.Op.load 32 (Go.Operand.tmp 110), type := 32, pos := "law.go:101", after := #[{ on := 6, ground := Go.Ground.data }], guard := none }) (v := ?v5_0_7) rfl (by as_aux_lemma => kernel_rfl) (by as_aux_lemma => kernel_rfl) (by as_aux_lemma => kernel_rfl) (fun _ _ _ h => h) (Or.inl ⟨(by as_aux_lemma => kernel_rfl), ?hy5_0_7⟩) hH ?rest5_0_7
                case hy5_0_7 => (intro w hSw; (try dsimp only at hSw); go_simp; try with_reducible rfl)
                try simp only [Act.put, List.setIfInBounds_toArray, List.set_cons_zero, List.set_cons_succ]
                refine wpAnyH_take (i := 8) (oi := { dst := some 112, op := Go.Op.load 35 (Go.Operand.tmp 13), type := 35, pos := "law.go:101", after := #[], guard := none }) (v := ?v5_0_8) rfl (by as_aux_lemma => kernel_rfl) (by as_aux_lemma => kernel_rfl) (by as_aux_lemma => kernel_rfl) (fun _ _ _ h => h) (Or.inl ⟨(by as_aux_lemma => kernel_rfl), ?hy5_0_8⟩) hH ?rest5_0_8
                case hy5_0_8 => (intro w hSw; (try dsimp only at hSw); go_simp; try with_reducible rfl)
                try simp only [Act.put, List.setIfInBounds_toArray, List.set_cons_zero, List.set_cons_succ]
                refine wpAnyH_ready (rs := [9, 13]) (by as_aux_lemma => kernel_rfl) (by simp) ?_
                refine AllReadyH.cons (o := { dst := some 113, op := Go.Op.call { callee := Go.Callee.value (Go.Operand.func 18), args := #[Go.Operand.tmp 111, Go.Operand.tmp 112], argTypes := #[32, 35] }, type := 42, pos := "law.go:101", after := #[{ on := 7, ground := Go.Ground.data }, { on := 8, ground := Go.Ground.data }], guard := none }) rfl (fun K hK => ?_) (AllReadyH.cons (o := { dst := some 24, op := Go.Op.alloc 35, type := 0, pos := "law.go:101", after := #[], guard := none }) rfl (fun K hK => ?_) AllReadyH.nil)
                · have hFoA : ∀ k, wd.heap.size ≤ k → (FP gv mb gu bW bH) k := fun k hk => hFo1 k (by have := hd0.size; omega)
                  have rA0 := HR_.out.stay hd0
                  go_simp
                  go_at_call 18
                  (with_reducible refine (refInsert_any _ tj f1 f2 z1 z2 Az nz cz Nz _ hFoA (by have := HTJ.out; omega) HTK.out rA0).mono ?_)
                  rintro e wc9 ⟨z1, z2, Az, nz, cz, Nz, rfl, ht9, hb9⟩
                  rw [← HKK.out.1]
                  refine hK.out _ _ ?_ (fun hH2 => ?_)
                  · exact HS1.out _ (hd0.trans (hb9.mono hd0.size))
                  clear hK K hH
                  have hH := hH2
                  clear hH2
                  have hbx0 := hd0.trans (hb9.mono hd0.size)
                  try simp only [Act.put, List.setIfInBounds_toArray, List.set_cons_zero, List.set_cons_succ]
                  refine wpAnyH_take (i := 10) (oi := { dst := some 103, op := Go.Op.move (Go.Operand.tmp 113), type := 42, pos := "law.go:101", after := #[{ on := 9, ground := Go.Ground.data }], guard := none }) (v := ?v5_1_10) rfl (by as_aux_lemma => kernel_rfl) (by as_aux_lemma => kernel_rfl) (by as_aux_lemma => kernel_rfl) (fun _ _ _ h => h) (Or.inl ⟨(by as_aux_lemma => kernel_rfl), ?hy5_1_10⟩) hH ?rest5_1_10
                  case hy5_1_10 => (intro w hSw; (try dsimp only at hSw); go_simp; try with_reducible rfl)
                  try simp only [Act.put, List.setIfInBounds_toArray, List.set_cons_zero, List.set_cons_succ]
                  refine wpAnyH_take (i := 11) (oi := { dst := some 114, op := Go.Op.extract (Go.Operand.tmp 103) 0, type := 35, pos := "law.go:101", after := #[{ on := 10, ground := Go.Ground.data }], guard := none }) (v := ?v5_1_11) rfl (by as_aux_lemma => kernel_rfl) (by as_aux_lemma => kernel_rfl) (by as_aux_lemma => kernel_rfl) (fun _ _ _ h => h) (Or.inl ⟨(by as_aux_lemma => kernel_rfl), ?hy5_1_11⟩) hH ?rest5_1_11
                  case hy5_1_11 => (intro w hSw; (try dsimp only at hSw); go_simp; try with_reducible rfl)
                  try simp only [Act.put, List.setIfInBounds_toArray, List.set_cons_zero, List.set_cons_succ]
                  refine wpAnyH_take (i := 12) (oi := { dst := some 115, op := Go.Op.extract (Go.Operand.tmp 103) 1, type := 3, pos := "law.go:101", after := #[{ on := 10, ground := Go.Ground.data }, { on := 14, ground := Go.Ground.gcOnly Go.Departure.lateStores }], guard := none }) (v := ?v5_1_12) rfl (by as_aux_lemma => kernel_rfl) (by as_aux_lemma => kernel_rfl) (by as_aux_lemma => kernel_rfl) (fun _ _ _ h => h) (Or.inl ⟨(by as_aux_lemma => kernel_rfl), ?hy5_1_12⟩) hH ?rest5_1_12
                  case hy5_1_12 => (intro w hSw; (try dsimp only at hSw); go_simp; try with_reducible rfl)
                  try simp only [Act.put, List.setIfInBounds_toArray, List.set_cons_zero, List.set_cons_succ]
                  refine wpAnyH_ready (rs := [13]) (by as_aux_lemma => kernel_rfl) (by simp) ?_
                  refine AllReadyH.cons (o := { dst := some 24, op := Go.Op.alloc 35, type := 0, pos := "law.go:101", after := #[], guard := none }) rfl (fun K hK => ?_) AllReadyH.nil
                  go_simp
                  refine hK.out _ _ ?_ (fun hH2 => ?_)
                  · exact HS1.out _ (hbx0.alloc hbx0.size _)
                  clear hK K hH
                  have hH := hH2
                  clear hH2
                  have hv := QVar.new wc9 0 0 none 0 0 false rfl
                  have hbx := hbx0.alloc hbx0.size (.cells #[.bool false, .int .i64 0, .int .i64 0, .slice none 0 0] 35)
                  have htx := ht9.far (F' := fun k => (FP gv mb gu bW bH) k ∧ k ≠ wc9.heap.size) (W' := wc9.alloc (.cells #[.bool false, .int .i64 0, .int .i64 0, .slice none 0 0] 35)) ⟨fun k hk _ => ((Below.refl _ wc9).alloc (Nat.le_refl _) _).block k hk, fun k hk hf => ⟨hf, by omega⟩⟩
                  have hSR0 : wr.heap.size ≤ wc9.heap.size := hbx0.size
                  obtain ⟨bv, hbv⟩ : ∃ b, b = wc9.heap.size := ⟨_, rfl⟩
                  rw [← hbv] at hv htx hSR0 ⊢
                  have hSR := hSR0
                  clear hbv hb9 ht9 hbx0 hSR0
                  generalize wc9.alloc (.cells #[.bool false, .int .i64 0, .int .i64 0, .slice none 0 0] 35) = wc10 at *
                  try simp only [Act.put, List.setIfInBounds_toArray, List.set_cons_zero, List.set_cons_succ]
                  have v0 := hv.c0
                  have vz0 := hv.z0
                  have v1 := hv.c1
                  have vz1 := hv.z1
                  have v2 := hv.c2
                  have vz2 := hv.z2
                  have v3 := hv.c3
                  have vz3 := hv.z3
                  refine wpAnyH_ready (rs := [14]) (by as_aux_lemma => kernel_rfl) (by simp) ?_
                  refine AllReadyH.cons (o := { dst := none, op := Go.Op.store 35 (Go.Operand.tmp 24) (Go.Operand.tmp 114), type := 0, pos := "law.go:101", after := #[{ on := 13, ground := Go.Ground.data }, { on := 11, ground := Go.Ground.data }, { on := 9, ground := Go.Ground.chain }, { on := 0, ground := Go.Ground.phase }, { on := 1, ground := Go.Ground.phase }, { on := 2, ground := Go.Ground.phase }, { on := 3, ground := Go.Ground.phase }, { on := 4, ground := Go.Ground.phase }, { on := 5, ground := Go.Ground.phase }, { on := 6, ground := Go.Ground.phase }, { on := 7, ground := Go.Ground.phase }, { on := 8, ground := Go.Ground.phase }, { on := 9, ground := Go.Ground.phase }, { on := 10, ground := Go.Ground.phase }, { on := 11, ground := Go.Ground.phase }, { on := 12, ground := Go.Ground.textOnly Go.Departure.lateStores }, { on := 13, ground := Go.Ground.phase }], guard := none }) rfl (fun K hK => ?_) AllReadyH.nil
                  go_simp
                  refine hK.out _ _ ?_ (fun hH2 => ?_)
                  · exact HS1.out _ ((hv.wrote z1 z2 Az nz cz Nz).2.below hbx hSR)
                  clear hK K hH
                  have hH := hH2
                  clear hH2
                  obtain ⟨hvz, hw⟩ := hv.wrote z1 z2 Az nz cz Nz
                  have hbz := hw.below hbx hSR
                  have htz := htx.far (F' := (FP gv mb gu bW bH)) (W' := _) ⟨fun k hk hf => hw.keep k hf.2, fun _ _ hf => hf.1⟩
                  clear v0 v1 v2 v3 vz0 vz1 vz2 vz3
                  generalize (((wc10.setCell ⟨bv, 0, none⟩ (.bool Nz)).setCell ⟨bv, 1, none⟩ (.int .i64 z1)).setCell ⟨bv, 2, none⟩ (.int .i64 z2)).setCell ⟨bv, 3, none⟩ (.slice Az nz cz) = wc11 at *
                  try simp only [Act.put, List.setIfInBounds_toArray, List.set_cons_zero, List.set_cons_succ]
                  refine wpAnyH_ready (rs := [15]) (by as_aux_lemma => kernel_rfl) (by simp) ?_
                  refine AllReadyH.cons (o := { dst := some 25, op := Go.Op.assign (Go.Operand.tmp 115), type := 3, pos := "law.go:101", after := #[{ on := 12, ground := Go.Ground.data }, { on := 14, ground := Go.Ground.chain }, { on := 0, ground := Go.Ground.phase }, { on := 1, ground := Go.Ground.phase }, { on := 2, ground := Go.Ground.phase }, { on := 3, ground := Go.Ground.phase }, { on := 4, ground := Go.Ground.phase }, { on := 5, ground := Go.Ground.phase }, { on := 6, ground := Go.Ground.phase }, { on := 7, ground := Go.Ground.phase }, { on := 8, ground := Go.Ground.phase }, { on := 9, ground := Go.Ground.phase }, { on := 10, ground := Go.Ground.phase }, { on := 11, ground := Go.Ground.phase }, { on := 12, ground := Go.Ground.phase }, { on := 13, ground := Go.Ground.phase }, { on := 14, ground := Go.Ground.phase }], guard := none }) rfl (fun K hK => ?_) AllReadyH.nil
                  go_simp
                  refine hK.out _ _ ?_ (fun hH2 => ?_)
                  · exact HS1.out _ hbz
                  clear hK K hH
                  have hH := hH2
                  clear hH2
                  try simp only [Act.put, List.setIfInBounds_toArray, List.set_cons_zero, List.set_cons_succ]
                  refine wpAnyH_done (by as_aux_lemma => kernel_rfl) ?_ _
                  refine NoPanic.normal ?_
                  clear hH
                  exact ⟨rfl, _, _, _, _, _, _, _, _, _, _, _, _, _, bv, z1, z2, Az, nz, cz, Nz, by (try simp only [Act.put, List.setIfInBounds_toArray, List.set_cons_zero, List.set_cons_succ]); rfl, hbz, hvz, htz⟩
                · go_simp
                  refine hK.out _ _ ?_ (fun hH2 => ?_)
                  · exact HS1.out _ (hd0.alloc hd0.size _)
                  clear hK K hH
                  have hH := hH2
                  clear hH2
                  have hv := QVar.new wd 0 0 none 0 0 false rfl
                  have hdx := hd0.alloc hd0.size (.cells #[.bool false, .int .i64 0, .int .i64 0, .slice none 0 0] 35)
                  have hsx : (wd.alloc (.cells #[.bool false, .int .i64 0, .int .i64 0, .slice none 0 0] 35)).heap.size = wd.heap.size + 1 := by simp
                  obtain ⟨bv, hbv⟩ : ∃ b, b = wd.heap.size := ⟨_, rfl⟩
                  rw [← hbv] at hv hsx ⊢
                  have hFo2 : ∀ k, (wd.alloc (.cells #[.bool false, .int .i64 0, .int .i64 0, .slice none 0 0] 35)).heap.size ≤ k → (fun k => (FP gv mb gu bW bH) k ∧ k ≠ bv) k := fun k hk => ⟨hFo1 k (by have := hd0.size; omega), by omega⟩
                  have hSR : wr.heap.size ≤ bv := by have := hd0.size; omega
                  have r90 := (HR_.out.stay hd0).far (F' := fun k => (FP gv mb gu bW bH) k ∧ k ≠ bv) (W' := wd.alloc (.cells #[.bool false, .int .i64 0, .int .i64 0, .slice none 0 0] 35)) ⟨fun k hk _ => ((Below.refl _ wd).alloc (Nat.le_refl _) _).block k hk, fun k hk hf => ⟨hf, by omega⟩⟩
                  clear hbv hsx
                  generalize wd.alloc (.cells #[.bool false, .int .i64 0, .int .i64 0, .slice none 0 0] 35) = wx at *
                  try simp only [Act.put, List.setIfInBounds_toArray, List.set_cons_zero, List.set_cons_succ]
                  refine wpAnyH_ready (rs := [9]) (by as_aux_lemma => kernel_rfl) (by simp) ?_
                  refine AllReadyH.cons (o := { dst := some 113, op := Go.Op.call { callee := Go.Callee.value (Go.Operand.func 18), args := #[Go.Operand.tmp 111, Go.Operand.tmp 112], argTypes := #[32, 35] }, type := 42, pos := "law.go:101", after := #[{ on := 7, ground := Go.Ground.data }, { on := 8, ground := Go.Ground.data }], guard := none }) rfl (fun K hK => ?_) AllReadyH.nil
                  go_simp
                  go_at_call 18
                  (with_reducible refine (refInsert_any _ tj f1 f2 z1 z2 Az nz cz Nz _ hFo2 (by have := HTJ.out; omega) HTK.out r90).mono ?_)
                  rintro e wc9 ⟨z1, z2, Az, nz, cz, Nz, rfl, ht9, hb9⟩
                  rw [← HKK.out.1]
                  refine hK.out _ _ ?_ (fun hH2 => ?_)
                  · exact HS1.out _ (hdx.trans (hb9.mono hdx.size))
                  clear hK K hH
                  have hH := hH2
                  clear hH2
                  have hbx := hdx.trans (hb9.mono hdx.size)
                  replace hv := hv.stay hb9
                  have htx := ht9
                  clear hb9 ht9
                  try simp only [Act.put, List.setIfInBounds_toArray, List.set_cons_zero, List.set_cons_succ]
                  refine wpAnyH_take (i := 10) (oi := { dst := some 103, op := Go.Op.move (Go.Operand.tmp 113), type := 42, pos := "law.go:101", after := #[{ on := 9, ground := Go.Ground.data }], guard := none }) (v := ?v5_2_10) rfl (by as_aux_lemma => kernel_rfl) (by as_aux_lemma => kernel_rfl) (by as_aux_lemma => kernel_rfl) (fun _ _ _ h => h) (Or.inl ⟨(by as_aux_lemma => kernel_rfl), ?hy5_2_10⟩) hH ?rest5_2_10
                  case hy5_2_10 => (intro w hSw; (try dsimp only at hSw); go_simp; try with_reducible rfl)
                  try simp only [Act.put, List.setIfInBounds_toArray, List.set_cons_zero, List.set_cons_succ]
                  refine wpAnyH_take (i := 11) (oi := { dst := some 114, op := Go.Op.extract (Go.Operand.tmp 103) 0, type := 35, pos := "law.go:101", after := #[{ on := 10, ground := Go.Ground.data }], guard := none }) (v := ?v5_2_11) rfl (by as_aux_lemma => kernel_rfl) (by as_aux_lemma => kernel_rfl) (by as_aux_lemma => kernel_rfl) (fun _ _ _ h => h) (Or.inl ⟨(by as_aux_lemma => kernel_rfl), ?hy5_2_11⟩) hH ?rest5_2_11
                  case hy5_2_11 => (intro w hSw; (try dsimp only at hSw); go_simp; try with_reducible rfl)
                  try simp only [Act.put, List.setIfInBounds_toArray, List.set_cons_zero, List.set_cons_succ]
                  refine wpAnyH_take (i := 12) (oi := { dst := some 115, op := Go.Op.extract (Go.Operand.tmp 103) 1, type := 3, pos := "law.go:101", after := #[{ on := 10, ground := Go.Ground.data }, { on := 14, ground := Go.Ground.gcOnly Go.Departure.lateStores }], guard := none }) (v := ?v5_2_12) rfl (by as_aux_lemma => kernel_rfl) (by as_aux_lemma => kernel_rfl) (by as_aux_lemma => kernel_rfl) (fun _ _ _ h => h) (Or.inl ⟨(by as_aux_lemma => kernel_rfl), ?hy5_2_12⟩) hH ?rest5_2_12
                  case hy5_2_12 => (intro w hSw; (try dsimp only at hSw); go_simp; try with_reducible rfl)
                  try simp only [Act.put, List.setIfInBounds_toArray, List.set_cons_zero, List.set_cons_succ]
                  have v0 := hv.c0
                  have vz0 := hv.z0
                  have v1 := hv.c1
                  have vz1 := hv.z1
                  have v2 := hv.c2
                  have vz2 := hv.z2
                  have v3 := hv.c3
                  have vz3 := hv.z3
                  generalize wc9 = wc10 at *
                  refine wpAnyH_ready (rs := [14]) (by as_aux_lemma => kernel_rfl) (by simp) ?_
                  refine AllReadyH.cons (o := { dst := none, op := Go.Op.store 35 (Go.Operand.tmp 24) (Go.Operand.tmp 114), type := 0, pos := "law.go:101", after := #[{ on := 13, ground := Go.Ground.data }, { on := 11, ground := Go.Ground.data }, { on := 9, ground := Go.Ground.chain }, { on := 0, ground := Go.Ground.phase }, { on := 1, ground := Go.Ground.phase }, { on := 2, ground := Go.Ground.phase }, { on := 3, ground := Go.Ground.phase }, { on := 4, ground := Go.Ground.phase }, { on := 5, ground := Go.Ground.phase }, { on := 6, ground := Go.Ground.phase }, { on := 7, ground := Go.Ground.phase }, { on := 8, ground := Go.Ground.phase }, { on := 9, ground := Go.Ground.phase }, { on := 10, ground := Go.Ground.phase }, { on := 11, ground := Go.Ground.phase }, { on := 12, ground := Go.Ground.textOnly Go.Departure.lateStores }, { on := 13, ground := Go.Ground.phase }], guard := none }) rfl (fun K hK => ?_) AllReadyH.nil
                  go_simp
                  refine hK.out _ _ ?_ (fun hH2 => ?_)
                  · exact HS1.out _ ((hv.wrote z1 z2 Az nz cz Nz).2.below hbx hSR)
                  clear hK K hH
                  have hH := hH2
                  clear hH2
                  obtain ⟨hvz, hw⟩ := hv.wrote z1 z2 Az nz cz Nz
                  have hbz := hw.below hbx hSR
                  have htz := htx.far (F' := (FP gv mb gu bW bH)) (W' := _) ⟨fun k hk hf => hw.keep k hf.2, fun _ _ hf => hf.1⟩
                  clear v0 v1 v2 v3 vz0 vz1 vz2 vz3
                  generalize (((wc10.setCell ⟨bv, 0, none⟩ (.bool Nz)).setCell ⟨bv, 1, none⟩ (.int .i64 z1)).setCell ⟨bv, 2, none⟩ (.int .i64 z2)).setCell ⟨bv, 3, none⟩ (.slice Az nz cz) = wc11 at *
                  try simp only [Act.put, List.setIfInBounds_toArray, List.set_cons_zero, List.set_cons_succ]
                  refine wpAnyH_ready (rs := [15]) (by as_aux_lemma => kernel_rfl) (by simp) ?_
                  refine AllReadyH.cons (o := { dst := some 25, op := Go.Op.assign (Go.Operand.tmp 115), type := 3, pos := "law.go:101", after := #[{ on := 12, ground := Go.Ground.data }, { on := 14, ground := Go.Ground.chain }, { on := 0, ground := Go.Ground.phase }, { on := 1, ground := Go.Ground.phase }, { on := 2, ground := Go.Ground.phase }, { on := 3, ground := Go.Ground.phase }, { on := 4, ground := Go.Ground.phase }, { on := 5, ground := Go.Ground.phase }, { on := 6, ground := Go.Ground.phase }, { on := 7, ground := Go.Ground.phase }, { on := 8, ground := Go.Ground.phase }, { on := 9, ground := Go.Ground.phase }, { on := 10, ground := Go.Ground.phase }, { on := 11, ground := Go.Ground.phase }, { on := 12, ground := Go.Ground.phase }, { on := 13, ground := Go.Ground.phase }, { on := 14, ground := Go.Ground.phase }], guard := none }) rfl (fun K hK => ?_) AllReadyH.nil
                  go_simp
                  refine hK.out _ _ ?_ (fun hH2 => ?_)
                  · exact HS1.out _ hbz
                  clear hK K hH
                  have hH := hH2
                  clear hH2
                  try simp only [Act.put, List.setIfInBounds_toArray, List.set_cons_zero, List.set_cons_succ]
                  refine wpAnyH_done (by as_aux_lemma => kernel_rfl) ?_ _
                  refine NoPanic.normal ?_
                  clear hH
                  exact ⟨rfl, _, _, _, _, _, _, _, _, _, _, _, _, _, bv, z1, z2, Az, nz, cz, Nz, by (try simp only [Act.put, List.setIfInBounds_toArray, List.set_cons_zero, List.set_cons_succ]); rfl, hbz, hvz, htz⟩
              rintro a' w' ⟨u104, u105, u106, u107, u108, u109, u110, u111, u112, u113, u103, u114, u115, bv, z1, z2, Az, nz, cz, Nz, rfl, hbz, hvz, htz⟩
              try simp only [Act.put, List.setIfInBounds_toArray, List.set_cons_zero, List.set_cons_succ]
              have M7 := Lib.hid (HM_.out.stay HE.out hbz)
              have V7 := Lib.hid (HV_.out.stay hbz)
              have HTZ := Lib.hid htz
              have HSZ := Lib.hid hbz.size
              have v0 := hvz.c0
              have v1 := hvz.c1
              have v2 := hvz.c2
              have v3 := hvz.c3
              clear htz hvz hbz hFo1
              go_wp2_with (refine wpList_store_w rfl _ _ rfl _ rfl rfl V7.out ?_; intro wc8 hv8 hw8; have M8 := Lib.hid (M7.out.wrote HE.out V7.out hw8); have R8 := Lib.hid (HTZ.out.far (F' := FP gv mb gu bW bH) ⟨fun k _ hf => hw8.keep k hf.2.2.2.1, fun _ _ hf => hf⟩); have X8 := Lib.hid hv8; have HSZ8 := Lib.hid (show w'.heap.size ≤ wc8.heap.size from Nat.le_of_eq hw8.size.symm); clear hw8 hv8 v0 v1 v2 v3)
              go_roundg (nl - 1 - j)
              case measure => have := HTJ.out; omega
              case rel => exact ⟨j + 1, nj + kk, _, _, _, _, _, _, by first | rfl | (congr 1; unfold wrap64; have := HTJ.out; omega), by rw [Int.natCast_add], by have := HTJ.out; omega, HKK.out.2.1, Nat.le_trans HTJ.out.2.2.2.2.2 (Nat.le_trans HSZ.out HSZ8.out), M8.out, X8.out, by rw [HTJ.out.1]; exact R8.out⟩
            · have hjl : j = nl := by omega
              subst hjl
              have hta : yl.take j = yl := by rw [HL.out.2.1]; exact List.take_length
              rw [hta] at hnj hR
              have hnn : nn = nj := by have := HNN.out; omega
              subst hnn
              have j1 : ¬ (j : Int) < (j : Int) := by omega
              have j2 : decide ((j : Int) < (j : Int)) = false := by simp
              have x5 := (HAC.out _ hM.bas.below).2.2.2.2.2
              have M8 := Lib.hid hM
              have R8 := Lib.hid hR
              have X8 := Lib.hid hV
              clear hM hR hV hta hj hnj hsz hlt
              go_wp2_with (first
                | (go_at_call 24; (with_reducible refine (mSteps mb _ _ _ M8.out.mt (by have := HC.out; omega) (by have := HC.out; have := HN.out; omega) (by have := HC.out; omega) (by have := HC.out; have := HN.out; omega)).mono ?_)
                   rintro e wc9 ⟨rfl, hb9⟩
                   rw [HC.out.1]
                   have M9 := Lib.hid (M8.out.stay HE.out hb9)
                   obtain ⟨g1_, c1_, W1, g2_, c2_, W2, hr1, hx1, hr2, hrel⟩ := plays_push (i := i) HE.out HN.out.2.2 (by have := HN.out; omega) M9.out ⟨HC.out.2.1, HC.out.2.2.1, HC.out.2.2.2.1, HC.out.2.2.2.2⟩ Z.out.2.1 (by rw [ofL_size]; have := HL.out; omega) (good_of HL.out.2.2.2) (R8.out.stay hb9) (X8.out.stay hb9)
                   have HRUN := Lib.hid (And.intro hr1 hr2)
                   have HREL := Lib.hid hrel
                   have x0 := M9.out.hv.c0
                   have x1 := hx1.c0
                   have x2 := hx1.c1
                   have x3 := hx1.c2
                   have x3b := hx1.c3
                   clear hr1 hr2 hrel hx1 hb9)
                | (at_builtin; first | (refine wpList_append_run rfl _ _ _ rfl _ _ _ _ rfl rfl HRUN.out.1 ?_) | (refine wpList_append_run rfl _ _ _ rfl _ _ _ _ rfl rfl HRUN.out.2 ?_)))
              go_roundg (n - (i + 1))
              case measure => have := Z.out.2.2.2; have := HN.out; omega
              case rel => exact ⟨i + 1, g1_, c1_, g2_, c2_, _, _, _, st + (nn : Int), by first | rfl | (congr 1; unfold wrap64; have := HN.out; omega), rfl, by rw [← HN.out.2.2], by rw [← HN.out.2.2], HC.out.1.symm, by have := HN.out; omega, HREL.out⟩
      · as_aux_lemma =>
        have i1 : ¬ (i : Int) < (n : Int) := by omega
        have i2 : decide ((i : Int) < (n : Int)) = false := by simp; omega
        have HM20 := Lib.hid (hrel.mt)
        have HR20 := Lib.hid (fun W (hz : Bt (some mb) wr W) => And.intro ((hUU).bt hz HM20.out) ( And.intro ((hVV).bt hz HM20.out) ((hrel.bas).bt HE.out hz (fun b e => by cases e; exact B_mb.out))))
        have HLL := Lib.hid (show L = i + 1 ∧ L ≤ 31 from ⟨hL, by have := HF.out.1; omega⟩)
        have HCM := Lib.hid (show 0 ≤ cc ∧ cc ≤ 400000 ∧ 0 ≤ mm ∧ mm ≤ 400000 from by have := Z.out.1; have := HLL.out; omega)
        clear hUU hVV hrel hL hk hlt
        go_wp2_with fail
        clear i1 i2
        go_loopg [26] L (fun k iv w2 => ∃ (j : Nat), iv = .int .i64 (j : Int) ∧ j + k = L ∧ MAt w2 (some mb) cc mm ∧ HCol w2 w.heap.size (.slice (some ⟨gu, 0, none⟩) L cu) ts ∧ WCol (FP gv mb gu mb mb) w2 w.heap.size (.slice (some ⟨gv, 0, none⟩) L cv) ts ∧ Bas w w2)
        case atStart => exact ⟨0, rfl, by omega, HM20.out, (HR20.out _ (Bt.refl _ _)).1, (HR20.out _ (Bt.refl _ _)).2.1, (HR20.out _ (Bt.refl _ _)).2.2⟩
        case round =>
          clear HR20 HM20
          obtain ⟨j, rfl, hj, hM, hUU, hVV, hB⟩ := hrel
          by_cases hlt : j < L
          · obtain ⟨t, ht, hst, hgt⟩ := Z.out.2.1.at (j := j) (by have := HLL.out; omega)
            obtain ⟨p, cua, lpa⟩ := Col.cell hUU ht
            obtain ⟨a1, a2, Aa, na, ka, Ga, cva, lra⟩ := WCol.cell hVV ht
            have HM31 := Lib.hid (hM)
            have HR31 := Lib.hid (fun W (hz : Bt (some mb) wr W) => And.intro ((cua).bt hz HM31.out) ( And.intro ((cva).bt hz HM31.out) ( And.intro ((lpa).bt hz HM31.out) ( And.intro ((lra).bt hz HM31.out) ( And.intro ((hUU).bt hz HM31.out) ( And.intro ((hVV).bt hz HM31.out) ((hB).bt HE.out hz (fun b e => by cases e; exact B_mb.out))))))))
            obtain ⟨s, hs⟩ : ∃ s, s = t.size := ⟨_, rfl⟩
            obtain ⟨sb, hsb⟩ : ∃ b, b = t.some := ⟨_, rfl⟩
            obtain ⟨⟨x1, x2⟩, hx⟩ : ∃ x, x = t.min.1 := ⟨_, rfl⟩
            obtain ⟨rfl, rfl⟩ : x1 = a1 ∧ x2 = a2 := by have h9 := hx.trans lra.min; exact ⟨congrArg Prod.fst h9, congrArg Prod.snd h9⟩
            have HT := Lib.hid (show s = t.size ∧ s ≤ 121 ∧ t.good ∧ j + gk = L ∧ sb = t.some ∧ (x1, x2) = t.min.1 from ⟨hs, by omega, hgt, hj, hsb, hx⟩)
            have sb1 : decide ((0 : Int) < (s : Int)) = sb := by rw [hs, hsb]; exact some_size t
            have sb2 : decide (0 < s) = sb := by rw [hs, hsb]; exact some_size' t
            have j0 : (0 : Int) ≤ (j : Int) := by omega
            have j1 : (j : Int) < (L : Int) := by omega
            have j2 : decide ((j : Int) < (L : Int)) = true := by simp; omega
            have wj : IntKind.i64.wrap ((j : Int) + 1) = (j : Int) + 1 := by have := HLL.out; rw [IntKind.wrap_i64]; omega
            clear ht hst hgt cua cva lpa lra hUU hVV hB hM hs hsb hx hj hlt
            go_wp2_with fail
            ((with_reducible refine (mSteps mb cc mm _ HM31.out (by have := HCM.out; omega) (by have := HCM.out; omega) (by have := HCM.out; omega) (by have := HCM.out; omega)).mono ?_); rintro e w32 ⟨rfl, hb⟩)
            have HM32 := Lib.hid (HM31.out.stay hb)
            have HR32 := Lib.hid (fun W (hz : Bt (some mb) w32 W) => HR31.out W ((Bt.ofBelow hb).trans hz))
            clear HR31 HM31 
            clear hb
            rw [← HST.out]
            have x0 := (HR32.out _ (Bt.refl _ _)).1.c
            go_wp2_with fail
            ((with_reducible refine (min_any t p (mAddr (some mb)) _ (HR32.out _ (Bt.refl _ _)).2.2.1).mono ?_); rintro e w33 ⟨rfl, hb⟩)
            have HM33 := Lib.hid (HM32.out.stay hb)
            have HR33 := Lib.hid (fun W (hz : Bt (some mb) w33 W) => HR32.out W ((Bt.ofBelow hb).trans hz))
            clear HR32 HM32 
            clear hb x0
            rw [show minV t = .tuple #[.agg #[.int .i64 x1, .int .i64 x2], .bool sb] by rw [minV, ← HT.out.2.2.2.2.2, min_some, ← HT.out.2.2.2.2.1]]
            have y0 : (w33.alloc (.cells #[.int .i64 x1, .int .i64 x2] 32)).cell? ⟨gv, j * 4, none⟩ = some (.bool Ga) := (HR33.out _ ((Bt.refl _ _).alloc _)).2.1.c0
            have y1 : (w33.alloc (.cells #[.int .i64 x1, .int .i64 x2] 32)).cell? ⟨gv, j * 4 + 1, none⟩ = some (.int .i64 x1) := (HR33.out _ ((Bt.refl _ _).alloc _)).2.1.c1
            have y2 : (w33.alloc (.cells #[.int .i64 x1, .int .i64 x2] 32)).cell? ⟨gv, j * 4 + 2, none⟩ = some (.int .i64 x2) := (HR33.out _ ((Bt.refl _ _).alloc _)).2.1.c2
            have y3 : (w33.alloc (.cells #[.int .i64 x1, .int .i64 x2] 32)).cell? ⟨gv, j * 4 + 3, none⟩ = some (.slice Aa na ka) := (HR33.out _ ((Bt.refl _ _).alloc _)).2.1.c3
            go_wp2_with fail
            have hs_bx := (HR33.out _ (Bt.refl _ _)).2.2.2.2.2.2.below.size
            have HM34 := Lib.hid (HM33.out.alloc (.cells #[.int .i64 x1, .int .i64 x2] 32))
            have HR34 := Lib.hid (on_inv (mo := (some mb)) HR33.out ((Bt.refl (some mb) w33).alloc (.cells #[.int .i64 x1, .int .i64 x2] 32)) (fun W hz => (EVar.new w33 x1 x2 rfl).bt hz HM34.out))
            clear HR33 HM33 
            generalize w33.alloc (.cells #[.int .i64 x1, .int .i64 x2] 32) = w34 at *
            obtain ⟨bx, hbx⟩ : ∃ b, b = w33.heap.size := ⟨_, rfl⟩
            rw [← hbx] at HR34 ⊢
            have B_bx := Lib.hid (show w.heap.size ≤ bx by rw [hbx]; exact hs_bx)
            clear hbx hs_bx 
            ((with_reducible refine (refMin_any x1 x2 Aa na ka Ga _).mono ?_); rintro e w35 ⟨rfl, hb⟩)
            have HM35 := Lib.hid (HM34.out.stay hb)
            have HR35 := Lib.hid (fun W (hz : Bt (some mb) w35 W) => HR34.out W ((Bt.ofBelow hb).trans hz))
            clear HR34 HM34 
            clear hb y0 y1 y2 y3
            have y0 : (w35.alloc (.cells #[.int .i64 x1, .int .i64 x2] 32)).cell? ⟨gv, j * 4, none⟩ = some (.bool Ga) := (HR35.out _ ((Bt.refl _ _).alloc _)).2.2.1.c0
            have y1 : (w35.alloc (.cells #[.int .i64 x1, .int .i64 x2] 32)).cell? ⟨gv, j * 4 + 1, none⟩ = some (.int .i64 x1) := (HR35.out _ ((Bt.refl _ _).alloc _)).2.2.1.c1
            have y2 : (w35.alloc (.cells #[.int .i64 x1, .int .i64 x2] 32)).cell? ⟨gv, j * 4 + 2, none⟩ = some (.int .i64 x2) := (HR35.out _ ((Bt.refl _ _).alloc _)).2.2.1.c2
            have y3 : (w35.alloc (.cells #[.int .i64 x1, .int .i64 x2] 32)).cell? ⟨gv, j * 4 + 3, none⟩ = some (.slice Aa na ka) := (HR35.out _ ((Bt.refl _ _).alloc _)).2.2.1.c3
            go_wp2_with fail
            have hs_by_ := (HR35.out _ (Bt.refl _ _)).2.2.2.2.2.2.2.below.size
            have HM36 := Lib.hid (HM35.out.alloc (.cells #[.int .i64 x1, .int .i64 x2] 32))
            have HR36 := Lib.hid (on_inv (mo := (some mb)) HR35.out ((Bt.refl (some mb) w35).alloc (.cells #[.int .i64 x1, .int .i64 x2] 32)) (fun W hz => (EVar.new w35 x1 x2 rfl).bt hz HM36.out))
            clear HR35 HM35 
            generalize w35.alloc (.cells #[.int .i64 x1, .int .i64 x2] 32) = w36 at *
            obtain ⟨by_, hby_⟩ : ∃ b, b = w35.heap.size := ⟨_, rfl⟩
            rw [← hby_] at HR36 ⊢
            have B_by_ := Lib.hid (show w.heap.size ≤ by_ by rw [hby_]; exact hs_by_)
            clear hby_ hs_by_ 
            ((with_reducible refine (refSize_any _ t x1 x2 Aa na ka Ga s _ (HR36.out _ (Bt.refl _ _)).2.2.2.2.2.1 HT.out.1 (by have := HT.out; omega) HT.out.2.2.1.ok).mono ?_); rintro e w37 ⟨rfl, hb⟩)
            have HM37 := Lib.hid (HM36.out.stay hb)
            have HR37 := Lib.hid (fun W (hz : Bt (some mb) w37 W) => HR36.out W ((Bt.ofBelow hb).trans hz))
            clear HR36 HM36 
            clear hb y0 y1 y2 y3
            go_wp2_with fail
            have kc0 := fun d os => cell_regrown (HR37.out _ (Bt.refl _ _)).2.2.1.c d os
            have kc1 := fun d os => cell_regrown (HR37.out _ (Bt.refl _ _)).2.2.2.1.c0 d os
            have kc2 := fun d os => cell_regrown (HR37.out _ (Bt.refl _ _)).2.2.2.1.c1 d os
            have kc3 := fun d os => cell_regrown (HR37.out _ (Bt.refl _ _)).2.2.2.1.c2 d os
            have kc4 := fun d os => cell_regrown (HR37.out _ (Bt.refl _ _)).2.2.2.1.c3 d os
            have kc5 := fun d os => cell_regrown (HR37.out _ (Bt.refl _ _)).2.1.c0 d os
            have kc6 := fun d os => cell_regrown (HR37.out _ (Bt.refl _ _)).2.1.c1 d os
            have kc7 := fun d os => cell_regrown (HR37.out _ (Bt.refl _ _)).1.c0 d os
            have kc8 := fun d os => cell_regrown (HR37.out _ (Bt.refl _ _)).1.c1 d os
            have HC1 := Lib.hid (fun d os => in_class (w := w37) (fun W hb => show_any t p W (HR37.out _ (Bt.ofBelow hb)).2.2.2.2.2.2.2.2.env (HR37.out _ (Bt.ofBelow hb)).2.2.2.2.1 HT.out.2.2.1.fit (by have := HT.out; omega)) d os)
            have HC2 := Lib.hid (fun d os => in_class (w := w37) (fun W hb => refShow_any _ t x1 x2 Aa na ka Ga W (HR37.out _ (Bt.ofBelow hb)).2.2.2.2.2.1 (by have := HT.out; omega) HT.out.2.2.1) d os)
            have HC3 := Lib.hid (fun d os => in_class (w := w37) (fun W hb => ((size_any t p W (HR37.out _ (Bt.ofBelow hb)).2.2.2.2.1).mono fun _ _ ⟨he, hb2⟩ => ⟨(show _ = Ending.returned (.int .i64 (s : Int)) by rw [he, ← HT.out.1]), hb2⟩)) d os)
            have HC4 := Lib.hid (fun d os => in_class (w := w37) (fun W hb => ((mSince mb cc mm st W (HM37.out.stay hb) (by have := HCM.out; omega) (by have := HCM.out; omega) (by have := HCM.out; omega) (by have := HCM.out; omega) (by have := HCM.out; have := HST.out; omega) (by have := HCM.out; have := HST.out; omega)).mono fun _ _ ⟨he, hb2⟩ => ⟨(show _ = Ending.returned (.int .i64 0) by rw [he, show cc + mm - st = 0 from by have := HST.out; omega]), hb2⟩)) d os)
            rw [world_self w37]
            generalize w37.drawn = d0
            generalize (#[] : Array Obj) = os0
            refine wp_region_class (by kernel_rfl) (by kernel_rfl) ?_
            repeat (go_big_quiet_step (first | (with_reducible exact HC1.out _ _) | (with_reducible exact HC2.out _ _) | (with_reducible exact HC3.out _ _) | (with_reducible exact HC4.out _ _) | fail))
            refine wpQuiet_nil ?_
            intro _ hw'
            obtain ⟨⟨dq, osq⟩, hw''⟩ := hw'
            subst hw''
            have hb := below_regrown w37 dq osq
            have HM38 := Lib.hid (HM37.out.stay hb)
            have HR38 := Lib.hid (fun W (hz : Bt (some mb) (grow (redrawn w37 dq) osq) W) => HR37.out W ((Bt.ofBelow hb).trans hz))
            clear HR37 HM37 hb kc0 kc1 kc2 kc3 kc4 kc5 kc6 kc7 kc8 HC1 HC2 HC3 HC4 
            generalize grow (redrawn w37 dq) osq = w38 at *
            go_wp2_with fail
            go_roundg (L - 1 - j)
            case measure => have := HT.out; have := HLL.out; omega
            case rel => exact ⟨j + 1, by first | rfl | (congr 1; unfold wrap64; have := HLL.out; omega), by have := HT.out; omega, HM38.out, (HR38.out _ (Bt.refl _ _)).2.2.2.2.2.2.1, (HR38.out _ (Bt.refl _ _)).2.2.2.2.2.2.2.1, (HR38.out _ (Bt.refl _ _)).2.2.2.2.2.2.2.2⟩
          · have j1 : ¬ (j : Int) < (L : Int) := by omega
            have j2 : decide ((j : Int) < (L : Int)) = false := by simp; omega
            go_wp2_with fail
            go_ret
            exact ⟨rfl, hB.below⟩

end Go.Proofs.YtlmokendajgbdaaGreatDoor.Bo.Zr
