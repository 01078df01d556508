/-
  The walk of the statement BootCounts: for any acts it returns true, and nothing that was there has changed, in any world where the library's table is as it is laid.
-/
import Derived.Test.YtlmokendajgbdaaGreatDoorWb6
import Derived.Test.YtlmokendajgbdaaGreatDoorWc2
import Derived.Test.YtlmokendajgbdaaGreatDoorWof
import Derived.Deep.LoopGhost
namespace Go.Proofs.YtlmokendajgbdaaGreatDoor.Bo
open Go.Sort Go.RowKit

set_option maxRecDepth 100000 in
set_option maxHeartbeats 64000000 in
theorem counts_any (A : Option Addr) (n c : Nat) (X : Nat → ActH) (w : World) (he : Env w) (hr : ActRowH w A n X) (hn : n ≤ 9223372036854775807) (hX : ∀ i, i < n → (X i).ok) :
    Calls Tryz.prog 5 #[.slice A n c] w fun e w' => e = .returned (.bool true) ∧ Below w.heap.size w w' := by
  have HA := Lib.hid (And.intro hr (And.intro hn hX))
  clear hr hn hX
  have HE := Lib.hid he
  have HM0 := Lib.hid (show MAt w (none : Option Nat) 0 0 from trivial)
  have HR0 := Lib.hid (fun W (hb : Bt none w W) => Bas.bt (Bas.first he) he hb (fun _ e => by cases e))
  clear he
  go_enter Tryz.func5, Tryz.ntmps5
  go_wp2_with fail
  ((with_reducible refine (awake_any _ HE.out).mono ?_); rintro e w1 ⟨rfl, hb⟩)
  have HM1 := Lib.hid (show MAt w1 (none : Option Nat) 0 0 from trivial)
  have HR1 := Lib.hid (fun W (hz : Bt none w1 W) => HR0.out W ((Bt.ofBelow hb).trans hz))
  clear HR0 HM0 
  clear hb
  go_wp2_with fail
  cases hfb : fewB n X with
  | false =>
    ((with_reducible refine (few_is A n c X w _ HA.out.1 HA.out.2.1 (HR1.out _ (Bt.refl _ _)).below _ hfb).mono ?_); rintro e w9 ⟨rfl, hb⟩)
    go_wp2_with fail
    go_ret
    exact ⟨rfl, (HR1.out _ (Bt.refl _ _)).below.trans (hb.mono (HR1.out _ (Bt.refl _ _)).below.size)⟩
  | true =>
    ((with_reducible refine (few_is A n c X w _ HA.out.1 HA.out.2.1 (HR1.out _ (Bt.refl _ _)).below _ hfb).mono ?_); rintro e w2 ⟨rfl, hb⟩)
    have HM2 := Lib.hid (show MAt w2 (none : Option Nat) 0 0 from trivial)
    have HR2 := Lib.hid (fun W (hz : Bt none w2 W) => HR1.out W ((Bt.ofBelow hb).trans hz))
    clear HR1 HM1 
    clear hb
    have HF := Lib.hid (fewB_true hfb)
    clear hfb
    go_wp2_with fail
    ((with_reducible refine (mNew _).mono ?_); rintro e w3 ⟨rfl, hm, hb⟩)
    obtain ⟨mb, hmb⟩ : ∃ b, b = w2.heap.size := ⟨_, rfl⟩
    rw [← hmb] at hm ⊢
    have B_mb := Lib.hid (show w.heap.size ≤ mb by rw [hmb]; exact (HR2.out _ (Bt.refl _ _)).below.size)
    clear hmb
    have HM3 := Lib.hid hm
    have HR3 := Lib.hid (fun W (hz : Bt (some mb) w3 W) => ((HR2.out _ (Bt.ofBelow hb))).bt HE.out hz (fun b e => by cases e; exact B_mb.out))
    clear HR2 HM2 hm hb 
    go_wp2_with fail
    have HS := Lib.hid (CRel.start HM3.out (HR3.out _ (Bt.refl _ _)) HE.out)
    go_loopg [6, 7, 8, 9] n (fun k u v s iv wr => ∃ (i gu cu gv cv gs cs : Nat) (ts : List Lh) (cc mm : Int), iv = .int .i64 (i : Int) ∧ u = .slice (some ⟨gu, 0, none⟩) (i + 1) cu ∧ v = .slice (some ⟨gv, 0, none⟩) (i + 1) cv ∧ s = .slice (some ⟨gs, 0, none⟩) (i + 1) cs ∧ i + k = n ∧ CRel w mb gu cu gv cv gs cs i ts cc mm wr)
    case atStart => exact ⟨0, _, _, _, _, _, _, _, _, _, rfl, rfl, rfl, rfl, by omega, HS.out⟩
    case round =>
      clear HR3 HM3 HS
      obtain ⟨i, gu, cu, gv, cv, gs, cs, ts, cc, mm, rfl, rfl, rfl, rfl, hk, hrel⟩ := hrel
      obtain ⟨⟨hu1, hu2⟩, ⟨hv1, hv2⟩, ⟨hs1, hs2⟩, hgu, hgv, hgs⟩ := hrel.caps
      obtain ⟨L, hL⟩ : ∃ L, L = i + 1 := ⟨_, rfl⟩
      have hUU := hrel.uu
      have hVV := hrel.vv
      have hSS := hrel.ss
      rw [← hL] at hUU hVV hSS hu1 hv1 hs1 ⊢
      have HCAP := Lib.hid (show (L ≤ cu ∧ L ≤ cv ∧ L ≤ cs) ∧ cu ≤ 9223372036854775807 ∧ cv ≤ 9223372036854775807 ∧ cs ≤ 9223372036854775807 from ⟨⟨hu1, hv1, hs1⟩, hu2, hv2, hs2⟩)
      have HOWN := Lib.hid (show w.heap.size ≤ gu ∧ w.heap.size ≤ gv ∧ w.heap.size ≤ gs ∧ gu ≠ gv from ⟨hgu, hgv, hgs, hrel.ne⟩)
      have Z := Lib.hid (And.intro hrel.cm (And.intro hrel.hs (And.intro hL hk)))
      clear hu1 hu2 hv1 hv2 hs1 hs2 hgu hgv hgs
      by_cases hlt : i < n
      · have hLn : L ≤ 30 := by have := HF.out.1; omega
        have hL1 : 0 < L := by omega
        obtain ⟨b0, o, rfl, hrow⟩ := HA.out.1 (by omega)
        have hok := HA.out.2.2 i hlt
        have h40 := HF.out.2 i hlt
        have hc := hrow i hlt
        generalize X i = y at *
        obtain ⟨yk, ya, yb, ⟨y1, y2⟩, yA, yl, yc⟩ := y
        obtain ⟨q0, q1, q2, q3, q4⟩ := hok
        simp only at q0 q1 q2 q3 q4 h40 hc
        obtain ⟨nl, hnl⟩ : ∃ m, m = yl.length := ⟨_, rfl⟩
        rw [← hnl] at hc h40
        have HAC := Lib.hid (fun (W : World) (hb : Below w.heap.size w W) => (show W.cell? ⟨b0, o + i * 6, none⟩ = some (.int .u8 yk) ∧ W.cell? ⟨b0, o + i * 6 + 1, none⟩ = some (.int .u8 ya) ∧ W.cell? ⟨b0, o + i * 6 + 2, none⟩ = some (.int .u8 yb) ∧ W.cell? ⟨b0, o + i * 6 + 3, none⟩ = some (.int .i64 y1) ∧ W.cell? ⟨b0, o + i * 6 + 4, none⟩ = some (.int .i64 y2) ∧ W.cell? ⟨b0, o + i * 6 + 5, none⟩ = some (.slice yA nl yc) from by
          have hlt0 : b0 < w.heap.size := block_lt_of_cell hc.1.1
          exact ⟨(hb.cell (p := ⟨b0, _, none⟩) hlt0).trans hc.1.1, (hb.cell (p := ⟨b0, _, none⟩) hlt0).trans hc.1.2.1, (hb.cell (p := ⟨b0, _, none⟩) hlt0).trans hc.1.2.2.1, (hb.cell (p := ⟨b0, _, none⟩) hlt0).trans hc.1.2.2.2.1, (hb.cell (p := ⟨b0, _, none⟩) hlt0).trans hc.1.2.2.2.2.1, (hb.cell (p := ⟨b0, _, none⟩) hlt0).trans hc.1.2.2.2.2.2⟩))
        have HY := Lib.hid (show in64 y1 ∧ in64 y2 from q3 (y1, y2) (by simp))
        have HL := Lib.hid (show Row w yA yl ∧ nl = yl.length ∧ nl ≤ 40 ∧ fits yl from ⟨hc.2, hnl, h40, q4⟩)
        clear hrow hc h40 q3 q4 hnl
        obtain ⟨ja, hja⟩ : ∃ j, j = ya % L := ⟨_, rfl⟩
        obtain ⟨jb, hjb⟩ : ∃ j, j = yb % L := ⟨_, rfl⟩
        have hjaL : ja < L := by rw [hja]; exact Nat.mod_lt _ hL1
        have hjbL : jb < L := by rw [hjb]; exact Nat.mod_lt _ hL1
        have r1 : ((ya : Int)).tmod (L : Int) = (ja : Int) := by rw [hja]; exact (Int.ofNat_tmod ya L).symm
        have r2 : ((yb : Int)).tmod (L : Int) = (jb : Int) := by rw [hjb]; exact (Int.ofNat_tmod yb L).symm
        have z1 : ((L : Int) == 0) = false := by simp; omega
        have z2 : ¬ L = 0 := by omega
        have i0 : (0 : Int) ≤ (i : Int) := by omega
        have i1 : (i : Int) < (n : Int) := by omega
        have i2 : decide ((i : Int) < (n : Int)) = true := by simp; omega
        have wi : IntKind.i64.wrap ((i : Int) + 1) = (i : Int) + 1 := by rw [IntKind.wrap_i64]; omega
        have k1 : (0 : Int) ≤ (ja : Int) := by omega
        have k2 : (ja : Int) < (L : Int) := by omega
        have k3 : (0 : Int) ≤ (jb : Int) := by omega
        have k4 : (jb : Int) < (L : Int) := by omega
        obtain ⟨ta, hta, hsa, hga⟩ := hrel.hs.at (j := ja) (by omega)
        obtain ⟨tb, htb, hsb, hgb⟩ := hrel.hs.at (j := jb) (by omega)
        obtain ⟨pa, cua, lpa⟩ := Col.cell hUU hta
        obtain ⟨pb, cub, lpb⟩ := Col.cell hUU htb
        obtain ⟨qa, cva, lqa⟩ := Col.cell hVV hta
        obtain ⟨qb, cvb, lqb⟩ := Col.cell hVV htb
        obtain ⟨za, csa, lza⟩ := Col.cell hSS hta
        obtain ⟨zb, csb, lzb⟩ := Col.cell hSS htb
        have HM5 := Lib.hid (hrel.mt)
        have HR5 := Lib.hid (fun W (hz : Bt (some mb) wr W) => And.intro ((cua).bt hz HM5.out) ( And.intro ((cub).bt hz HM5.out) ( And.intro ((cva).bt hz HM5.out) ( And.intro ((cvb).bt hz HM5.out) ( And.intro ((csa).bt hz HM5.out) ( And.intro ((csb).bt hz HM5.out) ( And.intro ((lpa).bt hz HM5.out) ( And.intro ((lpb).bt hz HM5.out) ( And.intro ((lqa).bt hz HM5.out) ( And.intro ((lqb).bt hz HM5.out) ( And.intro ((lza).bt hz HM5.out) ( And.intro ((lzb).bt hz HM5.out) ( And.intro ((hUU).bt hz HM5.out) ( And.intro ((hVV).bt hz HM5.out) ( And.intro ((hSS).bt hz HM5.out) ((hrel.bas).bt HE.out hz (fun b e => by cases e; exact B_mb.out)))))))))))))))))
        obtain ⟨sza, hsza⟩ : ∃ s, s = ta.size := ⟨_, rfl⟩
        obtain ⟨szb, hszb⟩ : ∃ s, s = tb.size := ⟨_, rfl⟩
        have HT := Lib.hid (And.intro (And.intro hsza (And.intro hszb (And.intro (hsza ▸ hsa : sza ≤ 121) (hszb ▸ hsb : szb ≤ 121)))) (And.intro hga hgb))
        have HN := Lib.hid (show i < n ∧ n ≤ 30 ∧ L = i + 1 from ⟨hlt, HF.out.1, hL⟩)
        have hza := lza.form
        have hzb := lzb.form
        rw [srt_length, Lh.all_length] at hza hzb
        rw [← hsza] at hza
        rw [← hszb] at hzb
        obtain ⟨Aza, kza, rfl, -, hk1, hk2, -⟩ := hza
        obtain ⟨Azb, kzb, rfl, -, hk3, hk4, -⟩ := hzb
        have HK := Lib.hid (show sza ≤ kza ∧ kza ≤ 9223372036854775807 ∧ szb ≤ kzb ∧ kzb ≤ 9223372036854775807 from ⟨hk1, hk2, hk3, hk4⟩)
        clear hta htb hsa hsb hga hgb cua cub cva cvb csa csb lpa lpb lqa lqb lza lzb hUU hVV hSS hrel hL hk hja hjb hLn hL1 hlt hjaL hjbL hsza hszb hk1 hk2 hk3 hk4
        obtain ⟨e0, e1, e2, -⟩ := HAC.out _ (HR5.out _ (Bt.refl _ _)).2.2.2.2.2.2.2.2.2.2.2.2.2.2.2.below
        have d1 := (HR5.out _ (Bt.refl _ _)).2.2.2.2.1.c
        have d2 := (HR5.out _ (Bt.refl _ _)).2.2.2.2.2.1.c
        have wk : IntKind.i64.wrap ((sza : Int) + (szb : Int)) = (sza : Int) + (szb : Int) := by have := HT.out.1.2.2; rw [IntKind.wrap_i64]; omega
        go_wp2_with fail
        by_cases htot : 120 < sza + szb
        · have g1 : decide ((120 : Int) < (sza : Int) + (szb : Int)) = true := by simp; omega
          have g2 : (120 : Int) < (sza : Int) + (szb : Int) := by omega
          go_quiet (fail)
          go_wp2_with fail
          go_ret
          exact ⟨rfl, (HR5.out _ (Bt.refl _ _)).2.2.2.2.2.2.2.2.2.2.2.2.2.2.2.below.trans ((below_drewN wr nq).mono (HR5.out _ (Bt.refl _ _)).2.2.2.2.2.2.2.2.2.2.2.2.2.2.2.below.size)⟩
        have g1 : decide ((120 : Int) < (sza : Int) + (szb : Int)) = false := by simp; omega
        have g2 : ¬ ((120 : Int) < (sza : Int) + (szb : Int)) := by omega
        go_quiet (fail)
        have HTOT := Lib.hid (Nat.le_of_not_lt htot)
        clear g1 g2 wk e0 e1 e2 d1 d2 r1 r2 z1 z2 htot
        have hb := below_drewN wr nq
        have HM6 := Lib.hid (HM5.out.stay hb)
        have HR6 := Lib.hid (fun W (hz : Bt (some mb) (wr.drewN nq) W) => HR5.out W ((Bt.ofBelow hb).trans hz))
        clear HR5 HM5 hb
        generalize wr.drewN nq = w6 at *
        have x0 : w6.cell? ⟨gu, ja, none⟩ = some (.pointer pa) := (HR6.out _ (Bt.refl _ _)).1.c
        have x1 : (w6.alloc (.cells #[.pointer pa] 29)).cell? ⟨gv, ja, none⟩ = some (.pointer qa) := (HR6.out _ ((Bt.refl _ _).alloc _)).2.2.1.c
        have x2 : ((w6.alloc (.cells #[.pointer pa] 29)).alloc (.cells #[.pointer qa] 29)).cell? ⟨gs, ja, none⟩ = some (.slice Aza sza kza) := (HR6.out _ (((Bt.refl _ _).alloc _).alloc _)).2.2.2.2.1.c
        obtain ⟨x3, -⟩ := HAC.out ((w6.alloc (.cells #[.pointer pa] 29)).alloc (.cells #[.pointer qa] 29)) (HR6.out _ (((Bt.refl _ _).alloc _).alloc _)).2.2.2.2.2.2.2.2.2.2.2.2.2.2.2.below
        have HS0 := Lib.hid (HR6.out _ (Bt.refl _ _)).2.2.2.2.2.2.2.2.2.2.2.2.2.2.2.below.size
        by_cases hy0 : yk = 0
        · subst hy0
          go_wp2_with fail
          have hl1 := (HR6.out _ (Bt.refl _ _)).1.lt
          have hl2 := (HR6.out _ (Bt.refl _ _)).2.2.1.lt
          have hl3 := (HR6.out _ (Bt.refl _ _)).2.2.2.2.1.lt
          have hs_bH := (HR6.out _ (Bt.refl _ _)).2.2.2.2.2.2.2.2.2.2.2.2.2.2.2.below.size
          have HM7 := Lib.hid ((HM6.out.alloc (.cells #[.pointer pa] 29)).alloc (.cells #[.pointer qa] 29))
          have hvs := two_vars w6 pa qa
          have HR7 := Lib.hid (fun W (hz : Bt (some mb) ((w6.alloc (.cells #[.pointer pa] 29)).alloc (.cells #[.pointer qa] 29)) W) => And.intro ((hvs.1).bt hz HM7.out) ( And.intro ((hvs.2).bt hz HM7.out) (HR6.out W ((((Bt.refl (some mb) w6).alloc (.cells #[.pointer pa] 29)).alloc (.cells #[.pointer qa] 29)).trans hz))))
          clear HR6 HM6 hvs 
          generalize (w6.alloc (.cells #[.pointer pa] 29)).alloc (.cells #[.pointer qa] 29) = w7 at *
          obtain ⟨bH, h0⟩ : ∃ b, b = w6.heap.size := ⟨_, rfl⟩
          rw [← h0] at HR7 ⊢
          obtain ⟨bG, h1⟩ : ∃ b, b = bH + 1 := ⟨_, rfl⟩
          rw [← h1] at HR7 ⊢
          have B_bH := Lib.hid (show w.heap.size ≤ bH by omega)
          have N_bH_bG := Lib.hid (show bH ≠ bG by omega)
          have B_bG := Lib.hid (show w.heap.size ≤ bG by omega)
          have NHU := Lib.hid (show bH ≠ gu ∧ bH ≠ gv ∧ bH ≠ gs ∧ bG ≠ gu ∧ bG ≠ gv ∧ bG ≠ gs from ⟨by omega, by omega, by omega, by omega, by omega, by omega⟩)
          clear hl1 hl2 hl3
          clear hs_bH h0 h1
          clear x0 x1 x2 x3
          have HCM := Lib.hid (show 0 ≤ cc ∧ cc ≤ 300000 ∧ 0 ≤ mm ∧ mm ≤ 300000 from by have := Z.out.1; have := HN.out; omega)
          obtain ⟨P, hP⟩ : ∃ P, P = ta.insC (y1, y2) + ta.insM (y1, y2) := ⟨_, rfl⟩
          have HP := Lib.hid (show P = ta.insC (y1, y2) + ta.insM (y1, y2) ∧ ta.insC (y1, y2) ≤ 3 ∧ ta.insM (y1, y2) ≤ 4 from ⟨hP, insC_le ta _, insM_le ta _⟩)
          clear hP
          have c1 : w7.cell? ⟨bH, 0, none⟩ = some (.pointer pa) := (HR7.out _ (Bt.refl _ _)).1.c0
          have a0 := (show _ ∧ _ from ⟨(HAC.out _ (HR7.out _ (Bt.refl _ _)).2.2.2.2.2.2.2.2.2.2.2.2.2.2.2.2.2.below).2.2.2.1, (HAC.out _ (HR7.out _ (Bt.refl _ _)).2.2.2.2.2.2.2.2.2.2.2.2.2.2.2.2.2.below).2.2.2.2.1⟩)
          refine wp_region_noPanic ?_
          refine wp_region_held_drew (S := fun w' => w'.cell? ⟨b0, o + i * 6 + 3, none⟩ = some (.int .i64 y1) ∧ w'.cell? ⟨b0, o + i * 6 + 4, none⟩ = some (.int .i64 y2)) (by kernel_rfl) a0 (fun hH => ?_)
          refine wpAnyH_take (i := 1) (oi := { dst := some 105, op := Go.Op.move (Go.Operand.tmp 5), type := 25, pos := "law.go:172", after := #[], guard := none }) (v := ?v1_1) rfl (by as_aux_lemma => kernel_rfl) (by as_aux_lemma => kernel_rfl) (by as_aux_lemma => kernel_rfl) (fun _ _ _ h => h) (Or.inl ⟨(by as_aux_lemma => kernel_rfl), ?hy1_1⟩) hH ?rest1_1
          case hy1_1 => (intro w hSw; (try dsimp only at hSw); go_simp; try with_reducible rfl)
          try simp only [Act.put, List.setIfInBounds_toArray, List.set_cons_zero, List.set_cons_succ]
          refine wpAnyH_take (i := 2) (oi := { dst := some 106, op := Go.Op.move (Go.Operand.tmp 0), type := 22, pos := "law.go:172", after := #[], guard := none }) (v := ?v1_2) rfl (by as_aux_lemma => kernel_rfl) (by as_aux_lemma => kernel_rfl) (by as_aux_lemma => kernel_rfl) (fun _ _ _ h => h) (Or.inl ⟨(by as_aux_lemma => kernel_rfl), ?hy1_2⟩) hH ?rest1_2
          case hy1_2 => (intro w hSw; (try dsimp only at hSw); go_simp; try with_reducible rfl)
          try simp only [Act.put, List.setIfInBounds_toArray, List.set_cons_zero, List.set_cons_succ]
          refine wpAnyH_take (i := 3) (oi := { dst := some 107, op := Go.Op.move (Go.Operand.tmp 9), type := 3, pos := "law.go:172", after := #[], guard := none }) (v := ?v1_3) rfl (by as_aux_lemma => kernel_rfl) (by as_aux_lemma => kernel_rfl) (by as_aux_lemma => kernel_rfl) (fun _ _ _ h => h) (Or.inl ⟨(by as_aux_lemma => kernel_rfl), ?hy1_3⟩) hH ?rest1_3
          case hy1_3 => (intro w hSw; (try dsimp only at hSw); go_simp; try with_reducible rfl)
          try simp only [Act.put, List.setIfInBounds_toArray, List.set_cons_zero, List.set_cons_succ]
          refine wpAnyH_take (i := 4) (oi := { dst := some 108, op := Go.Op.indexAddr 22 (Go.Operand.tmp 106) (Go.Operand.tmp 107), type := 0, pos := "law.go:172", after := #[{ on := 2, ground := Go.Ground.data }, { on := 3, ground := Go.Ground.data }], guard := none }) (v := ?v1_4) rfl (by as_aux_lemma => kernel_rfl) (by as_aux_lemma => kernel_rfl) (by as_aux_lemma => kernel_rfl) (fun _ _ _ h => h) (Or.inl ⟨(by as_aux_lemma => kernel_rfl), ?hy1_4⟩) hH ?rest1_4
          case hy1_4 => (intro w hSw; (try dsimp only at hSw); go_simp; try with_reducible rfl)
          try simp only [Act.put, List.setIfInBounds_toArray, List.set_cons_zero, List.set_cons_succ]
          refine wpAnyH_take (i := 5) (oi := { dst := some 109, op := Go.Op.fieldAddr 39 (Go.Operand.tmp 108) 3, type := 0, pos := "law.go:172", after := #[{ on := 4, ground := Go.Ground.data }], guard := none }) (v := ?v1_5) rfl (by as_aux_lemma => kernel_rfl) (by as_aux_lemma => kernel_rfl) (by as_aux_lemma => kernel_rfl) (fun _ _ _ h => h) (Or.inl ⟨(by as_aux_lemma => kernel_rfl), ?hy1_5⟩) hH ?rest1_5
          case hy1_5 => (intro w hSw; (try dsimp only at hSw); go_simp; try with_reducible rfl)
          try simp only [Act.put, List.setIfInBounds_toArray, List.set_cons_zero, List.set_cons_succ]
          refine wpAnyH_take (i := 6) (oi := { dst := some 110, op := Go.Op.load 32 (Go.Operand.tmp 109), type := 32, pos := "law.go:172", after := #[{ on := 5, ground := Go.Ground.data }], guard := none }) (v := ?v1_6) rfl (by as_aux_lemma => kernel_rfl) (by as_aux_lemma => kernel_rfl) (by as_aux_lemma => kernel_rfl) (fun _ _ _ h => h) (Or.inl ⟨(by as_aux_lemma => kernel_rfl), ?hy1_6⟩) hH ?rest1_6
          case hy1_6 => (intro w hSw; (try dsimp only at hSw); go_simp; try with_reducible rfl)
          try simp only [Act.put, List.setIfInBounds_toArray, List.set_cons_zero, List.set_cons_succ]
          refine wpAnyH_ready (rs := [0]) (by as_aux_lemma => kernel_rfl) (by simp) ?_
          refine AllReadyH.cons (o := { dst := some 104, op := Go.Op.load 29 (Go.Operand.tmp 12), type := 29, pos := "law.go:172", after := #[], guard := none }) rfl (fun K hK => ?_) AllReadyH.nil
          go_simp
          refine hK.out _ _ ?_ (fun hH2 => ?_)
          · exact hH
          clear hK K hH
          have hH := hH2
          clear hH2
          try simp only [Act.put, List.setIfInBounds_toArray, List.set_cons_zero, List.set_cons_succ]
          refine wpAnyH_ready (rs := [7]) (by as_aux_lemma => kernel_rfl) (by simp) ?_
          refine AllReadyH.cons (o := { dst := some 111, op := Go.Op.call { callee := Go.Callee.value (Go.Operand.func 17), args := #[Go.Operand.tmp 104, Go.Operand.tmp 105, Go.Operand.tmp 110], argTypes := #[29, 25, 32] }, type := 29, pos := "law.go:172", after := #[{ on := 0, ground := Go.Ground.data }, { on := 1, ground := Go.Ground.data }, { on := 6, ground := Go.Ground.data }], guard := none }) rfl (fun K hK => ?_) AllReadyH.nil
          go_simp
          go_at_call 17
          (with_reducible refine (insert_any (some mb) cc mm ta (y1, y2) pa _ (by have := HT.out.1; omega) (HM7.out.drew) (by have := HCM.out; omega) (by have := HCM.out; omega) (by have := HCM.out; omega) (by have := HCM.out; omega) (HR7.out _ ((Bt.refl _ _).drew)).2.2.2.2.2.2.2.2.1).mono ?_)
          rintro e w8 ⟨p2, rfl, ht, hm, hb⟩
          have HM8 := Lib.hid hm
          have HR8 := Lib.hid (on_inv (mo := (some mb)) HR7.out (((Bt.refl (some mb) w7).drew).trans hb) (fun W hz => ht.bt hz HM8.out))
          have pv := (HR8.out _ (Bt.refl _ _)).2.1
          have pc := pv.c0
          have pz := pv.z0
          have PV := Lib.hid pv
          clear ht hb pv HR7 HM7 hm
          go_wp2_with fail
          refine hK.out _ _ ?_ (fun hH2 => ?_)
          · exact (show _ ∧ _ from ⟨(HAC.out _ (HR8.out _ (Bt.refl _ _)).2.2.2.2.2.2.2.2.2.2.2.2.2.2.2.2.2.2.below).2.2.2.1, (HAC.out _ (HR8.out _ (Bt.refl _ _)).2.2.2.2.2.2.2.2.2.2.2.2.2.2.2.2.2.2.below).2.2.2.2.1⟩)
          clear hK K hH
          have hH := hH2
          clear hH2
          try simp only [Act.put, List.setIfInBounds_toArray, List.set_cons_zero, List.set_cons_succ]
          refine wpAnyH_ready (rs := [8]) (by as_aux_lemma => kernel_rfl) (by simp) ?_
          refine AllReadyH.cons (o := { dst := none, op := Go.Op.store 29 (Go.Operand.tmp 12) (Go.Operand.tmp 111), type := 0, pos := "law.go:172", after := #[{ on := 7, ground := Go.Ground.data }, { on := 7, ground := Go.Ground.chain }, { on := 0, ground := Go.Ground.phase }, { on := 1, ground := Go.Ground.phase }, { on := 2, ground := Go.Ground.phase }, { on := 3, ground := Go.Ground.phase }, { on := 4, ground := Go.Ground.phase }, { on := 5, ground := Go.Ground.phase }, { on := 6, ground := Go.Ground.phase }, { on := 7, ground := Go.Ground.phase }], guard := none }) rfl (fun K hK => ?_) AllReadyH.nil
          go_simp
          refine hK.out _ _ ?_ (fun hH2 => ?_)
          · exact (show _ ∧ _ from ⟨(HAC.out _ ((HR8.out _ (Bt.refl _ _)).2.2.2.2.2.2.2.2.2.2.2.2.2.2.2.2.2.2.set HE.out B_bH.out 0 _).below).2.2.2.1, (HAC.out _ ((HR8.out _ (Bt.refl _ _)).2.2.2.2.2.2.2.2.2.2.2.2.2.2.2.2.2.2.set HE.out B_bH.out 0 _).below).2.2.2.2.1⟩)
          clear hK K hH
          have hH := hH2
          clear hH2
          try simp only [Act.put, List.setIfInBounds_toArray, List.set_cons_zero, List.set_cons_succ]
          refine wpAnyH_done (by as_aux_lemma => kernel_rfl) ?_ _
          refine NoPanic.normal ?_
          clear hH
          clear a0
          have HM9 := Lib.hid (HM8.out.set PV.out (.pointer p2))
          have HR9 := Lib.hid (fun W (hz : Bt (some mb) (w8.setCell ⟨bH, 0, none⟩ (.pointer p2)) W) => And.intro ((((HR8.out _ (Bt.refl _ _)).1.set PV.out (.pointer p2))).bt hz HM9.out) ( And.intro (((PV.out.put p2)).bt hz HM9.out) ( And.intro ((((HR8.out _ (Bt.refl _ _)).2.2.1.set N_bH_bG.out.symm 0 (.pointer p2))).bt hz HM9.out) ( And.intro ((((HR8.out _ (Bt.refl _ _)).2.2.2.1.set NHU.out.1.symm 0 (.pointer p2))).bt hz HM9.out) ( And.intro ((((HR8.out _ (Bt.refl _ _)).2.2.2.2.1.set NHU.out.1.symm 0 (.pointer p2))).bt hz HM9.out) ( And.intro ((((HR8.out _ (Bt.refl _ _)).2.2.2.2.2.1.set NHU.out.2.1.symm 0 (.pointer p2))).bt hz HM9.out) ( And.intro ((((HR8.out _ (Bt.refl _ _)).2.2.2.2.2.2.1.set NHU.out.2.1.symm 0 (.pointer p2))).bt hz HM9.out) ( And.intro ((((HR8.out _ (Bt.refl _ _)).2.2.2.2.2.2.2.1.set NHU.out.2.2.1.symm 0 (.pointer p2))).bt hz HM9.out) ( And.intro ((((HR8.out _ (Bt.refl _ _)).2.2.2.2.2.2.2.2.1.set NHU.out.2.2.1.symm 0 (.pointer p2))).bt hz HM9.out) ( And.intro ((((HR8.out _ (Bt.refl _ _)).2.2.2.2.2.2.2.2.2.1.set PV.out (.pointer p2))).bt hz HM9.out) ( And.intro ((((HR8.out _ (Bt.refl _ _)).2.2.2.2.2.2.2.2.2.2.1.set PV.out (.pointer p2))).bt hz HM9.out) ( And.intro ((((HR8.out _ (Bt.refl _ _)).2.2.2.2.2.2.2.2.2.2.2.1.set PV.out (.pointer p2))).bt hz HM9.out) ( And.intro ((((HR8.out _ (Bt.refl _ _)).2.2.2.2.2.2.2.2.2.2.2.2.1.set PV.out (.pointer p2))).bt hz HM9.out) ( And.intro ((((HR8.out _ (Bt.refl _ _)).2.2.2.2.2.2.2.2.2.2.2.2.2.1.set PV.out (.pointer p2))).bt hz HM9.out) ( And.intro ((((HR8.out _ (Bt.refl _ _)).2.2.2.2.2.2.2.2.2.2.2.2.2.2.1.set PV.out (.pointer p2))).bt hz HM9.out) ( And.intro ((((HR8.out _ (Bt.refl _ _)).2.2.2.2.2.2.2.2.2.2.2.2.2.2.2.1.set PV.out NHU.out.1 (.pointer p2))).bt hz HM9.out) ( And.intro ((((HR8.out _ (Bt.refl _ _)).2.2.2.2.2.2.2.2.2.2.2.2.2.2.2.2.1.set PV.out NHU.out.2.1 (.pointer p2))).bt hz HM9.out) ( And.intro ((((HR8.out _ (Bt.refl _ _)).2.2.2.2.2.2.2.2.2.2.2.2.2.2.2.2.2.1.set PV.out (.pointer p2))).bt hz HM9.out) ((((HR8.out _ (Bt.refl _ _)).2.2.2.2.2.2.2.2.2.2.2.2.2.2.2.2.2.2.set HE.out B_bH.out 0 (.pointer p2))).bt HE.out hz (fun b e => by cases e; exact B_mb.out))))))))))))))))))))
          clear HR8 HM8 PV pc pz c1
          generalize w8.setCell ⟨bH, 0, none⟩ (.pointer p2) = w9 at *
          have c2 : w9.cell? ⟨bG, 0, none⟩ = some (.pointer qa) := (HR9.out _ (Bt.refl _ _)).2.2.1.c0
          go_wp2_with fail
          have a0 := (show _ ∧ _ from ⟨(HAC.out _ (HR9.out _ (Bt.refl _ _)).2.2.2.2.2.2.2.2.2.2.2.2.2.2.2.2.2.2.below).2.2.2.1, (HAC.out _ (HR9.out _ (Bt.refl _ _)).2.2.2.2.2.2.2.2.2.2.2.2.2.2.2.2.2.2.below).2.2.2.2.1⟩)
          refine wp_region_noPanic ?_
          refine wp_region_held_drew (S := fun w' => w'.cell? ⟨b0, o + i * 6 + 3, none⟩ = some (.int .i64 y1) ∧ w'.cell? ⟨b0, o + i * 6 + 4, none⟩ = some (.int .i64 y2)) (by kernel_rfl) a0 (fun hH => ?_)
          refine wpAnyH_take (i := 1) (oi := { dst := some 113, op := Go.Op.move (Go.Operand.tmp 0), type := 22, pos := "law.go:173", after := #[], guard := none }) (v := ?v2_1) rfl (by as_aux_lemma => kernel_rfl) (by as_aux_lemma => kernel_rfl) (by as_aux_lemma => kernel_rfl) (fun _ _ _ h => h) (Or.inl ⟨(by as_aux_lemma => kernel_rfl), ?hy2_1⟩) hH ?rest2_1
          case hy2_1 => (intro w hSw; (try dsimp only at hSw); go_simp; try with_reducible rfl)
          try simp only [Act.put, List.setIfInBounds_toArray, List.set_cons_zero, List.set_cons_succ]
          refine wpAnyH_take (i := 2) (oi := { dst := some 114, op := Go.Op.move (Go.Operand.tmp 9), type := 3, pos := "law.go:173", after := #[], guard := none }) (v := ?v2_2) rfl (by as_aux_lemma => kernel_rfl) (by as_aux_lemma => kernel_rfl) (by as_aux_lemma => kernel_rfl) (fun _ _ _ h => h) (Or.inl ⟨(by as_aux_lemma => kernel_rfl), ?hy2_2⟩) hH ?rest2_2
          case hy2_2 => (intro w hSw; (try dsimp only at hSw); go_simp; try with_reducible rfl)
          try simp only [Act.put, List.setIfInBounds_toArray, List.set_cons_zero, List.set_cons_succ]
          refine wpAnyH_take (i := 3) (oi := { dst := some 115, op := Go.Op.indexAddr 22 (Go.Operand.tmp 113) (Go.Operand.tmp 114), type := 0, pos := "law.go:173", after := #[{ on := 1, ground := Go.Ground.data }, { on := 2, ground := Go.Ground.data }], guard := none }) (v := ?v2_3) rfl (by as_aux_lemma => kernel_rfl) (by as_aux_lemma => kernel_rfl) (by as_aux_lemma => kernel_rfl) (fun _ _ _ h => h) (Or.inl ⟨(by as_aux_lemma => kernel_rfl), ?hy2_3⟩) hH ?rest2_3
          case hy2_3 => (intro w hSw; (try dsimp only at hSw); go_simp; try with_reducible rfl)
          try simp only [Act.put, List.setIfInBounds_toArray, List.set_cons_zero, List.set_cons_succ]
          refine wpAnyH_take (i := 4) (oi := { dst := some 116, op := Go.Op.fieldAddr 39 (Go.Operand.tmp 115) 3, type := 0, pos := "law.go:173", after := #[{ on := 3, ground := Go.Ground.data }], guard := none }) (v := ?v2_4) rfl (by as_aux_lemma => kernel_rfl) (by as_aux_lemma => kernel_rfl) (by as_aux_lemma => kernel_rfl) (fun _ _ _ h => h) (Or.inl ⟨(by as_aux_lemma => kernel_rfl), ?hy2_4⟩) hH ?rest2_4
          case hy2_4 => (intro w hSw; (try dsimp only at hSw); go_simp; try with_reducible rfl)
          try simp only [Act.put, List.setIfInBounds_toArray, List.set_cons_zero, List.set_cons_succ]
          refine wpAnyH_take (i := 5) (oi := { dst := some 117, op := Go.Op.load 32 (Go.Operand.tmp 116), type := 32, pos := "law.go:173", after := #[{ on := 4, ground := Go.Ground.data }], guard := none }) (v := ?v2_5) rfl (by as_aux_lemma => kernel_rfl) (by as_aux_lemma => kernel_rfl) (by as_aux_lemma => kernel_rfl) (fun _ _ _ h => h) (Or.inl ⟨(by as_aux_lemma => kernel_rfl), ?hy2_5⟩) hH ?rest2_5
          case hy2_5 => (intro w hSw; (try dsimp only at hSw); go_simp; try with_reducible rfl)
          try simp only [Act.put, List.setIfInBounds_toArray, List.set_cons_zero, List.set_cons_succ]
          refine wpAnyH_ready (rs := [0]) (by as_aux_lemma => kernel_rfl) (by simp) ?_
          refine AllReadyH.cons (o := { dst := some 112, op := Go.Op.load 29 (Go.Operand.tmp 13), type := 29, pos := "law.go:173", after := #[], guard := none }) rfl (fun K hK => ?_) AllReadyH.nil
          go_simp
          refine hK.out _ _ ?_ (fun hH2 => ?_)
          · exact hH
          clear hK K hH
          have hH := hH2
          clear hH2
          try simp only [Act.put, List.setIfInBounds_toArray, List.set_cons_zero, List.set_cons_succ]
          refine wpAnyH_ready (rs := [6]) (by as_aux_lemma => kernel_rfl) (by simp) ?_
          refine AllReadyH.cons (o := { dst := some 118, op := Go.Op.call { callee := Go.Callee.value (Go.Operand.func 17), args := #[Go.Operand.tmp 112, Go.Operand.const (Go.Value.pointer none), Go.Operand.tmp 117], argTypes := #[29, 25, 32] }, type := 29, pos := "law.go:173", after := #[{ on := 0, ground := Go.Ground.data }, { on := 5, ground := Go.Ground.data }], guard := none }) rfl (fun K hK => ?_) AllReadyH.nil
          go_simp
          go_at_call 17
          (with_reducible refine (insertNm ta (y1, y2) qa _ (HR9.out _ ((Bt.refl _ _).drew)).2.2.2.2.2.2.2.2.2.2.2.1 (by have := HT.out.1; omega)).mono ?_)
          rintro e w10 ⟨q2, rfl, ht, hb⟩
          have HM10 := Lib.hid (HM9.out.drew.stay hb)
          have HR10 := Lib.hid (on_inv (mo := (some mb)) HR9.out (((Bt.refl (some mb) w9).drew).trans (Bt.ofBelow hb)) (fun W hz => ht.bt hz HM10.out))
          have pv := (HR10.out _ (Bt.refl _ _)).2.2.2.1
          have pc := pv.c0
          have pz := pv.z0
          have PV := Lib.hid pv
          clear ht hb pv HR9 HM9
          go_wp2_with fail
          refine hK.out _ _ ?_ (fun hH2 => ?_)
          · exact (show _ ∧ _ from ⟨(HAC.out _ (HR10.out _ (Bt.refl _ _)).2.2.2.2.2.2.2.2.2.2.2.2.2.2.2.2.2.2.2.below).2.2.2.1, (HAC.out _ (HR10.out _ (Bt.refl _ _)).2.2.2.2.2.2.2.2.2.2.2.2.2.2.2.2.2.2.2.below).2.2.2.2.1⟩)
          clear hK K hH
          have hH := hH2
          clear hH2
          try simp only [Act.put, List.setIfInBounds_toArray, List.set_cons_zero, List.set_cons_succ]
          refine wpAnyH_ready (rs := [7]) (by as_aux_lemma => kernel_rfl) (by simp) ?_
          refine AllReadyH.cons (o := { dst := none, op := Go.Op.store 29 (Go.Operand.tmp 13) (Go.Operand.tmp 118), type := 0, pos := "law.go:173", after := #[{ on := 6, ground := Go.Ground.data }, { on := 6, ground := Go.Ground.chain }, { on := 0, ground := Go.Ground.phase }, { on := 1, ground := Go.Ground.phase }, { on := 2, ground := Go.Ground.phase }, { on := 3, ground := Go.Ground.phase }, { on := 4, ground := Go.Ground.phase }, { on := 5, ground := Go.Ground.phase }, { on := 6, ground := Go.Ground.phase }], guard := none }) rfl (fun K hK => ?_) AllReadyH.nil
          go_simp
          refine hK.out _ _ ?_ (fun hH2 => ?_)
          · exact (show _ ∧ _ from ⟨(HAC.out _ ((HR10.out _ (Bt.refl _ _)).2.2.2.2.2.2.2.2.2.2.2.2.2.2.2.2.2.2.2.set HE.out B_bG.out 0 _).below).2.2.2.1, (HAC.out _ ((HR10.out _ (Bt.refl _ _)).2.2.2.2.2.2.2.2.2.2.2.2.2.2.2.2.2.2.2.set HE.out B_bG.out 0 _).below).2.2.2.2.1⟩)
          clear hK K hH
          have hH := hH2
          clear hH2
          try simp only [Act.put, List.setIfInBounds_toArray, List.set_cons_zero, List.set_cons_succ]
          refine wpAnyH_done (by as_aux_lemma => kernel_rfl) ?_ _
          refine NoPanic.normal ?_
          clear hH
          clear a0
          have HM11 := Lib.hid (HM10.out.set PV.out (.pointer q2))
          have HR11 := Lib.hid (fun W (hz : Bt (some mb) (w10.setCell ⟨bG, 0, none⟩ (.pointer q2)) W) => And.intro ((((HR10.out _ (Bt.refl _ _)).1.set PV.out (.pointer q2))).bt hz HM11.out) ( And.intro ((((HR10.out _ (Bt.refl _ _)).2.1.set PV.out (.pointer q2))).bt hz HM11.out) ( And.intro ((((HR10.out _ (Bt.refl _ _)).2.2.1.set N_bH_bG.out 0 (.pointer q2))).bt hz HM11.out) ( And.intro (((PV.out.put q2)).bt hz HM11.out) ( And.intro ((((HR10.out _ (Bt.refl _ _)).2.2.2.2.1.set NHU.out.2.2.2.1.symm 0 (.pointer q2))).bt hz HM11.out) ( And.intro ((((HR10.out _ (Bt.refl _ _)).2.2.2.2.2.1.set NHU.out.2.2.2.1.symm 0 (.pointer q2))).bt hz HM11.out) ( And.intro ((((HR10.out _ (Bt.refl _ _)).2.2.2.2.2.2.1.set NHU.out.2.2.2.2.1.symm 0 (.pointer q2))).bt hz HM11.out) ( And.intro ((((HR10.out _ (Bt.refl _ _)).2.2.2.2.2.2.2.1.set NHU.out.2.2.2.2.1.symm 0 (.pointer q2))).bt hz HM11.out) ( And.intro ((((HR10.out _ (Bt.refl _ _)).2.2.2.2.2.2.2.2.1.set NHU.out.2.2.2.2.2.symm 0 (.pointer q2))).bt hz HM11.out) ( And.intro ((((HR10.out _ (Bt.refl _ _)).2.2.2.2.2.2.2.2.2.1.set NHU.out.2.2.2.2.2.symm 0 (.pointer q2))).bt hz HM11.out) ( And.intro ((((HR10.out _ (Bt.refl _ _)).2.2.2.2.2.2.2.2.2.2.1.set PV.out (.pointer q2))).bt hz HM11.out) ( And.intro ((((HR10.out _ (Bt.refl _ _)).2.2.2.2.2.2.2.2.2.2.2.1.set PV.out (.pointer q2))).bt hz HM11.out) ( And.intro ((((HR10.out _ (Bt.refl _ _)).2.2.2.2.2.2.2.2.2.2.2.2.1.set PV.out (.pointer q2))).bt hz HM11.out) ( And.intro ((((HR10.out _ (Bt.refl _ _)).2.2.2.2.2.2.2.2.2.2.2.2.2.1.set PV.out (.pointer q2))).bt hz HM11.out) ( And.intro ((((HR10.out _ (Bt.refl _ _)).2.2.2.2.2.2.2.2.2.2.2.2.2.2.1.set PV.out (.pointer q2))).bt hz HM11.out) ( And.intro ((((HR10.out _ (Bt.refl _ _)).2.2.2.2.2.2.2.2.2.2.2.2.2.2.2.1.set PV.out (.pointer q2))).bt hz HM11.out) ( And.intro ((((HR10.out _ (Bt.refl _ _)).2.2.2.2.2.2.2.2.2.2.2.2.2.2.2.2.1.set PV.out NHU.out.2.2.2.1 (.pointer q2))).bt hz HM11.out) ( And.intro ((((HR10.out _ (Bt.refl _ _)).2.2.2.2.2.2.2.2.2.2.2.2.2.2.2.2.2.1.set PV.out NHU.out.2.2.2.2.1 (.pointer q2))).bt hz HM11.out) ( And.intro ((((HR10.out _ (Bt.refl _ _)).2.2.2.2.2.2.2.2.2.2.2.2.2.2.2.2.2.2.1.set PV.out (.pointer q2))).bt hz HM11.out) ((((HR10.out _ (Bt.refl _ _)).2.2.2.2.2.2.2.2.2.2.2.2.2.2.2.2.2.2.2.set HE.out B_bG.out 0 (.pointer q2))).bt HE.out hz (fun b e => by cases e; exact B_mb.out)))))))))))))))))))))
          clear HR10 HM10 PV pc pz c2
          generalize w10.setCell ⟨bG, 0, none⟩ (.pointer q2) = w11 at *
          obtain ⟨-, -, -, x3, x4, -⟩ := HAC.out _ (HR11.out _ (Bt.refl _ _)).2.2.2.2.2.2.2.2.2.2.2.2.2.2.2.2.2.2.2.below
          go_wp2_with fail
          ((with_reducible refine (putRw (.slice Aza sza kza) (srt ta.all) (y1, y2) w11 (HR11.out _ (Bt.refl _ _)).2.2.2.2.2.2.2.2.2.2.2.2.2.2.1 (by rw [srt_length, Lh.all_length]; have := HT.out.1; omega)).mono ?_); rintro e w12 ⟨vz, rfl, ht, hb⟩)
          have HM12 := Lib.hid (HM11.out.stay hb)
          have HR12 := Lib.hid (on_inv (mo := (some mb)) HR11.out (Bt.ofBelow hb) (fun W hz => ((show Rw _ _ (srt (ta.insert (y1, y2)).all) by rw [srt_insert, ← putL_srt]; exact ht)).bt hz HM12.out))
          clear HR11 HM11 
          clear ht hb x3 x4
          obtain ⟨Avz, kvz, e9, -⟩ := (HR12.out _ (Bt.refl _ _)).1.form
          subst e9
          have x7 : w12.cell? ⟨bH, 0, none⟩ = some (.pointer p2) := (HR12.out _ (Bt.refl _ _)).2.2.2.1.c0
          have HCP := Lib.hid (counts_push (L := L) (i := i) (t := ta.insert (y1, y2)) (z := _) HE.out HN.out.2.2 (by have := HN.out; omega) HM12.out (by have := HCM.out; have := HP.out; have := Z.out.1; omega) Z.out.2.1 (by rw [insert_size]; have := HT.out.1; have := HTOT.out; omega) (good_insert HT.out.2.1 HY.out) (HR12.out _ (Bt.refl _ _)).2.2.2.2.2.2.2.2.2.2.2.2.2.2.2.2.2.1 (HR12.out _ (Bt.refl _ _)).2.2.2.2.2.2.2.2.2.2.2.2.2.2.2.2.2.2.1 (HR12.out _ (Bt.refl _ _)).2.2.2.2.2.2.2.2.2.2.2.2.2.2.2.2.2.2.2.1 (HR12.out _ (Bt.refl _ _)).2.2.2.2.2.2.2.2.2.2.2.2.2.2.2.2.2.2.2.2 HOWN.out (HR12.out _ (Bt.refl _ _)).2.2.1 (HR12.out _ (Bt.refl _ _)).2.1 rfl (HR12.out _ (Bt.refl _ _)).1 (HR12.out _ (Bt.refl _ _)).2.2.2.2.1 NHU.out.2.2.2.1)
          obtain ⟨g1, c1, W1, g2, c2, W2, g3, c3, W3, hr1, x8, hr2, hr3, hrel⟩ := HCP.out
          have HRUN := Lib.hid (And.intro hr1 (And.intro hr2 hr3))
          have HREL := Lib.hid hrel
          clear HCP hr1 hr2 hr3 hrel HR12 HM12
          go_wp2_with (first | (at_builtin; first | (refine wpList_append_run rfl _ _ _ rfl _ _ _ _ rfl rfl HRUN.out.1 ?_) | (refine wpList_append_run rfl _ _ _ rfl _ _ _ _ rfl rfl HRUN.out.2.1 ?_) | (refine wpList_append_run rfl _ _ _ rfl _ _ _ _ rfl rfl HRUN.out.2.2 ?_)))
          go_roundg (n - (i + 1))
          case measure => have := Z.out.2.2.2; have := HN.out; omega
          case rel => exact ⟨i + 1, g1, c1, g2, c2, g3, c3, _, _, _, by first | rfl | (congr 1; unfold wrap64; have := HN.out; omega), by rw [← HN.out.2.2], by rw [← HN.out.2.2], by rw [← HN.out.2.2], by have := HN.out; omega, HREL.out⟩
        by_cases hy1 : yk = 1
        · subst hy1
          go_wp2_with fail
          have hl1 := (HR6.out _ (Bt.refl _ _)).1.lt
          have hl2 := (HR6.out _ (Bt.refl _ _)).2.2.1.lt
          have hl3 := (HR6.out _ (Bt.refl _ _)).2.2.2.2.1.lt
          have hs_bH := (HR6.out _ (Bt.refl _ _)).2.2.2.2.2.2.2.2.2.2.2.2.2.2.2.below.size
          have HM7 := Lib.hid ((HM6.out.alloc (.cells #[.pointer pa] 29)).alloc (.cells #[.pointer qa] 29))
          have hvs := two_vars w6 pa qa
          have HR7 := Lib.hid (fun W (hz : Bt (some mb) ((w6.alloc (.cells #[.pointer pa] 29)).alloc (.cells #[.pointer qa] 29)) W) => And.intro ((hvs.1).bt hz HM7.out) ( And.intro ((hvs.2).bt hz HM7.out) (HR6.out W ((((Bt.refl (some mb) w6).alloc (.cells #[.pointer pa] 29)).alloc (.cells #[.pointer qa] 29)).trans hz))))
          clear HR6 HM6 hvs 
          generalize (w6.alloc (.cells #[.pointer pa] 29)).alloc (.cells #[.pointer qa] 29) = w7 at *
          obtain ⟨bH, h0⟩ : ∃ b, b = w6.heap.size := ⟨_, rfl⟩
          rw [← h0] at HR7 ⊢
          obtain ⟨bG, h1⟩ : ∃ b, b = bH + 1 := ⟨_, rfl⟩
          rw [← h1] at HR7 ⊢
          have B_bH := Lib.hid (show w.heap.size ≤ bH by omega)
          have N_bH_bG := Lib.hid (show bH ≠ bG by omega)
          have B_bG := Lib.hid (show w.heap.size ≤ bG by omega)
          have NHU := Lib.hid (show bH ≠ gu ∧ bH ≠ gv ∧ bH ≠ gs ∧ bG ≠ gu ∧ bG ≠ gv ∧ bG ≠ gs from ⟨by omega, by omega, by omega, by omega, by omega, by omega⟩)
          clear hl1 hl2 hl3
          clear hs_bH h0 h1
          clear x0 x1 x2 x3
          have HCM := Lib.hid (show 0 ≤ cc ∧ cc ≤ 300000 ∧ 0 ≤ mm ∧ mm ≤ 300000 from by have := Z.out.1; have := HN.out; omega)
          obtain ⟨P, hP⟩ : ∃ P, P = meldC ta tb + meldM ta tb := ⟨_, rfl⟩
          have HP := Lib.hid (show P = meldC ta tb + meldM ta tb ∧ meldC ta tb ≤ 250 ∧ meldM ta tb ≤ 250 from ⟨hP, by have := meld_le ta tb; have := HT.out.1; omega, by have := meld_le ta tb; have := HT.out.1; omega⟩)
          clear hP
          have c1 : w7.cell? ⟨bH, 0, none⟩ = some (.pointer pa) := (HR7.out _ (Bt.refl _ _)).1.c0
          have a0 := (HR7.out _ (Bt.refl _ _)).2.2.2.1.c
          refine wp_region_noPanic ?_
          refine wp_region_held_drew (S := fun w' => w'.cell? ⟨gu, jb, none⟩ = some (.pointer pb)) (by kernel_rfl) a0 (fun hH => ?_)
          refine wpAnyH_take (i := 1) (oi := { dst := some 129, op := Go.Op.move (Go.Operand.tmp 5), type := 25, pos := "law.go:176", after := #[], guard := none }) (v := ?v3_1) rfl (by as_aux_lemma => kernel_rfl) (by as_aux_lemma => kernel_rfl) (by as_aux_lemma => kernel_rfl) (fun _ _ _ h => h) (Or.inl ⟨(by as_aux_lemma => kernel_rfl), ?hy3_1⟩) hH ?rest3_1
          case hy3_1 => (intro w hSw; (try dsimp only at hSw); go_simp; try with_reducible rfl)
          try simp only [Act.put, List.setIfInBounds_toArray, List.set_cons_zero, List.set_cons_succ]
          refine wpAnyH_take (i := 2) (oi := { dst := some 130, op := Go.Op.move (Go.Operand.tmp 6), type := 30, pos := "law.go:176", after := #[], guard := none }) (v := ?v3_2) rfl (by as_aux_lemma => kernel_rfl) (by as_aux_lemma => kernel_rfl) (by as_aux_lemma => kernel_rfl) (fun _ _ _ h => h) (Or.inl ⟨(by as_aux_lemma => kernel_rfl), ?hy3_2⟩) hH ?rest3_2
          case hy3_2 => (intro w hSw; (try dsimp only at hSw); go_simp; try with_reducible rfl)
          try simp only [Act.put, List.setIfInBounds_toArray, List.set_cons_zero, List.set_cons_succ]
          refine wpAnyH_take (i := 3) (oi := { dst := some 131, op := Go.Op.move (Go.Operand.tmp 11), type := 3, pos := "law.go:176", after := #[], guard := none }) (v := ?v3_3) rfl (by as_aux_lemma => kernel_rfl) (by as_aux_lemma => kernel_rfl) (by as_aux_lemma => kernel_rfl) (fun _ _ _ h => h) (Or.inl ⟨(by as_aux_lemma => kernel_rfl), ?hy3_3⟩) hH ?rest3_3
          case hy3_3 => (intro w hSw; (try dsimp only at hSw); go_simp; try with_reducible rfl)
          try simp only [Act.put, List.setIfInBounds_toArray, List.set_cons_zero, List.set_cons_succ]
          refine wpAnyH_take (i := 4) (oi := { dst := some 132, op := Go.Op.indexAddr 30 (Go.Operand.tmp 130) (Go.Operand.tmp 131), type := 0, pos := "law.go:176", after := #[{ on := 2, ground := Go.Ground.data }, { on := 3, ground := Go.Ground.data }], guard := none }) (v := ?v3_4) rfl (by as_aux_lemma => kernel_rfl) (by as_aux_lemma => kernel_rfl) (by as_aux_lemma => kernel_rfl) (fun _ _ _ h => h) (Or.inl ⟨(by as_aux_lemma => kernel_rfl), ?hy3_4⟩) hH ?rest3_4
          case hy3_4 => (intro w hSw; (try dsimp only at hSw); go_simp; try with_reducible rfl)
          try simp only [Act.put, List.setIfInBounds_toArray, List.set_cons_zero, List.set_cons_succ]
          refine wpAnyH_take (i := 5) (oi := { dst := some 133, op := Go.Op.load 29 (Go.Operand.tmp 132), type := 29, pos := "law.go:176", after := #[{ on := 4, ground := Go.Ground.data }], guard := none }) (v := ?v3_5) rfl (by as_aux_lemma => kernel_rfl) (by as_aux_lemma => kernel_rfl) (by as_aux_lemma => kernel_rfl) (fun _ _ _ h => h) (Or.inl ⟨(by as_aux_lemma => kernel_rfl), ?hy3_5⟩) hH ?rest3_5
          case hy3_5 => (intro w hSw; (try dsimp only at hSw); go_simp; try with_reducible rfl)
          try simp only [Act.put, List.setIfInBounds_toArray, List.set_cons_zero, List.set_cons_succ]
          refine wpAnyH_ready (rs := [0]) (by as_aux_lemma => kernel_rfl) (by simp) ?_
          refine AllReadyH.cons (o := { dst := some 128, op := Go.Op.load 29 (Go.Operand.tmp 12), type := 29, pos := "law.go:176", after := #[], guard := none }) rfl (fun K hK => ?_) AllReadyH.nil
          go_simp
          refine hK.out _ _ ?_ (fun hH2 => ?_)
          · exact hH
          clear hK K hH
          have hH := hH2
          clear hH2
          try simp only [Act.put, List.setIfInBounds_toArray, List.set_cons_zero, List.set_cons_succ]
          refine wpAnyH_ready (rs := [6]) (by as_aux_lemma => kernel_rfl) (by simp) ?_
          refine AllReadyH.cons (o := { dst := some 134, op := Go.Op.call { callee := Go.Callee.value (Go.Operand.func 19), args := #[Go.Operand.tmp 128, Go.Operand.tmp 129, Go.Operand.tmp 133], argTypes := #[29, 25, 29] }, type := 29, pos := "law.go:176", after := #[{ on := 0, ground := Go.Ground.data }, { on := 1, ground := Go.Ground.data }, { on := 5, ground := Go.Ground.data }], guard := none }) rfl (fun K hK => ?_) AllReadyH.nil
          go_simp
          go_at_call 19
          (with_reducible refine (meld_any (some mb) ta tb cc mm pa pb _ (by have := HT.out.1; omega) (HM7.out.drew) (by have := HCM.out; omega) (by have := HCM.out; omega) (by have := HCM.out; omega) (by have := HCM.out; omega) (HR7.out _ ((Bt.refl _ _).drew)).2.2.2.2.2.2.2.2.1 (HR7.out _ ((Bt.refl _ _).drew)).2.2.2.2.2.2.2.2.2.1).mono ?_)
          rintro e w8 ⟨p2, rfl, ht, hm, hb⟩
          have HM8 := Lib.hid hm
          have HR8 := Lib.hid (on_inv (mo := (some mb)) HR7.out (((Bt.refl (some mb) w7).drew).trans hb) (fun W hz => ht.bt hz HM8.out))
          have pv := (HR8.out _ (Bt.refl _ _)).2.1
          have pc := pv.c0
          have pz := pv.z0
          have PV := Lib.hid pv
          clear ht hb pv HR7 HM7 hm
          go_wp2_with fail
          refine hK.out _ _ ?_ (fun hH2 => ?_)
          · exact (HR8.out _ (Bt.refl _ _)).2.2.2.2.1.c
          clear hK K hH
          have hH := hH2
          clear hH2
          try simp only [Act.put, List.setIfInBounds_toArray, List.set_cons_zero, List.set_cons_succ]
          refine wpAnyH_ready (rs := [7]) (by as_aux_lemma => kernel_rfl) (by simp) ?_
          refine AllReadyH.cons (o := { dst := none, op := Go.Op.store 29 (Go.Operand.tmp 12) (Go.Operand.tmp 134), type := 0, pos := "law.go:176", after := #[{ on := 6, ground := Go.Ground.data }, { on := 6, ground := Go.Ground.chain }, { on := 0, ground := Go.Ground.phase }, { on := 1, ground := Go.Ground.phase }, { on := 2, ground := Go.Ground.phase }, { on := 3, ground := Go.Ground.phase }, { on := 4, ground := Go.Ground.phase }, { on := 5, ground := Go.Ground.phase }, { on := 6, ground := Go.Ground.phase }], guard := none }) rfl (fun K hK => ?_) AllReadyH.nil
          go_simp
          refine hK.out _ _ ?_ (fun hH2 => ?_)
          · exact ((HR8.out _ (Bt.refl _ _)).2.2.2.2.1.set NHU.out.1.symm 0 _).c
          clear hK K hH
          have hH := hH2
          clear hH2
          try simp only [Act.put, List.setIfInBounds_toArray, List.set_cons_zero, List.set_cons_succ]
          refine wpAnyH_done (by as_aux_lemma => kernel_rfl) ?_ _
          refine NoPanic.normal ?_
          clear hH
          clear a0
          have HM9 := Lib.hid (HM8.out.set PV.out (.pointer p2))
          have HR9 := Lib.hid (fun W (hz : Bt (some mb) (w8.setCell ⟨bH, 0, none⟩ (.pointer p2)) W) => And.intro ((((HR8.out _ (Bt.refl _ _)).1.set PV.out (.pointer p2))).bt hz HM9.out) ( And.intro (((PV.out.put p2)).bt hz HM9.out) ( And.intro ((((HR8.out _ (Bt.refl _ _)).2.2.1.set N_bH_bG.out.symm 0 (.pointer p2))).bt hz HM9.out) ( And.intro ((((HR8.out _ (Bt.refl _ _)).2.2.2.1.set NHU.out.1.symm 0 (.pointer p2))).bt hz HM9.out) ( And.intro ((((HR8.out _ (Bt.refl _ _)).2.2.2.2.1.set NHU.out.1.symm 0 (.pointer p2))).bt hz HM9.out) ( And.intro ((((HR8.out _ (Bt.refl _ _)).2.2.2.2.2.1.set NHU.out.2.1.symm 0 (.pointer p2))).bt hz HM9.out) ( And.intro ((((HR8.out _ (Bt.refl _ _)).2.2.2.2.2.2.1.set NHU.out.2.1.symm 0 (.pointer p2))).bt hz HM9.out) ( And.intro ((((HR8.out _ (Bt.refl _ _)).2.2.2.2.2.2.2.1.set NHU.out.2.2.1.symm 0 (.pointer p2))).bt hz HM9.out) ( And.intro ((((HR8.out _ (Bt.refl _ _)).2.2.2.2.2.2.2.2.1.set NHU.out.2.2.1.symm 0 (.pointer p2))).bt hz HM9.out) ( And.intro ((((HR8.out _ (Bt.refl _ _)).2.2.2.2.2.2.2.2.2.1.set PV.out (.pointer p2))).bt hz HM9.out) ( And.intro ((((HR8.out _ (Bt.refl _ _)).2.2.2.2.2.2.2.2.2.2.1.set PV.out (.pointer p2))).bt hz HM9.out) ( And.intro ((((HR8.out _ (Bt.refl _ _)).2.2.2.2.2.2.2.2.2.2.2.1.set PV.out (.pointer p2))).bt hz HM9.out) ( And.intro ((((HR8.out _ (Bt.refl _ _)).2.2.2.2.2.2.2.2.2.2.2.2.1.set PV.out (.pointer p2))).bt hz HM9.out) ( And.intro ((((HR8.out _ (Bt.refl _ _)).2.2.2.2.2.2.2.2.2.2.2.2.2.1.set PV.out (.pointer p2))).bt hz HM9.out) ( And.intro ((((HR8.out _ (Bt.refl _ _)).2.2.2.2.2.2.2.2.2.2.2.2.2.2.1.set PV.out (.pointer p2))).bt hz HM9.out) ( And.intro ((((HR8.out _ (Bt.refl _ _)).2.2.2.2.2.2.2.2.2.2.2.2.2.2.2.1.set PV.out NHU.out.1 (.pointer p2))).bt hz HM9.out) ( And.intro ((((HR8.out _ (Bt.refl _ _)).2.2.2.2.2.2.2.2.2.2.2.2.2.2.2.2.1.set PV.out NHU.out.2.1 (.pointer p2))).bt hz HM9.out) ( And.intro ((((HR8.out _ (Bt.refl _ _)).2.2.2.2.2.2.2.2.2.2.2.2.2.2.2.2.2.1.set PV.out (.pointer p2))).bt hz HM9.out) ((((HR8.out _ (Bt.refl _ _)).2.2.2.2.2.2.2.2.2.2.2.2.2.2.2.2.2.2.set HE.out B_bH.out 0 (.pointer p2))).bt HE.out hz (fun b e => by cases e; exact B_mb.out))))))))))))))))))))
          clear HR8 HM8 PV pc pz c1
          generalize w8.setCell ⟨bH, 0, none⟩ (.pointer p2) = w9 at *
          have c2 : w9.cell? ⟨bG, 0, none⟩ = some (.pointer qa) := (HR9.out _ (Bt.refl _ _)).2.2.1.c0
          go_wp2_with fail
          have a0 := (HR9.out _ (Bt.refl _ _)).2.2.2.2.2.2.1.c
          refine wp_region_noPanic ?_
          refine wp_region_held_drew (S := fun w' => w'.cell? ⟨gv, jb, none⟩ = some (.pointer qb)) (by kernel_rfl) a0 (fun hH => ?_)
          refine wpAnyH_take (i := 1) (oi := { dst := some 136, op := Go.Op.move (Go.Operand.tmp 7), type := 30, pos := "law.go:177", after := #[], guard := none }) (v := ?v4_1) rfl (by as_aux_lemma => kernel_rfl) (by as_aux_lemma => kernel_rfl) (by as_aux_lemma => kernel_rfl) (fun _ _ _ h => h) (Or.inl ⟨(by as_aux_lemma => kernel_rfl), ?hy4_1⟩) hH ?rest4_1
          case hy4_1 => (intro w hSw; (try dsimp only at hSw); go_simp; try with_reducible rfl)
          try simp only [Act.put, List.setIfInBounds_toArray, List.set_cons_zero, List.set_cons_succ]
          refine wpAnyH_take (i := 2) (oi := { dst := some 137, op := Go.Op.move (Go.Operand.tmp 11), type := 3, pos := "law.go:177", after := #[], guard := none }) (v := ?v4_2) rfl (by as_aux_lemma => kernel_rfl) (by as_aux_lemma => kernel_rfl) (by as_aux_lemma => kernel_rfl) (fun _ _ _ h => h) (Or.inl ⟨(by as_aux_lemma => kernel_rfl), ?hy4_2⟩) hH ?rest4_2
          case hy4_2 => (intro w hSw; (try dsimp only at hSw); go_simp; try with_reducible rfl)
          try simp only [Act.put, List.setIfInBounds_toArray, List.set_cons_zero, List.set_cons_succ]
          refine wpAnyH_take (i := 3) (oi := { dst := some 138, op := Go.Op.indexAddr 30 (Go.Operand.tmp 136) (Go.Operand.tmp 137), type := 0, pos := "law.go:177", after := #[{ on := 1, ground := Go.Ground.data }, { on := 2, ground := Go.Ground.data }], guard := none }) (v := ?v4_3) rfl (by as_aux_lemma => kernel_rfl) (by as_aux_lemma => kernel_rfl) (by as_aux_lemma => kernel_rfl) (fun _ _ _ h => h) (Or.inl ⟨(by as_aux_lemma => kernel_rfl), ?hy4_3⟩) hH ?rest4_3
          case hy4_3 => (intro w hSw; (try dsimp only at hSw); go_simp; try with_reducible rfl)
          try simp only [Act.put, List.setIfInBounds_toArray, List.set_cons_zero, List.set_cons_succ]
          refine wpAnyH_take (i := 4) (oi := { dst := some 139, op := Go.Op.load 29 (Go.Operand.tmp 138), type := 29, pos := "law.go:177", after := #[{ on := 3, ground := Go.Ground.data }], guard := none }) (v := ?v4_4) rfl (by as_aux_lemma => kernel_rfl) (by as_aux_lemma => kernel_rfl) (by as_aux_lemma => kernel_rfl) (fun _ _ _ h => h) (Or.inl ⟨(by as_aux_lemma => kernel_rfl), ?hy4_4⟩) hH ?rest4_4
          case hy4_4 => (intro w hSw; (try dsimp only at hSw); go_simp; try with_reducible rfl)
          try simp only [Act.put, List.setIfInBounds_toArray, List.set_cons_zero, List.set_cons_succ]
          refine wpAnyH_ready (rs := [0]) (by as_aux_lemma => kernel_rfl) (by simp) ?_
          refine AllReadyH.cons (o := { dst := some 135, op := Go.Op.load 29 (Go.Operand.tmp 13), type := 29, pos := "law.go:177", after := #[], guard := none }) rfl (fun K hK => ?_) AllReadyH.nil
          go_simp
          refine hK.out _ _ ?_ (fun hH2 => ?_)
          · exact hH
          clear hK K hH
          have hH := hH2
          clear hH2
          try simp only [Act.put, List.setIfInBounds_toArray, List.set_cons_zero, List.set_cons_succ]
          refine wpAnyH_ready (rs := [5]) (by as_aux_lemma => kernel_rfl) (by simp) ?_
          refine AllReadyH.cons (o := { dst := some 140, op := Go.Op.call { callee := Go.Callee.value (Go.Operand.func 19), args := #[Go.Operand.tmp 135, Go.Operand.const (Go.Value.pointer none), Go.Operand.tmp 139], argTypes := #[29, 25, 29] }, type := 29, pos := "law.go:177", after := #[{ on := 0, ground := Go.Ground.data }, { on := 4, ground := Go.Ground.data }], guard := none }) rfl (fun K hK => ?_) AllReadyH.nil
          go_simp
          go_at_call 19
          (with_reducible refine (meldNm ta tb qa qb _ (HR9.out _ ((Bt.refl _ _).drew)).2.2.2.2.2.2.2.2.2.2.2.1 (HR9.out _ ((Bt.refl _ _).drew)).2.2.2.2.2.2.2.2.2.2.2.2.1 (by have := HT.out.1; omega)).mono ?_)
          rintro e w10 ⟨q2, rfl, ht, hb⟩
          have HM10 := Lib.hid (HM9.out.drew.stay hb)
          have HR10 := Lib.hid (on_inv (mo := (some mb)) HR9.out (((Bt.refl (some mb) w9).drew).trans (Bt.ofBelow hb)) (fun W hz => ht.bt hz HM10.out))
          have pv := (HR10.out _ (Bt.refl _ _)).2.2.2.1
          have pc := pv.c0
          have pz := pv.z0
          have PV := Lib.hid pv
          clear ht hb pv HR9 HM9
          go_wp2_with fail
          refine hK.out _ _ ?_ (fun hH2 => ?_)
          · exact (HR10.out _ (Bt.refl _ _)).2.2.2.2.2.2.2.1.c
          clear hK K hH
          have hH := hH2
          clear hH2
          try simp only [Act.put, List.setIfInBounds_toArray, List.set_cons_zero, List.set_cons_succ]
          refine wpAnyH_ready (rs := [6]) (by as_aux_lemma => kernel_rfl) (by simp) ?_
          refine AllReadyH.cons (o := { dst := none, op := Go.Op.store 29 (Go.Operand.tmp 13) (Go.Operand.tmp 140), type := 0, pos := "law.go:177", after := #[{ on := 5, ground := Go.Ground.data }, { on := 5, ground := Go.Ground.chain }, { on := 0, ground := Go.Ground.phase }, { on := 1, ground := Go.Ground.phase }, { on := 2, ground := Go.Ground.phase }, { on := 3, ground := Go.Ground.phase }, { on := 4, ground := Go.Ground.phase }, { on := 5, ground := Go.Ground.phase }], guard := none }) rfl (fun K hK => ?_) AllReadyH.nil
          go_simp
          refine hK.out _ _ ?_ (fun hH2 => ?_)
          · exact ((HR10.out _ (Bt.refl _ _)).2.2.2.2.2.2.2.1.set NHU.out.2.2.2.2.1.symm 0 _).c
          clear hK K hH
          have hH := hH2
          clear hH2
          try simp only [Act.put, List.setIfInBounds_toArray, List.set_cons_zero, List.set_cons_succ]
          refine wpAnyH_done (by as_aux_lemma => kernel_rfl) ?_ _
          refine NoPanic.normal ?_
          clear hH
          clear a0
          have HM11 := Lib.hid (HM10.out.set PV.out (.pointer q2))
          have HR11 := Lib.hid (fun W (hz : Bt (some mb) (w10.setCell ⟨bG, 0, none⟩ (.pointer q2)) W) => And.intro ((((HR10.out _ (Bt.refl _ _)).1.set PV.out (.pointer q2))).bt hz HM11.out) ( And.intro ((((HR10.out _ (Bt.refl _ _)).2.1.set PV.out (.pointer q2))).bt hz HM11.out) ( And.intro ((((HR10.out _ (Bt.refl _ _)).2.2.1.set N_bH_bG.out 0 (.pointer q2))).bt hz HM11.out) ( And.intro (((PV.out.put q2)).bt hz HM11.out) ( And.intro ((((HR10.out _ (Bt.refl _ _)).2.2.2.2.1.set NHU.out.2.2.2.1.symm 0 (.pointer q2))).bt hz HM11.out) ( And.intro ((((HR10.out _ (Bt.refl _ _)).2.2.2.2.2.1.set NHU.out.2.2.2.1.symm 0 (.pointer q2))).bt hz HM11.out) ( And.intro ((((HR10.out _ (Bt.refl _ _)).2.2.2.2.2.2.1.set NHU.out.2.2.2.2.1.symm 0 (.pointer q2))).bt hz HM11.out) ( And.intro ((((HR10.out _ (Bt.refl _ _)).2.2.2.2.2.2.2.1.set NHU.out.2.2.2.2.1.symm 0 (.pointer q2))).bt hz HM11.out) ( And.intro ((((HR10.out _ (Bt.refl _ _)).2.2.2.2.2.2.2.2.1.set NHU.out.2.2.2.2.2.symm 0 (.pointer q2))).bt hz HM11.out) ( And.intro ((((HR10.out _ (Bt.refl _ _)).2.2.2.2.2.2.2.2.2.1.set NHU.out.2.2.2.2.2.symm 0 (.pointer q2))).bt hz HM11.out) ( And.intro ((((HR10.out _ (Bt.refl _ _)).2.2.2.2.2.2.2.2.2.2.1.set PV.out (.pointer q2))).bt hz HM11.out) ( And.intro ((((HR10.out _ (Bt.refl _ _)).2.2.2.2.2.2.2.2.2.2.2.1.set PV.out (.pointer q2))).bt hz HM11.out) ( And.intro ((((HR10.out _ (Bt.refl _ _)).2.2.2.2.2.2.2.2.2.2.2.2.1.set PV.out (.pointer q2))).bt hz HM11.out) ( And.intro ((((HR10.out _ (Bt.refl _ _)).2.2.2.2.2.2.2.2.2.2.2.2.2.1.set PV.out (.pointer q2))).bt hz HM11.out) ( And.intro ((((HR10.out _ (Bt.refl _ _)).2.2.2.2.2.2.2.2.2.2.2.2.2.2.1.set PV.out (.pointer q2))).bt hz HM11.out) ( And.intro ((((HR10.out _ (Bt.refl _ _)).2.2.2.2.2.2.2.2.2.2.2.2.2.2.2.1.set PV.out (.pointer q2))).bt hz HM11.out) ( And.intro ((((HR10.out _ (Bt.refl _ _)).2.2.2.2.2.2.2.2.2.2.2.2.2.2.2.2.1.set PV.out NHU.out.2.2.2.1 (.pointer q2))).bt hz HM11.out) ( And.intro ((((HR10.out _ (Bt.refl _ _)).2.2.2.2.2.2.2.2.2.2.2.2.2.2.2.2.2.1.set PV.out NHU.out.2.2.2.2.1 (.pointer q2))).bt hz HM11.out) ( And.intro ((((HR10.out _ (Bt.refl _ _)).2.2.2.2.2.2.2.2.2.2.2.2.2.2.2.2.2.2.1.set PV.out (.pointer q2))).bt hz HM11.out) ((((HR10.out _ (Bt.refl _ _)).2.2.2.2.2.2.2.2.2.2.2.2.2.2.2.2.2.2.2.set HE.out B_bG.out 0 (.pointer q2))).bt HE.out hz (fun b e => by cases e; exact B_mb.out)))))))))))))))))))))
          clear HR10 HM10 PV pc pz c2
          generalize w10.setCell ⟨bG, 0, none⟩ (.pointer q2) = w11 at *
          have x3 := (HR11.out _ (Bt.refl _ _)).2.2.2.2.2.2.2.2.2.1.c
          go_wp2_with fail
          ((with_reducible refine (sumRw (.slice Aza sza kza) (.slice Azb szb kzb) (srt ta.all) (srt tb.all) w11 (HR11.out _ (Bt.refl _ _)).2.2.2.2.2.2.2.2.2.2.2.2.2.2.1 (HR11.out _ (Bt.refl _ _)).2.2.2.2.2.2.2.2.2.2.2.2.2.2.2.1 (by rw [srt_length, Lh.all_length]; have := HT.out.1; omega) (by rw [srt_length, Lh.all_length]; have := HT.out.1; omega)).mono ?_); rintro e w12 ⟨vz, rfl, ht, hb⟩)
          have HM12 := Lib.hid (HM11.out.stay hb)
          have HR12 := Lib.hid (on_inv (mo := (some mb)) HR11.out (Bt.ofBelow hb) (fun W hz => ((show Rw _ _ (srt (meld ta tb).all) by rw [srt_meld, ← sum_srt]; exact ht)).bt hz HM12.out))
          clear HR11 HM11 
          clear ht hb x3
          obtain ⟨Avz, kvz, e9, -⟩ := (HR12.out _ (Bt.refl _ _)).1.form
          subst e9
          have x7 : w12.cell? ⟨bH, 0, none⟩ = some (.pointer p2) := (HR12.out _ (Bt.refl _ _)).2.2.2.1.c0
          have HCP := Lib.hid (counts_push (L := L) (i := i) (t := meld ta tb) (z := _) HE.out HN.out.2.2 (by have := HN.out; omega) HM12.out (by have := HCM.out; have := HP.out; have := Z.out.1; omega) Z.out.2.1 (by rw [meld_size]; have := HT.out.1; have := HTOT.out; omega) (good_meld HT.out.2.1 HT.out.2.2) (HR12.out _ (Bt.refl _ _)).2.2.2.2.2.2.2.2.2.2.2.2.2.2.2.2.2.1 (HR12.out _ (Bt.refl _ _)).2.2.2.2.2.2.2.2.2.2.2.2.2.2.2.2.2.2.1 (HR12.out _ (Bt.refl _ _)).2.2.2.2.2.2.2.2.2.2.2.2.2.2.2.2.2.2.2.1 (HR12.out _ (Bt.refl _ _)).2.2.2.2.2.2.2.2.2.2.2.2.2.2.2.2.2.2.2.2 HOWN.out (HR12.out _ (Bt.refl _ _)).2.2.1 (HR12.out _ (Bt.refl _ _)).2.1 rfl (HR12.out _ (Bt.refl _ _)).1 (HR12.out _ (Bt.refl _ _)).2.2.2.2.1 NHU.out.2.2.2.1)
          obtain ⟨g1, c1, W1, g2, c2, W2, g3, c3, W3, hr1, x8, hr2, hr3, hrel⟩ := HCP.out
          have HRUN := Lib.hid (And.intro hr1 (And.intro hr2 hr3))
          have HREL := Lib.hid hrel
          clear HCP hr1 hr2 hr3 hrel HR12 HM12
          go_wp2_with (first | (at_builtin; first | (refine wpList_append_run rfl _ _ _ rfl _ _ _ _ rfl rfl HRUN.out.1 ?_) | (refine wpList_append_run rfl _ _ _ rfl _ _ _ _ rfl rfl HRUN.out.2.1 ?_) | (refine wpList_append_run rfl _ _ _ rfl _ _ _ _ rfl rfl HRUN.out.2.2 ?_)))
          go_roundg (n - (i + 1))
          case measure => have := Z.out.2.2.2; have := HN.out; omega
          case rel => exact ⟨i + 1, g1, c1, g2, c2, g3, c3, _, _, _, by first | rfl | (congr 1; unfold wrap64; have := HN.out; omega), by rw [← HN.out.2.2], by rw [← HN.out.2.2], by rw [← HN.out.2.2], by have := HN.out; omega, HREL.out⟩
        by_cases hy2 : yk = 2
        · subst hy2
          go_wp2_with fail
          have hl1 := (HR6.out _ (Bt.refl _ _)).1.lt
          have hl2 := (HR6.out _ (Bt.refl _ _)).2.2.1.lt
          have hl3 := (HR6.out _ (Bt.refl _ _)).2.2.2.2.1.lt
          have hs_bH := (HR6.out _ (Bt.refl _ _)).2.2.2.2.2.2.2.2.2.2.2.2.2.2.2.below.size
          have HM7 := Lib.hid ((HM6.out.alloc (.cells #[.pointer pa] 29)).alloc (.cells #[.pointer qa] 29))
          have hvs := two_vars w6 pa qa
          have HR7 := Lib.hid (fun W (hz : Bt (some mb) ((w6.alloc (.cells #[.pointer pa] 29)).alloc (.cells #[.pointer qa] 29)) W) => And.intro ((hvs.1).bt hz HM7.out) ( And.intro ((hvs.2).bt hz HM7.out) (HR6.out W ((((Bt.refl (some mb) w6).alloc (.cells #[.pointer pa] 29)).alloc (.cells #[.pointer qa] 29)).trans hz))))
          clear HR6 HM6 hvs 
          generalize (w6.alloc (.cells #[.pointer pa] 29)).alloc (.cells #[.pointer qa] 29) = w7 at *
          obtain ⟨bH, h0⟩ : ∃ b, b = w6.heap.size := ⟨_, rfl⟩
          rw [← h0] at HR7 ⊢
          obtain ⟨bG, h1⟩ : ∃ b, b = bH + 1 := ⟨_, rfl⟩
          rw [← h1] at HR7 ⊢
          have B_bH := Lib.hid (show w.heap.size ≤ bH by omega)
          have N_bH_bG := Lib.hid (show bH ≠ bG by omega)
          have B_bG := Lib.hid (show w.heap.size ≤ bG by omega)
          have NHU := Lib.hid (show bH ≠ gu ∧ bH ≠ gv ∧ bH ≠ gs ∧ bG ≠ gu ∧ bG ≠ gv ∧ bG ≠ gs from ⟨by omega, by omega, by omega, by omega, by omega, by omega⟩)
          clear hl1 hl2 hl3
          clear hs_bH h0 h1
          clear x0 x1 x2 x3
          have HCM := Lib.hid (show 0 ≤ cc ∧ cc ≤ 300000 ∧ 0 ≤ mm ∧ mm ≤ 300000 from by have := Z.out.1; have := HN.out; omega)
          obtain ⟨P, hP⟩ : ∃ P, P = ta.popC + ta.popM := ⟨_, rfl⟩
          have HP := Lib.hid (show P = ta.popC + ta.popM ∧ ta.popC ≤ 500 ∧ ta.popM ≤ 250 from ⟨hP, by have := pop_counts HT.out.2.1.ok (by have := HT.out.1; omega); have := HT.out.1; omega, by have := pop_counts HT.out.2.1.ok (by have := HT.out.1; omega); have := HT.out.1; omega⟩)
          ((with_reducible refine (pop_any (some mb) cc mm ta pa _ (by have := HT.out.1; omega) HM7.out (by have := HCM.out; omega) (by have := HCM.out; omega) (by have := HCM.out; omega) (by have := HCM.out; omega) (HR7.out _ (Bt.refl _ _)).2.2.2.2.2.2.2.2.1).mono ?_); rintro e w8 ⟨p2, rfl, ht, hm, hb⟩)
          have HM8 := Lib.hid hm
          have HR8 := Lib.hid (on_inv (mo := (some mb)) HR7.out hb (fun W hz => ht.bt hz HM8.out))
          clear HR7 HM7 
          clear ht hb hm hP
          have pv := (HR8.out _ (Bt.refl _ _)).2.1
          have pc := pv.c0
          have pz := pv.z0
          have PV := Lib.hid pv
          clear pv
          have x5 : (w8.setCell ⟨bH, 0, none⟩ (.pointer p2)).cell? ⟨bG, 0, none⟩ = some (.pointer qa) := ((HR8.out _ (Bt.refl _ _)).2.2.1.set N_bH_bG.out.symm 0 _).c0
          go_wp2_with fail
          have HM9 := Lib.hid (HM8.out.set PV.out (.pointer p2))
          have HR9 := Lib.hid (fun W (hz : Bt (some mb) (w8.setCell ⟨bH, 0, none⟩ (.pointer p2)) W) => And.intro ((((HR8.out _ (Bt.refl _ _)).1.set PV.out (.pointer p2))).bt hz HM9.out) ( And.intro (((PV.out.put p2)).bt hz HM9.out) ( And.intro ((((HR8.out _ (Bt.refl _ _)).2.2.1.set N_bH_bG.out.symm 0 (.pointer p2))).bt hz HM9.out) ( And.intro ((((HR8.out _ (Bt.refl _ _)).2.2.2.1.set NHU.out.1.symm 0 (.pointer p2))).bt hz HM9.out) ( And.intro ((((HR8.out _ (Bt.refl _ _)).2.2.2.2.1.set NHU.out.1.symm 0 (.pointer p2))).bt hz HM9.out) ( And.intro ((((HR8.out _ (Bt.refl _ _)).2.2.2.2.2.1.set NHU.out.2.1.symm 0 (.pointer p2))).bt hz HM9.out) ( And.intro ((((HR8.out _ (Bt.refl _ _)).2.2.2.2.2.2.1.set NHU.out.2.1.symm 0 (.pointer p2))).bt hz HM9.out) ( And.intro ((((HR8.out _ (Bt.refl _ _)).2.2.2.2.2.2.2.1.set NHU.out.2.2.1.symm 0 (.pointer p2))).bt hz HM9.out) ( And.intro ((((HR8.out _ (Bt.refl _ _)).2.2.2.2.2.2.2.2.1.set NHU.out.2.2.1.symm 0 (.pointer p2))).bt hz HM9.out) ( And.intro ((((HR8.out _ (Bt.refl _ _)).2.2.2.2.2.2.2.2.2.1.set PV.out (.pointer p2))).bt hz HM9.out) ( And.intro ((((HR8.out _ (Bt.refl _ _)).2.2.2.2.2.2.2.2.2.2.1.set PV.out (.pointer p2))).bt hz HM9.out) ( And.intro ((((HR8.out _ (Bt.refl _ _)).2.2.2.2.2.2.2.2.2.2.2.1.set PV.out (.pointer p2))).bt hz HM9.out) ( And.intro ((((HR8.out _ (Bt.refl _ _)).2.2.2.2.2.2.2.2.2.2.2.2.1.set PV.out (.pointer p2))).bt hz HM9.out) ( And.intro ((((HR8.out _ (Bt.refl _ _)).2.2.2.2.2.2.2.2.2.2.2.2.2.1.set PV.out (.pointer p2))).bt hz HM9.out) ( And.intro ((((HR8.out _ (Bt.refl _ _)).2.2.2.2.2.2.2.2.2.2.2.2.2.2.1.set PV.out (.pointer p2))).bt hz HM9.out) ( And.intro ((((HR8.out _ (Bt.refl _ _)).2.2.2.2.2.2.2.2.2.2.2.2.2.2.2.1.set PV.out NHU.out.1 (.pointer p2))).bt hz HM9.out) ( And.intro ((((HR8.out _ (Bt.refl _ _)).2.2.2.2.2.2.2.2.2.2.2.2.2.2.2.2.1.set PV.out NHU.out.2.1 (.pointer p2))).bt hz HM9.out) ( And.intro ((((HR8.out _ (Bt.refl _ _)).2.2.2.2.2.2.2.2.2.2.2.2.2.2.2.2.2.1.set PV.out (.pointer p2))).bt hz HM9.out) ((((HR8.out _ (Bt.refl _ _)).2.2.2.2.2.2.2.2.2.2.2.2.2.2.2.2.2.2.set HE.out B_bH.out 0 (.pointer p2))).bt HE.out hz (fun b e => by cases e; exact B_mb.out))))))))))))))))))))
          clear HR8 HM8 PV pc pz 
          generalize w8.setCell ⟨bH, 0, none⟩ (.pointer p2) = w9 at *
          clear x5
          ((with_reducible refine (popN ta qa w9 (HR9.out _ (Bt.refl _ _)).2.2.2.2.2.2.2.2.2.2.2.1 (by have := HT.out.1; omega)).mono ?_); rintro e w10 ⟨q2, rfl, ht, hb⟩)
          have HM10 := Lib.hid (HM9.out.stay hb)
          have HR10 := Lib.hid (on_inv (mo := (some mb)) HR9.out (Bt.ofBelow hb) (fun W hz => ht.bt hz HM10.out))
          clear HR9 HM9 
          clear ht hb
          have pv := (HR10.out _ (Bt.refl _ _)).2.2.2.1
          have pc := pv.c0
          have pz := pv.z0
          have PV := Lib.hid pv
          clear pv
          have HM11 := Lib.hid (HM10.out.set PV.out (.pointer q2))
          have HR11 := Lib.hid (fun W (hz : Bt (some mb) (w10.setCell ⟨bG, 0, none⟩ (.pointer q2)) W) => And.intro ((((HR10.out _ (Bt.refl _ _)).1.set PV.out (.pointer q2))).bt hz HM11.out) ( And.intro ((((HR10.out _ (Bt.refl _ _)).2.1.set PV.out (.pointer q2))).bt hz HM11.out) ( And.intro ((((HR10.out _ (Bt.refl _ _)).2.2.1.set N_bH_bG.out 0 (.pointer q2))).bt hz HM11.out) ( And.intro (((PV.out.put q2)).bt hz HM11.out) ( And.intro ((((HR10.out _ (Bt.refl _ _)).2.2.2.2.1.set NHU.out.2.2.2.1.symm 0 (.pointer q2))).bt hz HM11.out) ( And.intro ((((HR10.out _ (Bt.refl _ _)).2.2.2.2.2.1.set NHU.out.2.2.2.1.symm 0 (.pointer q2))).bt hz HM11.out) ( And.intro ((((HR10.out _ (Bt.refl _ _)).2.2.2.2.2.2.1.set NHU.out.2.2.2.2.1.symm 0 (.pointer q2))).bt hz HM11.out) ( And.intro ((((HR10.out _ (Bt.refl _ _)).2.2.2.2.2.2.2.1.set NHU.out.2.2.2.2.1.symm 0 (.pointer q2))).bt hz HM11.out) ( And.intro ((((HR10.out _ (Bt.refl _ _)).2.2.2.2.2.2.2.2.1.set NHU.out.2.2.2.2.2.symm 0 (.pointer q2))).bt hz HM11.out) ( And.intro ((((HR10.out _ (Bt.refl _ _)).2.2.2.2.2.2.2.2.2.1.set NHU.out.2.2.2.2.2.symm 0 (.pointer q2))).bt hz HM11.out) ( And.intro ((((HR10.out _ (Bt.refl _ _)).2.2.2.2.2.2.2.2.2.2.1.set PV.out (.pointer q2))).bt hz HM11.out) ( And.intro ((((HR10.out _ (Bt.refl _ _)).2.2.2.2.2.2.2.2.2.2.2.1.set PV.out (.pointer q2))).bt hz HM11.out) ( And.intro ((((HR10.out _ (Bt.refl _ _)).2.2.2.2.2.2.2.2.2.2.2.2.1.set PV.out (.pointer q2))).bt hz HM11.out) ( And.intro ((((HR10.out _ (Bt.refl _ _)).2.2.2.2.2.2.2.2.2.2.2.2.2.1.set PV.out (.pointer q2))).bt hz HM11.out) ( And.intro ((((HR10.out _ (Bt.refl _ _)).2.2.2.2.2.2.2.2.2.2.2.2.2.2.1.set PV.out (.pointer q2))).bt hz HM11.out) ( And.intro ((((HR10.out _ (Bt.refl _ _)).2.2.2.2.2.2.2.2.2.2.2.2.2.2.2.1.set PV.out (.pointer q2))).bt hz HM11.out) ( And.intro ((((HR10.out _ (Bt.refl _ _)).2.2.2.2.2.2.2.2.2.2.2.2.2.2.2.2.1.set PV.out NHU.out.2.2.2.1 (.pointer q2))).bt hz HM11.out) ( And.intro ((((HR10.out _ (Bt.refl _ _)).2.2.2.2.2.2.2.2.2.2.2.2.2.2.2.2.2.1.set PV.out NHU.out.2.2.2.2.1 (.pointer q2))).bt hz HM11.out) ( And.intro ((((HR10.out _ (Bt.refl _ _)).2.2.2.2.2.2.2.2.2.2.2.2.2.2.2.2.2.2.1.set PV.out (.pointer q2))).bt hz HM11.out) ((((HR10.out _ (Bt.refl _ _)).2.2.2.2.2.2.2.2.2.2.2.2.2.2.2.2.2.2.2.set HE.out B_bG.out 0 (.pointer q2))).bt HE.out hz (fun b e => by cases e; exact B_mb.out)))))))))))))))))))))
          clear HR10 HM10 pc pz 
          generalize hw : w10.setCell ⟨bG, 0, none⟩ (.pointer q2) = w11 at *
          by_cases hz0 : sza = 0
          · subst hz0
            have HZ := Lib.hid (rw_none (HR11.out _ (Bt.refl _ _)).2.2.2.2.2.2.2.2.2.2.2.2.2.2.1 HT.out.1.1.symm)
            have x7 : w11.cell? ⟨bH, 0, none⟩ = some (.pointer p2) := (HR11.out _ (Bt.refl _ _)).2.2.1.c0
            have HCP := Lib.hid (counts_push (L := L) (i := i) (t := ta.pop) (z := .slice Aza 0 kza) HE.out HN.out.2.2 (by have := HN.out; omega) HM11.out (by have := HCM.out; have := HP.out; have := Z.out.1; omega) Z.out.2.1 (by rw [pop_size HT.out.2.1.ok]; have := HT.out.1; omega) (good_pop HT.out.2.1) (HR11.out _ (Bt.refl _ _)).2.2.2.2.2.2.2.2.2.2.2.2.2.2.2.2.1 (HR11.out _ (Bt.refl _ _)).2.2.2.2.2.2.2.2.2.2.2.2.2.2.2.2.2.1 (HR11.out _ (Bt.refl _ _)).2.2.2.2.2.2.2.2.2.2.2.2.2.2.2.2.2.2.1 (HR11.out _ (Bt.refl _ _)).2.2.2.2.2.2.2.2.2.2.2.2.2.2.2.2.2.2.2 HOWN.out (HR11.out _ (Bt.refl _ _)).2.1 (HR11.out _ (Bt.refl _ _)).1 rfl HZ.out (HR11.out _ (Bt.refl _ _)).2.2.2.1 NHU.out.2.2.2.1)
            obtain ⟨g1, c1, W1, g2, c2, W2, g3, c3, W3, hr1, x8, hr2, hr3, hrel⟩ := HCP.out
            have HRUN := Lib.hid (And.intro hr1 (And.intro hr2 hr3))
            have HREL := Lib.hid hrel
            clear HCP hr1 hr2 hr3 hrel HR11 HM11
            go_wp2_with (first | (refine wpList_store_h rfl _ _ rfl _ rfl rfl PV.out ?_; intro w9 e9; rw [hw] at e9; subst e9) | (at_builtin; first | (refine wpList_append_run rfl _ _ _ rfl _ _ _ _ rfl rfl HRUN.out.1 ?_) | (refine wpList_append_run rfl _ _ _ rfl _ _ _ _ rfl rfl HRUN.out.2.1 ?_) | (refine wpList_append_run rfl _ _ _ rfl _ _ _ _ rfl rfl HRUN.out.2.2 ?_)))
            go_roundg (n - (i + 1))
            case measure => have := Z.out.2.2.2; have := HN.out; omega
            case rel => exact ⟨i + 1, g1, c1, g2, c2, g3, c3, _, _, _, by first | rfl | (congr 1; unfold wrap64; have := HN.out; omega), by rw [← HN.out.2.2], by rw [← HN.out.2.2], by rw [← HN.out.2.2], by have := HN.out; omega, HREL.out⟩
          · have m99 : 0 < sza := by omega
            obtain ⟨bz, oz, hAz, hZ1, hZ2⟩ := rw_tail (HR11.out _ (Bt.refl _ _)).2.2.2.2.2.2.2.2.2.2.2.2.2.2.1 HT.out.1.1 HT.out.2.1.ok m99
            subst hAz
            have hkz := HK.out.1
            have hsz9 := HT.out.1.2.2.1
            by_cases hc1 : kza = 1
            · subst hc1
              have hs1 : sza = 1 := by omega
              subst hs1
              have HZ := Lib.hid (hZ1 rfl)
              clear hZ1 hZ2 hz0 hkz
              have x7 : w11.cell? ⟨bH, 0, none⟩ = some (.pointer p2) := (HR11.out _ (Bt.refl _ _)).2.2.1.c0
              have HCP := Lib.hid (counts_push (L := L) (i := i) (t := ta.pop) (z := .slice (some ⟨bz, oz, none⟩) 0 0) HE.out HN.out.2.2 (by have := HN.out; omega) HM11.out (by have := HCM.out; have := HP.out; have := Z.out.1; omega) Z.out.2.1 (by rw [pop_size HT.out.2.1.ok]; have := HT.out.1; omega) (good_pop HT.out.2.1) (HR11.out _ (Bt.refl _ _)).2.2.2.2.2.2.2.2.2.2.2.2.2.2.2.2.1 (HR11.out _ (Bt.refl _ _)).2.2.2.2.2.2.2.2.2.2.2.2.2.2.2.2.2.1 (HR11.out _ (Bt.refl _ _)).2.2.2.2.2.2.2.2.2.2.2.2.2.2.2.2.2.2.1 (HR11.out _ (Bt.refl _ _)).2.2.2.2.2.2.2.2.2.2.2.2.2.2.2.2.2.2.2 HOWN.out (HR11.out _ (Bt.refl _ _)).2.1 (HR11.out _ (Bt.refl _ _)).1 rfl HZ.out (HR11.out _ (Bt.refl _ _)).2.2.2.1 NHU.out.2.2.2.1)
              obtain ⟨g1, c1, W1, g2, c2, W2, g3, c3, W3, hr1, x8, hr2, hr3, hrel⟩ := HCP.out
              have HRUN := Lib.hid (And.intro hr1 (And.intro hr2 hr3))
              have HREL := Lib.hid hrel
              clear HCP hr1 hr2 hr3 hrel HR11 HM11
              go_wp2_with (first | (refine wpList_store_h rfl _ _ rfl _ rfl rfl PV.out ?_; intro w9 e9; rw [hw] at e9; subst e9) | (at_builtin; first | (refine wpList_append_run rfl _ _ _ rfl _ _ _ _ rfl rfl HRUN.out.1 ?_) | (refine wpList_append_run rfl _ _ _ rfl _ _ _ _ rfl rfl HRUN.out.2.1 ?_) | (refine wpList_append_run rfl _ _ _ rfl _ _ _ _ rfl rfl HRUN.out.2.2 ?_)))
              go_roundg (n - (i + 1))
              case measure => have := Z.out.2.2.2; have := HN.out; omega
              case rel => exact ⟨i + 1, g1, c1, g2, c2, g3, c3, _, _, _, by first | rfl | (congr 1; unfold wrap64; have := HN.out; omega), by rw [← HN.out.2.2], by rw [← HN.out.2.2], by rw [← HN.out.2.2], by have := HN.out; omega, HREL.out⟩
            · have l4 : 1 ≤ kza := by omega
              have m0 : ¬ sza < 1 := by omega
              have m1 : 1 ≤ sza := by omega
              have m2 : (1 : Int) ≤ (sza : Int) := by omega
              have m3 : ¬ (sza : Int) < 1 := by omega
              have m4 : ¬ 1 = kza := by omega
              have m5 : 0 < kza := by omega
              have m6 : (sza : Int) ≤ (kza : Int) := by omega
              have m7 : (1 : Int) ≤ (kza : Int) := by omega
              have m8 : ¬ kza - 1 = 0 := by omega
              have m9 : ¬ kza ≤ 1 := by omega
              have m10 : 1 < kza := by omega
              have m11 : (0 : Int) < (sza : Int) := by omega
              have m98 : decide ((0 : Int) < (sza : Int)) = true := by simp; omega
              have HZ := Lib.hid hZ2
              clear hZ1 hZ2
              have x7 : w11.cell? ⟨bH, 0, none⟩ = some (.pointer p2) := (HR11.out _ (Bt.refl _ _)).2.2.1.c0
              have HCP := Lib.hid (counts_push (L := L) (i := i) (t := ta.pop) (z := .slice (some ⟨bz, oz + 1 * 2, none⟩) (sza - 1) (kza - 1)) HE.out HN.out.2.2 (by have := HN.out; omega) HM11.out (by have := HCM.out; have := HP.out; have := Z.out.1; omega) Z.out.2.1 (by rw [pop_size HT.out.2.1.ok]; have := HT.out.1; omega) (good_pop HT.out.2.1) (HR11.out _ (Bt.refl _ _)).2.2.2.2.2.2.2.2.2.2.2.2.2.2.2.2.1 (HR11.out _ (Bt.refl _ _)).2.2.2.2.2.2.2.2.2.2.2.2.2.2.2.2.2.1 (HR11.out _ (Bt.refl _ _)).2.2.2.2.2.2.2.2.2.2.2.2.2.2.2.2.2.2.1 (HR11.out _ (Bt.refl _ _)).2.2.2.2.2.2.2.2.2.2.2.2.2.2.2.2.2.2.2 HOWN.out (HR11.out _ (Bt.refl _ _)).2.1 (HR11.out _ (Bt.refl _ _)).1 rfl HZ.out (HR11.out _ (Bt.refl _ _)).2.2.2.1 NHU.out.2.2.2.1)
              obtain ⟨g1, c1, W1, g2, c2, W2, g3, c3, W3, hr1, x8, hr2, hr3, hrel⟩ := HCP.out
              have HRUN := Lib.hid (And.intro hr1 (And.intro hr2 hr3))
              have HREL := Lib.hid hrel
              clear HCP hr1 hr2 hr3 hrel HR11 HM11
              go_wp2_with (first | (refine wpList_store_h rfl _ _ rfl _ rfl rfl PV.out ?_; intro w9 e9; rw [hw] at e9; subst e9) | (at_builtin; first | (refine wpList_append_run rfl _ _ _ rfl _ _ _ _ rfl rfl HRUN.out.1 ?_) | (refine wpList_append_run rfl _ _ _ rfl _ _ _ _ rfl rfl HRUN.out.2.1 ?_) | (refine wpList_append_run rfl _ _ _ rfl _ _ _ _ rfl rfl HRUN.out.2.2 ?_)))
              go_roundg (n - (i + 1))
              case measure => have := Z.out.2.2.2; have := HN.out; omega
              case rel => exact ⟨i + 1, g1, c1, g2, c2, g3, c3, _, _, _, by first | rfl | (congr 1; unfold wrap64; have := HN.out; omega), by rw [← HN.out.2.2], by rw [← HN.out.2.2], by rw [← HN.out.2.2], by have := HN.out; omega, HREL.out⟩
        have y0 : ((yk : Int) == 0) = false := by simp; omega
        have y1 : ((yk : Int) == 1) = false := by simp; omega
        have y2 : ((yk : Int) == 2) = false := by simp; omega
        have yn0 : ¬ ((yk : Int) = 0) := by omega
        have yn1 : ¬ ((yk : Int) = 1) := by omega
        have yn2 : ¬ ((yk : Int) = 2) := by omega
        obtain ⟨-, -, -, -, -, x4⟩ := HAC.out ((w6.alloc (.cells #[.pointer pa] 29)).alloc (.cells #[.pointer qa] 29)) (HR6.out _ (((Bt.refl _ _).alloc _).alloc _)).2.2.2.2.2.2.2.2.2.2.2.2.2.2.2.below
        go_wp2_with fail
        clear y0 y1 y2 yn0 yn1 yn2
        have hl1 := (HR6.out _ (Bt.refl _ _)).1.lt
        have hl2 := (HR6.out _ (Bt.refl _ _)).2.2.1.lt
        have hl3 := (HR6.out _ (Bt.refl _ _)).2.2.2.2.1.lt
        have hs_bH := (HR6.out _ (Bt.refl _ _)).2.2.2.2.2.2.2.2.2.2.2.2.2.2.2.below.size
        have HM7 := Lib.hid ((HM6.out.alloc (.cells #[.pointer pa] 29)).alloc (.cells #[.pointer qa] 29))
        have hvs := two_vars w6 pa qa
        have HR7 := Lib.hid (fun W (hz : Bt (some mb) ((w6.alloc (.cells #[.pointer pa] 29)).alloc (.cells #[.pointer qa] 29)) W) => And.intro ((hvs.1).bt hz HM7.out) ( And.intro ((hvs.2).bt hz HM7.out) (HR6.out W ((((Bt.refl (some mb) w6).alloc (.cells #[.pointer pa] 29)).alloc (.cells #[.pointer qa] 29)).trans hz))))
        clear HR6 HM6 hvs 
        generalize (w6.alloc (.cells #[.pointer pa] 29)).alloc (.cells #[.pointer qa] 29) = w7 at *
        obtain ⟨bH, h0⟩ : ∃ b, b = w6.heap.size := ⟨_, rfl⟩
        rw [← h0] at HR7 ⊢
        obtain ⟨bG, h1⟩ : ∃ b, b = bH + 1 := ⟨_, rfl⟩
        rw [← h1] at HR7 ⊢
        have B_bH := Lib.hid (show w.heap.size ≤ bH by omega)
        have N_bH_bG := Lib.hid (show bH ≠ bG by omega)
        have B_bG := Lib.hid (show w.heap.size ≤ bG by omega)
        have NHU := Lib.hid (show bH ≠ gu ∧ bH ≠ gv ∧ bH ≠ gs ∧ bG ≠ gu ∧ bG ≠ gv ∧ bG ≠ gs from ⟨by omega, by omega, by omega, by omega, by omega, by omega⟩)
        clear hl1 hl2 hl3
        clear hs_bH h0 h1
        clear x0 x1 x2 x3 x4
        obtain ⟨P, hP⟩ : ∃ P, P = putC .nil yl + putM .nil yl := ⟨_, rfl⟩
        have HP := Lib.hid (show P = putC .nil yl + putM .nil yl ∧ putC .nil yl ≤ 160 ∧ putM .nil yl ≤ 160 from ⟨hP, by have h1 := put_le yl .nil; have := HL.out; omega, by have h1 := put_le yl .nil; have := HL.out; omega⟩)
        clear hP
        have HCM := Lib.hid (show 0 ≤ cc ∧ cc ≤ 300000 ∧ 0 ≤ mm ∧ mm ≤ 300000 from by have := Z.out.1; have := HN.out; omega)
        ((with_reducible refine (ofMeter mb cc mm yA yl nl yc w _ HL.out.1 HL.out.2.1 (by have := HL.out; omega) (HR7.out _ (Bt.refl _ _)).2.2.2.2.2.2.2.2.2.2.2.2.2.2.2.2.2.below B_mb.out HM7.out (by have := HCM.out; omega) (by have := HCM.out; omega) (by have := HCM.out; omega) (by have := HCM.out; omega)).mono ?_); rintro e w8 ⟨p2, rfl, ht, hm, hb⟩)
        have HM8 := Lib.hid hm
        have HR8 := Lib.hid (on_inv (mo := (some mb)) HR7.out hb (fun W hz => ht.bt hz HM8.out))
        clear HR7 HM7 
        clear ht hb hm
        have pv := (HR8.out _ (Bt.refl _ _)).2.1
        have pc := pv.c0
        have pz := pv.z0
        have PV := Lib.hid pv
        clear pv
        obtain ⟨-, -, -, -, -, x5⟩ := HAC.out (w8.setCell ⟨bH, 0, none⟩ (.pointer p2)) ((HR8.out _ (Bt.refl _ _)).2.2.2.2.2.2.2.2.2.2.2.2.2.2.2.2.2.2.set HE.out B_bH.out 0 _).below
        go_wp2_with fail
        have HM9 := Lib.hid (HM8.out.set PV.out (.pointer p2))
        have HR9 := Lib.hid (fun W (hz : Bt (some mb) (w8.setCell ⟨bH, 0, none⟩ (.pointer p2)) W) => And.intro ((((HR8.out _ (Bt.refl _ _)).1.set PV.out (.pointer p2))).bt hz HM9.out) ( And.intro (((PV.out.put p2)).bt hz HM9.out) ( And.intro ((((HR8.out _ (Bt.refl _ _)).2.2.1.set N_bH_bG.out.symm 0 (.pointer p2))).bt hz HM9.out) ( And.intro ((((HR8.out _ (Bt.refl _ _)).2.2.2.1.set NHU.out.1.symm 0 (.pointer p2))).bt hz HM9.out) ( And.intro ((((HR8.out _ (Bt.refl _ _)).2.2.2.2.1.set NHU.out.1.symm 0 (.pointer p2))).bt hz HM9.out) ( And.intro ((((HR8.out _ (Bt.refl _ _)).2.2.2.2.2.1.set NHU.out.2.1.symm 0 (.pointer p2))).bt hz HM9.out) ( And.intro ((((HR8.out _ (Bt.refl _ _)).2.2.2.2.2.2.1.set NHU.out.2.1.symm 0 (.pointer p2))).bt hz HM9.out) ( And.intro ((((HR8.out _ (Bt.refl _ _)).2.2.2.2.2.2.2.1.set NHU.out.2.2.1.symm 0 (.pointer p2))).bt hz HM9.out) ( And.intro ((((HR8.out _ (Bt.refl _ _)).2.2.2.2.2.2.2.2.1.set NHU.out.2.2.1.symm 0 (.pointer p2))).bt hz HM9.out) ( And.intro ((((HR8.out _ (Bt.refl _ _)).2.2.2.2.2.2.2.2.2.1.set PV.out (.pointer p2))).bt hz HM9.out) ( And.intro ((((HR8.out _ (Bt.refl _ _)).2.2.2.2.2.2.2.2.2.2.1.set PV.out (.pointer p2))).bt hz HM9.out) ( And.intro ((((HR8.out _ (Bt.refl _ _)).2.2.2.2.2.2.2.2.2.2.2.1.set PV.out (.pointer p2))).bt hz HM9.out) ( And.intro ((((HR8.out _ (Bt.refl _ _)).2.2.2.2.2.2.2.2.2.2.2.2.1.set PV.out (.pointer p2))).bt hz HM9.out) ( And.intro ((((HR8.out _ (Bt.refl _ _)).2.2.2.2.2.2.2.2.2.2.2.2.2.1.set PV.out (.pointer p2))).bt hz HM9.out) ( And.intro ((((HR8.out _ (Bt.refl _ _)).2.2.2.2.2.2.2.2.2.2.2.2.2.2.1.set PV.out (.pointer p2))).bt hz HM9.out) ( And.intro ((((HR8.out _ (Bt.refl _ _)).2.2.2.2.2.2.2.2.2.2.2.2.2.2.2.1.set PV.out NHU.out.1 (.pointer p2))).bt hz HM9.out) ( And.intro ((((HR8.out _ (Bt.refl _ _)).2.2.2.2.2.2.2.2.2.2.2.2.2.2.2.2.1.set PV.out NHU.out.2.1 (.pointer p2))).bt hz HM9.out) ( And.intro ((((HR8.out _ (Bt.refl _ _)).2.2.2.2.2.2.2.2.2.2.2.2.2.2.2.2.2.1.set PV.out (.pointer p2))).bt hz HM9.out) ((((HR8.out _ (Bt.refl _ _)).2.2.2.2.2.2.2.2.2.2.2.2.2.2.2.2.2.2.set HE.out B_bH.out 0 (.pointer p2))).bt HE.out hz (fun b e => by cases e; exact B_mb.out))))))))))))))))))))
        clear HR8 HM8 PV pc pz 
        generalize w8.setCell ⟨bH, 0, none⟩ (.pointer p2) = w9 at *
        clear x5
        ((with_reducible refine (ofRow yA yl nl yc w _ HL.out.1 HL.out.2.1 (by have := HL.out; omega) (HR9.out _ (Bt.refl _ _)).2.2.2.2.2.2.2.2.2.2.2.2.2.2.2.2.2.2.below).mono ?_); rintro e w10 ⟨q2, rfl, ht, hb⟩)
        have HM10 := Lib.hid (HM9.out.stay hb)
        have HR10 := Lib.hid (on_inv (mo := (some mb)) HR9.out (Bt.ofBelow hb) (fun W hz => ht.bt hz HM10.out))
        clear HR9 HM9 
        clear ht hb
        have pv := (HR10.out _ (Bt.refl _ _)).2.2.2.1
        have pc := pv.c0
        have pz := pv.z0
        have PV := Lib.hid pv
        clear pv
        obtain ⟨-, -, -, -, -, x5⟩ := HAC.out (w10.setCell ⟨bG, 0, none⟩ (.pointer q2)) ((HR10.out _ (Bt.refl _ _)).2.2.2.2.2.2.2.2.2.2.2.2.2.2.2.2.2.2.2.set HE.out B_bG.out 0 _).below
        go_wp2_with fail
        have HM11 := Lib.hid (HM10.out.set PV.out (.pointer q2))
        have HR11 := Lib.hid (fun W (hz : Bt (some mb) (w10.setCell ⟨bG, 0, none⟩ (.pointer q2)) W) => And.intro ((((HR10.out _ (Bt.refl _ _)).1.set PV.out (.pointer q2))).bt hz HM11.out) ( And.intro ((((HR10.out _ (Bt.refl _ _)).2.1.set PV.out (.pointer q2))).bt hz HM11.out) ( And.intro ((((HR10.out _ (Bt.refl _ _)).2.2.1.set N_bH_bG.out 0 (.pointer q2))).bt hz HM11.out) ( And.intro (((PV.out.put q2)).bt hz HM11.out) ( And.intro ((((HR10.out _ (Bt.refl _ _)).2.2.2.2.1.set NHU.out.2.2.2.1.symm 0 (.pointer q2))).bt hz HM11.out) ( And.intro ((((HR10.out _ (Bt.refl _ _)).2.2.2.2.2.1.set NHU.out.2.2.2.1.symm 0 (.pointer q2))).bt hz HM11.out) ( And.intro ((((HR10.out _ (Bt.refl _ _)).2.2.2.2.2.2.1.set NHU.out.2.2.2.2.1.symm 0 (.pointer q2))).bt hz HM11.out) ( And.intro ((((HR10.out _ (Bt.refl _ _)).2.2.2.2.2.2.2.1.set NHU.out.2.2.2.2.1.symm 0 (.pointer q2))).bt hz HM11.out) ( And.intro ((((HR10.out _ (Bt.refl _ _)).2.2.2.2.2.2.2.2.1.set NHU.out.2.2.2.2.2.symm 0 (.pointer q2))).bt hz HM11.out) ( And.intro ((((HR10.out _ (Bt.refl _ _)).2.2.2.2.2.2.2.2.2.1.set NHU.out.2.2.2.2.2.symm 0 (.pointer q2))).bt hz HM11.out) ( And.intro ((((HR10.out _ (Bt.refl _ _)).2.2.2.2.2.2.2.2.2.2.1.set PV.out (.pointer q2))).bt hz HM11.out) ( And.intro ((((HR10.out _ (Bt.refl _ _)).2.2.2.2.2.2.2.2.2.2.2.1.set PV.out (.pointer q2))).bt hz HM11.out) ( And.intro ((((HR10.out _ (Bt.refl _ _)).2.2.2.2.2.2.2.2.2.2.2.2.1.set PV.out (.pointer q2))).bt hz HM11.out) ( And.intro ((((HR10.out _ (Bt.refl _ _)).2.2.2.2.2.2.2.2.2.2.2.2.2.1.set PV.out (.pointer q2))).bt hz HM11.out) ( And.intro ((((HR10.out _ (Bt.refl _ _)).2.2.2.2.2.2.2.2.2.2.2.2.2.2.1.set PV.out (.pointer q2))).bt hz HM11.out) ( And.intro ((((HR10.out _ (Bt.refl _ _)).2.2.2.2.2.2.2.2.2.2.2.2.2.2.2.1.set PV.out (.pointer q2))).bt hz HM11.out) ( And.intro ((((HR10.out _ (Bt.refl _ _)).2.2.2.2.2.2.2.2.2.2.2.2.2.2.2.2.1.set PV.out NHU.out.2.2.2.1 (.pointer q2))).bt hz HM11.out) ( And.intro ((((HR10.out _ (Bt.refl _ _)).2.2.2.2.2.2.2.2.2.2.2.2.2.2.2.2.2.1.set PV.out NHU.out.2.2.2.2.1 (.pointer q2))).bt hz HM11.out) ( And.intro ((((HR10.out _ (Bt.refl _ _)).2.2.2.2.2.2.2.2.2.2.2.2.2.2.2.2.2.2.1.set PV.out (.pointer q2))).bt hz HM11.out) ((((HR10.out _ (Bt.refl _ _)).2.2.2.2.2.2.2.2.2.2.2.2.2.2.2.2.2.2.2.set HE.out B_bG.out 0 (.pointer q2))).bt HE.out hz (fun b e => by cases e; exact B_mb.out)))))))))))))))))))))
        clear HR10 HM10 PV pc pz 
        generalize w10.setCell ⟨bG, 0, none⟩ (.pointer q2) = w11 at *
        clear x5
        ((with_reducible refine (sortRow yA yl nl yc w _ HL.out.1 HL.out.2.1 (by have := HL.out; omega) (HR11.out _ (Bt.refl _ _)).2.2.2.2.2.2.2.2.2.2.2.2.2.2.2.2.2.2.2.below).mono ?_); rintro e w12 ⟨vz, rfl, ht, hb⟩)
        have HM12 := Lib.hid (HM11.out.stay hb)
        have HR12 := Lib.hid (on_inv (mo := (some mb)) HR11.out (Bt.ofBelow hb) (fun W hz => ((show Rw _ _ (srt (ofL yl).all) by rw [srt_of]; exact ht)).bt hz HM12.out))
        clear HR11 HM11 
        clear ht hb
        obtain ⟨Avz, kvz, e9, -⟩ := (HR12.out _ (Bt.refl _ _)).1.form
        subst e9
        have x7 : w12.cell? ⟨bH, 0, none⟩ = some (.pointer p2) := (HR12.out _ (Bt.refl _ _)).2.2.2.1.c0
        have HCP := Lib.hid (counts_push (L := L) (i := i) (t := ofL yl) (z := _) HE.out HN.out.2.2 (by have := HN.out; omega) HM12.out (by have := HCM.out; have := HP.out; have := HL.out; have := Z.out.1; omega) Z.out.2.1 (by rw [ofL_size]; have := HL.out; omega) (good_of HL.out.2.2.2) (HR12.out _ (Bt.refl _ _)).2.2.2.2.2.2.2.2.2.2.2.2.2.2.2.2.2.1 (HR12.out _ (Bt.refl _ _)).2.2.2.2.2.2.2.2.2.2.2.2.2.2.2.2.2.2.1 (HR12.out _ (Bt.refl _ _)).2.2.2.2.2.2.2.2.2.2.2.2.2.2.2.2.2.2.2.1 (HR12.out _ (Bt.refl _ _)).2.2.2.2.2.2.2.2.2.2.2.2.2.2.2.2.2.2.2.2 HOWN.out (HR12.out _ (Bt.refl _ _)).2.2.1 (HR12.out _ (Bt.refl _ _)).2.1 rfl (HR12.out _ (Bt.refl _ _)).1 (HR12.out _ (Bt.refl _ _)).2.2.2.2.1 NHU.out.2.2.2.1)
        obtain ⟨g1, c1, W1, g2, c2, W2, g3, c3, W3, hr1, x8, hr2, hr3, hrel⟩ := HCP.out
        have HRUN := Lib.hid (And.intro hr1 (And.intro hr2 hr3))
        have HREL := Lib.hid hrel
        clear HCP hr1 hr2 hr3 hrel HR12 HM12
        go_wp2_with (first | (at_builtin; first | (refine wpList_append_run rfl _ _ _ rfl _ _ _ _ rfl rfl HRUN.out.1 ?_) | (refine wpList_append_run rfl _ _ _ rfl _ _ _ _ rfl rfl HRUN.out.2.1 ?_) | (refine wpList_append_run rfl _ _ _ rfl _ _ _ _ rfl rfl HRUN.out.2.2 ?_)))
        go_roundg (n - (i + 1))
        case measure => have := Z.out.2.2.2; have := HN.out; omega
        case rel => exact ⟨i + 1, g1, c1, g2, c2, g3, c3, _, _, _, by first | rfl | (congr 1; unfold wrap64; have := HN.out; omega), by rw [← HN.out.2.2], by rw [← HN.out.2.2], by rw [← HN.out.2.2], by have := HN.out; omega, HREL.out⟩
      · have i1 : ¬ (i : Int) < (n : Int) := by omega
        have i2 : decide ((i : Int) < (n : Int)) = false := by simp; omega
        have HM23 := Lib.hid (show MAt wr (none : Option Nat) 0 0 from trivial)
        have HR23 := Lib.hid (fun W (hz : Bt none wr W) => And.intro ((hUU).bt hz HM23.out) ( And.intro ((hVV).bt hz HM23.out) ( And.intro ((hSS).bt hz HM23.out) ((hrel.bas).bt HE.out hz (fun _ e => by cases e)))))
        have HLL := Lib.hid (show L = i + 1 ∧ L ≤ 31 from ⟨hL, by have := HF.out.1; omega⟩)
        clear hUU hVV hSS hrel hL hk hlt
        go_wp2_with fail
        clear i1 i2
        go_loopg [15] L (fun k iv w2 => ∃ (j : Nat), iv = .int .i64 (j : Int) ∧ j + k = L ∧ HCol w2 w.heap.size (.slice (some ⟨gu, 0, none⟩) L cu) ts ∧ HCol w2 w.heap.size (.slice (some ⟨gv, 0, none⟩) L cv) ts ∧ SCol w2 w.heap.size (.slice (some ⟨gs, 0, none⟩) L cs) ts ∧ Bas w w2)
        case atStart => exact ⟨0, rfl, by omega, (HR23.out _ (Bt.refl _ _)).1, (HR23.out _ (Bt.refl _ _)).2.1, (HR23.out _ (Bt.refl _ _)).2.2.1, (HR23.out _ (Bt.refl _ _)).2.2.2⟩
        case round =>
          clear HR23 HM23
          obtain ⟨j, rfl, hj, hUU, hVV, hSS, hB⟩ := hrel
          by_cases hlt : j < L
          · obtain ⟨t, ht, hst, hgt⟩ := Z.out.2.1.at (j := j) (by have := HLL.out; omega)
            obtain ⟨p, cua, lpa⟩ := Col.cell hUU ht
            obtain ⟨q, cva, lqa⟩ := Col.cell hVV ht
            obtain ⟨z, csa, lza⟩ := Col.cell hSS ht
            have HM34 := Lib.hid (show MAt wr (none : Option Nat) 0 0 from trivial)
            have HR34 := Lib.hid (fun W (hz : Bt none wr W) => And.intro ((cua).bt hz HM34.out) ( And.intro ((cva).bt hz HM34.out) ( And.intro ((csa).bt hz HM34.out) ( And.intro ((lpa).bt hz HM34.out) ( And.intro ((lqa).bt hz HM34.out) ( And.intro ((lza).bt hz HM34.out) ( And.intro ((hUU).bt hz HM34.out) ( And.intro ((hVV).bt hz HM34.out) ( And.intro ((hSS).bt hz HM34.out) ((hB).bt HE.out hz (fun _ e => by cases e)))))))))))
            obtain ⟨s, hs⟩ : ∃ s, s = t.size := ⟨_, rfl⟩
            have HT := Lib.hid (show s = t.size ∧ s ≤ 121 ∧ t.good ∧ j + gk = L from ⟨hs, by omega, hgt, hj⟩)
            have hza := lza.form
            rw [srt_length, Lh.all_length, ← hs] at hza
            obtain ⟨Az, kz, rfl, -, hk1, hk2, -⟩ := hza
            have j0 : (0 : Int) ≤ (j : Int) := by omega
            have j1 : (j : Int) < (L : Int) := by omega
            have j2 : decide ((j : Int) < (L : Int)) = true := by simp; omega
            have wj : IntKind.i64.wrap ((j : Int) + 1) = (j : Int) + 1 := by have := HLL.out; rw [IntKind.wrap_i64]; omega
            clear ht hst hgt cua cva csa lpa lqa lza hUU hVV hSS hB hs hj hk1 hk2 hlt
            have x0 := (HR34.out _ (Bt.refl _ _)).1.c
            go_wp2_with fail
            ((with_reducible refine (drainRw t p 300 _ (HR34.out _ (Bt.refl _ _)).2.2.2.1 HT.out.2.2.1.ok (by have := HT.out; omega) (by decide) (by have := HT.out; omega)).mono ?_); rintro e w35 ⟨vd, rfl, ht, hb⟩)
            have HM35 := Lib.hid (show MAt w35 (none : Option Nat) 0 0 from trivial)
            have HR35 := Lib.hid (on_inv (mo := none) HR34.out (Bt.ofBelow hb) (fun W hz => ht.bt hz HM35.out))
            clear HR34 HM34 
            clear ht hb x0
            go_wp2_with fail
            have kc0 := fun d os => cell_regrown (HR35.out _ (Bt.refl _ _)).2.1.c d os
            have kc1 := fun d os => cell_regrown (HR35.out _ (Bt.refl _ _)).2.2.1.c d os
            have kc2 := fun d os => cell_regrown (HR35.out _ (Bt.refl _ _)).2.2.2.1.c d os
            have HC1 := Lib.hid (fun d os => in_class (w := w35) (fun W hb => sameIs vd (.slice Az s kz) _ _ W (HR35.out _ (Bt.ofBelow hb)).1 (HR35.out _ (Bt.ofBelow hb)).2.2.2.2.2.2.1 (by rw [srt_length, Lh.all_length]; have := HT.out; omega) rfl) d os)
            have HC2 := Lib.hid (fun d os => in_class (w := w35) (fun W hb => ((size_any t p W (HR35.out _ (Bt.ofBelow hb)).2.2.2.2.1).mono fun _ _ ⟨he, hb2⟩ => ⟨(show _ = Ending.returned (.int .i64 (s : Int)) by rw [he, ← HT.out.1]), hb2⟩)) d os)
            have HC3 := Lib.hid (fun d os => in_class (w := w35) (fun W hb => show_any t p W (HR35.out _ (Bt.ofBelow hb)).2.2.2.2.2.2.2.2.2.2.env (HR35.out _ (Bt.ofBelow hb)).2.2.2.2.1 HT.out.2.2.1.fit (by have := HT.out; omega)) d os)
            have HC4 := Lib.hid (fun d os => in_class (w := w35) (fun W hb => show_any t q W (HR35.out _ (Bt.ofBelow hb)).2.2.2.2.2.2.2.2.2.2.env (HR35.out _ (Bt.ofBelow hb)).2.2.2.2.2.1 HT.out.2.2.1.fit (by have := HT.out; omega)) d os)
            rw [world_self w35]
            generalize w35.drawn = d0
            generalize (#[] : Array Obj) = os0
            refine wp_region_class (by kernel_rfl) (by kernel_rfl) ?_
            repeat (go_big_quiet_step (first | (with_reducible exact HC1.out _ _) | (with_reducible exact HC2.out _ _) | (with_reducible exact HC3.out _ _) | (with_reducible exact HC4.out _ _) | fail))
            refine wpQuiet_nil ?_
            intro _ hw'
            obtain ⟨⟨dq, osq⟩, hw''⟩ := hw'
            subst hw''
            have hb := below_regrown w35 dq osq
            have HM36 := Lib.hid (show MAt (grow (redrawn w35 dq) osq) (none : Option Nat) 0 0 from trivial)
            have HR36 := Lib.hid (fun W (hz : Bt none (grow (redrawn w35 dq) osq) W) => HR35.out W ((Bt.ofBelow hb).trans hz))
            clear HR35 HM35 hb kc0 kc1 kc2 HC1 HC2 HC3 HC4 
            generalize grow (redrawn w35 dq) osq = w36 at *
            go_wp2_with fail
            go_roundg (L - 1 - j)
            case measure => have := HT.out; have := HLL.out; omega
            case rel => exact ⟨j + 1, by first | rfl | (congr 1; unfold wrap64; have := HLL.out; omega), by have := HT.out; omega, (HR36.out _ (Bt.refl _ _)).2.2.2.2.2.2.2.1, (HR36.out _ (Bt.refl _ _)).2.2.2.2.2.2.2.2.1, (HR36.out _ (Bt.refl _ _)).2.2.2.2.2.2.2.2.2.1, (HR36.out _ (Bt.refl _ _)).2.2.2.2.2.2.2.2.2.2⟩
          · have j1 : ¬ (j : Int) < (L : Int) := by omega
            have j2 : decide ((j : Int) < (L : Int)) = false := by simp; omega
            go_wp2_with fail
            go_ret
            exact ⟨rfl, hB.below⟩

end Go.Proofs.YtlmokendajgbdaaGreatDoor.Bo
