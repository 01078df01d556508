/-
  The walk of the statement ElemSorts: for any row and any byte it returns true, and nothing that was there has changed, in any world where the library's own variables hold what they were laid as.
-/
import Derived.Test.YtcbfnghkbopkfaaDoorSortsPlain
namespace Go.Proofs.YtcbfnghkbopkfaaDoor
open Go.Sort Go.RowKit

/-- What holds at the rounds' heads, loop by loop. -/
def RotRel (l : List (Int × Int)) (y : Nat) (w1 : World) (out i : Value) (wr : World) : Prop :=
  ∃ (k : Nat) (A : Option Addr) (c : Nat), k ≤ l.length ∧ i = .int .i64 k ∧ out = .slice A k c ∧ Own wr w1.heap.size (.slice A k c) (rotTo l y k) ∧ Below w1.heap.size w1 wr
def UpRel (n : Nat) (w3 : World) (i : Value) (wr : World) : Prop := ∃ k : Nat, 1 ≤ k ∧ k ≤ n ∧ i = .int .i64 k ∧ ∃ p : Regrown, wr = grow (redrawn w3 p.d) p.os
def OutRel (n : Nat) (w3 : World) (i : Value) (wr : World) : Prop := ∃ k : Nat, k ≤ n ∧ i = .int .i64 k ∧ ∃ p : Regrown, wr = grow (redrawn w3 p.d) p.os
def InRel (l s : List (Int × Int)) (e : Int × Int) (n : Nat) (w3 : World) (cnt kv : Value) (wr : World) : Prop :=
  ∃ k : Nat, k ≤ n ∧ kv = .int .i64 k ∧ cnt = .int .i64 (diffTo l s e k) ∧ ∃ p : Regrown, wr = grow (redrawn w3 p.d) p.os

set_option maxHeartbeats 1000000 in
theorem sorts_easy (A : Option Addr) (n ca : Nat) (z : Int) (w : World) (he : Env w) (h : 60 < n ∨ n = 0) (hm : n ≤ 9223372036854775807) :
    Calls Tryd.prog 6 #[.slice A n ca, .int .u8 z] w fun e w' => e = .returned (.bool true) ∧ Below w.heap.size w w' := by
  rcases h with h | h
  · go_enter Tryd.func6, Tryd.ntmps6
    go_wp2_with fail
    ((with_reducible refine (awake_any _ he).mono ?_); rintro e w1 ⟨rfl, hb1⟩)
    go_wp2_with fail
    go_ret
    exact ⟨rfl, hb1⟩
  · subst h
    go_enter Tryd.func6, Tryd.ntmps6
    go_wp2_with fail
    ((with_reducible refine (awake_any _ he).mono ?_); rintro e w1 ⟨rfl, hb1⟩)
    go_wp2_with fail
    go_ret
    exact ⟨rfl, hb1⟩

/-- How two elements may be held against each other. -/
theorem eq_cases (x e : Int × Int) : (x = e) ∨ (¬ x = e ∧ ¬ x.1 = e.1) ∨ (¬ x = e ∧ x.1 = e.1 ∧ ¬ x.2 = e.2) := by
  by_cases h : x = e
  · exact Or.inl h
  · by_cases h1 : x.1 = e.1
    · exact Or.inr (Or.inr ⟨h, h1, fun h2 => h (Prod.ext h1 h2)⟩)
    · exact Or.inr (Or.inl ⟨h, h1⟩)

set_option maxHeartbeats 4000000 in
set_option maxRecDepth 100000 in
theorem sorts_short (b o n ca y : Nat) (l : List (Int × Int)) (w : World) (he : Env w) (hn : n = l.length) (h0 : 0 < n) (h60 : n ≤ 60) (hy : y ≤ 255)
    (hr : ∀ j v, (cellsE l)[j]? = some v → w.cell? ⟨b, o + j, none⟩ = some v) :
    Calls Tryd.prog 6 #[.slice (some ⟨b, o, none⟩) n ca, .int .u8 (y : Int)] w fun e w' => e = .returned (.bool true) ∧ Below w.heap.size w w' := by
  have h61 : decide ((60 : Int) < (n : Int)) = false := by simp; omega
  have hz0 : ((n : Int) == 0) = false := by rw [beq_eq_false_iff_ne]; omega
  have hls := srt_length l
  have HR := Lib.hid hr
  have HN := Lib.hid hn
  have HLS := Lib.hid hls
  have HE := Lib.hid he
  clear hr hn he hls
  go_enter Tryd.func6, Tryd.ntmps6
  go_wp2_with fail
  ((with_reducible refine (awake_any _ HE.out).mono ?_); rintro e w1 ⟨rfl, hb1⟩)
  have hr1 : ∀ j v, (cellsE l)[j]? = some v → w1.cell? ⟨b, o + j, none⟩ = some v := fun j v hv => by
    have := HR.out j v hv
    rw [hb1.cell (block_lt_of_cell this)]; exact this
  have HR1 := Lib.hid hr1
  have HW1 := Lib.hid hb1
  clear hr1 hb1 HE HR
  go_wp2_with fail
  go_loopw [6, 7] (fun out i wr => RotRel l y w1 out i wr) (fun _ i _ => n - (intOf i).toNat)
  case atStart => exact ⟨0, none, 0, Nat.zero_le _, rfl, rfl, Own.none _ _, Below.refl _ _⟩
  case round =>
    obtain ⟨k, A, c, hkk, rfl, rfl, hown, hb⟩ := hrel
    have hn := HN.out
    by_cases hlt : k < n
    · have hidx : (k + y) % n < n := Nat.mod_lt _ h0
      have hidl : (k + y) % l.length < l.length := by rw [← hn]; exact hidx
      have e1 := row_at HR1.out ((k + y) % l.length) hidl
      have hrot := rotTo_succ l y k hidl
      have hlen := rotTo_length l y k
      have hlen1 := rotTo_length l y (k + 1)
      generalize l[(k + y) % l.length] = e at *
      rw [← hn] at e1
      have ke0 : wr.cell? ⟨b, o + (k + y) % n * 2, none⟩ = some (.int .i64 e.1) := by rw [hb.cell (block_lt_of_cell e1.1)]; exact e1.1
      have ke1 : wr.cell? ⟨b, o + (k + y) % n * 2 + 1, none⟩ = some (.int .i64 e.2) := by rw [hb.cell (block_lt_of_cell e1.2)]; exact e1.2
      have hbx := (Below.refl wr.heap.size wr).alloc (Nat.le_refl _) (.cells #[.int .i64 e.1, .int .i64 e.2] 23)
      obtain ⟨v', w', run, own', gr⟩ := append_row (wr.alloc (.cells #[.int .i64 e.1, .int .i64 e.2] 23)) w1.heap.size (.slice A k c) (rotTo l y k) [e] (some ⟨wr.heap.size, 0, none⟩) 1 (hown.below hbx) (row_new wr [e] 23) (fun e => by cases e) (by simp; omega) (by have := hb.size; simp; omega)
      have hbw := hb.trans (hbx.mono hb.size)
      have hb' := below_grown hbw gr hbw.size hown.block
      rw [← hrot] at own'
      obtain ⟨A', c', hv', -, -, -, -⟩ := own'.form
      subst hv'
      rw [hlen1] at own' run
      have RUN := Lib.hid run
      have OWN := Lib.hid own'
      have HB' := Lib.hid hb'
      clear run own' hb' hbw hbx gr hrot hlen hlen1 e1 hn hidl hown hb
      have hi : ((k : Int) + (y : Int)) % (n : Int) = (((k + y) % n : Nat) : Int) := by simp
      have hi0 : 0 ≤ ((k : Int) + (y : Int)) % (n : Int) := by rw [hi]; exact Int.natCast_nonneg _
      have hi1 : ((k : Int) + (y : Int)) % (n : Int) < (n : Int) := by rw [hi]; exact Int.ofNat_lt.2 hidx
      have hi2 : (((k : Int) + (y : Int)) % (n : Int)).toNat = (k + y) % n := by rw [hi]; exact Int.toNat_natCast _
      clear hi
      go_wp2_with (at_builtin; refine wpList_append_run rfl _ _ _ rfl _ _ _ _ rfl rfl RUN.out ?_)
      go_roundw
      case rel => exact ⟨k + 1, A', c', by have := HN.out; omega, by go_num, rfl, OWN.out, HB'.out⟩
      case measure => simp [intOf]; omega
    · have hkn : n = k := by omega
      subst hkn
      obtain ⟨wo, hwo⟩ : ∃ wo : World, wo = wr := ⟨_, rfl⟩
      subst hwo
      have hlenm := rotTo_length l y n
      have hsm : srt (rotTo l y n) = srt l := by rw [hn]; exact srt_of_perm (rot_perm l y)
      obtain ⟨Am, cm, hvm, rowM, -, -, -⟩ := hown.form
      injection hvm with e1 e2 e3
      subst e1
      subst e3
      clear e2
      have rl : Row wo (some ⟨b, o, none⟩) l := fun _ => ⟨b, o, rfl, fun j v hv => by have := HR1.out j v hv; rw [hb.cell (block_lt_of_cell this)]; exact this⟩
      have hcs := sort_any (some ⟨b, o, none⟩) l ca wo (by omega) rl
      unfold Sorted at hcs
      rw [← hn] at hcs
      have HCS := Lib.hid hcs
      have ROWM := Lib.hid rowM
      have RL := Lib.hid rl
      have HLM := Lib.hid (And.intro hlenm hsm)
      have HW2 := Lib.hid (HW1.out.trans (hb.mono HW1.out.size))
      clear hcs rowM rl hlenm hsm hown hb hn HR1 HW1
      go_wp2_with fail
      ((with_reducible refine HCS.out.mono ?_); rintro e w3 ⟨g, rfl, rowS, hb3⟩)
      have rowM3 := ROWM.out.below hb3
      have rowL3 := RL.out.below hb3
      have hw3 := HW2.out.trans (hb3.mono HW2.out.size)
      have hls := HLS.out
      have hn := HN.out
      obtain ⟨g', o', eg, hS⟩ := rowS (by omega)
      injection eg with eg
      injection eg with eg1 eg2 _
      subst eg1
      subst eg2
      have hS' : ∀ j v, (cellsE (srt l))[j]? = some v → w3.cell? ⟨g, j, none⟩ = some v := fun j v hv => by have := hS j v hv; rwa [Nat.zero_add] at this
      obtain ⟨b', o', eb, hL⟩ := rowL3 (by omega)
      injection eb with eb
      injection eb with eb1 eb2 _
      subst eb1
      subst eb2
      have SC := Lib.hid hS'
      have LC := Lib.hid hL
      have ROWS := Lib.hid rowS
      have ROWM3 := Lib.hid rowM3
      have HW3 := Lib.hid hw3
      clear hS hS' hL rowS rowM3 rowL3 hw3 hls hn hb3 HCS ROWM RL HW2
      go_wp2_with fail
      go_loopw [9] (fun i wr => UpRel n w3 i wr) (fun i _ => n - (intOf i).toNat)
      case atStart => exact ⟨1, Nat.le_refl _, by omega, rfl, ⟨w3.drawn, #[]⟩, world_self w3⟩
      case round =>
        obtain ⟨j, hj1, hjn, rfl, ⟨d, os⟩, rfl⟩ := hrel
        by_cases hlt2 : j < n
        · have hn := HN.out
          have hls := HLS.out
          have hjs : j < (srt l).length := by omega
          have hjs1 : j - 1 < (srt l).length := by omega
          have c1 := row_at (o := 0) (fun i v hv => by rw [Nat.zero_add]; exact SC.out i v hv) j hjs
          have c2 := row_at (o := 0) (fun i v hv => by rw [Nat.zero_add]; exact SC.out i v hv) (j - 1) hjs1
          rw [Nat.zero_add] at c1 c2
          have hlt := srt_next l j hj1 hjs
          generalize (srt l)[j] = x1 at *
          generalize (srt l)[j - 1] = x2 at *
          have k0 := fun d os => cell_regrown c1.1 d os
          have k1 := fun d os => cell_regrown c1.2 d os
          have k2 := fun d os => cell_regrown c2.1 d os
          have k3 := fun d os => cell_regrown c2.2 d os
          have HL1 := Lib.hid (fun d os => less_class w3 x1.1 x1.2 x2.1 x2.2 false hlt d os)
          clear c1 c2 hlt hn hls hjs hjs1
          go_wp2_with fail
          refine wp_region_class (by kernel_rfl) (by kernel_rfl) ?_
          repeat (go_big_quiet_step ((with_reducible exact HL1.out _ _)))
          refine wpQuiet_nil ?_
          intro _ hw'
          obtain ⟨⟨dq, osq⟩, hw''⟩ := hw'
          subst hw''
          go_wp2_with fail
          go_roundw
          case rel => exact ⟨j + 1, by omega, by omega, by go_num, ⟨dq, osq⟩, rfl⟩
          case measure => simp [intOf]; omega
        · obtain ⟨d1, hd1⟩ : ∃ d1 : Nat, d1 = d := ⟨_, rfl⟩
          subst hd1
          go_wp2_with fail
          go_loopw [10] (fun i wr => OutRel n w3 i wr) (fun i _ => n - (intOf i).toNat)
          case atStart => exact ⟨0, Nat.zero_le _, rfl, ⟨d1, os⟩, rfl⟩
          case round =>
            obtain ⟨i, hin, rfl, ⟨d2, os2⟩, rfl⟩ := hrel
            by_cases hlt3 : i < n
            · have hn := HN.out
              have hil : i < l.length := by omega
              have ce := row_at LC.out i hil
              obtain ⟨e, hee⟩ : ∃ e, e = l[i] := ⟨_, rfl⟩
              rw [← hee] at ce
              clear hee hil
              obtain ⟨e1, e2⟩ := e
              simp only at ce
              have ke0 := fun d os => cell_regrown ce.1 d os
              have ke1 := fun d os => cell_regrown ce.2 d os
              clear ce hn
              go_wp2_with fail
              go_loopw [11, 12] (fun cnt kv wr => InRel l (srt l) (e1, e2) n w3 cnt kv wr) (fun _ kv _ => n - (intOf kv).toNat)
              case atStart => exact ⟨0, Nat.zero_le _, rfl, rfl, ⟨d2, os2⟩, rfl⟩
              case round =>
                obtain ⟨k, hkn, rfl, rfl, ⟨d3, os3⟩, rfl⟩ := hrel
                have hn := HN.out
                by_cases hlt4 : k < n
                · have hls := HLS.out
                  have hkl : k < l.length := by omega
                  have hks : k < (srt l).length := by omega
                  have cx := row_at LC.out k hkl
                  have cy := row_at (o := 0) (fun i v hv => by rw [Nat.zero_add]; exact SC.out i v hv) k hks
                  rw [Nat.zero_add] at cy
                  have hdiff := diffTo_succ l (srt l) (e1, e2) k hkl hks
                  have hbd := diffTo_bound l (srt l) (e1, e2) k
                  generalize l[k] = x at *
                  generalize (srt l)[k] = yy at *
                  obtain ⟨x1, x2⟩ := x
                  obtain ⟨y1, y2⟩ := yy
                  simp only [Prod.mk.injEq] at cx cy hdiff
                  have kx0 := fun d os => cell_regrown cx.1 d os
                  have kx1 := fun d os => cell_regrown cx.2 d os
                  have ky0 := fun d os => cell_regrown cy.1 d os
                  have ky1 := fun d os => cell_regrown cy.2 d os
                  have hx : ∃ a : Int, (if x1 = e1 ∧ x2 = e2 then (1 : Int) else 0) = a ∧ ((a = 1 ∧ e1 = x1 ∧ e2 = x2) ∨ (a = 0 ∧ ¬ x1 = e1) ∨ (a = 0 ∧ e1 = x1 ∧ ¬ x2 = e2)) := by
                    refine ⟨_, rfl, ?_⟩
                    by_cases h1 : x1 = e1
                    · by_cases h2 : x2 = e2
                      · exact Or.inl ⟨by simp [h1, h2], h1.symm, h2.symm⟩
                      · exact Or.inr (Or.inr ⟨by simp [h2], h1.symm, h2⟩)
                    · exact Or.inr (Or.inl ⟨by simp [h1], h1⟩)
                  have hyc : ∃ a : Int, (if y1 = e1 ∧ y2 = e2 then (1 : Int) else 0) = a ∧ ((a = 1 ∧ e1 = y1 ∧ e2 = y2) ∨ (a = 0 ∧ ¬ y1 = e1) ∨ (a = 0 ∧ e1 = y1 ∧ ¬ y2 = e2)) := by
                    refine ⟨_, rfl, ?_⟩
                    by_cases h1 : y1 = e1
                    · by_cases h2 : y2 = e2
                      · exact Or.inl ⟨by simp [h1, h2], h1.symm, h2.symm⟩
                      · exact Or.inr (Or.inr ⟨by simp [h2], h1.symm, h2⟩)
                    · exact Or.inr (Or.inl ⟨by simp [h1], h1⟩)
                  obtain ⟨a, ha, hax⟩ := hx
                  obtain ⟨a', ha', hay⟩ := hyc
                  rw [ha, ha'] at hdiff
                  have HD := Lib.hid hdiff
                  have hb1 : -60 ≤ diffTo l (srt l) (e1, e2) k := by omega
                  have hb2 : diffTo l (srt l) (e1, e2) k ≤ 60 := by omega
                  clear ha ha' hdiff hbd cx cy hls hkl hks hn
                  rcases hax with ⟨rfl, rfl, rfl⟩ | ⟨rfl, hx1⟩ | ⟨rfl, rfl, hx2⟩ <;> rcases hay with ⟨rfl, rfl, rfl⟩ | ⟨rfl, hy1⟩ | ⟨rfl, rfl, hy2⟩
                  all_goals
                    go_wp2_with fail
                    refine wp_region_class (by kernel_rfl) (by kernel_rfl) ?_
                    repeat (go_big_quiet_step (fail))
                    refine wpQuiet_nil ?_
                    intro _ hw'
                    obtain ⟨⟨dq, osq⟩, hw''⟩ := hw'
                    subst hw''
                    go_wp2_with fail
                    refine wp_region_class (by kernel_rfl) (by kernel_rfl) ?_
                    repeat (go_big_quiet_step (fail))
                    refine wpQuiet_nil ?_
                    intro _ hw'
                    obtain ⟨⟨dr, osr⟩, hw''⟩ := hw'
                    subst hw''
                    go_wp2_with fail
                    go_roundw
                    case rel => exact ⟨k + 1, by omega, by go_num, congrArg (Value.int .i64) (by rw [HD.out]; omega), ⟨dr, osr⟩, rfl⟩
                    case measure => simp [intOf]; omega
                · have hz := diffTo_end l (e1, e2) k (by omega)
                  rw [hz]
                  clear hz hn
                  go_wp2_with fail
                  go_roundw
                  case rel => exact ⟨i + 1, by omega, by go_num, ⟨d3, os3⟩, rfl⟩
                  case measure => simp [intOf]; omega
            · have hn := HN.out
              have hls := HLS.out
              have hW := below_regrown w3 d2 os2
              obtain ⟨W, hWW⟩ : ∃ W, W = grow (redrawn w3 d2) os2 := ⟨_, rfl⟩
              rw [← hWW] at hW ⊢
              have rowSW := ROWS.out.below hW
              have rowMW := ROWM3.out.below hW
              have c1 := sort_any (some ⟨g, 0, none⟩) (srt l) n W (by omega) rowSW
              unfold Sorted at c1
              rw [hls, ← hn, srt_srt] at c1
              have C1 := Lib.hid c1
              have HWW := Lib.hid (HW3.out.trans (hW.mono HW3.out.size))
              have RS := Lib.hid rowSW
              have RM := Lib.hid rowMW
              clear c1 hW hWW rowSW rowMW hn hls HW3
              go_wp2_with fail
              ((with_reducible refine C1.out.mono ?_); rintro e w5 ⟨g2, rfl, row2, hb5⟩)
              have rs5 := RS.out.below hb5
              have rm5 := RM.out.below hb5
              have hn := HN.out
              have hls := HLS.out
              have c2 := same_any (some ⟨g2, 0, none⟩) (some ⟨g, 0, none⟩) (srt l) (srt l) n n w5 (by omega) row2 rs5
              rw [show decide (srt l = srt l) = true from by simp, hls, ← hn] at c2
              have C2 := Lib.hid c2
              have RS5 := Lib.hid rs5
              have RM5 := Lib.hid rm5
              have HW5 := Lib.hid (HWW.out.trans (hb5.mono HWW.out.size))
              clear c2 rs5 rm5 hn hls hb5 row2 C1 RS RM HWW
              go_wp2_with fail
              ((with_reducible refine C2.out.mono ?_); rintro e w6 ⟨rfl, hb6⟩)
              have rs6 := RS5.out.below hb6
              have rm6 := RM5.out.below hb6
              obtain ⟨hlm, hsm⟩ := HLM.out
              have c3 := sort_any A (rotTo l y n) c w6 (by omega) rm6
              unfold Sorted at c3
              rw [hlm, hsm] at c3
              have C3 := Lib.hid c3
              have RS6 := Lib.hid rs6
              have HW6 := Lib.hid (HW5.out.trans (hb6.mono HW5.out.size))
              clear c3 rs6 rm6 hlm hsm hb6 C2 RS5 RM5 HW5
              go_wp2_with fail
              ((with_reducible refine C3.out.mono ?_); rintro e w7 ⟨g3, rfl, row3, hb7⟩)
              have rs7 := RS6.out.below hb7
              have hn := HN.out
              have hls := HLS.out
              have c4 := same_any (some ⟨g3, 0, none⟩) (some ⟨g, 0, none⟩) (srt l) (srt l) n n w7 (by omega) row3 rs7
              rw [show decide (srt l = srt l) = true from by simp, hls, ← hn] at c4
              have C4 := Lib.hid c4
              have HW7 := Lib.hid (HW6.out.trans (hb7.mono HW6.out.size))
              clear c4 rs7 hn hls hb7 row3 C3 RS6 HW6
              go_wp2_with fail
              ((with_reducible refine C4.out.mono ?_); rintro e w8 ⟨rfl, hb8⟩)
              have HW8 := Lib.hid (HW7.out.trans (hb8.mono HW7.out.size))
              clear hb8 C4 HW7
              go_wp2_with fail
              go_ret
              exact ⟨rfl, HW8.out⟩

theorem sorts_any (A : Option Addr) (l : List (Int × Int)) (ca : Nat) (z : Int) (w : World) (he : Env w) (hca : l.length ≤ ca ∧ ca ≤ 9223372036854775807) (hz : 0 ≤ z ∧ z ≤ 255) (hr : Row w A l) :
    Calls Tryd.prog 6 #[.slice A l.length ca, .int .u8 z] w fun e w' => e = .returned (.bool true) ∧ Below w.heap.size w w' := by
  by_cases h : 60 < l.length ∨ l.length = 0
  · exact sorts_easy A l.length ca z w he h (by omega)
  · obtain ⟨b, o, rfl, hc⟩ := hr (by omega)
    obtain ⟨y, rfl⟩ := Int.eq_ofNat_of_zero_le hz.1
    exact sorts_short b o l.length ca y l w he rfl (by omega) (by omega) (by omega) hc

end Go.Proofs.YtcbfnghkbopkfaaDoor
