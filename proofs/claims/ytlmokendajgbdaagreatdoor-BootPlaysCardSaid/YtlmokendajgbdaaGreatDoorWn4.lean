/-
  Contract of a boot heap's Show: its text; nothing that was there has changed. Conditions: elements of 64-bit numbers, fewer than 2 to the 28th, the library's table as it is laid.
-/
import Derived.Test.YtlmokendajgbdaaGreatDoorWn3
import Derived.Laws.EntriesVeiled
import Derived.Shelf.Abstract
import Derived.Shelf.RegionOpen
import Derived.OwnWalkIn
import Derived.TacticsInMore
import Derived.LoopNIn
import Derived.LoopIn
namespace Go.Proofs.YtlmokendajgbdaaGreatDoor.Bo
open Go.Sort Go.RowKit Go.Proofs.YtlmokendajgbdaaGreatDoor.Gn Go.Shelf

attribute [local go_sem] Oper.semAt_some

set_option maxRecDepth 100000 in
set_option maxHeartbeats 4000000 in
theorem show_node_any (x : Int × Int) (q : List (Gn.Tre Lh)) (p : Option Addr) (w : World) (he : Env w) (h : LAt w (.node x q) p) (hf : fits (Lh.node x q).all) : Calls Tryz.prog 27 #[hp p] w fun e w' => e = .returned (.string ⟨(Lh.node x q).show.toArray⟩) ∧ Below w.heap.size w w' := by
  obtain ⟨o, b, s, n, rfl, rfl, hN⟩ := Nod.of h
  refine (callsIn_wide (n := 3)).1 ?_
  refine callsIn_of_wp_marks Tryz.func27 rfl trivial ?_ rfl
  simp only [Tryz.ntmps27, List.size_toArray, List.length_cons, List.length_nil, Nat.reduceAdd, Nat.reduceSub, Array.replicate_succ, Array.replicate_zero, List.push_toArray, List.append_toArray, List.nil_append, List.cons_append]
  have HE := Lib.hid (And.intro he (And.intro h hf))
  clear he h hf
  gi_wp2
  refine ⟨trivial, ?_⟩
  have hb1 : Below w.heap.size w ((w.alloc (.cells #[.pointer (some ⟨b, 0, none⟩)] 29)).alloc (.cells #[.pointer none, .slice none 0 0] 106)) := new2 w _ _
  have bl := newBuilder (w.alloc (.cells #[.pointer (some ⟨b, 0, none⟩)] 29))
  simp only [World.size_alloc] at bl
  have hv : HVar ((w.alloc (.cells #[.pointer (some ⟨b, 0, none⟩)] 29)).alloc (.cells #[.pointer none, .slice none 0 0] 106)) w.heap.size (some ⟨b, 0, none⟩) := by
    show _ = _
    rw [alloc_old _ (by simp only [World.size_alloc]; omega)]; exact new_at rfl
  refine (callsIn_wide.2 (counter_any _)).mono ?_
  rintro e w2 ⟨bt, be, rfl, hc, hbt, hb2⟩
  unfold endV
  have bl2 := bl.stay hb2
  have v2 : HVar w2 w.heap.size (some ⟨b, 0, none⟩) := (hb2.block _ (lt_of_heap hv)).trans hv
  have hs2 := hb2.size
  simp only [World.size_alloc] at hs2 hbt
  have hb3 : Below w.heap.size w w2 := hb1.trans (hb2.mono hb1.size)
  have a0 : (w2.alloc (.cells #[.func (.func 83) #[] #[.pointer (some ⟨be, 0, none⟩), .pointer (some ⟨bt, 0, none⟩)]] 57)).cell? ⟨w.heap.size, 0, none⟩ = some (.pointer (some ⟨b, 0, none⟩)) := cell_oldT v2.c0 _
  have hmf : ∀ (fn : Fn) (first cap : Array Value) (w : World), (Instr.makeFunc fn first cap).run Tryz.prog w = .ok (.func fn first cap) w := fun _ _ _ _ => rfl
  have S0 := Lib.hid (show Sv w w2.heap.size bt be (w.heap.size + 1) w2.heap.size (cnt0.run []) (w2.alloc (.cells #[.func (.func 83) #[] #[.pointer (some ⟨be, 0, none⟩), .pointer (some ⟨bt, 0, none⟩)]] 57)) from
    ⟨cn_kept hc fun k cs t e _ => (alloc_old _ (lt_of_heap e)).trans e, bl2.stay ((Below.refl _ _).alloc (Nat.le_refl _) _), new_at rfl, hb3.alloc hb3.size _, by simp, by omega, by omega, by simp only [World.size_alloc]; omega⟩)
  clear hb1 bl hv hc bl2 hb2
  gi_wp2
  obtain ⟨w3, hw3⟩ : ∃ u, u = w2.alloc (.cells #[.func (.func 83) #[] #[.pointer (some ⟨be, 0, none⟩), .pointer (some ⟨bt, 0, none⟩)]] 57) := ⟨_, rfl⟩
  rw [← hw3] at S0 a0 ⊢
  have hs3 : w3.heap.size = w2.heap.size + 1 := by rw [hw3, World.size_alloc]
  have hb4 : Below w.heap.size w w3 := by rw [hw3]; exact hb3.alloc hb3.size _
  have HT := each_tells (.node x (heaps o)) b (3 - 1) (by omega) w3 (HE.out.2.1.stay hb4) rfl
  have HS := Lib.hid (And.intro hs3 (And.intro hs2 (And.intro hbt hb4)))
  clear hw3 hb3 v2 hs2 hbt hs3 a0
  refine range_bound3 rfl (by omega) (gf := 50) (fs := #[.pointer (some ⟨b, 0, none⟩)]) rfl trivial (enters_of Tryz.func50 (by kernel_rfl) rfl) HT
    (fun pre W => Sv w w2.heap.size bt be (w.heap.size + 1) w2.heap.size (cnt0.run pre) W) (Sv.own _ hb4.size _)
    (fun s A B h hm => h.mv hb4.size hm (by have := lt_of_heap h.en; have := HS.out.1; omega)) S0.out
    (fun p a1 W => ∃ rb, a1 = { tmps := #[hp (some ⟨b, 0, none⟩), .pointer (some ⟨w.heap.size, 0, none⟩), .string ⟨#[]⟩, .pointer (some ⟨w.heap.size + 1, 0, none⟩), .pointer (some ⟨w2.heap.size, 0, none⟩), .pointer (some ⟨rb, 0, none⟩), .int .i64 (p.2 : Int), .pointer (some ⟨w.heap.size, 0, none⟩), .pointer (some ⟨b, 0, none⟩), .bool false, .func (.func 83) #[] #[.pointer (some ⟨be, 0, none⟩), .pointer (some ⟨bt, 0, none⟩)], .pointer (some ⟨w.heap.size, 0, none⟩), .pointer (some ⟨b, 0, none⟩), .func (.func 50) #[.pointer (some ⟨b, 0, none⟩)] #[], el p.1, .int .i64 (p.2 : Int), undef, undef, undef, undef, undef, undef, undef, undef, undef, undef, undef, undef, undef], defers := [] } ∧ W.heap[rb]? = some (.cells #[.int .i64 p.1.1, .int .i64 p.1.2] 32 (0, 0))) ?hJ ?assign ?body ?done
  case hJ =>
    rintro x a1 s A C row ⟨rb, ha, hbx⟩ hg hr
    refine ⟨rb, ha, (hg.block rb (lt_of_heap hbx) fun er => ?_).trans hbx⟩
    obtain ⟨-, o, ho, hc⟩ := hr rb er.symm
    rw [hbx] at ho; cases ho; cases hc
  case assign =>
    rintro l ⟨⟨x1, x2⟩, m⟩ W K hK
    dsimp only [pr1, pr2] at hK ⊢
    gi_wp2
    exact hK _ _ ⟨W.heap.size, rfl, new_at rfl⟩ ((Below.refl _ _).alloc (Nat.le_refl _) _)
  case body =>
    rintro l pre ⟨⟨x1, x2⟩, m⟩ a1 W ⟨rb, rfl, hrb⟩ hI hpre
    have hmem : ((x1, x2), m) ∈ (Lh.node x (heaps o)).pre := hpre.subset (by simp)
    obtain ⟨hin, hm1⟩ := pre_mem _ _ hmem
    have hx := HE.out.2.2 _ hin
    have hlen := hpre.length_le
    rw [List.length_append, pre_len] at hlen
    have hsm := HE.out.2.1.small
    obtain ⟨s1, s2⟩ := run_small pre cnt0 (fun p hp => HE.out.2.2 _ (pre_mem _ _ (hpre.subset (List.mem_append_left _ hp))).1) (Nat.zero_le _)
    have s3 := run_E pre cnt0
    obtain ⟨C, hC⟩ : ∃ C, C = cnt0.run pre := ⟨_, rfl⟩
    have hrun : cnt0.run (pre ++ [((x1, x2), m)]) = C.step ((x1, x2), m) := by rw [run_append, ← hC]; rfl
    rw [← hC] at s1 s2 s3
    have hI : Sv w w2.heap.size bt be (w.heap.size + 1) w2.heap.size C W := by rw [hC]; exact hI
    obtain ⟨u, hu⟩ : ∃ u, u = textOf x1 x2 := ⟨_, rfl⟩
    obtain ⟨K, hK⟩ : ∃ K, K = C.ends m := ⟨_, rfl⟩
    have hul := textOf_length x1 x2 hx.1 hx.2
    rw [← hu] at hul
    have HST := Lib.hid (show cnt0.run (pre ++ [((x1, x2), m)]) = ⟨C.t + 1, cut (C.t + 1) (C.E ++ [C.t + m]), C.o ++ sep C.o ++ (91 :: (u ++ List.replicate K 93))⟩ from by rw [hrun, hu, hK]; rfl)
    have HN := Lib.hid (show C.E.length < 536870912 ∧ C.t < 536870912 ∧ m < 536870912 ∧ C.o.length + K < 17179869184 ∧ u.length ≤ 43 ∧ K < 1073741824 from by
      have h7 := cut_len (C.t + 1) (C.E ++ [C.t + m])
      simp only [cnt0, List.length_nil, Nat.zero_add, List.length_cons] at s1 s2 s3 hlen
      have h8 : K ≤ C.E.length + 1 := by rw [hK]; unfold Cnt.ends; rw [List.length_append]; simp
      simp only at hm1
      omega)
    have HTX := Lib.hid (fun W (hW : Below w.heap.size w W) => (show Calls Tryz.prog 53 #[.agg #[.int .i64 x1, .int .i64 x2]] W (fun e w' => e = .returned (.string ⟨u.toArray⟩) ∧ Below W.heap.size W w') from hu ▸ text_any x1 x2 hx.1 hx.2 W (HE.out.1.below hW)))
    have HEN := Lib.hid (fun W (h : Cn W w2.heap.size bt be C.t C.E) (h2 : w2.heap.size ≤ W.heap.size) => (show Calls Tryz.prog 83 #[.int .i64 (m : Int), .pointer (some ⟨be, 0, none⟩), .pointer (some ⟨bt, 0, none⟩)] W (fun e w' => e = .returned (.int .i64 (K : Int)) ∧ Cn w' w2.heap.size bt be (C.t + 1) (cut (C.t + 1) (C.E ++ [C.t + m])) ∧ Mv bt IntT W w') from hK ▸ ended_any w2.heap.size bt be C.t m C.E W h h2 HN.out.1 HN.out.2.1 HN.out.2.2.1))
    have HI := Lib.hid hI
    have HRB := Lib.hid hrb
    clear hI hrb hmem hin hm1 hx hlen hsm s1 s2 s3 hu hK hul hC hpre HT hrun
    have hmix : Tryz.prog.follows Departure.mixedOrders = true := by kernel_rfl
    obtain ⟨ol, hol⟩ : ∃ k, k = C.o.length := ⟨_, rfl⟩
    have HLN := Lib.hid (show Calls Tryz.prog 51 #[.pointer (some ⟨w.heap.size + 1, 0, none⟩)] W (fun e w' => e = .returned (.int .i64 (ol : Int)) ∧ w' = W) from hol ▸ len_any _ _ _ W HI.out.bl)
    by_cases h0 : C.o = []
    · have e0 : ol = 0 := by rw [hol, h0]; rfl
      have g1 : ¬ (0 : Int) < (ol : Int) := by omega
      have g2 : decide ((0 : Int) < (ol : Int)) = false := by simp; omega
      have g3 : ¬ 0 < ol := by omega
      have HB := Lib.hid (show Sv w w2.heap.size bt be (w.heap.size + 1) w2.heap.size ⟨C.t, C.E, C.o ++ sep C.o⟩ W from by rw [h0]; simp only [sep, if_true, List.append_nil]; have := HI.out; rw [← h0]; exact this)
      have HP := Lib.hid (And.intro HRB.out (Pg.refl w3.heap.size W))
      clear h0 e0 hol
      gi_wp2_with (refine ⟨trivial, ?_⟩; gi_at_call 51; refine (CallsIn.inRound l (callsIn_wide.2 HLN.out)).mono ?_; rintro e w4 ⟨rfl, hw4⟩; have hw4 := hw4.symm; subst hw4)
      obtain ⟨WB, hWB⟩ : ∃ U, U = W := ⟨_, rfl⟩
      rw [← hWB]
      conv at HB => rw [← hWB]
      conv at HP => arg 1; arg 1; rw [← hWB]
      conv at HP => arg 1; arg 2; arg 3; rw [← hWB]
      clear hWB
      have r0 : WB.cell? ⟨rb, 0, none⟩ = some (.int .i64 x1) := by have h := HP.out.1; simp [World.cell?, h]
      have r1 : WB.cell? ⟨rb, 1, none⟩ = some (.int .i64 x2) := by have h := HP.out.1; simp [World.cell?, h]
      have en0 : WB.cell? ⟨w2.heap.size, 0, none⟩ = some (.func (.func 83) #[] #[.pointer (some ⟨be, 0, none⟩), .pointer (some ⟨bt, 0, none⟩)]) := by have h := HB.out.en; simp [World.cell?, h]
      have n1 : ¬ 9223372036854775807 < u.length + 1 := by have := HN.out; omega
      have n2 : ¬ 9223372036854775807 < u.length + 1 + K := by have := HN.out; omega
      gi_region_with_o (first
        | (refine ⟨trivial, ?_⟩; gi_at_call 53; refine (CallsIn.inRound l (callsIn_wide.2 (HTX.out _ (HB.out.low.drew)))).mono ?_; rintro e w6 ⟨rfl, hb6⟩; have hb6 := ((Below.refl WB.heap.size WB).drew).trans hb6; have S6 := Lib.hid (And.intro (HB.out.stay hb6) (Pg.below (B := w3.heap.size) hb6)); have en6 : w6.cell? ⟨w2.heap.size, 0, none⟩ = some (.func (.func 83) #[] #[.pointer (some ⟨be, 0, none⟩), .pointer (some ⟨bt, 0, none⟩)]) := (by have h := S6.out.1.en; simp [World.cell?, h]); clear hb6)
        | (refine ⟨trivial, ?_⟩; gi_at_call 83; refine (CallsIn.inRound l (callsIn_wide.2 (HEN.out _ S6.out.1.cn S6.out.1.sz))).mono ?_; rintro e w7 ⟨rfl, hc7, hm7⟩; have S7 := Lib.hid (And.intro (S6.out.1.asked hc7 hm7) (S6.out.2.trans (Pg.mv hm7))); clear hc7 hm7)
        | (refine ⟨trivial, ?_⟩; gi_at_call 54; refine (CallsIn.inRound l (callsIn_wide.2 (repeat_any K HN.out.2.2.2.2.2 _))).mono ?_; rintro e w8 ⟨rfl, hb8⟩; have S8 := Lib.hid (And.intro (S7.out.1.stay hb8) (S7.out.2.trans (Pg.below hb8))); clear hb8)
        | (refine ⟨trivial, ?_⟩; gi_at_call 52; refine (CallsIn.inRound l (callsIn_wide.2 (writeB (w.heap.size + 1) (w.heap.size + 1) (C.o ++ sep C.o) (91 :: (u ++ List.replicate K 93)) _ _ (by rw [show (⟨#[91]⟩ : ByteArray) = ⟨[91].toArray⟩ from rfl, append_bytes, append_bytes]; simp) S8.out.1.bl (by have := HN.out; have := sep_len C.o; simp only [List.length_append, List.length_cons, List.length_replicate]; omega) (Nat.le_of_lt S8.out.1.gw.2.2)))).mono ?_; rintro e w9 ⟨v9, rfl, hB9, hW9⟩))
      all_goals
        have hS9 := S8.out.1.wrote hB9 hW9
        have hP9 := (HP.out.2.trans S8.out.2).trans (Pg.wrote S8.out.1.bl hW9)
        exact ⟨hP9.k, hP9.n, show Sv w w2.heap.size bt be (w.heap.size + 1) w2.heap.size (cnt0.run (pre ++ [((x1, x2), m)])) w9 from HST.out.symm ▸ hS9⟩
    · have e0 : 0 < ol := by rw [hol]; exact List.length_pos_iff.2 h0
      have g1 : (0 : Int) < (ol : Int) := by omega
      have g2 : decide ((0 : Int) < (ol : Int)) = true := decide_eq_true g1
      have hse : sep C.o = [32] := if_neg h0
      clear h0 hol
      gi_wp2_with (first | (refine ⟨trivial, ?_⟩; gi_at_call 51; refine (CallsIn.inRound l (callsIn_wide.2 HLN.out)).mono ?_; rintro e w4 ⟨rfl, hw4⟩; have hw4 := hw4.symm; subst hw4) | (refine ⟨trivial, ?_⟩; gi_at_call 52; refine (CallsIn.inRound l (callsIn_wide.2 (writeB (w.heap.size + 1) (w.heap.size + 1) C.o [32] _ W rfl HI.out.bl (by have := HN.out; simp only [List.length_cons, List.length_nil]; omega) (Nat.le_of_lt HI.out.gw.2.2)))).mono ?_; rintro e WB ⟨v5, rfl, hB5, hW5⟩; have HB := Lib.hid (show Sv w w2.heap.size bt be (w.heap.size + 1) w2.heap.size ⟨C.t, C.E, C.o ++ sep C.o⟩ WB from hse.symm ▸ HI.out.wrote hB5 hW5); have HP := Lib.hid (And.intro (hW5.heap HRB.out (ty_ne HRB.out (HI.out.bl.block.2.choose_spec) (by decide)) (by decide)) (Pg.wrote (B := w3.heap.size) HI.out.bl hW5)); clear hB5 hW5))
      clear e0 g1 g2 hse
      have r0 : WB.cell? ⟨rb, 0, none⟩ = some (.int .i64 x1) := by have h := HP.out.1; simp [World.cell?, h]
      have r1 : WB.cell? ⟨rb, 1, none⟩ = some (.int .i64 x2) := by have h := HP.out.1; simp [World.cell?, h]
      have en0 : WB.cell? ⟨w2.heap.size, 0, none⟩ = some (.func (.func 83) #[] #[.pointer (some ⟨be, 0, none⟩), .pointer (some ⟨bt, 0, none⟩)]) := by have h := HB.out.en; simp [World.cell?, h]
      have n1 : ¬ 9223372036854775807 < u.length + 1 := by have := HN.out; omega
      have n2 : ¬ 9223372036854775807 < u.length + 1 + K := by have := HN.out; omega
      gi_region_with_o (first
        | (refine ⟨trivial, ?_⟩; gi_at_call 53; refine (CallsIn.inRound l (callsIn_wide.2 (HTX.out _ (HB.out.low.drew)))).mono ?_; rintro e w6 ⟨rfl, hb6⟩; have hb6 := ((Below.refl WB.heap.size WB).drew).trans hb6; have S6 := Lib.hid (And.intro (HB.out.stay hb6) (Pg.below (B := w3.heap.size) hb6)); have en6 : w6.cell? ⟨w2.heap.size, 0, none⟩ = some (.func (.func 83) #[] #[.pointer (some ⟨be, 0, none⟩), .pointer (some ⟨bt, 0, none⟩)]) := (by have h := S6.out.1.en; simp [World.cell?, h]); clear hb6)
        | (refine ⟨trivial, ?_⟩; gi_at_call 83; refine (CallsIn.inRound l (callsIn_wide.2 (HEN.out _ S6.out.1.cn S6.out.1.sz))).mono ?_; rintro e w7 ⟨rfl, hc7, hm7⟩; have S7 := Lib.hid (And.intro (S6.out.1.asked hc7 hm7) (S6.out.2.trans (Pg.mv hm7))); clear hc7 hm7)
        | (refine ⟨trivial, ?_⟩; gi_at_call 54; refine (CallsIn.inRound l (callsIn_wide.2 (repeat_any K HN.out.2.2.2.2.2 _))).mono ?_; rintro e w8 ⟨rfl, hb8⟩; have S8 := Lib.hid (And.intro (S7.out.1.stay hb8) (S7.out.2.trans (Pg.below hb8))); clear hb8)
        | (refine ⟨trivial, ?_⟩; gi_at_call 52; refine (CallsIn.inRound l (callsIn_wide.2 (writeB (w.heap.size + 1) (w.heap.size + 1) (C.o ++ sep C.o) (91 :: (u ++ List.replicate K 93)) _ _ (by rw [show (⟨#[91]⟩ : ByteArray) = ⟨[91].toArray⟩ from rfl, append_bytes, append_bytes]; simp) S8.out.1.bl (by have := HN.out; have := sep_len C.o; simp only [List.length_append, List.length_cons, List.length_replicate]; omega) (Nat.le_of_lt S8.out.1.gw.2.2)))).mono ?_; rintro e w9 ⟨v9, rfl, hB9, hW9⟩))
      all_goals
        have hS9 := S8.out.1.wrote hB9 hW9
        have hP9 := (HP.out.2.trans S8.out.2).trans (Pg.wrote S8.out.1.bl hW9)
        exact ⟨hP9.k, hP9.n, show Sv w w2.heap.size bt be (w.heap.size + 1) w2.heap.size (cnt0.run (pre ++ [((x1, x2), m)])) w9 from HST.out.symm ▸ hS9⟩
  case done =>
    rintro D W hD hI hK
    have hok := HE.out.2.1.right
    have ht := run_show hok rfl
    have HK := Lib.hid hK
    gi_wp2_with (refine ⟨trivial, ?_⟩; gi_at_call 55; refine (callsIn_wide.2 (string_k (w.heap.size + 1) _ W hI.bl (by have := hI.gw.2.2; omega))).mono ?_; rintro e w4 ⟨rfl, hb5, hk5⟩)
    have hK2 := hk5 D _ HK.out rfl
    refine ⟨by simp, .inl ⟨_, _, rfl, run_takeDeferred hK2, ?_⟩⟩
    refine ⟨_, results_tmp rfl _ _ _, by rw [← ht]; rfl, ?_⟩
    have h6 : Below w.heap.size w w4 := hI.low.trans (hb5.mono (by omega))
    exact h6.trans (belowK_b (w := w) (Nat.le_refl _) w4 D _ _ (Nat.le_trans hb4.size hD) hK2 rfl rfl)

end Go.Proofs.YtlmokendajgbdaaGreatDoor.Bo
