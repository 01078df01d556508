/-
  The walk of the statement RankRight: for any row of elements, any row of bools and any byte it returns true, and nothing that was there has changed, in any world where the library's table is as it is laid.
-/
import Derived.Test.YtlkpmafgokoaiaaDoorRr0
namespace Go.Proofs.YtlkpmafgokoaiaaDoor
open Go.Sort Go.RowKit

/-- At B are n bools. -/
def BoolRow (w : World) (B : Option Addr) (n : Nat) : Prop := 0 < n → ∃ b o, B = some ⟨b, o, none⟩ ∧ ∀ i, i < n → ∃ v : Bool, w.cell? ⟨b, o + i, none⟩ = some (.bool v)
theorem BoolRow.below {w w' : World} {B : Option Addr} {n : Nat} (h : BoolRow w B n) (hb : Below w.heap.size w w') : BoolRow w' B n := fun hn => by
  obtain ⟨b, o, e, hc⟩ := h hn
  exact ⟨b, o, e, fun i hi => by obtain ⟨v, hv⟩ := hc i hi; exact ⟨v, (hb.cell (block_lt_of_cell hv)).trans hv⟩⟩

set_option maxRecDepth 100000 in
set_option maxHeartbeats 8000000 in
theorem right_walk (A : Option Addr) (xs : List (Int × Int)) (n c : Nat) (B : Option Addr) (nb cb : Nat) (rr k : Nat) (hk : (rr : Int).tmod 6 = (k : Int)) (hk6 : k < 6) (hrr : rr < 256) (w : World) (he : Env w) (hn : n = xs.length) (hnc : n ≤ c) (hr : Row w A xs) (hB : BoolRow w B nb) :
    Calls Tryd.prog 4 #[.slice A n c, .slice B nb cb, .int .u8 rr] w fun e w' => e = .returned (.bool true) ∧ Below w.heap.size w w' := by
  have H := Lib.hid (And.intro hn (And.intro hr hB))
  have HE := Lib.hid (awake_any w he)
  clear hn hr hB he
  go_enter Tryd.func4, Tryd.ntmps4
  go_wp2_with fail
  ((with_reducible refine HE.out.mono ?_); rintro e w1 ⟨rfl, hb1⟩)
  have P1 := Lib.hid (And.intro (H.out.2.1.below hb1) (And.intro (H.out.2.2.below hb1) hb1))
  clear hb1 HE
  go_wp2_with fail
  clear hk
  go_loopg [9, 10] k (fun m a b wr => ∃ i q : Nat, a = .int .i64 (q : Int) ∧ b = .int .i64 (i : Int) ∧ q = 2 ^ i ∧ i + m = k ∧ Below w1.heap.size w1 wr)
  case atStart => exact ⟨0, 1, rfl, rfl, rfl, by omega, Below.refl _ _⟩
  case round =>
    obtain ⟨i, q, rfl, rfl, hq, hi, hbe⟩ := hrel
    by_cases hlt : i < k
    · have g1 : decide ((i : Int) < (k : Int)) = true := by simp; omega
      have hq2 : q ≤ 16 := by rw [hq]; exact Nat.pow_le_pow_right (by omega) (show i ≤ 4 by omega)
      have A1 := Lib.hid (And.intro hq (And.intro hi hbe))
      clear hq hi hbe
      go_wp2_with fail
      obtain ⟨hq, hi, hbe⟩ := A1.out
      go_roundg (k - 1 - i)
      case measure => omega
      case rel => exact ⟨i + 1, q * 2, by congr 1, by congr 1, by rw [hq, Nat.pow_succ], by omega, hbe⟩
    · obtain rfl : i = k := by omega
      have g1 : decide ((i : Int) < (i : Int)) = false := by simp
      have hq2 : q ≤ 32 := by rw [hq]; exact Nat.pow_le_pow_right (by omega) (show i ≤ 5 by omega)
      have hq1 : 1 ≤ q := by rw [hq]; exact Nat.one_le_two_pow
      have P2 := Lib.hid (And.intro (P1.out.1.below hbe) (And.intro (P1.out.2.1.below hbe) (P1.out.2.2.trans (hbe.mono P1.out.2.2.size))))
      have HQ := Lib.hid hq
      clear hq hi hbe P1 hlt
      have hs1 : IntKind.i64.wrap ((q : Int) * 2) = (q : Int) * 2 := by rw [IntKind.wrap_i64]; omega
      by_cases h1 : n < q * 2
      · have g2 : decide ((n : Int) < (q : Int) * 2) = true := by simp; omega
        go_wp2_with fail
        go_ret
        exact ⟨rfl, P2.out.2.2⟩
      · have g2 : decide ((n : Int) < (q : Int) * 2) = false := by simp; omega
        by_cases h2 : 200 < n
        · have g3 : decide ((200 : Int) < (n : Int)) = true := by simp; omega
          go_wp2_with fail
          go_ret
          exact ⟨rfl, P2.out.2.2⟩
        · have g3 : decide ((200 : Int) < (n : Int)) = false := by simp; omega
          go_wp2_with fail
          clear g1 g2 g3 hs1
          obtain ⟨b, o, rfl, hc⟩ := P2.out.1 (by have := H.out.1; omega)
          have hnx : xs.length = n := H.out.1.symm
          have HC := Lib.hid (fun W (hb : Below wr.heap.size wr W) (j : Nat) (hj : j < xs.length) => show W.cell? ⟨b, o + j * 2, none⟩ = some (.int .i64 xs[j].1) ∧ W.cell? ⟨b, o + j * 2 + 1, none⟩ = some (.int .i64 xs[j].2) from ⟨(hb.cell (block_lt_of_cell (row_at hc j hj).1)).trans (row_at hc j hj).1, (hb.cell (block_lt_of_cell (row_at hc j hj).2)).trans (row_at hc j hj).2⟩)
          have HN := Lib.hid hnx
          have HR := Lib.hid (fun W (hb : Below wr.heap.size wr W) (k : Nat) => (row_take hc k).below hb)
          have HB := Lib.hid P2.out.2.1
          have HW := Lib.hid P2.out.2.2
          clear hc hnx P2 H
          generalize wr = wl at *
          go_loopg [11, 12] q (fun m u a w2 => ∃ (j : Nat) (ps : List (Option Addr)) (ts : List Tre), a = .int .i64 (j : Int) ∧ j + m = q ∧ OwnP w2 wl.heap.size u ps ∧ TL w2 ps ts ∧ ts.length = j ∧ (∀ t ∈ ts, TOk 0 t) ∧ allOf ts = xs.take j ∧ Below wl.heap.size wl w2)
          case atStart => exact ⟨0, [], [], rfl, by omega, Mine.none _ _ _, TL.nil _, rfl, by simp, by simp [allOf], Below.refl _ _⟩
          case round =>
            obtain ⟨j, ps, ts, rfl, hj, hown, htl, hlen, hok, hall, hbe⟩ := hrel
            by_cases hlt : j < q
            · have g1 : decide ((j : Int) < (q : Int)) = true := by simp; omega
              have g2 : (0 : Int) ≤ (j : Int) := by omega
              have g3 : (j : Int) < (n : Int) := by omega
              have hjx : j < xs.length := by have := HN.out; omega
              have c0 := (HC.out _ hbe j hjx).1
              have c1 := (HC.out _ hbe j hjx).2
              have A1 := Lib.hid (And.intro hj (And.intro hown (And.intro htl (And.intro hlen (And.intro hok (And.intro hall (And.intro hbe (List.getElem?_eq_getElem hjx))))))))
              generalize xs[j] = e at *
              obtain ⟨e1, e2⟩ := e
              clear hj hown htl hlen hok hall hbe hjx
              go_wp2_with fail
              ((with_reducible refine (leafN (e1, e2) _).mono ?_); rintro e w3 ⟨p3, rfl, ht3, hb3⟩)
              obtain ⟨hj, hown, htl, hlen, hok, hall, hbe, hget⟩ := A1.out
              have hown3 := hown.stay hb3
              obtain ⟨u', w4, hrun, hown4, hgr, hb4⟩ := append_ptr w3 wl.heap.size _ ps p3 hown3 (by rw [htl.len]; omega) (Nat.le_trans hbe.size hb3.size)
              have hk := append_kp hown3 hgr
              have hbe4 : Below wl.heap.size wl w4 := (hbe.trans (hb3.mono hbe.size)).trans hb4
              have htl4 := (htl.kp ((Kp.below hb3).trans hk)).snoc (ht3.kp hk)
              have A2 := Lib.hid (And.intro hj (And.intro hown4 (And.intro htl4 (And.intro hlen (And.intro hok (And.intro hall (And.intro hbe4 hget)))))))
              clear hj hown htl hlen hok hall hbe hget hown3 hown4 hgr hb4 hb3 ht3 hk hbe4 htl4 A1 c0 c1
              go_wp2_with (at_builtin; refine wpList_append_run rfl _ _ _ rfl _ _ _ _ rfl rfl hrun ?_)
              obtain ⟨hj, hown4, htl4, hlen, hok, hall, hbe4, hget⟩ := A2.out
              go_roundg (q - 1 - j)
              case measure => omega
              case rel => exact ⟨j + 1, ps ++ [p3], ts ++ [leafT (e1, e2)], by congr 1, by omega, hown4, htl4, by simp [hlen], (fun t ht => by
                rcases List.mem_append.1 ht with ht | ht
                · exact hok t ht
                · simp at ht; subst ht; exact leaf_ok _), by rw [allOf_append, hall, List.take_add_one, hget]; simp [allOf, leafT, Tre.all, Wood.all], hbe4⟩
            · obtain rfl : j = q := by omega
              have g1 : decide ((j : Int) < (j : Int)) = false := by simp
              have A2 := Lib.hid (And.intro hown (And.intro htl (And.intro hlen (And.intro hok (And.intro hall hbe)))))
              clear hj hown htl hlen hok hall hbe hlt
              go_wp2_with fail
              generalize wr = w0 at *
              go_loopg [11, 13, 14] i (fun m u us cv w2 => ∃ (lvl used cc : Nat) (ps : List (Option Addr)) (ts : List Tre), us = .int .i64 (used : Int) ∧ cv = .int .i64 (cc : Int) ∧ m + lvl = i ∧ OwnP w2 wl.heap.size u ps ∧ TL w2 ps ts ∧ ts.length = 2 ^ (i - lvl) ∧ (∀ t ∈ ts, TOk lvl t) ∧ (allOf ts).Perm (xs.take used) ∧ used ≤ n ∧ j ≤ used ∧ cc + ts.length = j ∧ Below wl.heap.size wl w2)
              case atStart => exact ⟨0, j, 0, ps, ts, rfl, rfl, rfl, A2.out.1, A2.out.2.1, by rw [A2.out.2.2.1, HQ.out]; rfl, A2.out.2.2.2.1, by rw [A2.out.2.2.2.2.1], by omega, Nat.le_refl _, by rw [A2.out.2.2.1]; omega, A2.out.2.2.2.2.2⟩
              case round =>
                clear A2
                obtain ⟨lvl, used, cc, ps, ts, rfl, rfl, hm, hown, htl, hlen, hok, hperm, hun, hju, hcc, hbe⟩ := hrel
                obtain ⟨At, cp, rfl, hcp, hsome⟩ := hown.form
                have hL : ps.length = ts.length := htl.len
                have h32 : ts.length ≤ 32 := by omega
                obtain ⟨g, rfl, hgl, hgw⟩ := hsome (by rw [hL, hlen]; exact Nat.two_pow_pos _)
                rw [hL] at hown hcp ⊢
                by_cases hend : lvl = i
                · have hl1 : ts.length = 1 := by rw [hlen, hend, Nat.sub_self]
                  rw [hl1] at hown ⊢
                  obtain ⟨t, rfl⟩ := List.length_eq_one_iff.1 hl1
                  obtain ⟨p, hp, hT⟩ := htl.tree 0 t rfl
                  have c0 := hown.at hp
                  have hokt := hok t (by simp)
                  have hp2 : t.all.Perm (xs.take used) := by simpa [allOf] using hperm
                  have hxl : (xs.take used).length = used := by rw [List.length_take, HN.out]; omega
                  have hsz : t.size = used := by rw [← t.all_length, hp2.length_eq, hxl]
                  obtain ⟨⟨x1, x2⟩, hx⟩ : ∃ y, t.x = y := ⟨_, rfl⟩
                  have hrt : rootV (some t) = .tuple #[el (x1, x2), .bool true] := by simp only [rootV, hx]
                  obtain ⟨r, hsr⟩ := srt_head (xs := t.all) (m := (x1, x2)) (by rw [← hx]; simp [Tre.all]) (by rw [← hx]; exact t.least hokt.1)
                  have hsr2 : srt (xs.take used) = (x1, x2) :: r := (srt_of_perm hp2).symm.trans hsr
                  have hrl : ((x1, x2) :: r).length = used := by rw [← hsr2, (srt_perm _).length_eq, hxl]
                  have HK := Lib.hid (show orank (some t) = (i : Int) ∧ oright (some t) = true ∧ osize (some t) = used ∧ (oall (some t)).length = used ∧ srt (oall (some t)) = (x1, x2) :: r ∧ ((x1, x2) :: r).length = used from ⟨by simp only [orank]; rw [hokt.2, hend], hokt.1, hsz, by rw [← hsz]; exact t.all_length, hsr, hrl⟩)
                  have HX := Lib.hid (And.intro hxl hsr2)
                  have P1 := Lib.hid (And.intro hT (And.intro hbe hrt))
                  have g4 : (0 : Int) ≤ (used : Int) := by omega
                  have g6 : (used : Int) ≤ (c : Int) := by omega
                  have k6 : used ≤ c := by omega
                  clear hl1 hown hcp hsome hgl hgw hp hT hokt hp2 hxl hsz hx hrt hsr hsr2 hrl htl hlen hok hperm hcc hbe hL hm
                  go_wp2_with fail
                  ((with_reducible refine (root_any p (some t) _ P1.out.1).mono ?_); rintro e w1' ⟨rfl, hb1⟩)
                  rw [P1.out.2.2]
                  have P2 := Lib.hid (And.intro (P1.out.1.stay hb1) (P1.out.2.1.trans (hb1.mono P1.out.2.1.size)))
                  clear hb1 c0 P1
                  go_wp2_with fail
                  have PX := PairAt.new w1' x1 x2 28
                  have hb2 := ((Below.refl w1'.heap.size w1').alloc (Nat.le_refl _) (.cells #[.int .i64 x1, .int .i64 x2] 28))
                  have hbl2 := P2.out.2.trans (hb2.mono P2.out.2.size)
                  have HS := refSort_any (some ⟨b, o, none⟩) (xs.take used) c _ (by rw [HX.out.1]; omega) (HR.out _ hbl2 used)
                  rw [HX.out.1] at HS
                  ((with_reducible refine HS.mono ?_); rintro e w3 ⟨A3, c3, rfl, hr3, hb3⟩)
                  rw [HX.out.1]
                  rw [HX.out.2] at hr3
                  obtain ⟨sb, so, rfl, hc3⟩ := hr3 (by simp)
                  have hc := row_at hc3 0 (by simp)
                  simp only [List.getElem_cons_zero, Nat.zero_mul, Nat.add_zero] at hc
                  have P3 := Lib.hid (And.intro (PX.below hb3 PX.lt) (And.intro hc (And.intro ((P2.out.1.stay hb2).stay hb3) (And.intro (show Row w3 (some ⟨sb, so, none⟩) ((x1, x2) :: r) from fun _ => ⟨sb, so, rfl, hc3⟩) (hbl2.trans (hb3.mono hbl2.size))))))
                  clear PX hb2 hbl2 HS hr3 hb3 hc3 hc P2
                  have a0 := P3.out.1.c0
                  have a1 := P3.out.1.c1
                  have a2 := P3.out.2.1.1
                  have a3 := P3.out.2.1.2
                  have gU : (0 : Int) < (used : Int) := by omega
                  have gV : 0 < used := by omega
                  go_wp2_with fail
                  go_region_held3 (fun w' => w'.cell? ⟨w1'.heap.size, 0, none⟩ = some (.int .i64 x1) ∧ w'.cell? ⟨w1'.heap.size, 1, none⟩ = some (.int .i64 x2) ∧ w'.cell? ⟨sb, so, none⟩ = some (.int .i64 x1) ∧ w'.cell? ⟨sb, so + 1, none⟩ = some (.int .i64 x2)) (go_keep)
                    (first | (go_at_call 25; ((with_reducible refine (same_used A6 (some ⟨sb, so, Option.none⟩) ((x1, x2) :: r) used HK.out.2.2.2.2.2 (by omega) k6 c3 _ R6.out (P3.out.2.2.2.1.below T6.out.2.2)).mono ?_); rintro e w7 ⟨rfl, hb7⟩; have b7 : Below w3.heap.size w3 w7 := T6.out.2.2.trans (hb7.mono T6.out.2.2.size); have T7 := Lib.hid (And.intro (P3.out.1.below b7 P3.out.1.lt) (And.intro (P3.out.2.2.1.stay b7) b7)); have k0 := T7.out.1.c0; have k1 := T7.out.1.c1; have k2 := (T7.out.2.2.cell (block_lt_of_cell P3.out.2.1.1)).trans P3.out.2.1.1; have k3 := (T7.out.2.2.cell (block_lt_of_cell P3.out.2.1.2)).trans P3.out.2.1.2; clear b7 hb7)) | (go_at_call 30; ((with_reducible refine (refSort_any A5 (oall (some t)) k5 _ (by rw [HK.out.2.2.2.1]; omega) R5.out).mono ?_); rintro e w6 ⟨A6, k6, rfl, hr6, hb6⟩; rw [HK.out.2.2.2.1]; have R6 := Lib.hid (HK.out.2.2.2.2.1 ▸ hr6); have b6 : Below w3.heap.size w3 w6 := T5.out.2.2.trans (hb6.mono T5.out.2.2.size); have T6 := Lib.hid (And.intro (P3.out.1.below b6 P3.out.1.lt) (And.intro (P3.out.2.2.1.stay b6) b6)); have f0 := T6.out.1.c0; have f1 := T6.out.1.c1; have f2 := (T6.out.2.2.cell (block_lt_of_cell P3.out.2.1.1)).trans P3.out.2.1.1; have f3 := (T6.out.2.2.cell (block_lt_of_cell P3.out.2.1.2)).trans P3.out.2.1.2; clear b6 hb6 hr6)) | (go_at_call 26; ((with_reducible refine (all_any p (some t) _ T4.out.2.1 (by rw [HK.out.2.2.1]; omega)).mono ?_); rintro e w5 ⟨v5, rfl, hown5, hb5⟩; obtain ⟨A5, k5, rfl, hr5, -⟩ := hown5.form; have R5 := Lib.hid hr5; have b5 : Below w3.heap.size w3 w5 := T4.out.2.2.trans (hb5.mono T4.out.2.2.size); have T5 := Lib.hid (And.intro (P3.out.1.below b5 P3.out.1.lt) (And.intro (P3.out.2.2.1.stay b5) b5)); have e0 := T5.out.1.c0; have e1 := T5.out.1.c1; have e2 := (T5.out.2.2.cell (block_lt_of_cell P3.out.2.1.1)).trans P3.out.2.1.1; have e3 := (T5.out.2.2.cell (block_lt_of_cell P3.out.2.1.2)).trans P3.out.2.1.2; clear b5 hb5 hown5 hr5)) | (go_at_call 22; ((with_reducible refine (size_any p (some t) _ T4.out.2.1 (by rw [HK.out.2.2.1]; omega)).mono ?_); rintro e w5 ⟨rfl, rfl⟩; rw [HK.out.2.2.1])) | (go_at_call 23; ((with_reducible refine (right_any p (some t) _ (P3.out.2.2.1.stay (Below.refl _ w3).drew) (by rw [HK.out.2.2.1]; omega)).mono ?_); rintro e w4 ⟨rfl, hb4⟩; rw [HK.out.2.1]; have b4 : Below w3.heap.size w3 w4 := (Below.refl _ w3).drew.trans hb4; have T4 := Lib.hid (And.intro (P3.out.1.below b4 P3.out.1.lt) (And.intro (P3.out.2.2.1.stay b4) b4)); have d0 := T4.out.1.c0; have d1 := T4.out.1.c1; have d2 := (T4.out.2.2.cell (block_lt_of_cell P3.out.2.1.1)).trans P3.out.2.1.1; have d3 := (T4.out.2.2.cell (block_lt_of_cell P3.out.2.1.2)).trans P3.out.2.1.2; clear b4 hb4)) | (go_at_call 20; ((with_reducible refine (rank_any p (some t) _ (P3.out.2.2.1.stay (Below.refl _ w3).drew)).mono ?_); rintro e w4 ⟨rfl, rfl⟩; rw [HK.out.1])))
                  clear a0 a1 a2 a3 d0 d1 d2 d3 e0 e1 e2 e3 f0 f1 f2 f3 k0 k1 k2 k3
                  go_wp2_with fail
                  go_ret
                  have hz := P3.out.2.2.2.2.trans (T7.out.2.2.mono P3.out.2.2.2.2.size)
                  exact ⟨rfl, HW.out.trans (hz.mono HW.out.size)⟩
                · obtain ⟨h, hh⟩ : ∃ h, h = 2 ^ (i - lvl - 1) := ⟨_, rfl⟩
                  have hL2 : ts.length = 2 * h := by
                    have e1 : 2 ^ (i - lvl) = 2 ^ ((i - lvl - 1) + 1) := congrArg (2 ^ ·) (by omega)
                    rw [hlen, hh, e1, Nat.pow_succ]; omega
                  have h1 : 1 ≤ h := by rw [hh]; exact Nat.one_le_two_pow
                  have A3 := Lib.hid (And.intro hm (And.intro hown (And.intro htl (And.intro hok (And.intro hperm (And.intro hcc (And.intro hbe hh)))))))
                  obtain ⟨L, hLL⟩ : ∃ L, L = ts.length := ⟨_, rfl⟩
                  rw [← hLL] at hL2 h32 ⊢
                  have HL := Lib.hid hLL
                  have gL : (1 : Int) < (L : Int) := by omega
                  have gL' : decide ((1 : Int) < (L : Int)) = true := by simp; omega
                  have HLH := Lib.hid hL2
                  clear hm hown htl hok hperm hcc hbe hh hlen hLL hL hcp hgl hL2
                  have HW0 := Lib.hid hgw
                  clear hgw
                  generalize wr = wo at *
                  go_wp2_with fail
                  go_loopg [13, 14, 15, 16] h (fun m us cv nx iv w3 => ∃ (jj a used cc : Nat) (qs : List (Option Addr)) (us' : List Tre), iv = .int .i64 (a : Int) ∧ a = 2 * jj ∧ us = .int .i64 (used : Int) ∧ cv = .int .i64 (cc : Int) ∧ m + jj = h ∧ OwnP w3 wo.heap.size nx qs ∧ TL w3 qs us' ∧ us'.length = jj ∧ (∀ t ∈ us', TOk (lvl + 1) t) ∧ (allOf us' ++ allOf (ts.drop a)).Perm (xs.take used) ∧ used ≤ n ∧ j ≤ used ∧ cc + L = j + jj ∧ Below wo.heap.size wo w3)
                  case atStart => exact ⟨0, 0, used, cc, [], [], rfl, rfl, rfl, rfl, rfl, Mine.none _ _ _, TL.nil _, rfl, by simp, by simpa [allOf] using A3.out.2.2.2.2.1, hun, hju, by have := A3.out.2.2.2.2.2.1; have := HL.out; omega, Below.refl _ _⟩
                  case round =>
                    obtain ⟨jj, a, used, cc, qs, us', rfl, ha, rfl, rfl, hm, hown, htl, hlen, hok, hperm, hun, hju, hcc, hbe⟩ := hrel
                    have hL2 := HLH.out
                    by_cases hlt : jj < h
                    · have gA : decide ((a : Int) + 1 < (L : Int)) = true := by simp; omega
                      have g1 : (0 : Int) ≤ (a : Int) := by omega
                      have g2 : (a : Int) < (L : Int) := by omega
                      have g3 : (a : Int) + 1 < (L : Int) := by omega
                      have g4 : (0 : Int) ≤ (used : Int) := by omega
                      have gB : (0 : Int) ≤ (a : Int) + 1 := by omega
                      have gC : ((a : Int) + 1).toNat = a + 1 := by omega
                      have g5 : IntKind.i64.wrap ((a : Int) + 1) = (a : Int) + 1 := by rw [IntKind.wrap_i64]; omega
                      have g6 : IntKind.i64.wrap ((cc : Int) + 1) = (cc : Int) + 1 := by rw [IntKind.wrap_i64]; omega
                      obtain ⟨ta, tb, hta, htb, hdrop⟩ := two_left (ts := ts) (a := a) (h := h) (j := jj) (by rw [← HL.out]; exact hL2) ha hlt
                      obtain ⟨pa, hpa, hTa⟩ := A3.out.2.2.1.tree a ta hta
                      obtain ⟨pb, hpb, hTb⟩ := A3.out.2.2.1.tree (a + 1) tb htb
                      have c0 := (hbe.cell (p := ⟨g, a, none⟩) HW0.out).trans (A3.out.2.1.at hpa)
                      have c1 := (hbe.cell (p := ⟨g, a + 1, none⟩) HW0.out).trans (A3.out.2.1.at hpb)
                      have hbl : Below wl.heap.size wl wr := A3.out.2.2.2.2.2.2.1.trans (hbe.mono A3.out.2.2.2.2.2.2.1.size)
                      have hsz : ta.size + tb.size ≤ 200 := by
                        have := hperm.length_eq
                        rw [hdrop] at this
                        simp only [List.length_append, Tre.all_length, List.length_take] at this
                        have := HN.out
                        omega
                      have A4 := Lib.hid (And.intro ha (And.intro hm (And.intro hown (And.intro htl (And.intro hlen (And.intro hok (And.intro (hdrop ▸ hperm) (And.intro hcc (And.intro hbe (And.intro hbl (And.intro (hTa.stay hbe) (And.intro (hTb.stay hbe) (And.intro (A3.out.2.2.2.1 ta (List.mem_of_getElem? hta)) (And.intro (A3.out.2.2.2.1 tb (List.mem_of_getElem? htb)) hsz))))))))))))))
                      have g7 : (cc : Int) + 1 ≤ 64 := by omega
                      clear hL2 ha hm hown htl hlen hok hperm hcc hbe hbl hdrop hpa hpb hTa hTb hta htb hsz
                      by_cases hs : (used < n ∧ cc + 1 ≤ nb ∧ ∃ bo bb, B = some ⟨bb, bo, none⟩ ∧ wr.cell? ⟨bb, bo + cc, none⟩ = some (.bool true))
                      · obtain ⟨k8, k9', bo, bb, rfl, cb⟩ := hs
                        have hux : used < xs.length := by have := HN.out; omega
                        have HX := Lib.hid (fun W hb => HC.out W hb used hux)
                        have HG := Lib.hid (List.getElem?_eq_getElem hux)
                        generalize xs[used] = y at *
                        obtain ⟨y1, y2⟩ := y
                        have g8 : decide ((used : Int) < (n : Int)) = true := by simp; omega
                        have g8' : (used : Int) < (n : Int) := by omega
                        have k9 : (cc : Int) + 1 ≤ (nb : Int) := by omega
                        have g9 : decide ((cc : Int) + 1 ≤ (nb : Int)) = true := by simp; omega
                        have g10 : (0 : Int) ≤ (cc : Int) := by omega
                        have g11 : (cc : Int) < (nb : Int) := by omega
                        have gE : IntKind.i64.wrap ((used : Int) + 1) = (used : Int) + 1 := by rw [IntKind.wrap_i64]; omega
                        have x0 := (HX.out _ A4.out.2.2.2.2.2.2.2.2.2.1).1
                        have x1 := (HX.out _ A4.out.2.2.2.2.2.2.2.2.2.1).2
                        clear hux k9'
                        go_wp2_with fail
                        go_region_held3 (fun w' => w'.cell? ⟨b, o + used * 2, none⟩ = some (.int .i64 y1) ∧ w'.cell? ⟨b, o + used * 2 + 1, none⟩ = some (.int .i64 y2) ∧ w'.cell? ⟨g, a, none⟩ = some (.pointer pa) ∧ w'.cell? ⟨g, a + 1, none⟩ = some (.pointer pb)) (go_keep)
                          (first | (refine step_append_run rfl _ _ _ rfl _ _ _ _ rfl rfl hrun ?_) | (go_at_call 14; have hL2 := HLH.out; obtain ⟨ha, hm, hown, htl, hlen, hok, hperm, hcc, hbe, hbl, hTa, hTb, hoka, hokb, hsz⟩ := A4.out; have hd : Below wr.heap.size wr wr.drew := (Below.refl _ _).drew; ((with_reducible refine (skewN (y1, y2) pa pb (some ta) (some tb) _ (hTa.stay hd) (hTb.stay hd) (by simp only [osize]; omega) (by simp only [osize]; omega)).mono ?_); rintro e w4 ⟨p4, rfl, ht4, hb4⟩; have hb4' : Below wr.heap.size wr w4 := hd.trans hb4; obtain ⟨v5, w5, hrun, hown5, htl5, hb5⟩ := push_tree (hown.stay hb4') (htl.kp (Kp.below hb4')) (by omega) (Nat.le_trans hbe.size hb4'.size) (show TAt w4 p4 (some (skw (y1, y2) (lnk ta tb))) from ht4); have T5 := Lib.hid (And.intro hown5 (And.intro htl5 ((hbe.trans (hb4'.mono hbe.size)).trans hb5))); have hl4 := hbl.trans (hb4'.mono hbl.size); have hl5 := hl4.trans (hb5.mono A3.out.2.2.2.2.2.2.1.size); have d0 := (hb4'.cell (p := ⟨g, a, Option.none⟩) (block_lt_of_cell c0)).trans c0; have d1 := (hb4'.cell (p := ⟨g, a + 1, Option.none⟩) (block_lt_of_cell c1)).trans c1; have d2 := (HX.out _ hl4).1; have d3 := (HX.out _ hl4).2; have e0 := (hb5.cell (p := ⟨g, a, Option.none⟩) HW0.out).trans d0; have e1 := (hb5.cell (p := ⟨g, a + 1, Option.none⟩) HW0.out).trans d1; have e2 := (HX.out _ hl5).1; have e3 := (HX.out _ hl5).2; clear hL2 ha hm hown htl hlen hok hperm hcc hbe hbl hTa hTb hoka hokb hsz hd ht4 hb4 hb4' hown5 htl5 hb5 hl4 hl5)))
                        clear c0 c1 x0 x1 d0 d1 d2 d3 e0 e1 e2 e3 hrun
                        go_wp2_with fail
                        have hL2 := HLH.out
                        obtain ⟨ha, hm, hown, htl, hlen, hok, hperm, hcc, hbe, hbl, hTa, hTb, hoka, hokb, hsz⟩ := A4.out
                        go_roundg (h - 1 - jj)
                        case measure => omega
                        case rel => exact ⟨jj + 1, a + 2, used + 1, cc + 1, qs ++ [p4], us' ++ [skw (y1, y2) (lnk ta tb)], by congr 1, by omega, by congr 1, by congr 1, by omega, T5.out.1, T5.out.2.1, by simp [hlen], (fun t ht => by
                          rcases List.mem_append.1 ht with ht | ht
                          · exact hok t ht
                          · simp at ht; subst ht; exact skw_ok (lnk_ok hoka hokb).1 (Nat.lt_succ_of_le (lnk_ok hoka hokb).2)), by rw [allOf_append, List.take_add_one, HG.out]; simpa [allOf] using skewed_perm hperm, by omega, by omega, by omega, T5.out.2.2⟩
                      · have three : (¬ used < n ∧ decide ((used : Int) < (n : Int)) = false) ∨ (used < n ∧ decide ((used : Int) < (n : Int)) = true ∧ ¬ ((cc : Int) + 1 ≤ (nb : Int)) ∧ decide ((cc : Int) + 1 ≤ (nb : Int)) = false) ∨ (used < n ∧ decide ((used : Int) < (n : Int)) = true ∧ ((cc : Int) + 1 ≤ (nb : Int)) ∧ decide ((cc : Int) + 1 ≤ (nb : Int)) = true ∧ (0 : Int) ≤ (cc : Int) ∧ (cc : Int) < (nb : Int) ∧ ∃ bo bb, B = some ⟨bb, bo, none⟩ ∧ wr.cell? ⟨bb, bo + cc, none⟩ = some (.bool false)) := by
                          by_cases e1 : used < n
                          · by_cases e2 : cc + 1 ≤ nb
                            · obtain ⟨bb, bo, hBB, hcell⟩ := (HB.out.below A4.out.2.2.2.2.2.2.2.2.2.1) (by omega)
                              obtain ⟨bv, hbv⟩ := hcell cc (by omega)
                              cases bv with
                              | false => exact .inr (.inr ⟨e1, by simp; omega, by omega, by simp; omega, by omega, by omega, bo, bb, hBB, hbv⟩)
                              | true => exact absurd ⟨e1, e2, bo, bb, hBB, hbv⟩ hs
                            · exact .inr (.inl ⟨e1, by simp; omega, by omega, by simp; omega⟩)
                          · exact .inl ⟨e1, by simp; omega⟩
                        clear hs
                        rcases three with ⟨k8, g8⟩ | ⟨k8, g8, k9, g9⟩ | ⟨k8, g8, k9, g9, g10, g11, bo, bb, rfl, cb⟩
                        all_goals go_wp2_with fail
                        all_goals
                          go_region_held3 (fun w' => w'.cell? ⟨g, a, none⟩ = some (.pointer pa) ∧ w'.cell? ⟨g, a + 1, none⟩ = some (.pointer pb)) (go_keep)
                            (first | (refine step_append_run rfl _ _ _ rfl _ _ _ _ rfl rfl hrun ?_) | (go_at_call 12; have hL2 := HLH.out; obtain ⟨ha, hm, hown, htl, hlen, hok, hperm, hcc, hbe, hbl, hTa, hTb, hoka, hokb, hsz⟩ := A4.out; have hd : Below wr.heap.size wr wr.drew := (Below.refl _ _).drew; ((with_reducible refine (linkN pa pb (some ta) (some tb) _ (hTa.stay hd) (hTb.stay hd) (by simp only [osize]; omega) (by simp only [osize]; omega)).mono ?_); rintro e w4 ⟨p4, rfl, ht4, hb4⟩; have hb4' : Below wr.heap.size wr w4 := hd.trans hb4; obtain ⟨v5, w5, hrun, hown5, htl5, hb5⟩ := push_tree (hown.stay hb4') (htl.kp (Kp.below hb4')) (by omega) (Nat.le_trans hbe.size hb4'.size) (show TAt w4 p4 (some (lnk ta tb)) from ht4); have T5 := Lib.hid (And.intro hown5 (And.intro htl5 ((hbe.trans (hb4'.mono hbe.size)).trans hb5))); have d0 := (hb4'.cell (p := ⟨g, a, Option.none⟩) (block_lt_of_cell c0)).trans c0; have d1 := (hb4'.cell (p := ⟨g, a + 1, Option.none⟩) (block_lt_of_cell c1)).trans c1; have e0 := (hb5.cell (p := ⟨g, a, Option.none⟩) HW0.out).trans d0; have e1 := (hb5.cell (p := ⟨g, a + 1, Option.none⟩) HW0.out).trans d1; clear hL2 ha hm hown htl hlen hok hperm hcc hbe hbl hTa hTb hoka hokb hsz hd ht4 hb4 hb4' hown5 htl5 hb5)))
                        all_goals
                          clear c0 c1 d0 d1 e0 e1 hrun
                          go_wp2_with fail
                          have hL2 := HLH.out; obtain ⟨ha, hm, hown, htl, hlen, hok, hperm, hcc, hbe, hbl, hTa, hTb, hoka, hokb, hsz⟩ := A4.out
                          go_roundg (h - 1 - jj)
                          case measure => omega
                          case rel => exact ⟨jj + 1, a + 2, used, cc + 1, qs ++ [p4], us' ++ [lnk ta tb], by congr 1, by omega, rfl, by congr 1, by omega, T5.out.1, T5.out.2.1, by simp [hlen], (fun t ht => by
                            rcases List.mem_append.1 ht with ht | ht
                            · exact hok t ht
                            · simp at ht; subst ht; exact (lnk_ok hoka hokb).1), by rw [allOf_append]; simpa [allOf] using linked_perm hperm, hun, hju, by omega, T5.out.2.2⟩
                    · obtain rfl : jj = h := by omega
                      have gA : decide ((a : Int) + 1 < (L : Int)) = false := by simp; omega
                      have g5 : IntKind.i64.wrap ((a : Int) + 1) = (a : Int) + 1 := by rw [IntKind.wrap_i64]; omega
                      have A4 := Lib.hid (And.intro ha (And.intro hm (And.intro hown (And.intro htl (And.intro hlen (And.intro hok (And.intro hperm (And.intro hcc hbe))))))))
                      clear ha hm hown htl hlen hok hperm hcc hbe hL2
                      go_wp2_with fail
                      have hL2 := HLH.out
                      obtain ⟨ha, hm, hown, htl, hlen, hok, hperm, hcc, hbe⟩ := A4.out
                      obtain ⟨hm3, -, -, -, -, -, hbe3, hh⟩ := A3.out
                      have hd : ts.drop a = [] := List.drop_eq_nil_of_le (by rw [← HL.out]; omega)
                      rw [hd] at hperm
                      go_roundg (i - lvl - 1)
                      case measure => omega
                      case rel => exact ⟨lvl + 1, used, cc, qs, us', rfl, rfl, by omega, hown.base hbe3.size, htl, by rw [hlen, hh]; congr 1, hok, by simpa [allOf] using hperm, hun, hju, by omega, hbe3.trans (hbe.mono hbe3.size)⟩

theorem rankRight_any (A : Option Addr) (xs : List (Int × Int)) (c : Nat) (B : Option Addr) (nb cb : Nat) (z : Int) (hz : 0 ≤ z ∧ z ≤ 255) (w : World) (he : Env w) (hc : xs.length ≤ c) (hr : Row w A xs) (hB : BoolRow w B nb) :
    Calls Tryd.prog 4 #[.slice A xs.length c, .slice B nb cb, .int .u8 z] w fun e w' => e = .returned (.bool true) ∧ Below w.heap.size w w' := by
  obtain ⟨rr, rfl⟩ := Int.eq_ofNat_of_zero_le hz.1
  exact right_walk A xs xs.length c B nb cb rr (rr % 6) (by rw [show (6 : Int) = ((6 : Nat) : Int) from rfl, ← Int.ofNat_tmod]) (Nat.mod_lt _ (by decide)) (by omega) w he rfl hc hr hB

end Go.Proofs.YtlkpmafgokoaiaaDoor
