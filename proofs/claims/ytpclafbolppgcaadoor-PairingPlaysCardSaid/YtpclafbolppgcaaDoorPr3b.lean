/-
  Contracts of the reference's Pop and Show (slagheapref08): the heap, and how many steps there were; a heap's text. Conditions: heaps of fewer than 2 to the 27th elements; for Show 64-bit numbers.
-/
import Derived.Test.YtpclafbolppgcaaDoorPr3
import Derived.Test.YtpclafbolppgcaaDoorMn
import Derived.Deep.LoopGhost
namespace Go.Proofs.YtpclafbolppgcaaDoor
open Go.Sort Go.RowKit

theorem refPair_at (ks : Kd) (F : Nat → Prop) (A : Option Addr) (n c : Nat) (w : World) (hF : ∀ k, w.heap.size ≤ k → F k) (hk : KRow F w ks A n c) (hs : ks.size < 134217728) : Calls Tryd.prog 42 #[.slice A n c] w (GaveP F ks.pair (2 * ks.pairN) w) := refPair_any ks F A n c w hF hk hs
theorem refTextP (x1 x2 : Int) (h : in64 x1 ∧ in64 x2) (w : World) : Calls Tryd.prog 49 #[.agg #[.int .i64 x1, .int .i64 x2]] w fun e w' => e = .returned (.string ⟨(textOf x1 x2).toArray⟩) ∧ Below w.heap.size w w' := refText_any x1 x2 h.1 h.2 w

set_option maxRecDepth 100000 in
set_option maxHeartbeats 2000000 in
theorem refPop_row (F : Nat → Prop) (ks : Kd) (x1 x2 : Int) (A : Option Addr) (n c N : Nat) (w : World) (hF : ∀ k, w.heap.size ≤ k → F k) (hs : ks.size < 134217728) (h : KRow F w ks A n c) :
    Calls Tryd.prog 23 #[.agg #[.int .i64 x1, .int .i64 x2, .slice A n c, .int .i64 (N : Int)]] w (GaveP F ks.pair (2 * ks.pairN) w) := by
  have hb1 : Below w.heap.size w ((w.alloc (.cells #[.int .i64 x1, .int .i64 x2, .slice A n c, .int .i64 (N : Int)] 35)).alloc (.cells #[.int .i64 0, .int .i64 0, .slice none 0 0, .int .i64 0] 35)) := ((Below.refl _ _).alloc (Nat.le_refl _) _).alloc (by simp) _
  have hq : QVar ((w.alloc (.cells #[.int .i64 x1, .int .i64 x2, .slice A n c, .int .i64 (N : Int)] 35)).alloc (.cells #[.int .i64 0, .int .i64 0, .slice none 0 0, .int .i64 0] 35)) (w.heap.size + 1) (0, 0) none 0 0 0 := QVar.new _ _ _ _ _ _ 0 (by simp)
  have hs1 : ((w.alloc (.cells #[.int .i64 x1, .int .i64 x2, .slice A n c, .int .i64 (N : Int)] 35)).alloc (.cells #[.int .i64 0, .int .i64 0, .slice none 0 0, .int .i64 0] 35)).heap.size = w.heap.size + 2 := by simp
  obtain ⟨k, hk⟩ : ∃ k, k = 2 * ks.pairN := ⟨_, rfl⟩
  have HK := Lib.hid hk
  have HT := Lib.hid (And.intro hb1 (And.intro hq (And.intro hs1 (And.intro hF (And.intro hs h)))))
  clear hb1 hq hs1 hF hs h hk
  go_enter Tryd.func23, Tryd.ntmps23
  go_wp2_with fail
  generalize (w.alloc (.cells #[.int .i64 x1, .int .i64 x2, .slice A n c, .int .i64 (N : Int)] 35)).alloc _ = w1 at *
  obtain ⟨b2, hb2⟩ : ∃ b, b = w.heap.size + 1 := ⟨_, rfl⟩
  rw [← hb2] at HT ⊢
  have HO := Lib.hid hb2
  clear hb2
  have hf8 : Far F (fun k => F k ∧ k ≠ b2) w w1 := ⟨fun k hk _ => HT.out.1.block k hk, fun k hk h => ⟨h, by have := HO.out; omega⟩⟩
  ((with_reducible refine (refPair_at ks (fun k => F k ∧ k ≠ b2) A n c _ (fun k hk => ⟨HT.out.2.2.2.1 k (by have := HT.out.2.2.1; omega), by have := HT.out.2.2.1; have := HO.out; omega⟩) (HT.out.2.2.2.2.2.far hf8) HT.out.2.2.2.2.1).mono ?_); rintro e w2 ⟨z1, z2, Az, nz, cz, Nz, rfl, ht2, hb2⟩)
  rw [← HK.out]
  have X2 := (HT.out.2.1.stay hb2).qd
  have HZ := Lib.hid (And.intro ht2 (HT.out.1.trans (hb2.mono HT.out.1.size)))
  clear hf8 ht2 hb2
  go_wp2_with (refine wpList_store_qd rfl _ _ rfl b2 rfl rfl X2 ⟨rfl, rfl, rfl, rfl⟩ ?_; intro w10 Y2 hk10 hb10 hs10)
  refine bodyPost_ret (v := .tuple #[.agg #[.int .i64 z1, .int .i64 z2, .slice Az nz cz, .int .i64 (Nz : Int)], .int .i64 (k : Int)]) (by simp [results, Tryd.results23, go_sem, Y2.c0, Y2.c1, Y2.c2, Y2.c3]) rfl ?_
  refine ⟨z1, z2, Az, nz, cz, Nz, by rw [← HK.out], HZ.out.1.far ⟨fun k _ hk => hk10 k hk.2, fun _ _ hk => hk.1⟩, hb10 _ _ HZ.out.2 (by have := HO.out; omega)⟩
theorem refPop_any (F : Nat → Prop) (t : Lh) (x1 x2 : Int) (A : Option Addr) (n c N : Nat) (w : World) (hs : t.size < 134217728) (hF : ∀ k, w.heap.size ≤ k → F k) (h : RAt F w t (x1, x2) A n c N) :
    Calls Tryd.prog 23 #[.agg #[.int .i64 x1, .int .i64 x2, .slice A n c, .int .i64 (N : Int)]] w (GaveP F t.pop (2 * t.popN) w) := by
  cases t with
  | nil =>
    obtain ⟨e, rfl, rfl, rfl, rfl⟩ := h
    exact refPop_row F .nil x1 x2 none 0 0 0 w hF (by decide) (KRow.nil F w)
  | node y ks => exact refPop_row F ks x1 x2 A n c N w hF (by rw [show (Lh.node y ks).size = 1 + ks.size from rfl] at hs; omega) h.2.2

/-- From a kid on: what is still to come, where. -/
theorem KRow.on {F : Nat → Prop} {W : World} {ks : Kd} {A : Option Addr} {n c : Nat} (h : KRow F W ks A n c) : ∃ b o : Nat, (0 < n → A = some ⟨b, o, none⟩) := by
  cases ks with
  | nil => obtain ⟨h1, -⟩ := h; exact ⟨0, 0, fun h => absurd h (by rw [h1]; simp [Kd.len])⟩
  | cons y ls r => obtain ⟨b, o, _, _, e, -⟩ := h.first; exact ⟨b, o, fun _ => e⟩

/-- What Show does with a heap. -/
abbrev ShowsR (t : Lh) : Prop := ∀ (F : Nat → Prop) (x1 x2 : Int) (A : Option Addr) (n c N : Nat) (w : World), RAt F w t (x1, x2) A n c N → t.size < 134217728 → fits t.all → Calls Tryd.prog 29 #[.agg #[.int .i64 x1, .int .i64 x2, .slice A n c, .int .i64 (N : Int)]] w fun e w' => e = .returned (.string ⟨t.show.toArray⟩) ∧ Below w.heap.size w w'

set_option maxRecDepth 100000 in
theorem refShow_nil : ShowsR .nil := by
  intro F x1 x2 A n c N w h _ _
  obtain ⟨e, rfl, rfl, rfl, rfl⟩ := h
  cases e
  go_enter Tryd.func29, Tryd.ntmps29
  go_wp2_with fail
  go_ret
  exact ⟨rfl, (Below.refl _ _).alloc (Nat.le_refl _) _⟩

set_option maxRecDepth 100000 in
set_option maxHeartbeats 2000000 in
theorem refShow_node (y : Int × Int) (ks : Kd) (hI : ∀ u : Lh, u.size ≤ ks.size → ShowsR u) : ShowsR (.node y ks) := by
  intro F x1 x2 A n c N w h hs hf
  obtain ⟨rfl, hN, hk⟩ := h
  rw [show (Lh.node (x1, x2) ks).size = 1 + ks.size from rfl] at hs
  have hfx : in64 x1 ∧ in64 x2 := hf.cons.1
  have hfk : fits ks.all := hf.cons.2
  obtain ⟨b, o, hA⟩ := hk.on
  have hnl : n = ks.len := hk.1
  have hcap := hk.2.1
  have hmax := hk.2.2.1
  have hlen := ks.len_le
  have hb0 := (Below.refl w.heap.size w).alloc (Nat.le_refl _) (.cells #[.int .i64 x1, .int .i64 x2, .slice A n c, .int .i64 (N : Int)] 35)
  have hv := QVar.new w x1 x2 A n c N rfl
  have q1 : ((N : Int) == 0) = false := by simp; omega
  have q2 : ¬ N = 0 := by omega
  obtain ⟨T0, hT0⟩ : ∃ T, T = textOf x1 x2 := ⟨_, rfl⟩
  have h1 := textOf_length x1 x2 hfx.1 hfx.2
  have h2 := ks.show_length hfk
  rw [← hT0] at h1
  have n1 : ¬ 9223372036854775807 < 1 + T0.length := by omega
  have H := Lib.hid (And.intro (hk.stay hb0) (And.intro hb0 (And.intro hs (And.intro hfx (And.intro hfk (And.intro hT0 (And.intro (And.intro h1 h2) (And.intro hnl (And.intro hlen hI)))))))))
  have HM := Lib.hid (And.intro hcap (And.intro hmax hA))
  clear hk hb0 hs hfx hfk hT0 h1 h2 hnl hlen hI hf hN hcap hmax hA
  go_enter Tryd.func29, Tryd.ntmps29
  go_wp2_with fail
  generalize w.alloc (.cells #[.int .i64 x1, .int .i64 x2, .slice A n c, .int .i64 (N : Int)] 35) = w1 at *
  obtain ⟨b0, hbb⟩ : ∃ b, b = w.heap.size := ⟨_, rfl⟩
  rw [← hbb] at hv ⊢
  clear hbb
  have HV := Lib.hid hv
  ((with_reducible refine (refTextP x1 x2 H.out.2.2.2.1 _).mono ?_); rintro e w2 ⟨rfl, hb2⟩)
  rw [← H.out.2.2.2.2.2.1]
  have HB2 := Lib.hid hb2
  clear hb2 hv
  go_wp2_with fail
  go_loopg [3, 4] n (fun k s iv wr => ∃ (i : Nat) (T : List UInt8) (r : Kd) (B : Option Addr) (d : Nat), iv = .int .i64 (i : Int) ∧ s = .string ⟨T.toArray⟩ ∧ (40 :: (textOf x1 x2 ++ ks.show)) = T ++ r.show ∧ i + k = n ∧ Below w1.heap.size w1 wr ∧ KRow F w1 r B k d ∧ (0 < k → B = some ⟨b, o + i * 4, none⟩) ∧ r.size ≤ ks.size ∧ fits r.all)
  case atStart => exact ⟨0, 40 :: T0, ks, A, c, rfl, by rw [show (⟨#[40]⟩ : ByteArray) = ⟨([40] : List UInt8).toArray⟩ from rfl, append_bytes]; rfl, by rw [H.out.2.2.2.2.2.1]; rfl, by omega, HB2.out, H.out.1, (fun h => by rw [Nat.zero_mul, Nat.add_zero]; exact HM.out.2.2 h), Nat.le_refl _, H.out.2.2.2.2.1⟩
  case round =>
    obtain ⟨i, T, r, B, d, rfl, rfl, hT, hi, hb, hr, hB, hsz, hfr⟩ := hrel
    have hv := (HV.out.stay hb)
    have v0 := hv.qd.c0
    have v1 := hv.qd.c1
    have v2 := hv.qd.c2
    have v3 := hv.qd.c3
    have hTl : T.length ≤ 50 + 46 * ks.size := by
      have h3 := congrArg List.length hT
      have h4 := H.out.2.2.2.2.2.2.1
      rw [H.out.2.2.2.2.2.1] at h4
      simp only [List.length_cons, List.length_append] at h3
      omega
    have hks : ks.size < 134217728 := by have := H.out.2.2.1; omega
    by_cases hlt : i < n
    · cases r with
      | nil => exact absurd hr.1 (by simp only [Kd.len]; omega)
      | cons u ls r =>
        obtain ⟨b', o', Ak, ck, e1, -, ⟨c0, c1, c2, c3⟩, ht, hr2⟩ := hr.first
        have hA := HM.out.2.2 (by omega)
        subst hA
        have e2 := hB (by omega)
        rw [e1] at e2
        injection e2 with e2
        injection e2 with e2 e3
        subst e2
        subst e3
        obtain ⟨u1, u2⟩ := u
        obtain ⟨nk, hnk⟩ : ∃ n, n = ls.len := ⟨_, rfl⟩
        obtain ⟨M, hM⟩ : ∃ n, n = 1 + ls.size := ⟨_, rfl⟩
        rw [← hnk] at c2 ht
        rw [← hM] at c3 ht
        have p0 := (hb.cell (block_lt_of_cell c0)).trans c0
        have p1 := (hb.cell (block_lt_of_cell c1)).trans c1
        have p2 := (hb.cell (block_lt_of_cell c2)).trans c2
        have p3 := (hb.cell (block_lt_of_cell c3)).trans c3
        have hsu : (Lh.node (u1, u2) ls).size ≤ ks.size := by simp only [Kd.size] at hsz; rw [show (Lh.node (u1, u2) ls).size = 1 + ls.size from rfl]; omega
        have hfu : fits (Lh.node (u1, u2) ls).all := by simp only [Kd.all] at hfr; exact hfr.append.1
        have hfr2 : fits r.all := by simp only [Kd.all] at hfr; exact hfr.append.2
        have hul := (Lh.node (u1, u2) ls).show_length hfu
        have hrs : r.size ≤ ks.size := by simp only [Kd.size] at hsz; omega
        obtain ⟨U, hU⟩ : ∃ U, U = (Lh.node (u1, u2) ls).show := ⟨_, rfl⟩
        rw [← hU] at hul
        have q3 : decide ((i : Int) < (n : Int)) = true := by simp; omega
        have q4 : (i : Int) < (n : Int) := by omega
        have q5 : (0 : Int) ≤ (i : Int) := by omega
        have w1' : IntKind.i64.wrap ((i : Int) + 1) = (i : Int) + 1 := by have := H.out.2.2.2.2.2.2.2; rw [IntKind.wrap_i64]; omega
        have n2 : ¬ 9223372036854775807 < 1 + U.length := by omega
        have n3 : ¬ 9223372036854775807 < T.length + (1 + U.length) := by omega
        have HT := Lib.hid (And.intro (ht.stay hb) (And.intro hsu (And.intro hfu (And.intro hU (And.intro hi (And.intro (show (40 :: (textOf x1 x2 ++ ks.show)) = (T ++ (32 :: U)) ++ r.show from by rw [hT, hU]; simp [Kd.show, Lh.show]) (And.intro hr2 (And.intro hrs hfr2))))))))
        have HB := Lib.hid hb
        clear hT hr hB hsz hfr hTl e1 c0 c1 c2 c3 ht hr2 hnk hM hsu hfu hfr2 hul hrs hU hb hv hi
        go_wp2_with fail
        ((with_reducible refine (H.out.2.2.2.2.2.2.2.2.2 (.node (u1, u2) ls) HT.out.2.1 F u1 u2 Ak nk ck M _ HT.out.1 (by have := HT.out.2.1; omega) HT.out.2.2.1).mono ?_); rintro e w3 ⟨rfl, hb3⟩)
        rw [← HT.out.2.2.2.1]
        have HB3 := Lib.hid (HB.out.trans (hb3.mono HB.out.size))
        clear hb3 v0 v1 v2 v3 p0 p1 p2 p3
        go_wp2_with fail
        go_roundg (n - 1 - i)
        case measure => have := HT.out; omega
        case rel =>
          have hg : gk - 1 = n - 1 - i := by have := HT.out.2.2.2.2.1; omega
          exact ⟨i + 1, T ++ 32 :: U, r, some ⟨b', o + i * 4 + 4, none⟩, d - 1, by first | rfl | (congr 1; unfold wrap64; omega), by rw [show (⟨#[32]⟩ : ByteArray) = ⟨([32] : List UInt8).toArray⟩ from rfl, append_bytes, append_bytes]; simp, HT.out.2.2.2.2.2.1, by have := HT.out; omega, HB3.out, by rw [← hg]; exact HT.out.2.2.2.2.2.2.1, (fun _ => by rw [show o + (i + 1) * 4 = o + i * 4 + 4 by omega]), HT.out.2.2.2.2.2.2.2.1, HT.out.2.2.2.2.2.2.2.2⟩
    · obtain rfl : gk = 0 := by omega
      obtain rfl : r = .nil := by
        cases r with
        | nil => rfl
        | cons u ls r => have := hr.1; simp only [Kd.len] at this; omega
      have q3 : decide ((i : Int) < (n : Int)) = false := by simp; omega
      have q4 : ¬ (i : Int) < (n : Int) := by omega
      have n2 : ¬ 9223372036854775807 < T.length + 1 := by omega
      have HQ := Lib.hid (show 40 :: (textOf x1 x2 ++ ks.show) = T by rw [hT]; simp [Kd.show])
      have HB := Lib.hid hb
      clear hT hr hB hsz hfr hTl hb hv hi
      go_wp2_with fail
      go_ret
      refine ⟨?_, H.out.2.1.trans (HB.out.mono H.out.2.1.size)⟩
      rw [show (Lh.node (x1, x2) ks).show = T ++ [41] from by rw [← HQ.out]; simp [Lh.show]]
      rfl

theorem refShow_le : ∀ (m : Nat) (t : Lh), t.size ≤ m → ShowsR t
  | _, .nil, _ => refShow_nil
  | 0, .node y ks, h => by rw [show (Lh.node y ks).size = 1 + ks.size from rfl] at h; omega
  | m + 1, .node y ks, h => refShow_node y ks (fun u hu => refShow_le m u (by rw [show (Lh.node y ks).size = 1 + ks.size from rfl] at h; omega))
theorem refShow_any (F : Nat → Prop) (t : Lh) (x1 x2 : Int) (A : Option Addr) (n c N : Nat) (w : World) (h : RAt F w t (x1, x2) A n c N) (hs : t.size < 134217728) (hf : fits t.all) :
    Calls Tryd.prog 29 #[.agg #[.int .i64 x1, .int .i64 x2, .slice A n c, .int .i64 (N : Int)]] w fun e w' => e = .returned (.string ⟨t.show.toArray⟩) ∧ Below w.heap.size w w' := refShow_le t.size t (Nat.le_refl _) F x1 x2 A n c N w h hs hf

end Go.Proofs.YtpclafbolppgcaaDoor
