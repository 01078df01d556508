/-
  Contracts of the reference's Insert, pair and Pop (slagheapref08): the heap, and how many steps there were. Condition: heaps of fewer than 2 to the 27th elements.
-/
import Derived.Test.YtpclafbolppgcaaDoorPr2
namespace Go.Proofs.YtpclafbolppgcaaDoor
open Go.Sort Go.RowKit

theorem refMeld_lit (F : Nat → Prop) (t : Lh) (x1 x2 y1 y2 : Int) (B : Option Addr) (m d M : Nat) (w : World) (hF : ∀ k, w.heap.size ≤ k → F k) (hs : t.size < 134217728) (hb : RAt F w t (y1, y2) B m d M) :
    Calls Tryd.prog 21 #[.agg #[.int .i64 x1, .int .i64 x2, .slice none 0 0, .int .i64 1], .agg #[.int .i64 y1, .int .i64 y2, .slice B m d, .int .i64 (M : Int)]] w (GaveP F (t.insert (x1, x2)) (2 * meldN (.one (x1, x2)) t) w) :=
  refMeld_any F (.one (x1, x2)) t x1 x2 none 0 0 1 y1 y2 B m d M w hF (by rw [one_size]; omega) ⟨rfl, rfl, KRow.nil F w⟩ hb

set_option maxRecDepth 100000 in
set_option maxHeartbeats 2000000 in
theorem refInsert_any (F : Nat → Prop) (t : Lh) (x1 x2 y1 y2 : Int) (B : Option Addr) (m d M : Nat) (w : World) (hF : ∀ k, w.heap.size ≤ k → F k) (hs : t.size < 134217728) (hb : RAt F w t (y1, y2) B m d M) :
    Calls Tryd.prog 19 #[.agg #[.int .i64 x1, .int .i64 x2], .agg #[.int .i64 y1, .int .i64 y2, .slice B m d, .int .i64 (M : Int)]] w (GaveP F (t.insert (x1, x2)) (2 * meldN (.one (x1, x2)) t + 1) w) := by
  have hb1 : Below w.heap.size w (((w.alloc (.cells #[.int .i64 x1, .int .i64 x2] 32)).alloc (.cells #[.int .i64 y1, .int .i64 y2, .slice B m d, .int .i64 (M : Int)] 35)).alloc (.cells #[.int .i64 0, .int .i64 0, .slice none 0 0, .int .i64 0] 35)) := (((Below.refl _ _).alloc (Nat.le_refl _) _).alloc (by simp) _).alloc (by simp only [World.size_alloc]; omega) _
  have hq : QVar (((w.alloc (.cells #[.int .i64 x1, .int .i64 x2] 32)).alloc (.cells #[.int .i64 y1, .int .i64 y2, .slice B m d, .int .i64 (M : Int)] 35)).alloc (.cells #[.int .i64 0, .int .i64 0, .slice none 0 0, .int .i64 0] 35)) (w.heap.size + 1 + 1) (0, 0) none 0 0 0 := QVar.new _ _ _ _ _ _ 0 (by simp)
  have hs1 : (((w.alloc (.cells #[.int .i64 x1, .int .i64 x2] 32)).alloc (.cells #[.int .i64 y1, .int .i64 y2, .slice B m d, .int .i64 (M : Int)] 35)).alloc (.cells #[.int .i64 0, .int .i64 0, .slice none 0 0, .int .i64 0] 35)).heap.size = w.heap.size + 3 := by simp
  obtain ⟨k, hk⟩ : ∃ k, k = 2 * meldN (.one (x1, x2)) t := ⟨_, rfl⟩
  have HK := Lib.hid (show k = 2 * meldN (.one (x1, x2)) t ∧ k ≤ 2 from ⟨hk, by have := meldN_le (.one (x1, x2)) t; omega⟩)
  have HT := Lib.hid (And.intro hb1 (And.intro hq (And.intro hs1 (And.intro hF (And.intro hs hb)))))
  have ew : IntKind.i64.wrap ((k : Int) + 1) = (k : Int) + 1 := by have := HK.out; rw [IntKind.wrap_i64]; omega
  clear hb1 hq hs1 hF hs hb hk
  go_enter Tryd.func19, Tryd.ntmps19
  go_wp2_with fail
  generalize ((w.alloc (.cells #[.int .i64 x1, .int .i64 x2] 32)).alloc (.cells #[.int .i64 y1, .int .i64 y2, .slice B m d, .int .i64 (M : Int)] 35)).alloc _ = w1 at *
  obtain ⟨b2, hb2⟩ : ∃ b, b = w.heap.size + 1 + 1 := ⟨_, rfl⟩
  rw [← hb2] at HT ⊢
  have HO := Lib.hid hb2
  clear hb2
  have hf8 : Far F (fun k => F k ∧ k ≠ b2) w w1 := ⟨fun k hk _ => HT.out.1.block k hk, fun k hk h => ⟨h, by have := HO.out; omega⟩⟩
  ((with_reducible refine (refMeld_lit (fun k => F k ∧ k ≠ b2) t x1 x2 y1 y2 B m d M _ (fun k hk => ⟨HT.out.2.2.2.1 k (by have := HT.out.2.2.1; omega), by have := HT.out.2.2.1; have := HO.out; omega⟩) HT.out.2.2.2.2.1 (HT.out.2.2.2.2.2.far hf8)).mono ?_); rintro e w2 ⟨z1, z2, Az, nz, cz, Nz, rfl, ht2, hb2⟩)
  rw [← HK.out.1]
  have hz := (Below.refl w2.heap.size w2).alloc (Nat.le_refl _) (.cells #[.int .i64 z1, .int .i64 z2, .slice Az nz cz, .int .i64 (Nz : Int)] 35)
  have X2 := ((HT.out.2.1.stay hb2).stay hz).qd
  have HZ := Lib.hid (And.intro (ht2.stay hz) ((HT.out.1.trans (hb2.mono HT.out.1.size)).trans (hz.mono (Nat.le_trans HT.out.1.size hb2.size))))
  clear hf8 ht2 hb2 hz
  go_wp2_with (refine wpList_store_qd rfl _ _ rfl b2 rfl rfl X2 ⟨rfl, rfl, rfl, rfl⟩ ?_; intro w10 Y2 hk10 hb10 hs10)
  refine bodyPost_ret (v := .tuple #[.agg #[.int .i64 z1, .int .i64 z2, .slice Az nz cz, .int .i64 (Nz : Int)], .int .i64 ((k : Int) + 1)]) (by simp [results, Tryd.results19, go_sem, Y2.c0, Y2.c1, Y2.c2, Y2.c3]) rfl ?_
  refine ⟨z1, z2, Az, nz, cz, Nz, by rw [← HK.out.1]; rfl, HZ.out.1.far ⟨fun k _ hk => hk10 k hk.2, fun _ _ hk => hk.1⟩, hb10 _ _ HZ.out.2 (by have := HO.out; omega)⟩

theorem KRow.empty {F : Nat → Prop} {W : World} {ks : Kd} {A : Option Addr} {n c : Nat} (h : KRow F W ks A n c) (hn : n = 0) (b q : Nat) : KRow F W ks (some ⟨b, q, none⟩) n 0 := by
  obtain ⟨h1, h2, h3, -, kc, hk, -⟩ := h
  cases ks with
  | nil => exact ⟨h1, by omega, by omega, (fun e => by cases e), [], rfl, CAt.nil _ _ _⟩
  | cons x ls r => simp only [Kd.len] at h1; omega

/-- What pair does with a row of kids. -/
def PairsR (ks : Kd) : Prop := ∀ (F : Nat → Prop) (A : Option Addr) (n c : Nat) (w : World), (∀ k, w.heap.size ≤ k → F k) → KRow F w ks A n c → ks.size < 134217728 → Calls Tryd.prog 42 #[.slice A n c] w (GaveP F ks.pair (2 * ks.pairN) w)

set_option maxRecDepth 100000 in
theorem refPair_nil : PairsR .nil := by
  intro F A n c w hF hk hs
  obtain ⟨rfl, -⟩ := hk
  clear hF hs
  simp only [Kd.len]
  go_enter Tryd.func42, Tryd.ntmps42
  go_wp2_with fail
  refine bodyPost_ret (v := .tuple #[.agg #[.int .i64 0, .int .i64 0, .slice none 0 0, .int .i64 0], .int .i64 0]) (by simp [results, Tryd.results42, go_sem]) rfl ?_
  exact ⟨0, 0, none, 0, 0, 0, rfl, RAt.zero _ _, (Below.refl w.heap.size w).alloc (Nat.le_refl _) _⟩
set_option maxRecDepth 100000 in
set_option maxHeartbeats 1000000 in
theorem refPair_one (x : Int × Int) (ls : Kd) : PairsR (.cons x ls .nil) := by
  intro F A n c w hF hk hs
  obtain ⟨b, o, Ak, ck, rfl, hFb, ⟨c0, c1, c2, c3⟩, ht, -⟩ := hk.first
  obtain ⟨x1, x2⟩ := x
  obtain ⟨rfl, hc, hc2, -⟩ := hk
  simp only [Kd.len] at hc ⊢
  obtain ⟨nk, hnk⟩ : ∃ n, n = ls.len := ⟨_, rfl⟩
  obtain ⟨N, hN⟩ : ∃ n, n = 1 + ls.size := ⟨_, rfl⟩
  rw [← hN] at c3 ht
  rw [← hnk] at c2 ht
  have hb1 := (Below.refl w.heap.size w).alloc (Nat.le_refl _) (.cells #[.int .i64 0, .int .i64 0, .slice none 0 0, .int .i64 0] 35)
  have d0 := cell_old8 c0 (.cells #[.int .i64 0, .int .i64 0, .slice none 0 0, .int .i64 0] 35)
  have d1 := cell_old8 c1 (.cells #[.int .i64 0, .int .i64 0, .slice none 0 0, .int .i64 0] 35)
  have d2 := cell_old8 c2 (.cells #[.int .i64 0, .int .i64 0, .slice none 0 0, .int .i64 0] 35)
  have d3 := cell_old8 c3 (.cells #[.int .i64 0, .int .i64 0, .slice none 0 0, .int .i64 0] 35)
  have HT := Lib.hid ht
  clear c0 c1 c2 c3 hF hs hnk hN ht
  go_enter Tryd.func42, Tryd.ntmps42
  go_wp2_with fail
  refine bodyPost_ret (v := .tuple #[.agg #[.int .i64 x1, .int .i64 x2, .slice Ak nk ck, .int .i64 (N : Int)], .int .i64 0]) (by simp [results, Tryd.results42, go_sem]) rfl ?_
  have hbe := (Below.refl w.heap.size w).alloc (Nat.le_refl _) (.cells #[.int .i64 x1, .int .i64 x2, .slice Ak nk ck, .int .i64 (N : Int)] 35)
  exact ⟨x1, x2, Ak, nk, ck, N, rfl, HT.out.stay hbe, hbe⟩


set_option maxRecDepth 100000 in
set_option maxHeartbeats 8000000 in
theorem refPair_two (x y : Int × Int) (ls ms r : Kd) (hI : PairsR r) : PairsR (.cons x ls (.cons y ms r)) := by
  intro F A n c w hF hk hs
  obtain ⟨b, o, Ak, ck, rfl, hFb, hc, ht, hk2⟩ := hk.first
  obtain ⟨b', o', Al, cl, e1, hFb', hd, hu, hk3⟩ := hk2.first
  injection e1 with e1
  injection e1 with e1 e2
  subst e1
  subst e2
  have hn := hk.1
  simp only [Kd.len] at hn
  have hcap := hk.2.1
  have hmax := hk.2.2.1
  obtain ⟨x1, x2⟩ := x
  obtain ⟨y1, y2⟩ := y
  obtain ⟨nk, hnk⟩ : ∃ n, n = ls.len := ⟨_, rfl⟩
  obtain ⟨nl, hnl⟩ : ∃ n, n = ms.len := ⟨_, rfl⟩
  obtain ⟨N, hN⟩ : ∃ n, n = 1 + ls.size := ⟨_, rfl⟩
  obtain ⟨M, hM⟩ : ∃ n, n = 1 + ms.size := ⟨_, rfl⟩
  rw [← hN, ← hnk] at hc ht
  rw [← hM, ← hnl] at hd hu
  have hlt : b < w.heap.size := block_lt_of_cell hc.1
  have hs2 : N + M + r.size < 134217728 := by simp only [Kd.size] at hs; omega
  obtain ⟨n2, hn2⟩ : ∃ k, k = n - 1 - 1 := ⟨_, rfl⟩
  obtain ⟨c2, hc2⟩ : ∃ k, k = c - 1 - 1 := ⟨_, rfl⟩
  rw [← hn2, ← hc2] at hk3
  obtain ⟨ta, hta⟩ : ∃ t, t = meld (.node (x1, x2) ls) (.node (y1, y2) ms) := ⟨_, rfl⟩
  have hts : ta.size = N + M := by rw [hta, meld_size, hN, hM]; rfl
  obtain ⟨tb, htb⟩ : ∃ t, t = r.pair := ⟨_, rfl⟩
  have htbs : tb.size = r.size := by rw [htb, pair_size]
  obtain ⟨p1, hp1⟩ : ∃ k, k = 2 * meldN (.node (x1, x2) ls) (.node (y1, y2) ms) := ⟨_, rfl⟩
  obtain ⟨p2, hp2⟩ : ∃ k, k = 2 * r.pairN := ⟨_, rfl⟩
  obtain ⟨p3, hp3⟩ : ∃ k, k = 2 * meldN ta tb := ⟨_, rfl⟩
  have hpb : p1 ≤ 2 ∧ p2 < 300000000 ∧ p3 ≤ 2 := ⟨by have := meldN_le (.node (x1, x2) ls) (.node (y1, y2) ms); omega, by have := pairN_le r; have := r.len_le; omega, by have := meldN_le ta tb; omega⟩
  have HP := Lib.hid (show p1 = 2 * meldN (.node (x1, x2) ls) (.node (y1, y2) ms) ∧ p2 = 2 * r.pairN ∧ p3 = 2 * meldN ta tb ∧ p1 ≤ 2 ∧ p2 < 300000000 ∧ p3 ≤ 2 from ⟨hp1, hp2, hp3, hpb.1, hpb.2.1, hpb.2.2⟩)
  have HTT := Lib.hid (show ta = meld (.node (x1, x2) ls) (.node (y1, y2) ms) ∧ tb = r.pair ∧ ta.size = N + M ∧ tb.size = r.size from ⟨hta, htb, hts, htbs⟩)
  have HN := Lib.hid (show n = r.len + 1 + 1 ∧ n ≤ c ∧ c ≤ 9223372036854775807 ∧ n2 = n - 1 - 1 ∧ c2 = c - 1 - 1 ∧ N + M + r.size < 134217728 ∧ N = 1 + ls.size ∧ M = 1 + ms.size from ⟨hn, hcap, hmax, hn2, hc2, hs2, hN, hM⟩)
  have HR := Lib.hid (And.intro ht (And.intro hu (And.intro hk3 (And.intro hF hI))))
  have q1 : ((n : Int) == 0) = false := by simp; omega
  have q2 : ¬ n = 0 := by omega
  have q3 : ((n : Int) == 1) = false := by simp; omega
  have q4 : ¬ n = 1 := by omega
  have q5 : (0 : Int) < (n : Int) := by omega
  have q6 : (1 : Int) < (n : Int) := by omega
  have q7 : 0 < n := by omega
  have q8 : 1 < n := by omega
  have q9 : (2 : Int) ≤ (n : Int) := by omega
  have q10 : 2 ≤ n := by omega
  have q11 : n ≤ c := hcap
  have ew1 : IntKind.i64.wrap ((p1 : Int) + (p2 : Int)) = (p1 : Int) + (p2 : Int) := by rw [IntKind.wrap_i64]; omega
  have ew2 : IntKind.i64.wrap ((p1 : Int) + (p2 : Int) + (p3 : Int)) = (p1 : Int) + (p2 : Int) + (p3 : Int) := by rw [IntKind.wrap_i64]; omega
  have hz := (Below.refl w.heap.size w).alloc (Nat.le_refl _) (.cells #[.int .i64 0, .int .i64 0, .slice none 0 0, .int .i64 0] 35)
  have HC := Lib.hid (show ∀ W, Below w.heap.size w W → (W.cell? ⟨b, o, none⟩ = some (.int .i64 x1) ∧ W.cell? ⟨b, o + 1, none⟩ = some (.int .i64 x2) ∧ W.cell? ⟨b, o + 2, none⟩ = some (.slice Ak nk ck) ∧ W.cell? ⟨b, o + 3, none⟩ = some (.int .i64 (N : Int)) ∧ W.cell? ⟨b, o + 4, none⟩ = some (.int .i64 y1) ∧ W.cell? ⟨b, o + 5, none⟩ = some (.int .i64 y2) ∧ W.cell? ⟨b, o + 6, none⟩ = some (.slice Al nl cl) ∧ W.cell? ⟨b, o + 7, none⟩ = some (.int .i64 (M : Int))) from fun W hb =>
    ⟨(hb.cell (p := ⟨b, o, none⟩) hlt).trans hc.1, (hb.cell (p := ⟨b, o + 1, none⟩) hlt).trans hc.2.1, (hb.cell (p := ⟨b, o + 2, none⟩) hlt).trans hc.2.2.1, (hb.cell (p := ⟨b, o + 3, none⟩) hlt).trans hc.2.2.2, (hb.cell (p := ⟨b, o + 4, none⟩) hlt).trans hd.1, (hb.cell (p := ⟨b, o + 4 + 1, none⟩) hlt).trans hd.2.1, (hb.cell (p := ⟨b, o + 4 + 2, none⟩) hlt).trans hd.2.2.1, (hb.cell (p := ⟨b, o + 4 + 3, none⟩) hlt).trans hd.2.2.2⟩)
  have HZ := Lib.hid (And.intro hz (show QVar (w.alloc (.cells #[.int .i64 0, .int .i64 0, .slice none 0 0, .int .i64 0] 35)) w.heap.size (0, 0) none 0 0 0 from QVar.new _ _ _ _ _ _ 0 rfl))
  clear hF hk hs hI hFb hFb' hc hd ht hu hk2 hk3 hn hcap hmax hnk hnl hN hM hlt hs2 hn2 hc2 hta hts htb htbs hp1 hp2 hp3 hpb hz
  go_enter Tryd.func42, Tryd.ntmps42
  go_wp2_with fail
  generalize w.alloc (.cells #[.int .i64 0, .int .i64 0, .slice none 0 0, .int .i64 0] 35) = w1 at *
  obtain ⟨b0, hb0⟩ : ∃ b, b = w.heap.size := ⟨_, rfl⟩
  rw [← hb0] at HZ ⊢
  have HO := Lib.hid hb0
  clear hb0
  have HZ1 := Lib.hid (show Below w.heap.size w w1 from by have h := HZ.out.1; rw [HO.out] at h; exact h)
  have hd1 : Below w.heap.size w w1.drew := HZ1.out.trans (((Below.refl w1.heap.size w1).drew).mono HZ1.out.size)
  refine wp_region_noPanic ?_
  refine wp_region_held_drew (S := fun w' => w'.cell? ⟨b, o, none⟩ = some (.int .i64 x1) ∧ w'.cell? ⟨b, o + 1, none⟩ = some (.int .i64 x2) ∧ w'.cell? ⟨b, o + 2, none⟩ = some (.slice Ak nk ck) ∧ w'.cell? ⟨b, o + 3, none⟩ = some (.int .i64 (N : Int)) ∧ w'.cell? ⟨b, o + 4, none⟩ = some (.int .i64 y1) ∧ w'.cell? ⟨b, o + 5, none⟩ = some (.int .i64 y2) ∧ w'.cell? ⟨b, o + 6, none⟩ = some (.slice Al nl cl) ∧ w'.cell? ⟨b, o + 7, none⟩ = some (.int .i64 (M : Int))) (by kernel_rfl) (HC.out _ hd1) (fun hH => ?_)
  have HD := Lib.hid (And.intro hd1 ((HZ.out.2).stay ((Below.refl w1.heap.size w1).drew)))
  clear hd1 HZ
  generalize w1.drew = wd at *
  refine wpAnyH_take (i := 0) (oi := { dst := some 21, op := Go.Op.move (Go.Operand.tmp 0), type := 33, pos := "ref.go:50", after := #[], guard := none }) (v := ?v1) rfl (by as_aux_lemma => kernel_rfl) (by as_aux_lemma => kernel_rfl) (by as_aux_lemma => kernel_rfl) (fun _ _ _ h => h) (Or.inl ⟨(by as_aux_lemma => kernel_rfl), ?hy1⟩) hH ?rest1
  case hy1 => (intro w hSw; (try dsimp only at hSw); go_simp; try with_reducible rfl)
  try simp only [Act.put, List.setIfInBounds_toArray, List.set_cons_zero, List.set_cons_succ]
  refine wpAnyH_take (i := 1) (oi := { dst := some 22, op := Go.Op.indexAddr 33 (Go.Operand.tmp 21) (Go.Operand.const (Go.Value.int Go.IntKind.i64 0)), type := 0, pos := "ref.go:50", after := #[{ on := 0, ground := Go.Ground.data }], guard := none }) (v := ?v2) rfl (by as_aux_lemma => kernel_rfl) (by as_aux_lemma => kernel_rfl) (by as_aux_lemma => kernel_rfl) (fun _ _ _ h => h) (Or.inl ⟨(by as_aux_lemma => kernel_rfl), ?hy2⟩) hH ?rest2
  case hy2 => (intro w hSw; (try dsimp only at hSw); go_simp; try with_reducible rfl)
  try simp only [Act.put, List.setIfInBounds_toArray, List.set_cons_zero, List.set_cons_succ]
  refine wpAnyH_take (i := 2) (oi := { dst := some 23, op := Go.Op.load 35 (Go.Operand.tmp 22), type := 35, pos := "ref.go:50", after := #[{ on := 1, ground := Go.Ground.data }], guard := none }) (v := ?v3) rfl (by as_aux_lemma => kernel_rfl) (by as_aux_lemma => kernel_rfl) (by as_aux_lemma => kernel_rfl) (fun _ _ _ h => h) (Or.inl ⟨(by as_aux_lemma => kernel_rfl), ?hy3⟩) hH ?rest3
  case hy3 => (intro w hSw; (try dsimp only at hSw); go_simp; try with_reducible rfl)
  try simp only [Act.put, List.setIfInBounds_toArray, List.set_cons_zero, List.set_cons_succ]
  refine wpAnyH_take (i := 3) (oi := { dst := some 24, op := Go.Op.move (Go.Operand.tmp 0), type := 33, pos := "ref.go:50", after := #[], guard := none }) (v := ?v4) rfl (by as_aux_lemma => kernel_rfl) (by as_aux_lemma => kernel_rfl) (by as_aux_lemma => kernel_rfl) (fun _ _ _ h => h) (Or.inl ⟨(by as_aux_lemma => kernel_rfl), ?hy4⟩) hH ?rest4
  case hy4 => (intro w hSw; (try dsimp only at hSw); go_simp; try with_reducible rfl)
  try simp only [Act.put, List.setIfInBounds_toArray, List.set_cons_zero, List.set_cons_succ]
  refine wpAnyH_take (i := 4) (oi := { dst := some 25, op := Go.Op.indexAddr 33 (Go.Operand.tmp 24) (Go.Operand.const (Go.Value.int Go.IntKind.i64 1)), type := 0, pos := "ref.go:50", after := #[{ on := 3, ground := Go.Ground.data }], guard := none }) (v := ?v5) rfl (by as_aux_lemma => kernel_rfl) (by as_aux_lemma => kernel_rfl) (by as_aux_lemma => kernel_rfl) (fun _ _ _ h => h) (Or.inl ⟨(by as_aux_lemma => kernel_rfl), ?hy5⟩) hH ?rest5
  case hy5 => (intro w hSw; (try dsimp only at hSw); go_simp; try with_reducible rfl)
  try simp only [Act.put, List.setIfInBounds_toArray, List.set_cons_zero, List.set_cons_succ]
  refine wpAnyH_take (i := 5) (oi := { dst := some 26, op := Go.Op.load 35 (Go.Operand.tmp 25), type := 35, pos := "ref.go:50", after := #[{ on := 4, ground := Go.Ground.data }], guard := none }) (v := ?v6) rfl (by as_aux_lemma => kernel_rfl) (by as_aux_lemma => kernel_rfl) (by as_aux_lemma => kernel_rfl) (fun _ _ _ h => h) (Or.inl ⟨(by as_aux_lemma => kernel_rfl), ?hy6⟩) hH ?rest6
  case hy6 => (intro w hSw; (try dsimp only at hSw); go_simp; try with_reducible rfl)
  try simp only [Act.put, List.setIfInBounds_toArray, List.set_cons_zero, List.set_cons_succ]
  refine wpAnyH_ready (rs := [6, 10]) (by as_aux_lemma => kernel_rfl) (by simp) ?_
  refine AllReadyH.cons (o := { dst := some 27, op := Go.Op.call { callee := Go.Callee.value (Go.Operand.func 21), args := #[Go.Operand.tmp 23, Go.Operand.tmp 26], argTypes := #[35, 35] }, type := 41, pos := "ref.go:50", after := #[{ on := 2, ground := Go.Ground.data }, { on := 5, ground := Go.Ground.data }], guard := none }) rfl (fun K hK => ?_) (AllReadyH.cons (o := { dst := some 4, op := Go.Op.alloc 35, type := 0, pos := "ref.go:50", after := #[], guard := none }) rfl (fun K hK => ?_) AllReadyH.nil)
  · go_simp
    have hfx : Far F (fun k => F k ∧ k ≠ b0) w wd := ⟨fun k hk _ => HD.out.1.block k hk, fun k hk h => ⟨h, by have := HO.out; omega⟩⟩
    (with_reducible refine (refMeld_any (fun k => F k ∧ k ≠ b0) (.node (x1, x2) ls) (.node (y1, y2) ms) x1 x2 Ak nk ck N y1 y2 Al nl cl M _ (fun k hk => ⟨HR.out.2.2.2.1 k (Nat.le_trans HD.out.1.size hk), by have := HD.out.2.lt; omega⟩) (by have := HN.out; simp only [Lh.size]; omega) (HR.out.1.far hfx) (HR.out.2.1.far hfx)).mono ?_)
    rintro e wA ⟨z1, z2, Az, nz, cz, Nz, rfl, ht9, hb9⟩
    rw [← HP.out.1]; rw [← HTT.out.1] at ht9
    have DA := Lib.hid (And.intro (HD.out.1.trans (hb9.mono HD.out.1.size)) (And.intro (HD.out.2.stay hb9) ht9))
    clear ht9 hb9 hfx
    refine hK.out _ _ ?_ (fun hH2 => ?_)
    · exact HC.out _ DA.out.1
    clear hK K hH
    have hH := hH2
    clear hH2
    try simp only [Act.put, List.setIfInBounds_toArray, List.set_cons_zero, List.set_cons_succ]
    refine wpAnyH_take (i := 7) (oi := { dst := some 20, op := Go.Op.move (Go.Operand.tmp 27), type := 41, pos := "ref.go:50", after := #[{ on := 6, ground := Go.Ground.data }], guard := none }) (v := ?v7) rfl (by as_aux_lemma => kernel_rfl) (by as_aux_lemma => kernel_rfl) (by as_aux_lemma => kernel_rfl) (fun _ _ _ h => h) (Or.inl ⟨(by as_aux_lemma => kernel_rfl), ?hy7⟩) hH ?rest7
    case hy7 => (intro w hSw; (try dsimp only at hSw); go_simp; try with_reducible rfl)
    try simp only [Act.put, List.setIfInBounds_toArray, List.set_cons_zero, List.set_cons_succ]
    refine wpAnyH_take (i := 8) (oi := { dst := some 28, op := Go.Op.extract (Go.Operand.tmp 20) 0, type := 35, pos := "ref.go:50", after := #[{ on := 7, ground := Go.Ground.data }], guard := none }) (v := ?v8) rfl (by as_aux_lemma => kernel_rfl) (by as_aux_lemma => kernel_rfl) (by as_aux_lemma => kernel_rfl) (fun _ _ _ h => h) (Or.inl ⟨(by as_aux_lemma => kernel_rfl), ?hy8⟩) hH ?rest8
    case hy8 => (intro w hSw; (try dsimp only at hSw); go_simp; try with_reducible rfl)
    try simp only [Act.put, List.setIfInBounds_toArray, List.set_cons_zero, List.set_cons_succ]
    refine wpAnyH_take (i := 9) (oi := { dst := some 29, op := Go.Op.extract (Go.Operand.tmp 20) 1, type := 3, pos := "ref.go:50", after := #[{ on := 7, ground := Go.Ground.data }, { on := 11, ground := Go.Ground.gcOnly Go.Departure.lateStores }], guard := none }) (v := ?v9) rfl (by as_aux_lemma => kernel_rfl) (by as_aux_lemma => kernel_rfl) (by as_aux_lemma => kernel_rfl) (fun _ _ _ h => h) (Or.inl ⟨(by as_aux_lemma => kernel_rfl), ?hy9⟩) hH ?rest9
    case hy9 => (intro w hSw; (try dsimp only at hSw); go_simp; try with_reducible rfl)
    try simp only [Act.put, List.setIfInBounds_toArray, List.set_cons_zero, List.set_cons_succ]
    refine wpAnyH_ready (rs := [10]) (by as_aux_lemma => kernel_rfl) (by simp) ?_
    refine AllReadyH.cons (o := { dst := some 4, op := Go.Op.alloc 35, type := 0, pos := "ref.go:50", after := #[], guard := none }) rfl (fun K hK => ?_) AllReadyH.nil
    go_simp
    have hzA := (Below.refl wA.heap.size wA).alloc (Nat.le_refl _) (.cells #[.int .i64 0, .int .i64 0, .slice none 0 0, .int .i64 0] 35)
    have DB := Lib.hid (And.intro (DA.out.1.trans (hzA.mono DA.out.1.size)) (And.intro (DA.out.2.1.stay hzA) (And.intro ((DA.out.2.2.weak (F' := fun k => F k ∧ k ≠ b0 ∧ k ≠ wA.heap.size) (fun k hk h => ⟨h.1, h.2, by omega⟩)).stay hzA) (And.intro (show QVar (wA.alloc (.cells #[.int .i64 0, .int .i64 0, .slice none 0 0, .int .i64 0] 35)) wA.heap.size (0, 0) none 0 0 0 from QVar.new _ _ _ _ _ _ 0 rfl) (show b0 < wA.heap.size from DA.out.2.1.lt)))))
    have HSZ := Lib.hid (show wA.heap.size = (wA.alloc (.cells #[.int .i64 0, .int .i64 0, .slice none 0 0, .int .i64 0] 35)).heap.size - 1 by simp)
    refine hK.out _ _ ?_ (fun hH2 => ?_)
    · exact HC.out _ DB.out.1
    clear hK K hH
    have hH := hH2
    clear hH2
    try simp only [Act.put, List.setIfInBounds_toArray, List.set_cons_zero, List.set_cons_succ]
    clear hzA DA
    obtain ⟨ba, hba⟩ : ∃ b, b = wA.heap.size := ⟨_, rfl⟩
    rw [← hba] at DB ⊢
    clear hba HSZ
    generalize wA.alloc (.cells #[.int .i64 0, .int .i64 0, .slice none 0 0, .int .i64 0] 35) = wB at *
    refine wpAnyH_ready (rs := [11]) (by as_aux_lemma => kernel_rfl) (by simp) ?_
    refine AllReadyH.cons (o := { dst := none, op := Go.Op.store 35 (Go.Operand.tmp 4) (Go.Operand.tmp 28), type := 0, pos := "ref.go:50", after := #[{ on := 10, ground := Go.Ground.data }, { on := 8, ground := Go.Ground.data }, { on := 6, ground := Go.Ground.chain }, { on := 0, ground := Go.Ground.phase }, { on := 1, ground := Go.Ground.phase }, { on := 2, ground := Go.Ground.phase }, { on := 3, ground := Go.Ground.phase }, { on := 4, ground := Go.Ground.phase }, { on := 5, ground := Go.Ground.phase }, { on := 6, ground := Go.Ground.phase }, { on := 7, ground := Go.Ground.phase }, { on := 8, ground := Go.Ground.phase }, { on := 9, ground := Go.Ground.textOnly Go.Departure.lateStores }, { on := 10, ground := Go.Ground.phase }], guard := none }) rfl (fun K hK => ?_) AllReadyH.nil
    have XB := DB.out.2.2.2.1.qd
    have x0' := XB.c0
    have x1' := XB.c1
    have x2' := XB.c2
    have x3' := XB.c3
    have k0' := XB.z0
    have k1' := XB.z1
    have k2' := XB.z2
    have k3' := XB.z3
    go_simp
    clear x0' x1' x2' x3' k0' k1' k2' k3'
    have S9 := set4_qd XB (.int .i64 z1) (.int .i64 z2) (.slice Az nz cz) (.int .i64 (Nz : Int))
    have hwq : QVar (set4 wB ba (.int .i64 z1) (.int .i64 z2) (.slice Az nz cz) (.int .i64 (Nz : Int))) ba (z1, z2) Az nz cz Nz := heap_put (j := 3) (heap_put (j := 2) (heap_put (j := 1) (heap_put (j := 0) DB.out.2.2.2.1 _) _) _) _
    have T5 := Lib.hid (show QVar (set4 wB ba (.int .i64 z1) (.int .i64 z2) (.slice Az nz cz) (.int .i64 (Nz : Int))) ba (z1, z2) Az nz cz Nz ∧ RAt (fun k => F k ∧ k ≠ b0) (set4 wB ba (.int .i64 z1) (.int .i64 z2) (.slice Az nz cz) (.int .i64 (Nz : Int))) ta (z1, z2) Az nz cz Nz ∧ Below w.heap.size w (set4 wB ba (.int .i64 z1) (.int .i64 z2) (.slice Az nz cz) (.int .i64 (Nz : Int))) ∧ QVar (set4 wB ba (.int .i64 z1) (.int .i64 z2) (.slice Az nz cz) (.int .i64 (Nz : Int))) b0 (0, 0) none 0 0 0 ∧ b0 < ba from
      ⟨hwq, DB.out.2.2.1.far ⟨fun k _ hk => set4_far wB ba _ _ _ _ k hk.2.2, fun _ _ hk => ⟨hk.1, hk.2.1⟩⟩, set4_below DB.out.1 (by have := DB.out.2.2.2.2; have := HO.out; omega) _ _ _ _, DB.out.2.1.keep (set4_far wB ba _ _ _ _ b0 (by have := DB.out.2.2.2.2; omega)), DB.out.2.2.2.2⟩)
    clear S9 hwq XB
    unfold set4 at T5
    refine hK.out _ _ ?_ (fun hH2 => ?_)
    · exact HC.out _ T5.out.2.2.1
    clear hK K hH
    have hH := hH2
    clear hH2
    try simp only [Act.put, List.setIfInBounds_toArray, List.set_cons_zero, List.set_cons_succ]
    clear DB
    generalize (((wB.setCell ⟨ba, 0, none⟩ (.int .i64 z1)).setCell ⟨ba, 1, none⟩ (.int .i64 z2)).setCell ⟨ba, 2, none⟩ (.slice Az nz cz)).setCell ⟨ba, 3, none⟩ (.int .i64 (Nz : Int)) = w5 at *
    refine wpAnyH_ready (rs := [12]) (by as_aux_lemma => kernel_rfl) (by simp) ?_
    refine AllReadyH.cons (o := { dst := some 5, op := Go.Op.assign (Go.Operand.tmp 29), type := 3, pos := "ref.go:50", after := #[{ on := 9, ground := Go.Ground.data }, { on := 11, ground := Go.Ground.chain }, { on := 0, ground := Go.Ground.phase }, { on := 1, ground := Go.Ground.phase }, { on := 2, ground := Go.Ground.phase }, { on := 3, ground := Go.Ground.phase }, { on := 4, ground := Go.Ground.phase }, { on := 5, ground := Go.Ground.phase }, { on := 6, ground := Go.Ground.phase }, { on := 7, ground := Go.Ground.phase }, { on := 8, ground := Go.Ground.phase }, { on := 9, ground := Go.Ground.phase }, { on := 10, ground := Go.Ground.phase }, { on := 11, ground := Go.Ground.phase }], guard := none }) rfl (fun K hK => ?_) AllReadyH.nil
    go_simp
    refine hK.out _ _ ?_ (fun hH2 => ?_)
    · exact hH
    clear hK K hH
    have hH := hH2
    clear hH2
    try simp only [Act.put, List.setIfInBounds_toArray, List.set_cons_zero, List.set_cons_succ]
    refine wpAnyH_done (by as_aux_lemma => kernel_rfl) ?_ _
    refine NoPanic.normal ?_
    clear hH HD
    have hF5 : ∀ k, w5.heap.size ≤ k → F k ∧ k ≠ b0 := fun k hk => ⟨HR.out.2.2.2.1 k (Nat.le_trans T5.out.2.2.1.size hk), by have := T5.out.2.2.2.1.lt; omega⟩
    have hf5 : Far F (fun k => F k ∧ k ≠ b0) w w5 := ⟨fun k hk _ => T5.out.2.2.1.block k hk, fun k hk h => ⟨h, by have := HO.out; omega⟩⟩
    have ea : o + 2 * 4 = o + 4 + 4 := by omega
    have en : n - 2 = n2 := by have := HN.out; omega
    have ec : c - 2 = c2 := by have := HN.out; omega
    have HIC := Lib.hid (fun (q cc : Nat) (hq : (c = 2 ∧ cc = 0) ∨ (q = o + 4 + 4 ∧ cc = c2)) => HR.out.2.2.2.2 (fun k => F k ∧ k ≠ b0) (some ⟨b, q, none⟩) n2 cc w5 hF5 (by rcases hq with ⟨hq, rfl⟩ | ⟨rfl, rfl⟩; exact (HR.out.2.2.1.far hf5).empty (by have := HN.out; omega) b q; exact HR.out.2.2.1.far hf5) (by have := HN.out; omega))
    clear hf5
    by_cases hcc : c = 2
    · go_wp2_with fail
      ((with_reducible refine (HIC.out o 0 (.inl ⟨hcc, rfl⟩)).mono ?_); rintro e w6 ⟨u1, u2, Au, nu, cu, Nu, rfl, ht6, hb6⟩)
      rw [← HP.out.2.1]; rw [← HTT.out.2.1] at ht6
      have hz6 := (Below.refl w6.heap.size w6).alloc (Nat.le_refl _) (.cells #[.int .i64 u1, .int .i64 u2, .slice Au nu cu, .int .i64 (Nu : Int)] 35)
      have T6 := Lib.hid (And.intro ((T5.out.1.stay hb6).stay hz6) (And.intro ((T5.out.2.1.stay hb6).stay hz6) (And.intro ((T5.out.2.2.1.trans (hb6.mono T5.out.2.2.1.size)).trans (hz6.mono (Nat.le_trans T5.out.2.2.1.size hb6.size))) (And.intro ((T5.out.2.2.2.1.stay hb6).stay hz6) (And.intro (ht6.stay hz6) (show QVar (w6.alloc (.cells #[.int .i64 u1, .int .i64 u2, .slice Au nu cu, .int .i64 (Nu : Int)] 35)) w6.heap.size (u1, u2) Au nu cu Nu from QVar.new _ _ _ _ _ _ _ rfl))))))
      have hs6 : w5.heap.size ≤ (w6.alloc (.cells #[.int .i64 u1, .int .i64 u2, .slice Au nu cu, .int .i64 (Nu : Int)] 35)).heap.size := Nat.le_trans hb6.size hz6.size
      have A6 := T6.out.1.qd
      clear T5 HIC ht6 hb6 hz6 ea en ec
      have y0 := A6.c0
      have y1 := A6.c1
      have y2b := A6.c2
      have y3 := A6.c3
      clear A6
      go_wp2_with fail
      clear y0 y1 y2b y3
      generalize w6.alloc (.cells #[.int .i64 u1, .int .i64 u2, .slice Au nu cu, .int .i64 (Nu : Int)] 35) = w7 at *
      ((with_reducible refine (refMeld_any (fun k => F k ∧ k ≠ b0) ta tb z1 z2 Az nz cz Nz u1 u2 Au nu cu Nu _ (fun k hk => hF5 k (Nat.le_trans hs6 hk)) (by have := HTT.out; have := HN.out; omega) T6.out.2.1 T6.out.2.2.2.2.1).mono ?_); rintro e w8 ⟨v1, v2, Av, nv, cv, Nv, rfl, ht8, hb8⟩)
      rw [← HP.out.2.2.1]
      have hz8 := (Below.refl w8.heap.size w8).alloc (Nat.le_refl _) (.cells #[.int .i64 v1, .int .i64 v2, .slice Av nv cv, .int .i64 (Nv : Int)] 35)
      have X0 := ((T6.out.2.2.2.1.stay hb8).stay hz8)
      have T8 := Lib.hid (And.intro (ht8.stay hz8) (And.intro ((T6.out.2.2.1.trans (hb8.mono T6.out.2.2.1.size)).trans (hz8.mono (Nat.le_trans T6.out.2.2.1.size hb8.size))) (And.intro X0 (show b0 < w8.heap.size from Nat.lt_of_lt_of_le T6.out.2.2.2.1.lt hb8.size))))
      have X := X0.qd
      clear hF5 T6 hs6 ht8 hb8 hz8 X0
      go_wp2_with (refine wpList_store_qd rfl _ _ rfl b0 rfl rfl X ⟨rfl, rfl, rfl, rfl⟩ ?_; intro w10 Y2 hk10 hb10 hs10)
      refine bodyPost_ret (v := .tuple #[.agg #[.int .i64 v1, .int .i64 v2, .slice Av nv cv, .int .i64 (Nv : Int)], .int .i64 ((p1 : Int) + (p2 : Int) + (p3 : Int))]) (by simp [results, Tryd.results42, go_sem, Y2.c0, Y2.c1, Y2.c2, Y2.c3]) rfl ?_
      refine ⟨v1, v2, Av, nv, cv, Nv, ?_, ?_, ?_⟩
      · rw [show ((2 * (Kd.cons (x1, x2) ls (.cons (y1, y2) ms r)).pairN : Nat) : Int) = (p1 : Int) + (p2 : Int) + (p3 : Int) by have h9 := HP.out; have h8 := HTT.out; rw [h8.1, h8.2.1] at h9; simp only [Kd.pairN]; omega]
      · have h9 := T8.out.1
        rw [HTT.out.1, HTT.out.2.1, ← pair_two] at h9
        exact h9.far ⟨fun k _ hk => hk10 k hk.2, fun _ _ hk => hk.1⟩
      · exact hb10 _ _ T8.out.2.1 (by have := HO.out; omega)
    · go_wp2_with fail
      ((with_reducible refine (HIC.out (o + 4 + 4) c2 (.inr ⟨rfl, rfl⟩)).mono ?_); rintro e w6 ⟨u1, u2, Au, nu, cu, Nu, rfl, ht6, hb6⟩)
      rw [← HP.out.2.1]; rw [← HTT.out.2.1] at ht6
      have hz6 := (Below.refl w6.heap.size w6).alloc (Nat.le_refl _) (.cells #[.int .i64 u1, .int .i64 u2, .slice Au nu cu, .int .i64 (Nu : Int)] 35)
      have T6 := Lib.hid (And.intro ((T5.out.1.stay hb6).stay hz6) (And.intro ((T5.out.2.1.stay hb6).stay hz6) (And.intro ((T5.out.2.2.1.trans (hb6.mono T5.out.2.2.1.size)).trans (hz6.mono (Nat.le_trans T5.out.2.2.1.size hb6.size))) (And.intro ((T5.out.2.2.2.1.stay hb6).stay hz6) (And.intro (ht6.stay hz6) (show QVar (w6.alloc (.cells #[.int .i64 u1, .int .i64 u2, .slice Au nu cu, .int .i64 (Nu : Int)] 35)) w6.heap.size (u1, u2) Au nu cu Nu from QVar.new _ _ _ _ _ _ _ rfl))))))
      have hs6 : w5.heap.size ≤ (w6.alloc (.cells #[.int .i64 u1, .int .i64 u2, .slice Au nu cu, .int .i64 (Nu : Int)] 35)).heap.size := Nat.le_trans hb6.size hz6.size
      have A6 := T6.out.1.qd
      clear T5 HIC ht6 hb6 hz6 ea en ec
      have y0 := A6.c0
      have y1 := A6.c1
      have y2b := A6.c2
      have y3 := A6.c3
      clear A6
      go_wp2_with fail
      clear y0 y1 y2b y3
      generalize w6.alloc (.cells #[.int .i64 u1, .int .i64 u2, .slice Au nu cu, .int .i64 (Nu : Int)] 35) = w7 at *
      ((with_reducible refine (refMeld_any (fun k => F k ∧ k ≠ b0) ta tb z1 z2 Az nz cz Nz u1 u2 Au nu cu Nu _ (fun k hk => hF5 k (Nat.le_trans hs6 hk)) (by have := HTT.out; have := HN.out; omega) T6.out.2.1 T6.out.2.2.2.2.1).mono ?_); rintro e w8 ⟨v1, v2, Av, nv, cv, Nv, rfl, ht8, hb8⟩)
      rw [← HP.out.2.2.1]
      have hz8 := (Below.refl w8.heap.size w8).alloc (Nat.le_refl _) (.cells #[.int .i64 v1, .int .i64 v2, .slice Av nv cv, .int .i64 (Nv : Int)] 35)
      have X0 := ((T6.out.2.2.2.1.stay hb8).stay hz8)
      have T8 := Lib.hid (And.intro (ht8.stay hz8) (And.intro ((T6.out.2.2.1.trans (hb8.mono T6.out.2.2.1.size)).trans (hz8.mono (Nat.le_trans T6.out.2.2.1.size hb8.size))) (And.intro X0 (show b0 < w8.heap.size from Nat.lt_of_lt_of_le T6.out.2.2.2.1.lt hb8.size))))
      have X := X0.qd
      clear hF5 T6 hs6 ht8 hb8 hz8 X0
      go_wp2_with (refine wpList_store_qd rfl _ _ rfl b0 rfl rfl X ⟨rfl, rfl, rfl, rfl⟩ ?_; intro w10 Y2 hk10 hb10 hs10)
      refine bodyPost_ret (v := .tuple #[.agg #[.int .i64 v1, .int .i64 v2, .slice Av nv cv, .int .i64 (Nv : Int)], .int .i64 ((p1 : Int) + (p2 : Int) + (p3 : Int))]) (by simp [results, Tryd.results42, go_sem, Y2.c0, Y2.c1, Y2.c2, Y2.c3]) rfl ?_
      refine ⟨v1, v2, Av, nv, cv, Nv, ?_, ?_, ?_⟩
      · rw [show ((2 * (Kd.cons (x1, x2) ls (.cons (y1, y2) ms r)).pairN : Nat) : Int) = (p1 : Int) + (p2 : Int) + (p3 : Int) by have h9 := HP.out; have h8 := HTT.out; rw [h8.1, h8.2.1] at h9; simp only [Kd.pairN]; omega]
      · have h9 := T8.out.1
        rw [HTT.out.1, HTT.out.2.1, ← pair_two] at h9
        exact h9.far ⟨fun k _ hk => hk10 k hk.2, fun _ _ hk => hk.1⟩
      · exact hb10 _ _ T8.out.2.1 (by have := HO.out; omega)
  · go_simp
    have hzA := (Below.refl wd.heap.size wd).alloc (Nat.le_refl _) (.cells #[.int .i64 0, .int .i64 0, .slice none 0 0, .int .i64 0] 35)
    have DA := Lib.hid (And.intro (HD.out.1.trans (hzA.mono HD.out.1.size)) (And.intro (HD.out.2.stay hzA) (And.intro (show QVar (wd.alloc (.cells #[.int .i64 0, .int .i64 0, .slice none 0 0, .int .i64 0] 35)) wd.heap.size (0, 0) none 0 0 0 from QVar.new _ _ _ _ _ _ 0 rfl) (show b0 < wd.heap.size from HD.out.2.lt))))
    refine hK.out _ _ ?_ (fun hH2 => ?_)
    · exact HC.out _ DA.out.1
    clear hK K hH
    have hH := hH2
    clear hH2
    try simp only [Act.put, List.setIfInBounds_toArray, List.set_cons_zero, List.set_cons_succ]
    clear hzA
    obtain ⟨ba, hba⟩ : ∃ b, b = wd.heap.size := ⟨_, rfl⟩
    rw [← hba] at DA ⊢
    clear hba
    generalize wd.alloc (.cells #[.int .i64 0, .int .i64 0, .slice none 0 0, .int .i64 0] 35) = wA at *
    refine wpAnyH_ready (rs := [6]) (by as_aux_lemma => kernel_rfl) (by simp) ?_
    refine AllReadyH.cons (o := { dst := some 27, op := Go.Op.call { callee := Go.Callee.value (Go.Operand.func 21), args := #[Go.Operand.tmp 23, Go.Operand.tmp 26], argTypes := #[35, 35] }, type := 41, pos := "ref.go:50", after := #[{ on := 2, ground := Go.Ground.data }, { on := 5, ground := Go.Ground.data }], guard := none }) rfl (fun K hK => ?_) AllReadyH.nil
    go_simp
    have hfx : Far F (fun k => F k ∧ k ≠ b0 ∧ k ≠ ba) w wA := ⟨fun k hk _ => DA.out.1.block k hk, fun k hk h => ⟨h, by have := HO.out; omega, by have := HO.out; have := DA.out.2.2.2; omega⟩⟩
    (with_reducible refine (refMeld_any (fun k => F k ∧ k ≠ b0 ∧ k ≠ ba) (.node (x1, x2) ls) (.node (y1, y2) ms) x1 x2 Ak nk ck N y1 y2 Al nl cl M _ (fun k hk => ⟨HR.out.2.2.2.1 k (Nat.le_trans DA.out.1.size hk), by have := DA.out.2.1.lt; omega, by have := DA.out.2.2.1.lt; omega⟩) (by have := HN.out; simp only [Lh.size]; omega) (HR.out.1.far hfx) (HR.out.2.1.far hfx)).mono ?_)
    rintro e wB ⟨z1, z2, Az, nz, cz, Nz, rfl, ht9, hb9⟩
    rw [← HP.out.1]; rw [← HTT.out.1] at ht9
    have DB := Lib.hid (And.intro (DA.out.1.trans (hb9.mono DA.out.1.size)) (And.intro (DA.out.2.1.stay hb9) (And.intro ht9 (And.intro (DA.out.2.2.1.stay hb9) DA.out.2.2.2))))
    clear ht9 hb9 hfx DA
    refine hK.out _ _ ?_ (fun hH2 => ?_)
    · exact HC.out _ DB.out.1
    clear hK K hH
    have hH := hH2
    clear hH2
    try simp only [Act.put, List.setIfInBounds_toArray, List.set_cons_zero, List.set_cons_succ]
    refine wpAnyH_take (i := 7) (oi := { dst := some 20, op := Go.Op.move (Go.Operand.tmp 27), type := 41, pos := "ref.go:50", after := #[{ on := 6, ground := Go.Ground.data }], guard := none }) (v := ?v10) rfl (by as_aux_lemma => kernel_rfl) (by as_aux_lemma => kernel_rfl) (by as_aux_lemma => kernel_rfl) (fun _ _ _ h => h) (Or.inl ⟨(by as_aux_lemma => kernel_rfl), ?hy10⟩) hH ?rest10
    case hy10 => (intro w hSw; (try dsimp only at hSw); go_simp; try with_reducible rfl)
    try simp only [Act.put, List.setIfInBounds_toArray, List.set_cons_zero, List.set_cons_succ]
    refine wpAnyH_take (i := 8) (oi := { dst := some 28, op := Go.Op.extract (Go.Operand.tmp 20) 0, type := 35, pos := "ref.go:50", after := #[{ on := 7, ground := Go.Ground.data }], guard := none }) (v := ?v11) rfl (by as_aux_lemma => kernel_rfl) (by as_aux_lemma => kernel_rfl) (by as_aux_lemma => kernel_rfl) (fun _ _ _ h => h) (Or.inl ⟨(by as_aux_lemma => kernel_rfl), ?hy11⟩) hH ?rest11
    case hy11 => (intro w hSw; (try dsimp only at hSw); go_simp; try with_reducible rfl)
    try simp only [Act.put, List.setIfInBounds_toArray, List.set_cons_zero, List.set_cons_succ]
    refine wpAnyH_take (i := 9) (oi := { dst := some 29, op := Go.Op.extract (Go.Operand.tmp 20) 1, type := 3, pos := "ref.go:50", after := #[{ on := 7, ground := Go.Ground.data }, { on := 11, ground := Go.Ground.gcOnly Go.Departure.lateStores }], guard := none }) (v := ?v12) rfl (by as_aux_lemma => kernel_rfl) (by as_aux_lemma => kernel_rfl) (by as_aux_lemma => kernel_rfl) (fun _ _ _ h => h) (Or.inl ⟨(by as_aux_lemma => kernel_rfl), ?hy12⟩) hH ?rest12
    case hy12 => (intro w hSw; (try dsimp only at hSw); go_simp; try with_reducible rfl)
    try simp only [Act.put, List.setIfInBounds_toArray, List.set_cons_zero, List.set_cons_succ]
    refine wpAnyH_ready (rs := [11]) (by as_aux_lemma => kernel_rfl) (by simp) ?_
    refine AllReadyH.cons (o := { dst := none, op := Go.Op.store 35 (Go.Operand.tmp 4) (Go.Operand.tmp 28), type := 0, pos := "ref.go:50", after := #[{ on := 10, ground := Go.Ground.data }, { on := 8, ground := Go.Ground.data }, { on := 6, ground := Go.Ground.chain }, { on := 0, ground := Go.Ground.phase }, { on := 1, ground := Go.Ground.phase }, { on := 2, ground := Go.Ground.phase }, { on := 3, ground := Go.Ground.phase }, { on := 4, ground := Go.Ground.phase }, { on := 5, ground := Go.Ground.phase }, { on := 6, ground := Go.Ground.phase }, { on := 7, ground := Go.Ground.phase }, { on := 8, ground := Go.Ground.phase }, { on := 9, ground := Go.Ground.textOnly Go.Departure.lateStores }, { on := 10, ground := Go.Ground.phase }], guard := none }) rfl (fun K hK => ?_) AllReadyH.nil
    have XB := DB.out.2.2.2.1.qd
    have x0' := XB.c0
    have x1' := XB.c1
    have x2' := XB.c2
    have x3' := XB.c3
    have k0' := XB.z0
    have k1' := XB.z1
    have k2' := XB.z2
    have k3' := XB.z3
    go_simp
    clear x0' x1' x2' x3' k0' k1' k2' k3'
    have S9 := set4_qd XB (.int .i64 z1) (.int .i64 z2) (.slice Az nz cz) (.int .i64 (Nz : Int))
    have hwq : QVar (set4 wB ba (.int .i64 z1) (.int .i64 z2) (.slice Az nz cz) (.int .i64 (Nz : Int))) ba (z1, z2) Az nz cz Nz := heap_put (j := 3) (heap_put (j := 2) (heap_put (j := 1) (heap_put (j := 0) DB.out.2.2.2.1 _) _) _) _
    have T5 := Lib.hid (show QVar (set4 wB ba (.int .i64 z1) (.int .i64 z2) (.slice Az nz cz) (.int .i64 (Nz : Int))) ba (z1, z2) Az nz cz Nz ∧ RAt (fun k => F k ∧ k ≠ b0) (set4 wB ba (.int .i64 z1) (.int .i64 z2) (.slice Az nz cz) (.int .i64 (Nz : Int))) ta (z1, z2) Az nz cz Nz ∧ Below w.heap.size w (set4 wB ba (.int .i64 z1) (.int .i64 z2) (.slice Az nz cz) (.int .i64 (Nz : Int))) ∧ QVar (set4 wB ba (.int .i64 z1) (.int .i64 z2) (.slice Az nz cz) (.int .i64 (Nz : Int))) b0 (0, 0) none 0 0 0 ∧ b0 < ba from
      ⟨hwq, DB.out.2.2.1.far ⟨fun k _ hk => set4_far wB ba _ _ _ _ k hk.2.2, fun _ _ hk => ⟨hk.1, hk.2.1⟩⟩, set4_below DB.out.1 (by have := DB.out.2.2.2.2; have := HO.out; omega) _ _ _ _, DB.out.2.1.keep (set4_far wB ba _ _ _ _ b0 (by have := DB.out.2.2.2.2; omega)), DB.out.2.2.2.2⟩)
    clear S9 hwq XB
    unfold set4 at T5
    refine hK.out _ _ ?_ (fun hH2 => ?_)
    · exact HC.out _ T5.out.2.2.1
    clear hK K hH
    have hH := hH2
    clear hH2
    try simp only [Act.put, List.setIfInBounds_toArray, List.set_cons_zero, List.set_cons_succ]
    clear DB
    generalize (((wB.setCell ⟨ba, 0, none⟩ (.int .i64 z1)).setCell ⟨ba, 1, none⟩ (.int .i64 z2)).setCell ⟨ba, 2, none⟩ (.slice Az nz cz)).setCell ⟨ba, 3, none⟩ (.int .i64 (Nz : Int)) = w5 at *
    refine wpAnyH_ready (rs := [12]) (by as_aux_lemma => kernel_rfl) (by simp) ?_
    refine AllReadyH.cons (o := { dst := some 5, op := Go.Op.assign (Go.Operand.tmp 29), type := 3, pos := "ref.go:50", after := #[{ on := 9, ground := Go.Ground.data }, { on := 11, ground := Go.Ground.chain }, { on := 0, ground := Go.Ground.phase }, { on := 1, ground := Go.Ground.phase }, { on := 2, ground := Go.Ground.phase }, { on := 3, ground := Go.Ground.phase }, { on := 4, ground := Go.Ground.phase }, { on := 5, ground := Go.Ground.phase }, { on := 6, ground := Go.Ground.phase }, { on := 7, ground := Go.Ground.phase }, { on := 8, ground := Go.Ground.phase }, { on := 9, ground := Go.Ground.phase }, { on := 10, ground := Go.Ground.phase }, { on := 11, ground := Go.Ground.phase }], guard := none }) rfl (fun K hK => ?_) AllReadyH.nil
    go_simp
    refine hK.out _ _ ?_ (fun hH2 => ?_)
    · exact hH
    clear hK K hH
    have hH := hH2
    clear hH2
    try simp only [Act.put, List.setIfInBounds_toArray, List.set_cons_zero, List.set_cons_succ]
    refine wpAnyH_done (by as_aux_lemma => kernel_rfl) ?_ _
    refine NoPanic.normal ?_
    clear hH HD
    have hF5 : ∀ k, w5.heap.size ≤ k → F k ∧ k ≠ b0 := fun k hk => ⟨HR.out.2.2.2.1 k (Nat.le_trans T5.out.2.2.1.size hk), by have := T5.out.2.2.2.1.lt; omega⟩
    have hf5 : Far F (fun k => F k ∧ k ≠ b0) w w5 := ⟨fun k hk _ => T5.out.2.2.1.block k hk, fun k hk h => ⟨h, by have := HO.out; omega⟩⟩
    have ea : o + 2 * 4 = o + 4 + 4 := by omega
    have en : n - 2 = n2 := by have := HN.out; omega
    have ec : c - 2 = c2 := by have := HN.out; omega
    have HIC := Lib.hid (fun (q cc : Nat) (hq : (c = 2 ∧ cc = 0) ∨ (q = o + 4 + 4 ∧ cc = c2)) => HR.out.2.2.2.2 (fun k => F k ∧ k ≠ b0) (some ⟨b, q, none⟩) n2 cc w5 hF5 (by rcases hq with ⟨hq, rfl⟩ | ⟨rfl, rfl⟩; exact (HR.out.2.2.1.far hf5).empty (by have := HN.out; omega) b q; exact HR.out.2.2.1.far hf5) (by have := HN.out; omega))
    clear hf5
    by_cases hcc : c = 2
    · go_wp2_with fail
      ((with_reducible refine (HIC.out o 0 (.inl ⟨hcc, rfl⟩)).mono ?_); rintro e w6 ⟨u1, u2, Au, nu, cu, Nu, rfl, ht6, hb6⟩)
      rw [← HP.out.2.1]; rw [← HTT.out.2.1] at ht6
      have hz6 := (Below.refl w6.heap.size w6).alloc (Nat.le_refl _) (.cells #[.int .i64 u1, .int .i64 u2, .slice Au nu cu, .int .i64 (Nu : Int)] 35)
      have T6 := Lib.hid (And.intro ((T5.out.1.stay hb6).stay hz6) (And.intro ((T5.out.2.1.stay hb6).stay hz6) (And.intro ((T5.out.2.2.1.trans (hb6.mono T5.out.2.2.1.size)).trans (hz6.mono (Nat.le_trans T5.out.2.2.1.size hb6.size))) (And.intro ((T5.out.2.2.2.1.stay hb6).stay hz6) (And.intro (ht6.stay hz6) (show QVar (w6.alloc (.cells #[.int .i64 u1, .int .i64 u2, .slice Au nu cu, .int .i64 (Nu : Int)] 35)) w6.heap.size (u1, u2) Au nu cu Nu from QVar.new _ _ _ _ _ _ _ rfl))))))
      have hs6 : w5.heap.size ≤ (w6.alloc (.cells #[.int .i64 u1, .int .i64 u2, .slice Au nu cu, .int .i64 (Nu : Int)] 35)).heap.size := Nat.le_trans hb6.size hz6.size
      have A6 := T6.out.1.qd
      clear T5 HIC ht6 hb6 hz6 ea en ec
      have y0 := A6.c0
      have y1 := A6.c1
      have y2b := A6.c2
      have y3 := A6.c3
      clear A6
      go_wp2_with fail
      clear y0 y1 y2b y3
      generalize w6.alloc (.cells #[.int .i64 u1, .int .i64 u2, .slice Au nu cu, .int .i64 (Nu : Int)] 35) = w7 at *
      ((with_reducible refine (refMeld_any (fun k => F k ∧ k ≠ b0) ta tb z1 z2 Az nz cz Nz u1 u2 Au nu cu Nu _ (fun k hk => hF5 k (Nat.le_trans hs6 hk)) (by have := HTT.out; have := HN.out; omega) T6.out.2.1 T6.out.2.2.2.2.1).mono ?_); rintro e w8 ⟨v1, v2, Av, nv, cv, Nv, rfl, ht8, hb8⟩)
      rw [← HP.out.2.2.1]
      have hz8 := (Below.refl w8.heap.size w8).alloc (Nat.le_refl _) (.cells #[.int .i64 v1, .int .i64 v2, .slice Av nv cv, .int .i64 (Nv : Int)] 35)
      have X0 := ((T6.out.2.2.2.1.stay hb8).stay hz8)
      have T8 := Lib.hid (And.intro (ht8.stay hz8) (And.intro ((T6.out.2.2.1.trans (hb8.mono T6.out.2.2.1.size)).trans (hz8.mono (Nat.le_trans T6.out.2.2.1.size hb8.size))) (And.intro X0 (show b0 < w8.heap.size from Nat.lt_of_lt_of_le T6.out.2.2.2.1.lt hb8.size))))
      have X := X0.qd
      clear hF5 T6 hs6 ht8 hb8 hz8 X0
      go_wp2_with (refine wpList_store_qd rfl _ _ rfl b0 rfl rfl X ⟨rfl, rfl, rfl, rfl⟩ ?_; intro w10 Y2 hk10 hb10 hs10)
      refine bodyPost_ret (v := .tuple #[.agg #[.int .i64 v1, .int .i64 v2, .slice Av nv cv, .int .i64 (Nv : Int)], .int .i64 ((p1 : Int) + (p2 : Int) + (p3 : Int))]) (by simp [results, Tryd.results42, go_sem, Y2.c0, Y2.c1, Y2.c2, Y2.c3]) rfl ?_
      refine ⟨v1, v2, Av, nv, cv, Nv, ?_, ?_, ?_⟩
      · rw [show ((2 * (Kd.cons (x1, x2) ls (.cons (y1, y2) ms r)).pairN : Nat) : Int) = (p1 : Int) + (p2 : Int) + (p3 : Int) by have h9 := HP.out; have h8 := HTT.out; rw [h8.1, h8.2.1] at h9; simp only [Kd.pairN]; omega]
      · have h9 := T8.out.1
        rw [HTT.out.1, HTT.out.2.1, ← pair_two] at h9
        exact h9.far ⟨fun k _ hk => hk10 k hk.2, fun _ _ hk => hk.1⟩
      · exact hb10 _ _ T8.out.2.1 (by have := HO.out; omega)
    · go_wp2_with fail
      ((with_reducible refine (HIC.out (o + 4 + 4) c2 (.inr ⟨rfl, rfl⟩)).mono ?_); rintro e w6 ⟨u1, u2, Au, nu, cu, Nu, rfl, ht6, hb6⟩)
      rw [← HP.out.2.1]; rw [← HTT.out.2.1] at ht6
      have hz6 := (Below.refl w6.heap.size w6).alloc (Nat.le_refl _) (.cells #[.int .i64 u1, .int .i64 u2, .slice Au nu cu, .int .i64 (Nu : Int)] 35)
      have T6 := Lib.hid (And.intro ((T5.out.1.stay hb6).stay hz6) (And.intro ((T5.out.2.1.stay hb6).stay hz6) (And.intro ((T5.out.2.2.1.trans (hb6.mono T5.out.2.2.1.size)).trans (hz6.mono (Nat.le_trans T5.out.2.2.1.size hb6.size))) (And.intro ((T5.out.2.2.2.1.stay hb6).stay hz6) (And.intro (ht6.stay hz6) (show QVar (w6.alloc (.cells #[.int .i64 u1, .int .i64 u2, .slice Au nu cu, .int .i64 (Nu : Int)] 35)) w6.heap.size (u1, u2) Au nu cu Nu from QVar.new _ _ _ _ _ _ _ rfl))))))
      have hs6 : w5.heap.size ≤ (w6.alloc (.cells #[.int .i64 u1, .int .i64 u2, .slice Au nu cu, .int .i64 (Nu : Int)] 35)).heap.size := Nat.le_trans hb6.size hz6.size
      have A6 := T6.out.1.qd
      clear T5 HIC ht6 hb6 hz6 ea en ec
      have y0 := A6.c0
      have y1 := A6.c1
      have y2b := A6.c2
      have y3 := A6.c3
      clear A6
      go_wp2_with fail
      clear y0 y1 y2b y3
      generalize w6.alloc (.cells #[.int .i64 u1, .int .i64 u2, .slice Au nu cu, .int .i64 (Nu : Int)] 35) = w7 at *
      ((with_reducible refine (refMeld_any (fun k => F k ∧ k ≠ b0) ta tb z1 z2 Az nz cz Nz u1 u2 Au nu cu Nu _ (fun k hk => hF5 k (Nat.le_trans hs6 hk)) (by have := HTT.out; have := HN.out; omega) T6.out.2.1 T6.out.2.2.2.2.1).mono ?_); rintro e w8 ⟨v1, v2, Av, nv, cv, Nv, rfl, ht8, hb8⟩)
      rw [← HP.out.2.2.1]
      have hz8 := (Below.refl w8.heap.size w8).alloc (Nat.le_refl _) (.cells #[.int .i64 v1, .int .i64 v2, .slice Av nv cv, .int .i64 (Nv : Int)] 35)
      have X0 := ((T6.out.2.2.2.1.stay hb8).stay hz8)
      have T8 := Lib.hid (And.intro (ht8.stay hz8) (And.intro ((T6.out.2.2.1.trans (hb8.mono T6.out.2.2.1.size)).trans (hz8.mono (Nat.le_trans T6.out.2.2.1.size hb8.size))) (And.intro X0 (show b0 < w8.heap.size from Nat.lt_of_lt_of_le T6.out.2.2.2.1.lt hb8.size))))
      have X := X0.qd
      clear hF5 T6 hs6 ht8 hb8 hz8 X0
      go_wp2_with (refine wpList_store_qd rfl _ _ rfl b0 rfl rfl X ⟨rfl, rfl, rfl, rfl⟩ ?_; intro w10 Y2 hk10 hb10 hs10)
      refine bodyPost_ret (v := .tuple #[.agg #[.int .i64 v1, .int .i64 v2, .slice Av nv cv, .int .i64 (Nv : Int)], .int .i64 ((p1 : Int) + (p2 : Int) + (p3 : Int))]) (by simp [results, Tryd.results42, go_sem, Y2.c0, Y2.c1, Y2.c2, Y2.c3]) rfl ?_
      refine ⟨v1, v2, Av, nv, cv, Nv, ?_, ?_, ?_⟩
      · rw [show ((2 * (Kd.cons (x1, x2) ls (.cons (y1, y2) ms r)).pairN : Nat) : Int) = (p1 : Int) + (p2 : Int) + (p3 : Int) by have h9 := HP.out; have h8 := HTT.out; rw [h8.1, h8.2.1] at h9; simp only [Kd.pairN]; omega]
      · have h9 := T8.out.1
        rw [HTT.out.1, HTT.out.2.1, ← pair_two] at h9
        exact h9.far ⟨fun k _ hk => hk10 k hk.2, fun _ _ hk => hk.1⟩
      · exact hb10 _ _ T8.out.2.1 (by have := HO.out; omega)

theorem refPair_any : ∀ ks : Kd, PairsR ks
  | .nil => refPair_nil
  | .cons x ls .nil => refPair_one x ls
  | .cons x ls (.cons y ms r) => refPair_two x y ls ms r (refPair_any r)

end Go.Proofs.YtpclafbolppgcaaDoor
