/-
  Contracts of the reference's Pop and Insert (slagheapref06): the heap, and how many steps there were. Condition: heaps of fewer than 2 to the 27th elements. Contract of the reference's Show (slagheapref06): a heap's text. Conditions: 64-bit numbers; heaps of fewer than 2 to the 28th elements.
-/
import Derived.Test.YtliehednnhilkaaDoorRhb
import Derived.Test.YtliehednnhilkaaDoorRha
import Derived.Test.YtliehednnhilkaaDoorNumberF
namespace Go.Proofs.YtliehednnhilkaaDoor
open Go.Sort Go.RowKit

set_option maxRecDepth 100000 in
theorem refPop_nil (F : Nat → Prop) (w : World) : Calls Tryd.prog 23 #[.agg #[.int .i64 0, .int .i64 0, .slice none 0 0]] w (GaveW F .nil 0 w) := by
  go_enter Tryd.func23, Tryd.ntmps23
  go_wp2_with fail
  refine bodyPost_ret (v := .tuple #[.agg #[.int .i64 0, .int .i64 0, .slice none 0 0], .int .i64 0]) (by simp [results, Tryd.results23, go_sem]) rfl ?_
  exact ⟨0, 0, none, 0, 0, rfl, RAt.zero _ _, ((Below.refl w.heap.size w).alloc (Nat.le_refl _) _).alloc (by simp) _⟩

set_option maxRecDepth 100000 in
set_option maxHeartbeats 1000000 in
theorem refPop_node (F : Nat → Prop) (x1 x2 : Int) (l r : Lh) (A : Option Addr) (c : Nat) (w : World) (hs : (Lh.node (x1, x2) l r).size < 268435456) (hF : ∀ k, w.heap.size ≤ k → F k) (h : RAt F w (.node (x1, x2) l r) (x1, x2) A 2 c) :
    Calls Tryd.prog 23 #[.agg #[.int .i64 x1, .int .i64 x2, .slice A 2 c]] w (GaveW F (meld l r) (2 * meldN l r) w) := by
  obtain ⟨-, -, kb, ⟨l1, l2⟩, ⟨r1, r2⟩, Al, Ar, nl, cl, nr, cr, rfl, hc, hc2, -, hk, hl, hr⟩ := h.kids
  have hb0 := ((Below.refl w.heap.size w).alloc (Nat.le_refl _) (.cells #[.int .i64 x1, .int .i64 x2, .slice (some ⟨kb, 0, none⟩) 2 c] 35)).alloc (by simp) (.cells #[.int .i64 0, .int .i64 0, .slice none 0 0] 35)
  have hv := (WVar.new w x1 x2 (some ⟨kb, 0, none⟩) 2 c rfl).stay ((Below.refl (w.alloc (.cells #[.int .i64 x1, .int .i64 x2, .slice (some ⟨kb, 0, none⟩) 2 c] 35)).heap.size (w.alloc (.cells #[.int .i64 x1, .int .i64 x2, .slice (some ⟨kb, 0, none⟩) 2 c] 35))).alloc (Nat.le_refl _) (.cells #[.int .i64 0, .int .i64 0, .slice none 0 0] 35))
  have hz : WVar ((w.alloc (.cells #[.int .i64 x1, .int .i64 x2, .slice (some ⟨kb, 0, none⟩) 2 c] 35)).alloc (.cells #[.int .i64 0, .int .i64 0, .slice none 0 0] 35)) (w.heap.size + 1) (0, 0) none 0 0 := new_at (by simp)
  have hsz : ((w.alloc (.cells #[.int .i64 x1, .int .i64 x2, .slice (some ⟨kb, 0, none⟩) 2 c] 35)).alloc (.cells #[.int .i64 0, .int .i64 0, .slice none 0 0] 35)).heap.size = w.heap.size + 1 + 1 := by simp
  have HF := Lib.hid hF
  have HN := Lib.hid hs
  have HT := Lib.hid (And.intro hl hr)
  have hk1 := hk.stay hb0
  clear h hl hr hs hF hk
  go_enter Tryd.func23, Tryd.ntmps23
  go_wp2_with fail
  generalize (w.alloc (.cells #[.int .i64 x1, .int .i64 x2, .slice (some ⟨kb, 0, none⟩) 2 c] 35)).alloc (.cells #[.int .i64 0, .int .i64 0, .slice none 0 0] 35) = w1 at *
  obtain ⟨b1, hb1⟩ : ∃ b, b = w.heap.size + 1 := ⟨_, rfl⟩
  rw [← hb1] at hz hsz ⊢
  obtain ⟨b0, hbb⟩ : ∃ b, b = w.heap.size := ⟨_, rfl⟩
  rw [← hbb] at hv ⊢
  have HO := Lib.hid (show b0 = w.heap.size ∧ b1 = b0 + 1 ∧ w1.heap.size = b1 + 1 from ⟨hbb, by omega, hsz⟩)
  clear hb1 hbb hsz
  have hne : kb ≠ b1 := by rintro rfl; have h1 : w1.heap[kb]? = _ := hz; have h2 : w1.heap[kb]? = _ := hk1; rw [h1] at h2; cases h2
  have HS := Lib.hid (fun (w' : World) (hz : ∀ k, k < w1.heap.size → k ≠ b1 → w'.heap[k]? = w1.heap[k]?) => (show w'.cell? ⟨b0, 2, none⟩ = some (.slice (some ⟨kb, 0, none⟩) 2 c) ∧ w'.cell? ⟨kb, 0, none⟩ = some (.int .i64 l1) ∧ w'.cell? ⟨kb, 1, none⟩ = some (.int .i64 l2) ∧ w'.cell? ⟨kb, 2, none⟩ = some (.slice Al nl cl) ∧ w'.cell? ⟨kb, 3, none⟩ = some (.int .i64 r1) ∧ w'.cell? ⟨kb, 4, none⟩ = some (.int .i64 r2) ∧ w'.cell? ⟨kb, 5, none⟩ = some (.slice Ar nr cr) from by
    have a1 := hv.keep (hz _ hv.lt (by have := HO.out; omega))
    have a2 := hk1.keep (hz _ hk1.lt hne)
    exact ⟨a1.c2, a2.k0, a2.k1, a2.k2, a2.k3, a2.k4, a2.k5⟩))
  have hd0 : Below w1.heap.size w1 w1.drew := (Below.refl _ _).drew
  have HB0 := Lib.hid hb0
  clear hk1 hv hb0
  refine wp_region_noPanic ?_
  refine wp_region_held_drew (S := fun w' => w'.cell? ⟨b0, 2, none⟩ = some (.slice (some ⟨kb, 0, none⟩) 2 c) ∧ w'.cell? ⟨kb, 0, none⟩ = some (.int .i64 l1) ∧ w'.cell? ⟨kb, 1, none⟩ = some (.int .i64 l2) ∧ w'.cell? ⟨kb, 2, none⟩ = some (.slice Al nl cl) ∧ w'.cell? ⟨kb, 3, none⟩ = some (.int .i64 r1) ∧ w'.cell? ⟨kb, 4, none⟩ = some (.int .i64 r2) ∧ w'.cell? ⟨kb, 5, none⟩ = some (.slice Ar nr cr)) (by kernel_rfl) (HS.out _ (fun k hk _ => hd0.block k hk)) (fun hH => ?_)
  generalize w1.drew = wd at *
  refine wpAnyH_take (i := 0) (oi := { dst := some 9, op := Go.Op.fieldAddr 35 (Go.Operand.tmp 1) 1, type := 0, pos := "ref.go:68", after := #[], guard := none }) (v := ?v1_0_0) rfl (by as_aux_lemma => kernel_rfl) (by as_aux_lemma => kernel_rfl) (by as_aux_lemma => kernel_rfl) (fun _ _ _ h => h) (Or.inl ⟨(by as_aux_lemma => kernel_rfl), ?hy1_0_0⟩) hH ?rest1_0_0
  case hy1_0_0 => (intro w hSw; (try dsimp only at hSw); go_simp; try with_reducible rfl)
  try simp only [Act.put, List.setIfInBounds_toArray, List.set_cons_zero, List.set_cons_succ]
  refine wpAnyH_take (i := 1) (oi := { dst := some 10, op := Go.Op.load 33 (Go.Operand.tmp 9), type := 33, pos := "ref.go:68", after := #[{ on := 0, ground := Go.Ground.data }], guard := none }) (v := ?v1_0_1) rfl (by as_aux_lemma => kernel_rfl) (by as_aux_lemma => kernel_rfl) (by as_aux_lemma => kernel_rfl) (fun _ _ _ h => h) (Or.inl ⟨(by as_aux_lemma => kernel_rfl), ?hy1_0_1⟩) hH ?rest1_0_1
  case hy1_0_1 => (intro w hSw; (try dsimp only at hSw); go_simp; try with_reducible rfl)
  try simp only [Act.put, List.setIfInBounds_toArray, List.set_cons_zero, List.set_cons_succ]
  refine wpAnyH_take (i := 2) (oi := { dst := some 11, op := Go.Op.indexAddr 33 (Go.Operand.tmp 10) (Go.Operand.const (Go.Value.int Go.IntKind.i64 0)), type := 0, pos := "ref.go:68", after := #[{ on := 1, ground := Go.Ground.data }], guard := none }) (v := ?v1_0_2) rfl (by as_aux_lemma => kernel_rfl) (by as_aux_lemma => kernel_rfl) (by as_aux_lemma => kernel_rfl) (fun _ _ _ h => h) (Or.inl ⟨(by as_aux_lemma => kernel_rfl), ?hy1_0_2⟩) hH ?rest1_0_2
  case hy1_0_2 => (intro w hSw; (try dsimp only at hSw); go_simp; try with_reducible rfl)
  try simp only [Act.put, List.setIfInBounds_toArray, List.set_cons_zero, List.set_cons_succ]
  refine wpAnyH_take (i := 3) (oi := { dst := some 12, op := Go.Op.load 35 (Go.Operand.tmp 11), type := 35, pos := "ref.go:68", after := #[{ on := 2, ground := Go.Ground.data }], guard := none }) (v := ?v1_0_3) rfl (by as_aux_lemma => kernel_rfl) (by as_aux_lemma => kernel_rfl) (by as_aux_lemma => kernel_rfl) (fun _ _ _ h => h) (Or.inl ⟨(by as_aux_lemma => kernel_rfl), ?hy1_0_3⟩) hH ?rest1_0_3
  case hy1_0_3 => (intro w hSw; (try dsimp only at hSw); go_simp; try with_reducible rfl)
  try simp only [Act.put, List.setIfInBounds_toArray, List.set_cons_zero, List.set_cons_succ]
  refine wpAnyH_take (i := 4) (oi := { dst := some 13, op := Go.Op.fieldAddr 35 (Go.Operand.tmp 1) 1, type := 0, pos := "ref.go:68", after := #[], guard := none }) (v := ?v1_0_4) rfl (by as_aux_lemma => kernel_rfl) (by as_aux_lemma => kernel_rfl) (by as_aux_lemma => kernel_rfl) (fun _ _ _ h => h) (Or.inl ⟨(by as_aux_lemma => kernel_rfl), ?hy1_0_4⟩) hH ?rest1_0_4
  case hy1_0_4 => (intro w hSw; (try dsimp only at hSw); go_simp; try with_reducible rfl)
  try simp only [Act.put, List.setIfInBounds_toArray, List.set_cons_zero, List.set_cons_succ]
  refine wpAnyH_take (i := 5) (oi := { dst := some 14, op := Go.Op.load 33 (Go.Operand.tmp 13), type := 33, pos := "ref.go:68", after := #[{ on := 4, ground := Go.Ground.data }], guard := none }) (v := ?v1_0_5) rfl (by as_aux_lemma => kernel_rfl) (by as_aux_lemma => kernel_rfl) (by as_aux_lemma => kernel_rfl) (fun _ _ _ h => h) (Or.inl ⟨(by as_aux_lemma => kernel_rfl), ?hy1_0_5⟩) hH ?rest1_0_5
  case hy1_0_5 => (intro w hSw; (try dsimp only at hSw); go_simp; try with_reducible rfl)
  try simp only [Act.put, List.setIfInBounds_toArray, List.set_cons_zero, List.set_cons_succ]
  refine wpAnyH_take (i := 6) (oi := { dst := some 15, op := Go.Op.indexAddr 33 (Go.Operand.tmp 14) (Go.Operand.const (Go.Value.int Go.IntKind.i64 1)), type := 0, pos := "ref.go:68", after := #[{ on := 5, ground := Go.Ground.data }], guard := none }) (v := ?v1_0_6) rfl (by as_aux_lemma => kernel_rfl) (by as_aux_lemma => kernel_rfl) (by as_aux_lemma => kernel_rfl) (fun _ _ _ h => h) (Or.inl ⟨(by as_aux_lemma => kernel_rfl), ?hy1_0_6⟩) hH ?rest1_0_6
  case hy1_0_6 => (intro w hSw; (try dsimp only at hSw); go_simp; try with_reducible rfl)
  try simp only [Act.put, List.setIfInBounds_toArray, List.set_cons_zero, List.set_cons_succ]
  refine wpAnyH_take (i := 7) (oi := { dst := some 16, op := Go.Op.load 35 (Go.Operand.tmp 15), type := 35, pos := "ref.go:68", after := #[{ on := 6, ground := Go.Ground.data }], guard := none }) (v := ?v1_0_7) rfl (by as_aux_lemma => kernel_rfl) (by as_aux_lemma => kernel_rfl) (by as_aux_lemma => kernel_rfl) (fun _ _ _ h => h) (Or.inl ⟨(by as_aux_lemma => kernel_rfl), ?hy1_0_7⟩) hH ?rest1_0_7
  case hy1_0_7 => (intro w hSw; (try dsimp only at hSw); go_simp; try with_reducible rfl)
  try simp only [Act.put, List.setIfInBounds_toArray, List.set_cons_zero, List.set_cons_succ]
  refine wpAnyH_ready (rs := [8]) (by as_aux_lemma => kernel_rfl) (by simp) ?_
  refine AllReadyH.cons (o := { dst := some 17, op := Go.Op.call { callee := Go.Callee.value (Go.Operand.func 21), args := #[Go.Operand.tmp 12, Go.Operand.tmp 16], argTypes := #[35, 35] }, type := 41, pos := "ref.go:68", after := #[{ on := 3, ground := Go.Ground.data }, { on := 7, ground := Go.Ground.data }], guard := none }) rfl (fun K hK => ?_) AllReadyH.nil
  have hfar : Far F (Fo F w.heap.size w1.heap.size b1) w wd := Fo.far (HB0.out.trans (hd0.mono HB0.out.size)) (by have := HO.out; omega)
  have hFo : ∀ k, wd.heap.size ≤ k → Fo F w.heap.size w1.heap.size b1 k := fun k hk => Fo.of (HF.out k (by have := HO.out; have := hd0.size; omega)) (.inr (by have := hd0.size; omega)) (by have := HO.out; have := hd0.size; omega)
  go_simp
  go_at_call 21
  (with_reducible refine (refMeld_any (Fo F w.heap.size w1.heap.size b1) l r l1 l2 Al nl cl r1 r2 Ar nr cr _ (by have := HN.out; simp only [Lh.size] at this; omega) hFo (HT.out.1.far hfar) (HT.out.2.far hfar)).mono ?_)
  rintro e w9 ⟨z1, z2, Az, nz, cz, rfl, ht9, hb9⟩
  obtain ⟨q, hq⟩ : ∃ q, q = 2 * meldN l r := ⟨_, rfl⟩
  rw [← hq]
  have HQ := Lib.hid hq
  clear hq
  refine hK.out _ _ ?_ (fun hH2 => ?_)
  · exact HS.out _ (fun k hk _ => (hd0.trans (hb9.mono hd0.size)).block k hk)
  clear hK K hH
  have hH := hH2
  clear hH2
  have hb9d := hd0.trans (hb9.mono hd0.size)
  have hv9 := hz.stay hb9d
  have v0 := hv9.c0
  have v1 := hv9.c1
  have v2 := hv9.c2
  have vz0 := hv9.z0
  have vz1 := hv9.z1
  have vz2 := hv9.z2
  try simp only [Act.put, List.setIfInBounds_toArray, List.set_cons_zero, List.set_cons_succ]
  refine wpAnyH_take (i := 9) (oi := { dst := some 18, op := Go.Op.extract (Go.Operand.tmp 17) 0, type := 35, pos := "ref.go:68", after := #[{ on := 8, ground := Go.Ground.data }], guard := none }) (v := ?v1_0_9) rfl (by as_aux_lemma => kernel_rfl) (by as_aux_lemma => kernel_rfl) (by as_aux_lemma => kernel_rfl) (fun _ _ _ h => h) (Or.inl ⟨(by as_aux_lemma => kernel_rfl), ?hy1_0_9⟩) hH ?rest1_0_9
  case hy1_0_9 => (intro w hSw; (try dsimp only at hSw); go_simp; try with_reducible rfl)
  try simp only [Act.put, List.setIfInBounds_toArray, List.set_cons_zero, List.set_cons_succ]
  refine wpAnyH_take (i := 10) (oi := { dst := some 19, op := Go.Op.extract (Go.Operand.tmp 17) 1, type := 3, pos := "ref.go:68", after := #[{ on := 8, ground := Go.Ground.data }], guard := none }) (v := ?v1_0_10) rfl (by as_aux_lemma => kernel_rfl) (by as_aux_lemma => kernel_rfl) (by as_aux_lemma => kernel_rfl) (fun _ _ _ h => h) (Or.inl ⟨(by as_aux_lemma => kernel_rfl), ?hy1_0_10⟩) hH ?rest1_0_10
  case hy1_0_10 => (intro w hSw; (try dsimp only at hSw); go_simp; try with_reducible rfl)
  try simp only [Act.put, List.setIfInBounds_toArray, List.set_cons_zero, List.set_cons_succ]
  refine wpAnyH_ready (rs := [11]) (by as_aux_lemma => kernel_rfl) (by simp) ?_
  refine AllReadyH.cons (o := { dst := none, op := Go.Op.store 35 (Go.Operand.tmp 2) (Go.Operand.tmp 18), type := 0, pos := "ref.go:68", after := #[{ on := 9, ground := Go.Ground.data }, { on := 8, ground := Go.Ground.chain }, { on := 0, ground := Go.Ground.phase }, { on := 1, ground := Go.Ground.phase }, { on := 2, ground := Go.Ground.phase }, { on := 3, ground := Go.Ground.phase }, { on := 4, ground := Go.Ground.phase }, { on := 5, ground := Go.Ground.phase }, { on := 6, ground := Go.Ground.phase }, { on := 7, ground := Go.Ground.phase }, { on := 8, ground := Go.Ground.phase }, { on := 9, ground := Go.Ground.phase }, { on := 10, ground := Go.Ground.phase }], guard := none }) rfl (fun K hK => ?_) AllReadyH.nil
  go_simp
  refine hK.out _ _ ?_ (fun hH2 => ?_)
  · exact HS.out _ (fun k hk hne => ((hv9.wrote z1 z2 Az nz cz).2.keep k hne).trans (hb9d.block k hk))
  clear hK K hH
  have hH := hH2
  clear hH2
  obtain ⟨hvz, hw⟩ := hv9.wrote z1 z2 Az nz cz
  clear v0 v1 v2 vz0 vz1 vz2
  have htz := ht9.far (Fo.back (F := F) (fun k _ hne _ => hw.keep k hne))
  have hbz := hw.below (HB0.out.trans (hb9d.mono HB0.out.size)) (by have := HO.out; omega)
  have hkz : ∀ k, k < w1.heap.size → k ≠ b1 → (((w9.setCell ⟨b1, 0, none⟩ (.int .i64 z1)).setCell ⟨b1, 1, none⟩ (.int .i64 z2)).setCell ⟨b1, 2, none⟩ (.slice Az nz cz)).heap[k]? = w1.heap[k]? := fun k hk hne => (hw.keep k hne).trans (hb9d.block k hk)
  generalize ((w9.setCell ⟨b1, 0, none⟩ (.int .i64 z1)).setCell ⟨b1, 1, none⟩ (.int .i64 z2)).setCell ⟨b1, 2, none⟩ (.slice Az nz cz) = w11 at *
  try simp only [Act.put, List.setIfInBounds_toArray, List.set_cons_zero, List.set_cons_succ]
  refine wpAnyH_ready (rs := [12]) (by as_aux_lemma => kernel_rfl) (by simp) ?_
  refine AllReadyH.cons (o := { dst := some 3, op := Go.Op.assign (Go.Operand.tmp 19), type := 3, pos := "ref.go:68", after := #[{ on := 10, ground := Go.Ground.data }, { on := 11, ground := Go.Ground.chain }, { on := 0, ground := Go.Ground.phase }, { on := 1, ground := Go.Ground.phase }, { on := 2, ground := Go.Ground.phase }, { on := 3, ground := Go.Ground.phase }, { on := 4, ground := Go.Ground.phase }, { on := 5, ground := Go.Ground.phase }, { on := 6, ground := Go.Ground.phase }, { on := 7, ground := Go.Ground.phase }, { on := 8, ground := Go.Ground.phase }, { on := 9, ground := Go.Ground.phase }, { on := 10, ground := Go.Ground.phase }, { on := 11, ground := Go.Ground.phase }], guard := none }) rfl (fun K hK => ?_) AllReadyH.nil
  go_simp
  refine hK.out _ _ ?_ (fun hH2 => ?_)
  · exact HS.out _ hkz
  clear hK K hH
  have hH := hH2
  clear hH2
  try simp only [Act.put, List.setIfInBounds_toArray, List.set_cons_zero, List.set_cons_succ]
  refine wpAnyH_done (by as_aux_lemma => kernel_rfl) ?_ _
  refine NoPanic.normal ?_
  clear hH
  have t0 := hvz.c0
  have t1 := hvz.c1
  have t2 := hvz.c2
  go_wp2_with fail
  refine bodyPost_ret (v := .tuple #[.agg #[.int .i64 z1, .int .i64 z2, .slice Az nz cz], .int .i64 q]) (by simp [results, Tryd.results23, go_sem, t0, t1, t2]) rfl ?_
  exact ⟨z1, z2, Az, nz, cz, by rw [← HQ.out], htz, hbz⟩

theorem refPop_any (F : Nat → Prop) (t : Lh) (x1 x2 : Int) (A : Option Addr) (n c : Nat) (w : World) (hs : t.size < 268435456) (hF : ∀ k, w.heap.size ≤ k → F k) (h : RAt F w t (x1, x2) A n c) :
    Calls Tryd.prog 23 #[.agg #[.int .i64 x1, .int .i64 x2, .slice A n c]] w (GaveW F t.pop (2 * t.popN) w) := by
  cases t with
  | nil =>
    obtain ⟨e, rfl, rfl, rfl⟩ := h
    cases e
    exact refPop_nil F w
  | node xx l r =>
    obtain rfl : n = 2 := h.kids.2.1
    obtain rfl : (x1, x2) = xx := h.kids.1
    exact refPop_node F x1 x2 l r A c w hs hF h

set_option maxRecDepth 100000 in
set_option maxHeartbeats 1000000 in
theorem refInsert_any (F : Nat → Prop) (t : Lh) (y1 y2 x1 x2 : Int) (A : Option Addr) (n c : Nat) (w : World) (hs : t.size < 134217728) (hF : ∀ k, w.heap.size ≤ k → F k) (h : RAt F w t (x1, x2) A n c) :
    Calls Tryd.prog 19 #[.agg #[.int .i64 y1, .int .i64 y2], .agg #[.int .i64 x1, .int .i64 x2, .slice A n c]] w (GaveW F (t.insert (y1, y2)) (2 * meldN (.one (y1, y2)) t + 1) w) := by
  have hb0 := (((Below.refl w.heap.size w).alloc (Nat.le_refl _) (.cells #[.int .i64 y1, .int .i64 y2] 32)).alloc (by simp) (.cells #[.int .i64 x1, .int .i64 x2, .slice A n c] 35)).alloc (by simp; omega) (.cells #[.int .i64 0, .int .i64 0, .slice none 0 0] 35)
  have hz : WVar (((w.alloc (.cells #[.int .i64 y1, .int .i64 y2] 32)).alloc (.cells #[.int .i64 x1, .int .i64 x2, .slice A n c] 35)).alloc (.cells #[.int .i64 0, .int .i64 0, .slice none 0 0] 35)) (w.heap.size + 1 + 1) (0, 0) none 0 0 := new_at (by simp)
  have hsz : (((w.alloc (.cells #[.int .i64 y1, .int .i64 y2] 32)).alloc (.cells #[.int .i64 x1, .int .i64 x2, .slice A n c] 35)).alloc (.cells #[.int .i64 0, .int .i64 0, .slice none 0 0] 35)).heap.size = w.heap.size + 1 + 1 + 1 := by simp
  have HF := Lib.hid hF
  have HN := Lib.hid hs
  have HT := Lib.hid h
  clear h hs hF
  go_enter Tryd.func19, Tryd.ntmps19
  go_wp2_with fail
  have hka : KAt ((((w.alloc (.cells #[.int .i64 y1, .int .i64 y2] 32)).alloc (.cells #[.int .i64 x1, .int .i64 x2, .slice A n c] 35)).alloc (.cells #[.int .i64 0, .int .i64 0, .slice none 0 0] 35)).alloc (.cells #[.int .i64 0, .int .i64 0, .slice none 0 0, .int .i64 0, .int .i64 0, .slice none 0 0] 35)) (((w.alloc (.cells #[.int .i64 y1, .int .i64 y2] 32)).alloc (.cells #[.int .i64 x1, .int .i64 x2, .slice A n c] 35)).alloc (.cells #[.int .i64 0, .int .i64 0, .slice none 0 0] 35)).heap.size (0, 0) none 0 0 (0, 0) none 0 0 := new_at rfl
  rw [hsz] at hka
  have hb1 := hb0.alloc hb0.size (.cells #[.int .i64 0, .int .i64 0, .slice none 0 0, .int .i64 0, .int .i64 0, .slice none 0 0] 35)
  have hz1 := hz.stay ((Below.refl (((w.alloc (.cells #[.int .i64 y1, .int .i64 y2] 32)).alloc (.cells #[.int .i64 x1, .int .i64 x2, .slice A n c] 35)).alloc (.cells #[.int .i64 0, .int .i64 0, .slice none 0 0] 35)).heap.size (((w.alloc (.cells #[.int .i64 y1, .int .i64 y2] 32)).alloc (.cells #[.int .i64 x1, .int .i64 x2, .slice A n c] 35)).alloc (.cells #[.int .i64 0, .int .i64 0, .slice none 0 0] 35))).alloc (Nat.le_refl _) (.cells #[.int .i64 0, .int .i64 0, .slice none 0 0, .int .i64 0, .int .i64 0, .slice none 0 0] 35))
  have hsz1 : ((((w.alloc (.cells #[.int .i64 y1, .int .i64 y2] 32)).alloc (.cells #[.int .i64 x1, .int .i64 x2, .slice A n c] 35)).alloc (.cells #[.int .i64 0, .int .i64 0, .slice none 0 0] 35)).alloc (.cells #[.int .i64 0, .int .i64 0, .slice none 0 0, .int .i64 0, .int .i64 0, .slice none 0 0] 35)).heap.size = w.heap.size + 1 + 1 + 1 + 1 := by simp
  clear hz hsz hb0
  generalize (((w.alloc (.cells #[.int .i64 y1, .int .i64 y2] 32)).alloc (.cells #[.int .i64 x1, .int .i64 x2, .slice A n c] 35)).alloc (.cells #[.int .i64 0, .int .i64 0, .slice none 0 0] 35)).alloc (.cells #[.int .i64 0, .int .i64 0, .slice none 0 0, .int .i64 0, .int .i64 0, .slice none 0 0] 35) = w4 at *
  have hfar : Far F (Fo F w.heap.size (w.heap.size + 3) (w.heap.size + 2)) w w4 := Fo.far hb1 (by omega)
  have hFo : ∀ k, w4.heap.size ≤ k → Fo F w.heap.size (w.heap.size + 3) (w.heap.size + 2) k := fun k hk => Fo.of (HF.out k (by omega)) (.inr (by omega)) (by omega)
  have hone : RAt (Fo F w.heap.size (w.heap.size + 3) (w.heap.size + 2)) w4 (.one (y1, y2)) (y1, y2) (some ⟨w.heap.size + 1 + 1 + 1, 0, none⟩) 2 2 := RAt.mk (Nat.le_refl _) (by omega) (Fo.of (HF.out _ (by omega)) (.inr (by omega)) (by omega)) hka (RAt.zero _ _) (RAt.zero _ _)
  ((with_reducible refine (refMeld_any (Fo F w.heap.size (w.heap.size + 3) (w.heap.size + 2)) (.one (y1, y2)) t y1 y2 (some ⟨w.heap.size + 1 + 1 + 1, 0, none⟩) 2 2 x1 x2 A n c _ (by have := HN.out; rw [one_size]; omega) hFo hone (HT.out.far hfar)).mono ?_); rintro e w9 ⟨z1, z2, Az, nz, cz, rfl, ht9, hb9⟩)
  obtain ⟨q, hq⟩ : ∃ q, q = meldN (.one (y1, y2)) t := ⟨_, rfl⟩
  rw [← hq]
  have HQ := Lib.hid (show q = meldN (.one (y1, y2)) t ∧ q < 268435456 from ⟨hq, by have h1 := meldN_size (.one (y1, y2)) t; have := HN.out; rw [one_size] at h1; omega⟩)
  clear hq
  have hba := (hb1.trans (hb9.mono hb1.size)).alloc (hb1.trans (hb9.mono hb1.size)).size (.cells #[.int .i64 z1, .int .i64 z2, .slice Az nz cz] 35)
  have hra := (hz1.stay hb9).stay ((Below.refl w9.heap.size w9).alloc (Nat.le_refl _) (.cells #[.int .i64 z1, .int .i64 z2, .slice Az nz cz] 35))
  have hta := ht9.stay ((Below.refl w9.heap.size w9).alloc (Nat.le_refl _) (.cells #[.int .i64 z1, .int .i64 z2, .slice Az nz cz] 35))
  have wq : IntKind.i64.wrap (2 * (q : Int) + 1) = 2 * (q : Int) + 1 := by have := HQ.out; rw [IntKind.wrap_i64]; omega
  have HB := Lib.hid (And.intro hba hta)
  clear hb9 ht9 hb1 hka hfar hFo hone hz1 hba hta hsz1
  go_wp2_with (refine wpList_store_w rfl _ _ rfl _ rfl rfl hra ?_; intro w12 hv12 hw12)
  have t0 := hv12.c0
  have t1 := hv12.c1
  have t2 := hv12.c2
  refine bodyPost_ret (v := .tuple #[.agg #[.int .i64 z1, .int .i64 z2, .slice Az nz cz], .int .i64 (2 * (q : Int) + 1)]) (by simp [results, Tryd.results19, go_sem, t0, t1, t2]) rfl ?_
  exact ⟨z1, z2, Az, nz, cz, by rw [← HQ.out.1, show ((2 * q + 1 : Nat) : Int) = 2 * (q : Int) + 1 by omega], HB.out.2.far (Fo.back (F := F) (fun k _ hne _ => hw12.keep k hne)), hw12.below HB.out.1 (by omega)⟩

set_option maxRecDepth 100000 in
set_option maxHeartbeats 1000000 in
theorem refShow_any (F : Nat → Prop) (t : Lh) : ∀ (x1 x2 : Int) (A : Option Addr) (n c : Nat) (w : World), RAt F w t (x1, x2) A n c → t.size < 268435456 → fits t.all → Calls Tryd.prog 29 #[.agg #[.int .i64 x1, .int .i64 x2, .slice A n c]] w fun e w' => e = .returned (.string ⟨t.show.toArray⟩) ∧ Below w.heap.size w w' := by
  induction t with
  | nil =>
    intro x1 x2 A n c w h _ _
    obtain ⟨e, rfl, rfl, rfl⟩ := h
    cases e
    go_enter Tryd.func29, Tryd.ntmps29
    go_wp2_with fail
    go_ret
    exact ⟨rfl, (Below.refl _ _).alloc (Nat.le_refl _) _⟩
  | node y l r ihl ihr =>
    intro x1 x2 A n c w h hs hf
    obtain ⟨rfl, rfl, b, ⟨xl1, xl2⟩, ⟨xr1, xr2⟩, Al, Ar, nl, cl, nr, cr, rfl, hc, hc2, -, hk, hl, hr⟩ := h.kids
    have hb0 := (Below.refl w.heap.size w).alloc (Nat.le_refl _) (.cells #[.int .i64 x1, .int .i64 x2, .slice (some ⟨b, 0, none⟩) 2 c] 35)
    have hv := WVar.new w x1 x2 (some ⟨b, 0, none⟩) 2 c rfl
    have hk1 := hk.stay hb0
    have hl1 := hl.stay hb0
    have hr1 := hr.stay hb0
    have hfx : in64 x1 ∧ in64 x2 := hf.cons.1
    have hfl := hf.cons.2.append.1
    have hfr := hf.cons.2.append.2
    obtain ⟨T, hT⟩ : ∃ T, T = textOf x1 x2 := ⟨_, rfl⟩
    obtain ⟨L, hL⟩ : ∃ T, T = l.show := ⟨_, rfl⟩
    obtain ⟨R, hR⟩ : ∃ T, T = r.show := ⟨_, rfl⟩
    have h1 := textOf_length x1 x2 hfx.1 hfx.2
    have h2 := l.show_length hfl
    have h3 := r.show_length hfr
    rw [← hT] at h1
    rw [← hL] at h2
    rw [← hR] at h3
    have hs2 : l.size + 1 + r.size < 268435456 := hs
    have n1 : ¬ 9223372036854775807 < 1 + T.length := by omega
    have n2 : ¬ 9223372036854775807 < 1 + T.length + 1 := by omega
    have n3 : ¬ 9223372036854775807 < 1 + T.length + 1 + L.length := by omega
    have n4 : ¬ 9223372036854775807 < 1 + T.length + 1 + L.length + 1 := by omega
    have n5 : ¬ 9223372036854775807 < 1 + T.length + 1 + L.length + 1 + R.length := by omega
    have n6 : ¬ 9223372036854775807 < 1 + T.length + 1 + L.length + 1 + R.length + 1 := by omega
    have HI := Lib.hid (And.intro ihl ihr)
    have HT := Lib.hid (show (Lh.node (x1, x2) l r).show = 40 :: (T ++ 32 :: (L ++ 32 :: (R ++ [41]))) ∧ T = textOf x1 x2 ∧ L = l.show ∧ R = r.show from ⟨by rw [hT, hL, hR]; rfl, hT, hL, hR⟩)
    have HS := Lib.hid (And.intro hs2 (And.intro hfx (And.intro hfl hfr)))
    have HB := Lib.hid hb0
    clear ihl ihr h hl hr hk hb0 hs hs2 hT hL hR h1 h2 h3 hf hfx hfl hfr
    go_enter Tryd.func29, Tryd.ntmps29
    go_wp2_with fail
    generalize w.alloc (.cells #[.int .i64 x1, .int .i64 x2, .slice (some ⟨b, 0, none⟩) 2 c] 35) = w1 at *
    have HC0 := Lib.hid (fun d os => in_class (w := w1) (fun W hb => (refText_any x1 x2 HS.out.2.1.1 HS.out.2.1.2 W).mono fun _ _ ⟨he, hb2⟩ => ⟨(show _ = Ending.returned (.string ⟨T.toArray⟩) by rw [he, HT.out.2.1]), hb2⟩) d os)
    have HC1 := Lib.hid (fun d os => in_class (w := w1) (fun W hb => (HI.out.1 xl1 xl2 Al nl cl W (hl1.stay hb) (by have := HS.out; omega) HS.out.2.2.1).mono fun _ _ ⟨he, hb2⟩ => ⟨(show _ = Ending.returned (.string ⟨L.toArray⟩) by rw [he, HT.out.2.2.1]), hb2⟩) d os)
    have HC2 := Lib.hid (fun d os => in_class (w := w1) (fun W hb => (HI.out.2 xr1 xr2 Ar nr cr W (hr1.stay hb) (by have := HS.out; omega) HS.out.2.2.2).mono fun _ _ ⟨he, hb2⟩ => ⟨(show _ = Ending.returned (.string ⟨R.toArray⟩) by rw [he, HT.out.2.2.2]), hb2⟩) d os)
    have k0 := fun d os => cell_regrown hv.c0 d os
    have k1 := fun d os => cell_regrown hv.c1 d os
    have k2 := fun d os => cell_regrown hv.c2 d os
    have q0 := fun d os => cell_regrown hk1.k0 d os
    have q1 := fun d os => cell_regrown hk1.k1 d os
    have q2 := fun d os => cell_regrown hk1.k2 d os
    have q3 := fun d os => cell_regrown hk1.k3 d os
    have q4 := fun d os => cell_regrown hk1.k4 d os
    have q5 := fun d os => cell_regrown hk1.k5 d os
    clear hv hk1 hl1 hr1
    rw [world_self w1]
    generalize w1.drawn = d0
    generalize (#[] : Array Obj) = os0
    refine wp_region_class (by kernel_rfl) (by kernel_rfl) ?_
    repeat (go_big_quiet_step (first | (with_reducible exact HC0.out _ _) | (with_reducible exact HC1.out _ _) | (with_reducible exact HC2.out _ _) | fail))
    refine wpQuiet_nil ?_
    intro _ hw'
    obtain ⟨⟨dq, osq⟩, hw''⟩ := hw'
    subst hw''
    have hb := below_regrown w1 dq osq
    go_wp2
    go_ret
    refine ⟨?_, HB.out.trans (hb.mono HB.out.size)⟩
    rw [HT.out.1]
    show Ending.returned (.string _) = _
    simp only [append_bytes, List.append_assoc, List.cons_append, List.nil_append]

end Go.Proofs.YtliehednnhilkaaDoor
