/-
  Contract of the reference's Meld (slagheapref06): the heap, and how many steps there were. Condition: heaps of fewer than 2 to the 28th elements, both together.
-/
import Derived.Test.YtliehednnhilkaaDoorRha
import Derived.Deep.RegionHeld3
import Derived.Deep.DrawnRows
namespace Go.Proofs.YtliehednnhilkaaDoor
open Go.Sort Go.RowKit

/-- What Meld of fewer elements hands back. -/
def MeldsR (N : Nat) : Prop := ∀ (ta tb : Lh), ta.size + tb.size < N → ∀ (F : Nat → Prop) (x1 x2 : Int) (A : Option Addr) (n c : Nat) (y1 y2 : Int) (B : Option Addr) (m d : Nat) (w : World), (∀ k, w.heap.size ≤ k → F k) → RAt F w ta (x1, x2) A n c → RAt F w tb (y1, y2) B m d →
  Calls Tryd.prog 21 #[.agg #[.int .i64 x1, .int .i64 x2, .slice A n c], .agg #[.int .i64 y1, .int .i64 y2, .slice B m d]] w (GaveW F (meld ta tb) (2 * meldN ta tb) w)

set_option maxRecDepth 100000 in
theorem refMeld_first (F : Nat → Prop) (t : Lh) (y1 y2 : Int) (B : Option Addr) (m d : Nat) (w : World) (h : RAt F w t (y1, y2) B m d) :
    Calls Tryd.prog 21 #[.agg #[.int .i64 0, .int .i64 0, .slice none 0 0], .agg #[.int .i64 y1, .int .i64 y2, .slice B m d]] w (GaveW F t 0 w) := by
  have H := Lib.hid h
  clear h
  go_enter Tryd.func21, Tryd.ntmps21
  go_wp2_with fail
  refine bodyPost_ret (v := .tuple #[.agg #[.int .i64 y1, .int .i64 y2, .slice B m d], .int .i64 0]) (by simp [results, Tryd.results21, go_sem]) rfl ?_
  have hbe := (((Below.refl w.heap.size w).alloc (Nat.le_refl _) (.cells #[.int .i64 0, .int .i64 0, .slice none 0 0] 35)).alloc (by simp) (.cells #[.int .i64 y1, .int .i64 y2, .slice B m d] 35)).alloc (by simp; omega) (.cells #[.int .i64 y1, .int .i64 y2, .slice B m d] 35)
  exact ⟨y1, y2, B, m, d, rfl, H.out.stay hbe, hbe⟩

set_option maxRecDepth 100000 in
theorem refMeld_second (F : Nat → Prop) (t : Lh) (x1 x2 : Int) (A : Option Addr) (c : Nat) (w : World) (h : RAt F w t (x1, x2) A 2 c) :
    Calls Tryd.prog 21 #[.agg #[.int .i64 x1, .int .i64 x2, .slice A 2 c], .agg #[.int .i64 0, .int .i64 0, .slice none 0 0]] w (GaveW F t 0 w) := by
  have H := Lib.hid h
  clear h
  go_enter Tryd.func21, Tryd.ntmps21
  go_wp2_with fail
  refine bodyPost_ret (v := .tuple #[.agg #[.int .i64 x1, .int .i64 x2, .slice A 2 c], .int .i64 0]) (by simp [results, Tryd.results21, go_sem]) rfl ?_
  have hbe := (((Below.refl w.heap.size w).alloc (Nat.le_refl _) (.cells #[.int .i64 x1, .int .i64 x2, .slice A 2 c] 35)).alloc (by simp) (.cells #[.int .i64 0, .int .i64 0, .slice none 0 0] 35)).alloc (by simp; omega) (.cells #[.int .i64 x1, .int .i64 x2, .slice A 2 c] 35)
  exact ⟨x1, x2, A, 2, c, rfl, H.out.stay hbe, hbe⟩

set_option maxRecDepth 100000 in
set_option maxHeartbeats 4000000 in
theorem refMeld_ge (N : Nat) (hI : MeldsR N) (hN : N < 268435456) (x1 x2 y1 y2 : Int) (l r l' r' : Lh) (hs : (Lh.node (x1, x2) l r).size + (Lh.node (y1, y2) l' r').size = N) (hv : ltE (y1, y2) (x1, x2) = false) (F : Nat → Prop) (A B : Option Addr) (c d : Nat) (w : World) (hF : ∀ k, w.heap.size ≤ k → F k)
    (ha : RAt F w (.node (x1, x2) l r) (x1, x2) A 2 c) (hb : RAt F w (.node (y1, y2) l' r') (y1, y2) B 2 d) :
    Calls Tryd.prog 21 #[.agg #[.int .i64 x1, .int .i64 x2, .slice A 2 c], .agg #[.int .i64 y1, .int .i64 y2, .slice B 2 d]] w (GaveW F (meld (.node (x1, x2) l r) (.node (y1, y2) l' r')) (2 * meldN (.node (x1, x2) l r) (.node (y1, y2) l' r')) w) := by
  have HV := Lib.hid hv
  have HA := Lib.hid ha
  have HB := Lib.hid hb
  unfold MeldsR at hI
  have HI := Lib.hid hI
  have HN := Lib.hid (And.intro hN hs)
  have HF := Lib.hid hF
  obtain ⟨-, -, kb, ⟨l1, l2⟩, ⟨r1, r2⟩, Al, Ar, nl, cl, nr, cr, hA, hc, hc2, -, hk, hl, hr⟩ := ha.kids
  subst hA
  have HK := Lib.hid (And.intro hk (And.intro hl hr))
  have HC := Lib.hid (show 2 ≤ c ∧ c ≤ 9223372036854775807 from ⟨hc, hc2⟩)
  have w2 : ∀ k : Nat, k < 268435456 → IntKind.i64.wrap (2 * (k : Int) + 2) = 2 * (k : Int) + 2 := fun k hk => by rw [IntKind.wrap_i64]; omega
  have HW2 := Lib.hid w2
  clear ha hb hI hN hs hF hk hl hr w2
  go_enter Tryd.func21, Tryd.ntmps21
  go_wp2_with fail
  have h5 := five_w w x1 x2 y1 y2 (some ⟨kb, 0, none⟩) B 2 c 2 d
  ((with_reducible refine (refLessW (y1, y2) (x1, x2) _).mono ?_); rintro e w6 ⟨rfl, hb6⟩)
  rw [hv]
  generalize ((((w.alloc (.cells #[.int .i64 x1, .int .i64 x2, .slice (some ⟨kb, 0, none⟩) 2 c] 35)).alloc _).alloc _).alloc _).alloc _ = W5 at *
  obtain ⟨e0, e1, e2, e3, e4, e5, e6⟩ := h5
  replace e0 := e0.stay hb6
  replace e1 := e1.stay hb6
  replace e2 := e2.stay hb6
  replace e3 := e3.stay hb6
  replace e4 := e4.stay hb6
  have B6 := Lib.hid (show Below w.heap.size w w6 ∧ w.heap.size + 5 ≤ w6.heap.size from ⟨e6.trans (hb6.mono e6.size), by have := hb6.size; omega⟩)
  clear e5 e6 hb6 hv
  obtain ⟨b0, hb0⟩ : ∃ b, b = w.heap.size := ⟨_, rfl⟩
  rw [← hb0] at e0 e1 e2 e3 e4 B6 ⊢
  obtain ⟨b1, hb1⟩ : ∃ b, b = b0 + 1 := ⟨_, rfl⟩
  rw [← hb1] at e1 e2 e3 e4 ⊢
  obtain ⟨b2, hb2⟩ : ∃ b, b = b1 + 1 := ⟨_, rfl⟩
  rw [← hb2] at e2 e3 e4 ⊢
  obtain ⟨b3, hb3⟩ : ∃ b, b = b2 + 1 := ⟨_, rfl⟩
  rw [← hb3] at e3 e4 ⊢
  obtain ⟨b4, hb4⟩ : ∃ b, b = b3 + 1 := ⟨_, rfl⟩
  rw [← hb4] at e4 ⊢
  have HO := Lib.hid (show b0 = w.heap.size ∧ b1 = b0 + 1 ∧ b2 = b1 + 1 ∧ b3 = b2 + 1 ∧ b4 = b3 + 1 from ⟨hb0, hb1, hb2, hb3, hb4⟩)
  clear hb0 hb1 hb2 hb3 hb4
  have g2 := e2
  have g3 := e3
  have g4 := e4
  have s0 := g3.c2
  clear e0 e1 e2 e3 e4
  go_wp2_with fail
  clear s0
  obtain ⟨S, hS⟩ : ∃ S, S = w6.heap.size := ⟨_, rfl⟩
  have hk := HK.out.1.stay (show Below w.heap.size w w6 by rw [← HO.out.1]; exact B6.out.1)
  have HS := Lib.hid (fun (w' : World) (hz : Below w6.heap.size w6 w') => (show w'.cell? ⟨b3, 2, none⟩ = some (.slice (some ⟨kb, 0, none⟩) 2 c) ∧ w'.cell? ⟨kb, 3, none⟩ = some (.int .i64 r1) ∧ w'.cell? ⟨kb, 4, none⟩ = some (.int .i64 r2) ∧ w'.cell? ⟨kb, 5, none⟩ = some (.slice Ar nr cr) ∧ w'.cell? ⟨b4, 0, none⟩ = some (.int .i64 y1) ∧ w'.cell? ⟨b4, 1, none⟩ = some (.int .i64 y2) ∧ w'.cell? ⟨b4, 2, none⟩ = some (.slice B 2 d) from ⟨(g3.stay hz).c2, (hk.stay hz).k3, (hk.stay hz).k4, (hk.stay hz).k5, (g4.stay hz).c0, (g4.stay hz).c1, (g4.stay hz).c2⟩))
  have HG := Lib.hid (And.intro g2 (And.intro g3 hk))
  obtain ⟨q, hq⟩ : ∃ q, q = meldN r (Lh.node (y1, y2) l' r') := ⟨_, rfl⟩
  obtain ⟨mt, hmt⟩ : ∃ t, t = meld r (Lh.node (y1, y2) l' r') := ⟨_, rfl⟩
  have HQ := Lib.hid (show (q = meldN r (Lh.node (y1, y2) l' r') ∧ q < 268435456) ∧ mt = meld r (Lh.node (y1, y2) l' r') ∧ mt.size < 268435456 from ⟨⟨hq, by
    have h1 := meldN_size r (Lh.node (y1, y2) l' r')
    have h1 := meldN_size r (Lh.node (y1, y2) l' r'); have := HN.out; simp only [Lh.size] at h1 this; omega⟩, hmt, by have := HN.out; rw [hmt, meld_size]; simp only [Lh.size] at this ⊢; omega⟩)
  clear g2 g3 g4 hk hq hmt
  refine wp_after (R := fun a a' w' => ∃ (u33 u34 u35 u36 u37 u38 u32 u39 u40 : Value) (bR : Nat) (z1 z2 : Int) (Az : Option Addr) (nz cz : Nat), a' = (((((((((((a.put (some 33) u33).put (some 34) u34).put (some 35) u35).put (some 36) u36).put (some 37) u37).put (some 38) u38).put (some 32) u32).put (some 39) u39).put (some 40) u40).put (some 9) (.pointer (some ⟨bR, 0, none⟩))).put (some 10) (.int .i64 (2 * (q : Int)))) ∧ Below w6.heap.size w6 w' ∧ S ≤ bR ∧ WVar w' bR (z1, z2) Az nz cz ∧ RAt (Fo F b0 S bR) w' mt (z1, z2) Az nz cz) ?_ ?_
  · have hd0 : Below w6.heap.size w6 w6.drew := (Below.refl _ _).drew
    have hSd : S = w6.drew.heap.size := hS
    refine wp_region_noPanic ?_
    refine wp_region_held_drew (S := fun w' => w'.cell? ⟨b3, 2, none⟩ = some (.slice (some ⟨kb, 0, none⟩) 2 c) ∧ w'.cell? ⟨kb, 3, none⟩ = some (.int .i64 r1) ∧ w'.cell? ⟨kb, 4, none⟩ = some (.int .i64 r2) ∧ w'.cell? ⟨kb, 5, none⟩ = some (.slice Ar nr cr) ∧ w'.cell? ⟨b4, 0, none⟩ = some (.int .i64 y1) ∧ w'.cell? ⟨b4, 1, none⟩ = some (.int .i64 y2) ∧ w'.cell? ⟨b4, 2, none⟩ = some (.slice B 2 d)) (by kernel_rfl) (HS.out _ hd0) (fun hH => ?_)
    generalize w6.drew = wd at *
    refine wpAnyH_take (i := 0) (oi := { dst := some 33, op := Go.Op.fieldAddr 35 (Go.Operand.tmp 6) 1, type := 0, pos := "ref.go:46", after := #[], guard := none }) (v := ?v1_0_0) rfl (by as_aux_lemma => kernel_rfl) (by as_aux_lemma => kernel_rfl) (by as_aux_lemma => kernel_rfl) (fun _ _ _ h => h) (Or.inl ⟨(by as_aux_lemma => kernel_rfl), ?hy1_0_0⟩) hH ?rest1_0_0
    case hy1_0_0 => (intro w hSw; (try dsimp only at hSw); go_simp; try with_reducible rfl)
    try simp only [Act.put, List.setIfInBounds_toArray, List.set_cons_zero, List.set_cons_succ]
    refine wpAnyH_take (i := 1) (oi := { dst := some 34, op := Go.Op.load 33 (Go.Operand.tmp 33), type := 33, pos := "ref.go:46", after := #[{ on := 0, ground := Go.Ground.data }], guard := none }) (v := ?v1_0_1) rfl (by as_aux_lemma => kernel_rfl) (by as_aux_lemma => kernel_rfl) (by as_aux_lemma => kernel_rfl) (fun _ _ _ h => h) (Or.inl ⟨(by as_aux_lemma => kernel_rfl), ?hy1_0_1⟩) hH ?rest1_0_1
    case hy1_0_1 => (intro w hSw; (try dsimp only at hSw); go_simp; try with_reducible rfl)
    try simp only [Act.put, List.setIfInBounds_toArray, List.set_cons_zero, List.set_cons_succ]
    refine wpAnyH_take (i := 2) (oi := { dst := some 35, op := Go.Op.indexAddr 33 (Go.Operand.tmp 34) (Go.Operand.const (Go.Value.int Go.IntKind.i64 1)), type := 0, pos := "ref.go:46", after := #[{ on := 1, ground := Go.Ground.data }], guard := none }) (v := ?v1_0_2) rfl (by as_aux_lemma => kernel_rfl) (by as_aux_lemma => kernel_rfl) (by as_aux_lemma => kernel_rfl) (fun _ _ _ h => h) (Or.inl ⟨(by as_aux_lemma => kernel_rfl), ?hy1_0_2⟩) hH ?rest1_0_2
    case hy1_0_2 => (intro w hSw; (try dsimp only at hSw); go_simp; try with_reducible rfl)
    try simp only [Act.put, List.setIfInBounds_toArray, List.set_cons_zero, List.set_cons_succ]
    refine wpAnyH_take (i := 3) (oi := { dst := some 36, op := Go.Op.load 35 (Go.Operand.tmp 35), type := 35, pos := "ref.go:46", after := #[{ on := 2, ground := Go.Ground.data }], guard := none }) (v := ?v1_0_3) rfl (by as_aux_lemma => kernel_rfl) (by as_aux_lemma => kernel_rfl) (by as_aux_lemma => kernel_rfl) (fun _ _ _ h => h) (Or.inl ⟨(by as_aux_lemma => kernel_rfl), ?hy1_0_3⟩) hH ?rest1_0_3
    case hy1_0_3 => (intro w hSw; (try dsimp only at hSw); go_simp; try with_reducible rfl)
    try simp only [Act.put, List.setIfInBounds_toArray, List.set_cons_zero, List.set_cons_succ]
    refine wpAnyH_take (i := 4) (oi := { dst := some 37, op := Go.Op.load 35 (Go.Operand.tmp 7), type := 35, pos := "ref.go:46", after := #[], guard := none }) (v := ?v1_0_4) rfl (by as_aux_lemma => kernel_rfl) (by as_aux_lemma => kernel_rfl) (by as_aux_lemma => kernel_rfl) (fun _ _ _ h => h) (Or.inl ⟨(by as_aux_lemma => kernel_rfl), ?hy1_0_4⟩) hH ?rest1_0_4
    case hy1_0_4 => (intro w hSw; (try dsimp only at hSw); go_simp; try with_reducible rfl)
    try simp only [Act.put, List.setIfInBounds_toArray, List.set_cons_zero, List.set_cons_succ]
    refine wpAnyH_ready (rs := [5, 9]) (by as_aux_lemma => kernel_rfl) (by simp) ?_
    refine AllReadyH.cons (o := { dst := some 38, op := Go.Op.call { callee := Go.Callee.value (Go.Operand.func 21), args := #[Go.Operand.tmp 36, Go.Operand.tmp 37], argTypes := #[35, 35] }, type := 41, pos := "ref.go:46", after := #[{ on := 3, ground := Go.Ground.data }, { on := 4, ground := Go.Ground.data }], guard := none }) rfl (fun K hK => ?_) (AllReadyH.cons (o := { dst := some 9, op := Go.Op.alloc 35, type := 0, pos := "ref.go:46", after := #[], guard := none }) rfl (fun K hK => ?_) AllReadyH.nil)
    · have hfar : Far F (Fo F w.heap.size S b1) w wd := ⟨fun k hk _ => (show Below w.heap.size w wd from by have h := B6.out.1; rw [HO.out.1] at h; exact h.trans (hd0.mono h.size)).block k hk, fun k hk hf => ⟨hf, .inl hk, by have := HO.out; omega⟩⟩
      have hFo : ∀ k, wd.heap.size ≤ k → Fo F b0 S b1 k := fun k hk => Fo.of (HF.out k (by have := HO.out; have := B6.out; have := hd0.size; omega)) (.inr (by omega)) (by have := HO.out; have := B6.out; have := hd0.size; omega)
      go_simp
      go_at_call 21
      (with_reducible refine (HI.out r (Lh.node (y1, y2) l' r') (by have := HN.out; simp only [Lh.size] at this ⊢; omega) (Fo F b0 S b1) r1 r2 Ar nr cr y1 y2 B 2 d _ hFo ((HK.out.2.2).far (HO.out.1 ▸ hfar)) (HB.out.far (HO.out.1 ▸ hfar))).mono ?_)
      rintro e w9 ⟨z1, z2, Az, nz, cz, rfl, ht9, hb9⟩
      rw [← HQ.out.1.1] ; rw [← HQ.out.2.1] at ht9
      refine hK.out _ _ ?_ (fun hH2 => ?_)
      · exact HS.out _ (hd0.trans (hb9.mono hd0.size))
      clear hK K hH
      have hH := hH2
      clear hH2
      have hb9d := hd0.trans (hb9.mono hd0.size)
      try simp only [Act.put, List.setIfInBounds_toArray, List.set_cons_zero, List.set_cons_succ]
      refine wpAnyH_take (i := 6) (oi := { dst := some 32, op := Go.Op.move (Go.Operand.tmp 38), type := 41, pos := "ref.go:46", after := #[{ on := 5, ground := Go.Ground.data }], guard := none }) (v := ?v1_1_6) rfl (by as_aux_lemma => kernel_rfl) (by as_aux_lemma => kernel_rfl) (by as_aux_lemma => kernel_rfl) (fun _ _ _ h => h) (Or.inl ⟨(by as_aux_lemma => kernel_rfl), ?hy1_1_6⟩) hH ?rest1_1_6
      case hy1_1_6 => (intro w hSw; (try dsimp only at hSw); go_simp; try with_reducible rfl)
      try simp only [Act.put, List.setIfInBounds_toArray, List.set_cons_zero, List.set_cons_succ]
      refine wpAnyH_take (i := 7) (oi := { dst := some 39, op := Go.Op.extract (Go.Operand.tmp 32) 0, type := 35, pos := "ref.go:46", after := #[{ on := 6, ground := Go.Ground.data }], guard := none }) (v := ?v1_1_7) rfl (by as_aux_lemma => kernel_rfl) (by as_aux_lemma => kernel_rfl) (by as_aux_lemma => kernel_rfl) (fun _ _ _ h => h) (Or.inl ⟨(by as_aux_lemma => kernel_rfl), ?hy1_1_7⟩) hH ?rest1_1_7
      case hy1_1_7 => (intro w hSw; (try dsimp only at hSw); go_simp; try with_reducible rfl)
      try simp only [Act.put, List.setIfInBounds_toArray, List.set_cons_zero, List.set_cons_succ]
      refine wpAnyH_take (i := 8) (oi := { dst := some 40, op := Go.Op.extract (Go.Operand.tmp 32) 1, type := 3, pos := "ref.go:46", after := #[{ on := 6, ground := Go.Ground.data }, { on := 10, ground := Go.Ground.gcOnly Go.Departure.lateStores }], guard := none }) (v := ?v1_1_8) rfl (by as_aux_lemma => kernel_rfl) (by as_aux_lemma => kernel_rfl) (by as_aux_lemma => kernel_rfl) (fun _ _ _ h => h) (Or.inl ⟨(by as_aux_lemma => kernel_rfl), ?hy1_1_8⟩) hH ?rest1_1_8
      case hy1_1_8 => (intro w hSw; (try dsimp only at hSw); go_simp; try with_reducible rfl)
      try simp only [Act.put, List.setIfInBounds_toArray, List.set_cons_zero, List.set_cons_succ]
      refine wpAnyH_ready (rs := [9]) (by as_aux_lemma => kernel_rfl) (by simp) ?_
      refine AllReadyH.cons (o := { dst := some 9, op := Go.Op.alloc 35, type := 0, pos := "ref.go:46", after := #[], guard := none }) rfl (fun K hK => ?_) AllReadyH.nil
      go_simp
      refine hK.out _ _ ?_ (fun hH2 => ?_)
      · exact HS.out _ (hb9d.alloc hb9d.size _)
      clear hK K hH
      have hH := hH2
      clear hH2
      have hv := WVar.new w9 0 0 none 0 0 rfl
      have hbx := hb9d.alloc hb9d.size (.cells #[.int .i64 0, .int .i64 0, .slice none 0 0] 35)
      have htx := ht9.far (F' := Fo F b0 S w9.heap.size) (W' := w9.alloc (.cells #[.int .i64 0, .int .i64 0, .slice none 0 0] 35)) ⟨fun k hk _ => ((Below.refl _ w9).alloc (Nat.le_refl _) _).block k hk, fun k hk hf => ⟨hf.1, hf.2.1, by omega⟩⟩
      obtain ⟨bR, hbR⟩ : ∃ b, b = w9.heap.size := ⟨_, rfl⟩
      rw [← hbR] at hv htx ⊢
      have HbR := Lib.hid hbR
      have hSR : S ≤ bR := by have := hb9d.size; omega
      clear hbR
      generalize w9.alloc (.cells #[.int .i64 0, .int .i64 0, .slice none 0 0] 35) = w10 at *
      try simp only [Act.put, List.setIfInBounds_toArray, List.set_cons_zero, List.set_cons_succ]
      have v0 := hv.c0
      have v1 := hv.c1
      have v2 := hv.c2
      have vz0 := hv.z0
      have vz1 := hv.z1
      have vz2 := hv.z2
      refine wpAnyH_ready (rs := [10]) (by as_aux_lemma => kernel_rfl) (by simp) ?_
      refine AllReadyH.cons (o := { dst := none, op := Go.Op.store 35 (Go.Operand.tmp 9) (Go.Operand.tmp 39), type := 0, pos := "ref.go:46", after := #[{ on := 9, ground := Go.Ground.data }, { on := 7, ground := Go.Ground.data }, { on := 5, ground := Go.Ground.chain }, { on := 0, ground := Go.Ground.phase }, { on := 1, ground := Go.Ground.phase }, { on := 2, ground := Go.Ground.phase }, { on := 3, ground := Go.Ground.phase }, { on := 4, ground := Go.Ground.phase }, { on := 5, ground := Go.Ground.phase }, { on := 6, ground := Go.Ground.phase }, { on := 7, ground := Go.Ground.phase }, { on := 8, ground := Go.Ground.textOnly Go.Departure.lateStores }, { on := 9, ground := Go.Ground.phase }], guard := none }) rfl (fun K hK => ?_) AllReadyH.nil
      go_simp
      skip
      refine hK.out _ _ ?_ (fun hH2 => ?_)
      · exact HS.out _ ((hv.wrote z1 z2 Az nz cz).2.below hbx (by omega))
      clear hK K hH
      have hH := hH2
      clear hH2
      obtain ⟨hvz, hw⟩ := hv.wrote z1 z2 Az nz cz
      have hbz := hw.below hbx (by omega)
      have htz := htx.far (F' := Fo F b0 S bR) (W' := _) ⟨fun k hk hf => hw.keep k hf.2.2, fun _ _ hf => hf⟩
      clear v0 v1 v2 vz0 vz1 vz2
      generalize ((w10.setCell ⟨bR, 0, none⟩ (.int .i64 z1)).setCell ⟨bR, 1, none⟩ (.int .i64 z2)).setCell ⟨bR, 2, none⟩ (.slice Az nz cz) = w11 at *
      try simp only [Act.put, List.setIfInBounds_toArray, List.set_cons_zero, List.set_cons_succ]
      refine wpAnyH_ready (rs := [11]) (by as_aux_lemma => kernel_rfl) (by simp) ?_
      refine AllReadyH.cons (o := { dst := some 10, op := Go.Op.assign (Go.Operand.tmp 40), type := 3, pos := "ref.go:46", after := #[{ on := 8, ground := Go.Ground.data }, { on := 10, ground := Go.Ground.chain }, { on := 0, ground := Go.Ground.phase }, { on := 1, ground := Go.Ground.phase }, { on := 2, ground := Go.Ground.phase }, { on := 3, ground := Go.Ground.phase }, { on := 4, ground := Go.Ground.phase }, { on := 5, ground := Go.Ground.phase }, { on := 6, ground := Go.Ground.phase }, { on := 7, ground := Go.Ground.phase }, { on := 8, ground := Go.Ground.phase }, { on := 9, ground := Go.Ground.phase }, { on := 10, ground := Go.Ground.phase }], guard := none }) rfl (fun K hK => ?_) AllReadyH.nil
      go_simp
      refine hK.out _ _ ?_ (fun hH2 => ?_)
      · exact HS.out _ hbz
      clear hK K hH
      have hH := hH2
      clear hH2
      try simp only [Act.put, List.setIfInBounds_toArray, List.set_cons_zero, List.set_cons_succ]
      refine wpAnyH_done (by as_aux_lemma => kernel_rfl) ?_ _
      refine NoPanic.normal ?_
      clear hH
      exact ⟨rfl, _, _, _, _, _, _, _, _, _, bR, z1, z2, Az, nz, cz, by (try simp only [Act.put, List.setIfInBounds_toArray, List.set_cons_zero, List.set_cons_succ]); rfl, hbz, by omega, hvz, htz⟩
    · go_simp
      refine hK.out _ _ ?_ (fun hH2 => ?_)
      · exact HS.out _ (hd0.alloc hd0.size _)
      clear hK K hH
      have hH := hH2
      clear hH2
      have hv := WVar.new wd 0 0 none 0 0 rfl
      have hdx := hd0.alloc hd0.size (.cells #[.int .i64 0, .int .i64 0, .slice none 0 0] 35)
      have hsx : (wd.alloc (.cells #[.int .i64 0, .int .i64 0, .slice none 0 0] 35)).heap.size = S + 1 := by rw [hSd]; simp
      obtain ⟨bR, hbR⟩ : ∃ b, b = wd.heap.size := ⟨_, rfl⟩
      rw [← hbR] at hv ⊢
      have HbR := Lib.hid (show bR = S ∧ wd.heap.size + 1 = S + 1 from ⟨by omega, by omega⟩)
      generalize wd.alloc (.cells #[.int .i64 0, .int .i64 0, .slice none 0 0] 35) = wx at *
      have HSX := Lib.hid hsx
      have hSR : S ≤ bR := by omega
      clear hsx hbR
      try simp only [Act.put, List.setIfInBounds_toArray, List.set_cons_zero, List.set_cons_succ]
      refine wpAnyH_ready (rs := [5]) (by as_aux_lemma => kernel_rfl) (by simp) ?_
      refine AllReadyH.cons (o := { dst := some 38, op := Go.Op.call { callee := Go.Callee.value (Go.Operand.func 21), args := #[Go.Operand.tmp 36, Go.Operand.tmp 37], argTypes := #[35, 35] }, type := 41, pos := "ref.go:46", after := #[{ on := 3, ground := Go.Ground.data }, { on := 4, ground := Go.Ground.data }], guard := none }) rfl (fun K hK => ?_) AllReadyH.nil
      have hfar : Far F (Fo F w.heap.size S bR) w wx := ⟨fun k hk _ => (show Below w.heap.size w wx from by have h := B6.out.1; rw [HO.out.1] at h; exact h.trans (hdx.mono h.size)).block k hk, fun k hk hf => ⟨hf, .inl hk, by have := HO.out; have := HbR.out; have := B6.out; omega⟩⟩
      have hFo : ∀ k, wx.heap.size ≤ k → Fo F b0 S bR k := fun k hk => Fo.of (HF.out k (by have := HO.out; have := B6.out; have := HSX.out; have := hdx.size; omega)) (.inr (by have := HSX.out; omega)) (by have := HSX.out; have := HbR.out; omega)
      go_simp
      go_at_call 21
      (with_reducible refine (HI.out r (Lh.node (y1, y2) l' r') (by have := HN.out; simp only [Lh.size] at this ⊢; omega) (Fo F b0 S bR) r1 r2 Ar nr cr y1 y2 B 2 d _ hFo ((HK.out.2.2).far (HO.out.1 ▸ hfar)) (HB.out.far (HO.out.1 ▸ hfar))).mono ?_)
      rintro e w9 ⟨z1, z2, Az, nz, cz, rfl, ht9, hb9⟩
      rw [← HQ.out.1.1] ; rw [← HQ.out.2.1] at ht9
      refine hK.out _ _ ?_ (fun hH2 => ?_)
      · exact HS.out _ (hdx.trans (hb9.mono hdx.size))
      clear hK K hH
      have hH := hH2
      clear hH2
      have hbx := hdx.trans (hb9.mono hdx.size)
      replace hv := hv.stay hb9
      have htx := ht9
      clear hb9 ht9
      try simp only [Act.put, List.setIfInBounds_toArray, List.set_cons_zero, List.set_cons_succ]
      refine wpAnyH_take (i := 6) (oi := { dst := some 32, op := Go.Op.move (Go.Operand.tmp 38), type := 41, pos := "ref.go:46", after := #[{ on := 5, ground := Go.Ground.data }], guard := none }) (v := ?v1_2_6) rfl (by as_aux_lemma => kernel_rfl) (by as_aux_lemma => kernel_rfl) (by as_aux_lemma => kernel_rfl) (fun _ _ _ h => h) (Or.inl ⟨(by as_aux_lemma => kernel_rfl), ?hy1_2_6⟩) hH ?rest1_2_6
      case hy1_2_6 => (intro w hSw; (try dsimp only at hSw); go_simp; try with_reducible rfl)
      try simp only [Act.put, List.setIfInBounds_toArray, List.set_cons_zero, List.set_cons_succ]
      refine wpAnyH_take (i := 7) (oi := { dst := some 39, op := Go.Op.extract (Go.Operand.tmp 32) 0, type := 35, pos := "ref.go:46", after := #[{ on := 6, ground := Go.Ground.data }], guard := none }) (v := ?v1_2_7) rfl (by as_aux_lemma => kernel_rfl) (by as_aux_lemma => kernel_rfl) (by as_aux_lemma => kernel_rfl) (fun _ _ _ h => h) (Or.inl ⟨(by as_aux_lemma => kernel_rfl), ?hy1_2_7⟩) hH ?rest1_2_7
      case hy1_2_7 => (intro w hSw; (try dsimp only at hSw); go_simp; try with_reducible rfl)
      try simp only [Act.put, List.setIfInBounds_toArray, List.set_cons_zero, List.set_cons_succ]
      refine wpAnyH_take (i := 8) (oi := { dst := some 40, op := Go.Op.extract (Go.Operand.tmp 32) 1, type := 3, pos := "ref.go:46", after := #[{ on := 6, ground := Go.Ground.data }, { on := 10, ground := Go.Ground.gcOnly Go.Departure.lateStores }], guard := none }) (v := ?v1_2_8) rfl (by as_aux_lemma => kernel_rfl) (by as_aux_lemma => kernel_rfl) (by as_aux_lemma => kernel_rfl) (fun _ _ _ h => h) (Or.inl ⟨(by as_aux_lemma => kernel_rfl), ?hy1_2_8⟩) hH ?rest1_2_8
      case hy1_2_8 => (intro w hSw; (try dsimp only at hSw); go_simp; try with_reducible rfl)
      try simp only [Act.put, List.setIfInBounds_toArray, List.set_cons_zero, List.set_cons_succ]
      have v0 := hv.c0
      have vz0 := hv.z0
      have v1 := hv.c1
      have vz1 := hv.z1
      have v2 := hv.c2
      have vz2 := hv.z2
      generalize w9 = w10 at *
      refine wpAnyH_ready (rs := [10]) (by as_aux_lemma => kernel_rfl) (by simp) ?_
      refine AllReadyH.cons (o := { dst := none, op := Go.Op.store 35 (Go.Operand.tmp 9) (Go.Operand.tmp 39), type := 0, pos := "ref.go:46", after := #[{ on := 9, ground := Go.Ground.data }, { on := 7, ground := Go.Ground.data }, { on := 5, ground := Go.Ground.chain }, { on := 0, ground := Go.Ground.phase }, { on := 1, ground := Go.Ground.phase }, { on := 2, ground := Go.Ground.phase }, { on := 3, ground := Go.Ground.phase }, { on := 4, ground := Go.Ground.phase }, { on := 5, ground := Go.Ground.phase }, { on := 6, ground := Go.Ground.phase }, { on := 7, ground := Go.Ground.phase }, { on := 8, ground := Go.Ground.textOnly Go.Departure.lateStores }, { on := 9, ground := Go.Ground.phase }], guard := none }) rfl (fun K hK => ?_) AllReadyH.nil
      go_simp
      skip
      refine hK.out _ _ ?_ (fun hH2 => ?_)
      · exact HS.out _ ((hv.wrote z1 z2 Az nz cz).2.below hbx (by omega))
      clear hK K hH
      have hH := hH2
      clear hH2
      obtain ⟨hvz, hw⟩ := hv.wrote z1 z2 Az nz cz
      have hbz := hw.below hbx (by omega)
      have htz := htx.far (F' := Fo F b0 S bR) (W' := _) ⟨fun k hk hf => hw.keep k hf.2.2, fun _ _ hf => hf⟩
      clear v0 v1 v2 vz0 vz1 vz2
      generalize ((w10.setCell ⟨bR, 0, none⟩ (.int .i64 z1)).setCell ⟨bR, 1, none⟩ (.int .i64 z2)).setCell ⟨bR, 2, none⟩ (.slice Az nz cz) = w11 at *
      try simp only [Act.put, List.setIfInBounds_toArray, List.set_cons_zero, List.set_cons_succ]
      refine wpAnyH_ready (rs := [11]) (by as_aux_lemma => kernel_rfl) (by simp) ?_
      refine AllReadyH.cons (o := { dst := some 10, op := Go.Op.assign (Go.Operand.tmp 40), type := 3, pos := "ref.go:46", after := #[{ on := 8, ground := Go.Ground.data }, { on := 10, ground := Go.Ground.chain }, { on := 0, ground := Go.Ground.phase }, { on := 1, ground := Go.Ground.phase }, { on := 2, ground := Go.Ground.phase }, { on := 3, ground := Go.Ground.phase }, { on := 4, ground := Go.Ground.phase }, { on := 5, ground := Go.Ground.phase }, { on := 6, ground := Go.Ground.phase }, { on := 7, ground := Go.Ground.phase }, { on := 8, ground := Go.Ground.phase }, { on := 9, ground := Go.Ground.phase }, { on := 10, ground := Go.Ground.phase }], guard := none }) rfl (fun K hK => ?_) AllReadyH.nil
      go_simp
      refine hK.out _ _ ?_ (fun hH2 => ?_)
      · exact HS.out _ hbz
      clear hK K hH
      have hH := hH2
      clear hH2
      try simp only [Act.put, List.setIfInBounds_toArray, List.set_cons_zero, List.set_cons_succ]
      refine wpAnyH_done (by as_aux_lemma => kernel_rfl) ?_ _
      refine NoPanic.normal ?_
      clear hH
      exact ⟨rfl, _, _, _, _, _, _, _, _, _, bR, z1, z2, Az, nz, cz, by (try simp only [Act.put, List.setIfInBounds_toArray, List.set_cons_zero, List.set_cons_succ]); rfl, hbz, by omega, hvz, htz⟩
  rintro a' w' ⟨u33, u34, u35, u36, u37, u38, u32, u39, u40, bR, z1, z2, Az, nz, cz, rfl, hbz, hSR, hvz, htz⟩
  try simp only [Act.put, List.setIfInBounds_toArray, List.set_cons_zero, List.set_cons_succ]
  have Z := Lib.hid (And.intro hbz (And.intro hSR (And.intro hvz htz)))
  have q0 := (HG.out.2.1.stay hbz).c2
  have q1 := (HG.out.2.2.stay hbz).k0
  have q2 := (HG.out.2.2.stay hbz).k1
  have q3 := (HG.out.2.2.stay hbz).k2
  clear hbz hvz htz HS
  go_wp2_with fail
  have hbl := Z.out.1.alloc Z.out.1.size (.cells #[.int .i64 l1, .int .i64 l2, .slice Al nl cl] 35)
  have hnl := WVar.new w' l1 l2 Al nl cl rfl
  have hvr := Z.out.2.2.1.stay ((Below.refl w'.heap.size w').alloc (Nat.le_refl _) (.cells #[.int .i64 l1, .int .i64 l2, .slice Al nl cl] 35))
  have hbw : Below w.heap.size w (w'.alloc (.cells #[.int .i64 l1, .int .i64 l2, .slice Al nl cl] 35)) := (show Below w.heap.size w w6 from by have h := B6.out.1; rw [HO.out.1] at h; exact h).trans (hbl.mono (by have := B6.out; have := HO.out; omega))
  have hl9 := HK.out.2.1.stay hbw
  have hr9 := Z.out.2.2.2.stay ((Below.refl w'.heap.size w').alloc (Nat.le_refl _) (.cells #[.int .i64 l1, .int .i64 l2, .slice Al nl cl] 35))
  obtain ⟨bL, hbL⟩ : ∃ b, b = w'.heap.size := ⟨_, rfl⟩
  rw [← hbL] at hnl ⊢
  have HbL := Lib.hid (show S ≤ bL from by have := Z.out.1.size; omega)
  clear hbL
  generalize w'.alloc (.cells #[.int .i64 l1, .int .i64 l2, .slice Al nl cl] 35) = w8 at *
  obtain ⟨kl, hkl⟩ : ∃ k, k = l.rank := ⟨_, rfl⟩
  obtain ⟨kr, hkr⟩ : ∃ k, k = mt.rank := ⟨_, rfl⟩
  have HR := Lib.hid (show (kl = l.rank ∧ kr = mt.rank) ∧ l.size < 268435456 from ⟨⟨hkl, hkr⟩, by have := HN.out; simp only [Lh.size] at this; omega⟩)
  have HC1 := Lib.hid (fun d os => in_class (w := w8) (fun W hb => (refRank_any _ _ (l1, l2) Al nl cl W (hl9.stay hb) HR.out.2).mono fun _ _ ⟨he, hb2⟩ => ⟨(show _ = Ending.returned (.int .i64 (kl : Int)) by rw [he, HR.out.1.1]), hb2⟩) d os)
  have HC2 := Lib.hid (fun d os => in_class (w := w8) (fun W hb => (refRank_any _ _ (z1, z2) Az nz cz W (hr9.stay hb) HQ.out.2.2).mono fun _ _ ⟨he, hb2⟩ => ⟨(show _ = Ending.returned (.int .i64 (kr : Int)) by rw [he, HR.out.1.2]), hb2⟩) d os)
  have k0 := fun d os => cell_regrown hnl.c0 d os
  have k1 := fun d os => cell_regrown hnl.c1 d os
  have k2 := fun d os => cell_regrown hnl.c2 d os
  have k3 := fun d os => cell_regrown hvr.c0 d os
  have k4 := fun d os => cell_regrown hvr.c1 d os
  have k5 := fun d os => cell_regrown hvr.c2 d os
  have Y := Lib.hid (And.intro hbl (And.intro hnl (And.intro hvr (And.intro hbw (And.intro hl9 hr9)))))
  clear hbl hnl hvr hbw hl9 hr9 hkl hkr q0 q1 q2 q3
  rw [world_self w8]
  generalize w8.drawn = d0
  generalize (#[] : Array Obj) = os0
  refine wp_region_class (by kernel_rfl) (by kernel_rfl) ?_
  repeat (go_big_quiet_step (first | (with_reducible exact HC1.out _ _) | (with_reducible exact HC2.out _ _) | fail))
  refine wpQuiet_nil ?_
  intro _ hw'
  obtain ⟨⟨dq, osq⟩, hw''⟩ := hw'
  subst hw''
  have hb := below_regrown w8 dq osq
  generalize grow (redrawn w8 dq) osq = wy at *
  have X := Lib.hid (And.intro (Y.out.2.2.2.1.trans (hb.mono Y.out.2.2.2.1.size)) (And.intro (Y.out.1.trans (hb.mono Y.out.1.size)) hb))
  have HX := Lib.hid (And.intro (Y.out.2.2.2.2.1.stay hb) (Y.out.2.2.2.2.2.stay hb))
  have l0 := (Y.out.2.1.stay hb).c0
  have l1_ := (Y.out.2.1.stay hb).c1
  have l2_ := (Y.out.2.1.stay hb).c2
  have r0 := (Y.out.2.2.1.stay hb).c0
  have r1_ := (Y.out.2.2.1.stay hb).c1
  have r2_ := (Y.out.2.2.1.stay hb).c2
  have hwin := (HG.out.2.1.stay X.out.2.1)
  have x0 := hwin.c0
  have x1_ := hwin.c1
  have hres := (HG.out.1.stay X.out.2.1)
  have wq := HW2.out q (by have := HQ.out; omega)
  clear HC1 HC2 k0 k1 k2 k3 k4 k5 hb hwin
  by_cases hk : kl < kr
  · have g1 : decide ((kl : Int) < (kr : Int)) = true := by simp; omega
    have g2 : (kl : Int) < (kr : Int) := by omega
    have hka : KAt (wy.alloc (.cells #[.int .i64 z1, .int .i64 z2, .slice Az nz cz, .int .i64 l1, .int .i64 l2, .slice Al nl cl] 35)) wy.heap.size (z1, z2) Az nz cz (l1, l2) Al nl cl := new_at rfl
    have hral := hres.stay ((Below.refl wy.heap.size wy).alloc (Nat.le_refl _) (.cells #[.int .i64 z1, .int .i64 z2, .slice Az nz cz, .int .i64 l1, .int .i64 l2, .slice Al nl cl] 35))
    have HKA := Lib.hid hka
    have hk9 := Lib.hid hk
    clear hka hk
    go_wp2_with (refine wpList_store_w rfl _ _ rfl _ rfl rfl hral ?_; intro w12 hv12 hw12)
    have t0 := hv12.c0
    have t1 := hv12.c1
    have t2 := hv12.c2
    refine bodyPost_ret (v := .tuple #[.agg #[.int .i64 x1, .int .i64 x2, .slice (some ⟨wy.heap.size, 0, none⟩) 2 2], .int .i64 (2 * (q : Int) + 2)]) (by simp [results, Tryd.results21, go_sem, t0, t1, t2]) rfl ?_
    have hba : Below w.heap.size w (wy.alloc (.cells #[.int .i64 z1, .int .i64 z2, .slice Az nz cz, .int .i64 l1, .int .i64 l2, .slice Al nl cl] 35)) := X.out.1.alloc X.out.1.size _
    have hsz : w.heap.size ≤ b2 ∧ b2 < S ∧ S ≤ wy.heap.size := ⟨by have := HO.out; omega, by have := HO.out; have := B6.out; omega, by have := X.out.2.1.size; omega⟩
    have hbf := hw12.below hba hsz.1
    have hL : RAt F w12 l (l1, l2) Al nl cl := HK.out.2.1.stay hbf
    have hR : RAt F w12 mt (z1, z2) Az nz cz := HX.out.2.far (Fo.back (fun k hk hne hlt => (hw12.keep k (by have := HO.out; omega)).trans (((Below.refl wy.heap.size wy).alloc (Nat.le_refl _) _).block k hlt)))
    have hkf := HKA.out.keep (hw12.keep wy.heap.size (by omega))
    refine ⟨x1, x2, some ⟨wy.heap.size, 0, none⟩, 2, 2, ?_, ?_, hbf⟩
    · rw [meldN_ge HV.out, ← HQ.out.1.1, show ((2 * (1 + q) : Nat) : Int) = 2 * (q : Int) + 2 by omega]
    · rw [meld_ge HV.out, ← HQ.out.2.1, mkH, if_pos (by rw [← HR.out.1.1, ← HR.out.1.2]; exact hk9.out)]
      exact RAt.mk (Nat.le_refl _) (by omega) (HF.out _ (by omega)) hkf hR hL
  · have g1 : decide ((kl : Int) < (kr : Int)) = false := by simp; omega
    have g2 : ¬ (kl : Int) < (kr : Int) := by omega
    have hka : KAt (wy.alloc (.cells #[.int .i64 l1, .int .i64 l2, .slice Al nl cl, .int .i64 z1, .int .i64 z2, .slice Az nz cz] 35)) wy.heap.size (l1, l2) Al nl cl (z1, z2) Az nz cz := new_at rfl
    have hral := hres.stay ((Below.refl wy.heap.size wy).alloc (Nat.le_refl _) (.cells #[.int .i64 l1, .int .i64 l2, .slice Al nl cl, .int .i64 z1, .int .i64 z2, .slice Az nz cz] 35))
    have HKA := Lib.hid hka
    have hk9 := Lib.hid hk
    clear hka hk
    go_wp2_with (refine wpList_store_w rfl _ _ rfl _ rfl rfl hral ?_; intro w12 hv12 hw12)
    have t0 := hv12.c0
    have t1 := hv12.c1
    have t2 := hv12.c2
    refine bodyPost_ret (v := .tuple #[.agg #[.int .i64 x1, .int .i64 x2, .slice (some ⟨wy.heap.size, 0, none⟩) 2 2], .int .i64 (2 * (q : Int) + 2)]) (by simp [results, Tryd.results21, go_sem, t0, t1, t2]) rfl ?_
    have hba : Below w.heap.size w (wy.alloc (.cells #[.int .i64 l1, .int .i64 l2, .slice Al nl cl, .int .i64 z1, .int .i64 z2, .slice Az nz cz] 35)) := X.out.1.alloc X.out.1.size _
    have hsz : w.heap.size ≤ b2 ∧ b2 < S ∧ S ≤ wy.heap.size := ⟨by have := HO.out; omega, by have := HO.out; have := B6.out; omega, by have := X.out.2.1.size; omega⟩
    have hbf := hw12.below hba hsz.1
    have hL : RAt F w12 l (l1, l2) Al nl cl := HK.out.2.1.stay hbf
    have hR : RAt F w12 mt (z1, z2) Az nz cz := HX.out.2.far (Fo.back (fun k hk hne hlt => (hw12.keep k (by have := HO.out; omega)).trans (((Below.refl wy.heap.size wy).alloc (Nat.le_refl _) _).block k hlt)))
    have hkf := HKA.out.keep (hw12.keep wy.heap.size (by omega))
    refine ⟨x1, x2, some ⟨wy.heap.size, 0, none⟩, 2, 2, ?_, ?_, hbf⟩
    · rw [meldN_ge HV.out, ← HQ.out.1.1, show ((2 * (1 + q) : Nat) : Int) = 2 * (q : Int) + 2 by omega]
    · rw [meld_ge HV.out, ← HQ.out.2.1, mkH, if_neg (by rw [← HR.out.1.1, ← HR.out.1.2]; exact hk9.out)]
      exact RAt.mk (Nat.le_refl _) (by omega) (HF.out _ (by omega)) hkf hL hR

set_option maxRecDepth 100000 in
set_option maxHeartbeats 4000000 in
theorem refMeld_lt (N : Nat) (hI : MeldsR N) (hN : N < 268435456) (x1 x2 y1 y2 : Int) (l r l' r' : Lh) (hs : (Lh.node (x1, x2) l r).size + (Lh.node (y1, y2) l' r').size = N) (hv : ltE (y1, y2) (x1, x2) = true) (F : Nat → Prop) (A B : Option Addr) (c d : Nat) (w : World) (hF : ∀ k, w.heap.size ≤ k → F k)
    (ha : RAt F w (.node (x1, x2) l r) (x1, x2) A 2 c) (hb : RAt F w (.node (y1, y2) l' r') (y1, y2) B 2 d) :
    Calls Tryd.prog 21 #[.agg #[.int .i64 x1, .int .i64 x2, .slice A 2 c], .agg #[.int .i64 y1, .int .i64 y2, .slice B 2 d]] w (GaveW F (meld (.node (x1, x2) l r) (.node (y1, y2) l' r')) (2 * meldN (.node (x1, x2) l r) (.node (y1, y2) l' r')) w) := by
  have HV := Lib.hid hv
  have HA := Lib.hid ha
  have HB := Lib.hid hb
  unfold MeldsR at hI
  have HI := Lib.hid hI
  have HN := Lib.hid (And.intro hN hs)
  have HF := Lib.hid hF
  obtain ⟨-, -, kb, ⟨l1, l2⟩, ⟨r1, r2⟩, Al, Ar, nl, cl, nr, cr, hA, hc, hc2, -, hk, hl, hr⟩ := hb.kids
  subst hA
  have HK := Lib.hid (And.intro hk (And.intro hl hr))
  have HC := Lib.hid (show 2 ≤ d ∧ d ≤ 9223372036854775807 from ⟨hc, hc2⟩)
  have w2 : ∀ k : Nat, k < 268435456 → IntKind.i64.wrap (2 * (k : Int) + 2) = 2 * (k : Int) + 2 := fun k hk => by rw [IntKind.wrap_i64]; omega
  have HW2 := Lib.hid w2
  clear ha hb hI hN hs hF hk hl hr w2
  go_enter Tryd.func21, Tryd.ntmps21
  go_wp2_with fail
  have h5 := five_w w x1 x2 y1 y2 A (some ⟨kb, 0, none⟩) 2 c 2 d
  ((with_reducible refine (refLessW (y1, y2) (x1, x2) _).mono ?_); rintro e w6 ⟨rfl, hb6⟩)
  rw [hv]
  generalize ((((w.alloc (.cells #[.int .i64 x1, .int .i64 x2, .slice A 2 c] 35)).alloc _).alloc _).alloc _).alloc _ = W5 at *
  obtain ⟨e0, e1, e2, e3, e4, e5, e6⟩ := h5
  replace e0 := e0.stay hb6
  replace e1 := e1.stay hb6
  replace e2 := e2.stay hb6
  replace e3 := e3.stay hb6
  replace e4 := e4.stay hb6
  have B6 := Lib.hid (show Below w.heap.size w w6 ∧ w.heap.size + 5 ≤ w6.heap.size from ⟨e6.trans (hb6.mono e6.size), by have := hb6.size; omega⟩)
  clear e5 e6 hb6 hv
  obtain ⟨b0, hb0⟩ : ∃ b, b = w.heap.size := ⟨_, rfl⟩
  rw [← hb0] at e0 e1 e2 e3 e4 B6 ⊢
  obtain ⟨b1, hb1⟩ : ∃ b, b = b0 + 1 := ⟨_, rfl⟩
  rw [← hb1] at e1 e2 e3 e4 ⊢
  obtain ⟨b2, hb2⟩ : ∃ b, b = b1 + 1 := ⟨_, rfl⟩
  rw [← hb2] at e2 e3 e4 ⊢
  obtain ⟨b3, hb3⟩ : ∃ b, b = b2 + 1 := ⟨_, rfl⟩
  rw [← hb3] at e3 e4 ⊢
  obtain ⟨b4, hb4⟩ : ∃ b, b = b3 + 1 := ⟨_, rfl⟩
  rw [← hb4] at e4 ⊢
  have HO := Lib.hid (show b0 = w.heap.size ∧ b1 = b0 + 1 ∧ b2 = b1 + 1 ∧ b3 = b2 + 1 ∧ b4 = b3 + 1 from ⟨hb0, hb1, hb2, hb3, hb4⟩)
  clear hb0 hb1 hb2 hb3 hb4
  have c10 := e1.c0
  have c11 := e1.c1
  have c12 := e1.c2
  go_wp2_with (first
    | (refine wpList_store_w rfl _ _ rfl _ rfl rfl e3 ?_
       intro w7 f3 hw7
       have f0 := e0.keep (hw7.keep _ (by have := HO.out; omega))
       have f2 := e2.keep (hw7.keep _ (by have := HO.out; omega))
       have f4 := e4.keep (hw7.keep _ (by have := HO.out; omega))
       have B7 := Lib.hid (show Below b0 w w7 ∧ b0 + 5 ≤ w7.heap.size from ⟨hw7.below B6.out.1 (by have := HO.out; omega), by rw [hw7.size]; exact B6.out.2⟩)
       have c00 := f0.c0
       have c01 := f0.c1
       have c02 := f0.c2
       clear hw7 e0 e1 e2 e3 e4 c10 c11 c12)
    | (refine wpList_store_w rfl _ _ rfl _ rfl rfl f4 ?_
       intro w8 g4 hw8
       have g2 := f2.keep (hw8.keep _ (by have := HO.out; omega))
       have g3 := f3.keep (hw8.keep _ (by have := HO.out; omega))
       have B8 := Lib.hid (show Below b0 w w8 ∧ b0 + 5 ≤ w8.heap.size from ⟨hw8.below B7.out.1 (by have := HO.out; omega), by rw [hw8.size]; exact B7.out.2⟩)
       have s0 := g3.c2
       clear hw8 f0 f2 f3 f4 c00 c01 c02))
  clear s0
  obtain ⟨S, hS⟩ : ∃ S, S = w8.heap.size := ⟨_, rfl⟩
  have hk := HK.out.1.stay (show Below w.heap.size w w8 by rw [← HO.out.1]; exact B8.out.1)
  have HS := Lib.hid (fun (w' : World) (hz : Below w8.heap.size w8 w') => (show w'.cell? ⟨b3, 2, none⟩ = some (.slice (some ⟨kb, 0, none⟩) 2 d) ∧ w'.cell? ⟨kb, 3, none⟩ = some (.int .i64 r1) ∧ w'.cell? ⟨kb, 4, none⟩ = some (.int .i64 r2) ∧ w'.cell? ⟨kb, 5, none⟩ = some (.slice Ar nr cr) ∧ w'.cell? ⟨b4, 0, none⟩ = some (.int .i64 x1) ∧ w'.cell? ⟨b4, 1, none⟩ = some (.int .i64 x2) ∧ w'.cell? ⟨b4, 2, none⟩ = some (.slice A 2 c) from ⟨(g3.stay hz).c2, (hk.stay hz).k3, (hk.stay hz).k4, (hk.stay hz).k5, (g4.stay hz).c0, (g4.stay hz).c1, (g4.stay hz).c2⟩))
  have HG := Lib.hid (And.intro g2 (And.intro g3 hk))
  obtain ⟨q, hq⟩ : ∃ q, q = meldN r' (Lh.node (x1, x2) l r) := ⟨_, rfl⟩
  obtain ⟨mt, hmt⟩ : ∃ t, t = meld r' (Lh.node (x1, x2) l r) := ⟨_, rfl⟩
  have HQ := Lib.hid (show (q = meldN r' (Lh.node (x1, x2) l r) ∧ q < 268435456) ∧ mt = meld r' (Lh.node (x1, x2) l r) ∧ mt.size < 268435456 from ⟨⟨hq, by
    have h1 := meldN_size r' (Lh.node (x1, x2) l r)
    have h1 := meldN_size r' (Lh.node (x1, x2) l r); have := HN.out; simp only [Lh.size] at h1 this; omega⟩, hmt, by have := HN.out; rw [hmt, meld_size]; simp only [Lh.size] at this ⊢; omega⟩)
  clear g2 g3 g4 hk hq hmt
  refine wp_after (R := fun a a' w' => ∃ (u33 u34 u35 u36 u37 u38 u32 u39 u40 : Value) (bR : Nat) (z1 z2 : Int) (Az : Option Addr) (nz cz : Nat), a' = (((((((((((a.put (some 33) u33).put (some 34) u34).put (some 35) u35).put (some 36) u36).put (some 37) u37).put (some 38) u38).put (some 32) u32).put (some 39) u39).put (some 40) u40).put (some 9) (.pointer (some ⟨bR, 0, none⟩))).put (some 10) (.int .i64 (2 * (q : Int)))) ∧ Below w8.heap.size w8 w' ∧ S ≤ bR ∧ WVar w' bR (z1, z2) Az nz cz ∧ RAt (Fo F b0 S bR) w' mt (z1, z2) Az nz cz) ?_ ?_
  · have hd0 : Below w8.heap.size w8 w8.drew := (Below.refl _ _).drew
    have hSd : S = w8.drew.heap.size := hS
    refine wp_region_noPanic ?_
    refine wp_region_held_drew (S := fun w' => w'.cell? ⟨b3, 2, none⟩ = some (.slice (some ⟨kb, 0, none⟩) 2 d) ∧ w'.cell? ⟨kb, 3, none⟩ = some (.int .i64 r1) ∧ w'.cell? ⟨kb, 4, none⟩ = some (.int .i64 r2) ∧ w'.cell? ⟨kb, 5, none⟩ = some (.slice Ar nr cr) ∧ w'.cell? ⟨b4, 0, none⟩ = some (.int .i64 x1) ∧ w'.cell? ⟨b4, 1, none⟩ = some (.int .i64 x2) ∧ w'.cell? ⟨b4, 2, none⟩ = some (.slice A 2 c)) (by kernel_rfl) (HS.out _ hd0) (fun hH => ?_)
    generalize w8.drew = wd at *
    refine wpAnyH_take (i := 0) (oi := { dst := some 33, op := Go.Op.fieldAddr 35 (Go.Operand.tmp 6) 1, type := 0, pos := "ref.go:46", after := #[], guard := none }) (v := ?v2_0_0) rfl (by as_aux_lemma => kernel_rfl) (by as_aux_lemma => kernel_rfl) (by as_aux_lemma => kernel_rfl) (fun _ _ _ h => h) (Or.inl ⟨(by as_aux_lemma => kernel_rfl), ?hy2_0_0⟩) hH ?rest2_0_0
    case hy2_0_0 => (intro w hSw; (try dsimp only at hSw); go_simp; try with_reducible rfl)
    try simp only [Act.put, List.setIfInBounds_toArray, List.set_cons_zero, List.set_cons_succ]
    refine wpAnyH_take (i := 1) (oi := { dst := some 34, op := Go.Op.load 33 (Go.Operand.tmp 33), type := 33, pos := "ref.go:46", after := #[{ on := 0, ground := Go.Ground.data }], guard := none }) (v := ?v2_0_1) rfl (by as_aux_lemma => kernel_rfl) (by as_aux_lemma => kernel_rfl) (by as_aux_lemma => kernel_rfl) (fun _ _ _ h => h) (Or.inl ⟨(by as_aux_lemma => kernel_rfl), ?hy2_0_1⟩) hH ?rest2_0_1
    case hy2_0_1 => (intro w hSw; (try dsimp only at hSw); go_simp; try with_reducible rfl)
    try simp only [Act.put, List.setIfInBounds_toArray, List.set_cons_zero, List.set_cons_succ]
    refine wpAnyH_take (i := 2) (oi := { dst := some 35, op := Go.Op.indexAddr 33 (Go.Operand.tmp 34) (Go.Operand.const (Go.Value.int Go.IntKind.i64 1)), type := 0, pos := "ref.go:46", after := #[{ on := 1, ground := Go.Ground.data }], guard := none }) (v := ?v2_0_2) rfl (by as_aux_lemma => kernel_rfl) (by as_aux_lemma => kernel_rfl) (by as_aux_lemma => kernel_rfl) (fun _ _ _ h => h) (Or.inl ⟨(by as_aux_lemma => kernel_rfl), ?hy2_0_2⟩) hH ?rest2_0_2
    case hy2_0_2 => (intro w hSw; (try dsimp only at hSw); go_simp; try with_reducible rfl)
    try simp only [Act.put, List.setIfInBounds_toArray, List.set_cons_zero, List.set_cons_succ]
    refine wpAnyH_take (i := 3) (oi := { dst := some 36, op := Go.Op.load 35 (Go.Operand.tmp 35), type := 35, pos := "ref.go:46", after := #[{ on := 2, ground := Go.Ground.data }], guard := none }) (v := ?v2_0_3) rfl (by as_aux_lemma => kernel_rfl) (by as_aux_lemma => kernel_rfl) (by as_aux_lemma => kernel_rfl) (fun _ _ _ h => h) (Or.inl ⟨(by as_aux_lemma => kernel_rfl), ?hy2_0_3⟩) hH ?rest2_0_3
    case hy2_0_3 => (intro w hSw; (try dsimp only at hSw); go_simp; try with_reducible rfl)
    try simp only [Act.put, List.setIfInBounds_toArray, List.set_cons_zero, List.set_cons_succ]
    refine wpAnyH_take (i := 4) (oi := { dst := some 37, op := Go.Op.load 35 (Go.Operand.tmp 7), type := 35, pos := "ref.go:46", after := #[], guard := none }) (v := ?v2_0_4) rfl (by as_aux_lemma => kernel_rfl) (by as_aux_lemma => kernel_rfl) (by as_aux_lemma => kernel_rfl) (fun _ _ _ h => h) (Or.inl ⟨(by as_aux_lemma => kernel_rfl), ?hy2_0_4⟩) hH ?rest2_0_4
    case hy2_0_4 => (intro w hSw; (try dsimp only at hSw); go_simp; try with_reducible rfl)
    try simp only [Act.put, List.setIfInBounds_toArray, List.set_cons_zero, List.set_cons_succ]
    refine wpAnyH_ready (rs := [5, 9]) (by as_aux_lemma => kernel_rfl) (by simp) ?_
    refine AllReadyH.cons (o := { dst := some 38, op := Go.Op.call { callee := Go.Callee.value (Go.Operand.func 21), args := #[Go.Operand.tmp 36, Go.Operand.tmp 37], argTypes := #[35, 35] }, type := 41, pos := "ref.go:46", after := #[{ on := 3, ground := Go.Ground.data }, { on := 4, ground := Go.Ground.data }], guard := none }) rfl (fun K hK => ?_) (AllReadyH.cons (o := { dst := some 9, op := Go.Op.alloc 35, type := 0, pos := "ref.go:46", after := #[], guard := none }) rfl (fun K hK => ?_) AllReadyH.nil)
    · have hfar : Far F (Fo F w.heap.size S b1) w wd := ⟨fun k hk _ => (show Below w.heap.size w wd from by have h := B8.out.1; rw [HO.out.1] at h; exact h.trans (hd0.mono h.size)).block k hk, fun k hk hf => ⟨hf, .inl hk, by have := HO.out; omega⟩⟩
      have hFo : ∀ k, wd.heap.size ≤ k → Fo F b0 S b1 k := fun k hk => Fo.of (HF.out k (by have := HO.out; have := B8.out; have := hd0.size; omega)) (.inr (by omega)) (by have := HO.out; have := B8.out; have := hd0.size; omega)
      go_simp
      go_at_call 21
      (with_reducible refine (HI.out r' (Lh.node (x1, x2) l r) (by have := HN.out; simp only [Lh.size] at this ⊢; omega) (Fo F b0 S b1) r1 r2 Ar nr cr x1 x2 A 2 c _ hFo ((HK.out.2.2).far (HO.out.1 ▸ hfar)) (HA.out.far (HO.out.1 ▸ hfar))).mono ?_)
      rintro e w9 ⟨z1, z2, Az, nz, cz, rfl, ht9, hb9⟩
      rw [← HQ.out.1.1] ; rw [← HQ.out.2.1] at ht9
      refine hK.out _ _ ?_ (fun hH2 => ?_)
      · exact HS.out _ (hd0.trans (hb9.mono hd0.size))
      clear hK K hH
      have hH := hH2
      clear hH2
      have hb9d := hd0.trans (hb9.mono hd0.size)
      try simp only [Act.put, List.setIfInBounds_toArray, List.set_cons_zero, List.set_cons_succ]
      refine wpAnyH_take (i := 6) (oi := { dst := some 32, op := Go.Op.move (Go.Operand.tmp 38), type := 41, pos := "ref.go:46", after := #[{ on := 5, ground := Go.Ground.data }], guard := none }) (v := ?v2_1_6) rfl (by as_aux_lemma => kernel_rfl) (by as_aux_lemma => kernel_rfl) (by as_aux_lemma => kernel_rfl) (fun _ _ _ h => h) (Or.inl ⟨(by as_aux_lemma => kernel_rfl), ?hy2_1_6⟩) hH ?rest2_1_6
      case hy2_1_6 => (intro w hSw; (try dsimp only at hSw); go_simp; try with_reducible rfl)
      try simp only [Act.put, List.setIfInBounds_toArray, List.set_cons_zero, List.set_cons_succ]
      refine wpAnyH_take (i := 7) (oi := { dst := some 39, op := Go.Op.extract (Go.Operand.tmp 32) 0, type := 35, pos := "ref.go:46", after := #[{ on := 6, ground := Go.Ground.data }], guard := none }) (v := ?v2_1_7) rfl (by as_aux_lemma => kernel_rfl) (by as_aux_lemma => kernel_rfl) (by as_aux_lemma => kernel_rfl) (fun _ _ _ h => h) (Or.inl ⟨(by as_aux_lemma => kernel_rfl), ?hy2_1_7⟩) hH ?rest2_1_7
      case hy2_1_7 => (intro w hSw; (try dsimp only at hSw); go_simp; try with_reducible rfl)
      try simp only [Act.put, List.setIfInBounds_toArray, List.set_cons_zero, List.set_cons_succ]
      refine wpAnyH_take (i := 8) (oi := { dst := some 40, op := Go.Op.extract (Go.Operand.tmp 32) 1, type := 3, pos := "ref.go:46", after := #[{ on := 6, ground := Go.Ground.data }, { on := 10, ground := Go.Ground.gcOnly Go.Departure.lateStores }], guard := none }) (v := ?v2_1_8) rfl (by as_aux_lemma => kernel_rfl) (by as_aux_lemma => kernel_rfl) (by as_aux_lemma => kernel_rfl) (fun _ _ _ h => h) (Or.inl ⟨(by as_aux_lemma => kernel_rfl), ?hy2_1_8⟩) hH ?rest2_1_8
      case hy2_1_8 => (intro w hSw; (try dsimp only at hSw); go_simp; try with_reducible rfl)
      try simp only [Act.put, List.setIfInBounds_toArray, List.set_cons_zero, List.set_cons_succ]
      refine wpAnyH_ready (rs := [9]) (by as_aux_lemma => kernel_rfl) (by simp) ?_
      refine AllReadyH.cons (o := { dst := some 9, op := Go.Op.alloc 35, type := 0, pos := "ref.go:46", after := #[], guard := none }) rfl (fun K hK => ?_) AllReadyH.nil
      go_simp
      refine hK.out _ _ ?_ (fun hH2 => ?_)
      · exact HS.out _ (hb9d.alloc hb9d.size _)
      clear hK K hH
      have hH := hH2
      clear hH2
      have hv := WVar.new w9 0 0 none 0 0 rfl
      have hbx := hb9d.alloc hb9d.size (.cells #[.int .i64 0, .int .i64 0, .slice none 0 0] 35)
      have htx := ht9.far (F' := Fo F b0 S w9.heap.size) (W' := w9.alloc (.cells #[.int .i64 0, .int .i64 0, .slice none 0 0] 35)) ⟨fun k hk _ => ((Below.refl _ w9).alloc (Nat.le_refl _) _).block k hk, fun k hk hf => ⟨hf.1, hf.2.1, by omega⟩⟩
      obtain ⟨bR, hbR⟩ : ∃ b, b = w9.heap.size := ⟨_, rfl⟩
      rw [← hbR] at hv htx ⊢
      have HbR := Lib.hid hbR
      have hSR : S ≤ bR := by have := hb9d.size; omega
      clear hbR
      generalize w9.alloc (.cells #[.int .i64 0, .int .i64 0, .slice none 0 0] 35) = w10 at *
      try simp only [Act.put, List.setIfInBounds_toArray, List.set_cons_zero, List.set_cons_succ]
      have v0 := hv.c0
      have v1 := hv.c1
      have v2 := hv.c2
      have vz0 := hv.z0
      have vz1 := hv.z1
      have vz2 := hv.z2
      refine wpAnyH_ready (rs := [10]) (by as_aux_lemma => kernel_rfl) (by simp) ?_
      refine AllReadyH.cons (o := { dst := none, op := Go.Op.store 35 (Go.Operand.tmp 9) (Go.Operand.tmp 39), type := 0, pos := "ref.go:46", after := #[{ on := 9, ground := Go.Ground.data }, { on := 7, ground := Go.Ground.data }, { on := 5, ground := Go.Ground.chain }, { on := 0, ground := Go.Ground.phase }, { on := 1, ground := Go.Ground.phase }, { on := 2, ground := Go.Ground.phase }, { on := 3, ground := Go.Ground.phase }, { on := 4, ground := Go.Ground.phase }, { on := 5, ground := Go.Ground.phase }, { on := 6, ground := Go.Ground.phase }, { on := 7, ground := Go.Ground.phase }, { on := 8, ground := Go.Ground.textOnly Go.Departure.lateStores }, { on := 9, ground := Go.Ground.phase }], guard := none }) rfl (fun K hK => ?_) AllReadyH.nil
      go_simp
      skip
      refine hK.out _ _ ?_ (fun hH2 => ?_)
      · exact HS.out _ ((hv.wrote z1 z2 Az nz cz).2.below hbx (by omega))
      clear hK K hH
      have hH := hH2
      clear hH2
      obtain ⟨hvz, hw⟩ := hv.wrote z1 z2 Az nz cz
      have hbz := hw.below hbx (by omega)
      have htz := htx.far (F' := Fo F b0 S bR) (W' := _) ⟨fun k hk hf => hw.keep k hf.2.2, fun _ _ hf => hf⟩
      clear v0 v1 v2 vz0 vz1 vz2
      generalize ((w10.setCell ⟨bR, 0, none⟩ (.int .i64 z1)).setCell ⟨bR, 1, none⟩ (.int .i64 z2)).setCell ⟨bR, 2, none⟩ (.slice Az nz cz) = w11 at *
      try simp only [Act.put, List.setIfInBounds_toArray, List.set_cons_zero, List.set_cons_succ]
      refine wpAnyH_ready (rs := [11]) (by as_aux_lemma => kernel_rfl) (by simp) ?_
      refine AllReadyH.cons (o := { dst := some 10, op := Go.Op.assign (Go.Operand.tmp 40), type := 3, pos := "ref.go:46", after := #[{ on := 8, ground := Go.Ground.data }, { on := 10, ground := Go.Ground.chain }, { on := 0, ground := Go.Ground.phase }, { on := 1, ground := Go.Ground.phase }, { on := 2, ground := Go.Ground.phase }, { on := 3, ground := Go.Ground.phase }, { on := 4, ground := Go.Ground.phase }, { on := 5, ground := Go.Ground.phase }, { on := 6, ground := Go.Ground.phase }, { on := 7, ground := Go.Ground.phase }, { on := 8, ground := Go.Ground.phase }, { on := 9, ground := Go.Ground.phase }, { on := 10, ground := Go.Ground.phase }], guard := none }) rfl (fun K hK => ?_) AllReadyH.nil
      go_simp
      refine hK.out _ _ ?_ (fun hH2 => ?_)
      · exact HS.out _ hbz
      clear hK K hH
      have hH := hH2
      clear hH2
      try simp only [Act.put, List.setIfInBounds_toArray, List.set_cons_zero, List.set_cons_succ]
      refine wpAnyH_done (by as_aux_lemma => kernel_rfl) ?_ _
      refine NoPanic.normal ?_
      clear hH
      exact ⟨rfl, _, _, _, _, _, _, _, _, _, bR, z1, z2, Az, nz, cz, by (try simp only [Act.put, List.setIfInBounds_toArray, List.set_cons_zero, List.set_cons_succ]); rfl, hbz, by omega, hvz, htz⟩
    · go_simp
      refine hK.out _ _ ?_ (fun hH2 => ?_)
      · exact HS.out _ (hd0.alloc hd0.size _)
      clear hK K hH
      have hH := hH2
      clear hH2
      have hv := WVar.new wd 0 0 none 0 0 rfl
      have hdx := hd0.alloc hd0.size (.cells #[.int .i64 0, .int .i64 0, .slice none 0 0] 35)
      have hsx : (wd.alloc (.cells #[.int .i64 0, .int .i64 0, .slice none 0 0] 35)).heap.size = S + 1 := by rw [hSd]; simp
      obtain ⟨bR, hbR⟩ : ∃ b, b = wd.heap.size := ⟨_, rfl⟩
      rw [← hbR] at hv ⊢
      have HbR := Lib.hid (show bR = S ∧ wd.heap.size + 1 = S + 1 from ⟨by omega, by omega⟩)
      generalize wd.alloc (.cells #[.int .i64 0, .int .i64 0, .slice none 0 0] 35) = wx at *
      have HSX := Lib.hid hsx
      have hSR : S ≤ bR := by omega
      clear hsx hbR
      try simp only [Act.put, List.setIfInBounds_toArray, List.set_cons_zero, List.set_cons_succ]
      refine wpAnyH_ready (rs := [5]) (by as_aux_lemma => kernel_rfl) (by simp) ?_
      refine AllReadyH.cons (o := { dst := some 38, op := Go.Op.call { callee := Go.Callee.value (Go.Operand.func 21), args := #[Go.Operand.tmp 36, Go.Operand.tmp 37], argTypes := #[35, 35] }, type := 41, pos := "ref.go:46", after := #[{ on := 3, ground := Go.Ground.data }, { on := 4, ground := Go.Ground.data }], guard := none }) rfl (fun K hK => ?_) AllReadyH.nil
      have hfar : Far F (Fo F w.heap.size S bR) w wx := ⟨fun k hk _ => (show Below w.heap.size w wx from by have h := B8.out.1; rw [HO.out.1] at h; exact h.trans (hdx.mono h.size)).block k hk, fun k hk hf => ⟨hf, .inl hk, by have := HO.out; have := HbR.out; have := B8.out; omega⟩⟩
      have hFo : ∀ k, wx.heap.size ≤ k → Fo F b0 S bR k := fun k hk => Fo.of (HF.out k (by have := HO.out; have := B8.out; have := HSX.out; have := hdx.size; omega)) (.inr (by have := HSX.out; omega)) (by have := HSX.out; have := HbR.out; omega)
      go_simp
      go_at_call 21
      (with_reducible refine (HI.out r' (Lh.node (x1, x2) l r) (by have := HN.out; simp only [Lh.size] at this ⊢; omega) (Fo F b0 S bR) r1 r2 Ar nr cr x1 x2 A 2 c _ hFo ((HK.out.2.2).far (HO.out.1 ▸ hfar)) (HA.out.far (HO.out.1 ▸ hfar))).mono ?_)
      rintro e w9 ⟨z1, z2, Az, nz, cz, rfl, ht9, hb9⟩
      rw [← HQ.out.1.1] ; rw [← HQ.out.2.1] at ht9
      refine hK.out _ _ ?_ (fun hH2 => ?_)
      · exact HS.out _ (hdx.trans (hb9.mono hdx.size))
      clear hK K hH
      have hH := hH2
      clear hH2
      have hbx := hdx.trans (hb9.mono hdx.size)
      replace hv := hv.stay hb9
      have htx := ht9
      clear hb9 ht9
      try simp only [Act.put, List.setIfInBounds_toArray, List.set_cons_zero, List.set_cons_succ]
      refine wpAnyH_take (i := 6) (oi := { dst := some 32, op := Go.Op.move (Go.Operand.tmp 38), type := 41, pos := "ref.go:46", after := #[{ on := 5, ground := Go.Ground.data }], guard := none }) (v := ?v2_2_6) rfl (by as_aux_lemma => kernel_rfl) (by as_aux_lemma => kernel_rfl) (by as_aux_lemma => kernel_rfl) (fun _ _ _ h => h) (Or.inl ⟨(by as_aux_lemma => kernel_rfl), ?hy2_2_6⟩) hH ?rest2_2_6
      case hy2_2_6 => (intro w hSw; (try dsimp only at hSw); go_simp; try with_reducible rfl)
      try simp only [Act.put, List.setIfInBounds_toArray, List.set_cons_zero, List.set_cons_succ]
      refine wpAnyH_take (i := 7) (oi := { dst := some 39, op := Go.Op.extract (Go.Operand.tmp 32) 0, type := 35, pos := "ref.go:46", after := #[{ on := 6, ground := Go.Ground.data }], guard := none }) (v := ?v2_2_7) rfl (by as_aux_lemma => kernel_rfl) (by as_aux_lemma => kernel_rfl) (by as_aux_lemma => kernel_rfl) (fun _ _ _ h => h) (Or.inl ⟨(by as_aux_lemma => kernel_rfl), ?hy2_2_7⟩) hH ?rest2_2_7
      case hy2_2_7 => (intro w hSw; (try dsimp only at hSw); go_simp; try with_reducible rfl)
      try simp only [Act.put, List.setIfInBounds_toArray, List.set_cons_zero, List.set_cons_succ]
      refine wpAnyH_take (i := 8) (oi := { dst := some 40, op := Go.Op.extract (Go.Operand.tmp 32) 1, type := 3, pos := "ref.go:46", after := #[{ on := 6, ground := Go.Ground.data }, { on := 10, ground := Go.Ground.gcOnly Go.Departure.lateStores }], guard := none }) (v := ?v2_2_8) rfl (by as_aux_lemma => kernel_rfl) (by as_aux_lemma => kernel_rfl) (by as_aux_lemma => kernel_rfl) (fun _ _ _ h => h) (Or.inl ⟨(by as_aux_lemma => kernel_rfl), ?hy2_2_8⟩) hH ?rest2_2_8
      case hy2_2_8 => (intro w hSw; (try dsimp only at hSw); go_simp; try with_reducible rfl)
      try simp only [Act.put, List.setIfInBounds_toArray, List.set_cons_zero, List.set_cons_succ]
      have v0 := hv.c0
      have vz0 := hv.z0
      have v1 := hv.c1
      have vz1 := hv.z1
      have v2 := hv.c2
      have vz2 := hv.z2
      generalize w9 = w10 at *
      refine wpAnyH_ready (rs := [10]) (by as_aux_lemma => kernel_rfl) (by simp) ?_
      refine AllReadyH.cons (o := { dst := none, op := Go.Op.store 35 (Go.Operand.tmp 9) (Go.Operand.tmp 39), type := 0, pos := "ref.go:46", after := #[{ on := 9, ground := Go.Ground.data }, { on := 7, ground := Go.Ground.data }, { on := 5, ground := Go.Ground.chain }, { on := 0, ground := Go.Ground.phase }, { on := 1, ground := Go.Ground.phase }, { on := 2, ground := Go.Ground.phase }, { on := 3, ground := Go.Ground.phase }, { on := 4, ground := Go.Ground.phase }, { on := 5, ground := Go.Ground.phase }, { on := 6, ground := Go.Ground.phase }, { on := 7, ground := Go.Ground.phase }, { on := 8, ground := Go.Ground.textOnly Go.Departure.lateStores }, { on := 9, ground := Go.Ground.phase }], guard := none }) rfl (fun K hK => ?_) AllReadyH.nil
      go_simp
      skip
      refine hK.out _ _ ?_ (fun hH2 => ?_)
      · exact HS.out _ ((hv.wrote z1 z2 Az nz cz).2.below hbx (by omega))
      clear hK K hH
      have hH := hH2
      clear hH2
      obtain ⟨hvz, hw⟩ := hv.wrote z1 z2 Az nz cz
      have hbz := hw.below hbx (by omega)
      have htz := htx.far (F' := Fo F b0 S bR) (W' := _) ⟨fun k hk hf => hw.keep k hf.2.2, fun _ _ hf => hf⟩
      clear v0 v1 v2 vz0 vz1 vz2
      generalize ((w10.setCell ⟨bR, 0, none⟩ (.int .i64 z1)).setCell ⟨bR, 1, none⟩ (.int .i64 z2)).setCell ⟨bR, 2, none⟩ (.slice Az nz cz) = w11 at *
      try simp only [Act.put, List.setIfInBounds_toArray, List.set_cons_zero, List.set_cons_succ]
      refine wpAnyH_ready (rs := [11]) (by as_aux_lemma => kernel_rfl) (by simp) ?_
      refine AllReadyH.cons (o := { dst := some 10, op := Go.Op.assign (Go.Operand.tmp 40), type := 3, pos := "ref.go:46", after := #[{ on := 8, ground := Go.Ground.data }, { on := 10, ground := Go.Ground.chain }, { on := 0, ground := Go.Ground.phase }, { on := 1, ground := Go.Ground.phase }, { on := 2, ground := Go.Ground.phase }, { on := 3, ground := Go.Ground.phase }, { on := 4, ground := Go.Ground.phase }, { on := 5, ground := Go.Ground.phase }, { on := 6, ground := Go.Ground.phase }, { on := 7, ground := Go.Ground.phase }, { on := 8, ground := Go.Ground.phase }, { on := 9, ground := Go.Ground.phase }, { on := 10, ground := Go.Ground.phase }], guard := none }) rfl (fun K hK => ?_) AllReadyH.nil
      go_simp
      refine hK.out _ _ ?_ (fun hH2 => ?_)
      · exact HS.out _ hbz
      clear hK K hH
      have hH := hH2
      clear hH2
      try simp only [Act.put, List.setIfInBounds_toArray, List.set_cons_zero, List.set_cons_succ]
      refine wpAnyH_done (by as_aux_lemma => kernel_rfl) ?_ _
      refine NoPanic.normal ?_
      clear hH
      exact ⟨rfl, _, _, _, _, _, _, _, _, _, bR, z1, z2, Az, nz, cz, by (try simp only [Act.put, List.setIfInBounds_toArray, List.set_cons_zero, List.set_cons_succ]); rfl, hbz, by omega, hvz, htz⟩
  rintro a' w' ⟨u33, u34, u35, u36, u37, u38, u32, u39, u40, bR, z1, z2, Az, nz, cz, rfl, hbz, hSR, hvz, htz⟩
  try simp only [Act.put, List.setIfInBounds_toArray, List.set_cons_zero, List.set_cons_succ]
  have Z := Lib.hid (And.intro hbz (And.intro hSR (And.intro hvz htz)))
  have q0 := (HG.out.2.1.stay hbz).c2
  have q1 := (HG.out.2.2.stay hbz).k0
  have q2 := (HG.out.2.2.stay hbz).k1
  have q3 := (HG.out.2.2.stay hbz).k2
  clear hbz hvz htz HS
  go_wp2_with fail
  have hbl := Z.out.1.alloc Z.out.1.size (.cells #[.int .i64 l1, .int .i64 l2, .slice Al nl cl] 35)
  have hnl := WVar.new w' l1 l2 Al nl cl rfl
  have hvr := Z.out.2.2.1.stay ((Below.refl w'.heap.size w').alloc (Nat.le_refl _) (.cells #[.int .i64 l1, .int .i64 l2, .slice Al nl cl] 35))
  have hbw : Below w.heap.size w (w'.alloc (.cells #[.int .i64 l1, .int .i64 l2, .slice Al nl cl] 35)) := (show Below w.heap.size w w8 from by have h := B8.out.1; rw [HO.out.1] at h; exact h).trans (hbl.mono (by have := B8.out; have := HO.out; omega))
  have hl9 := HK.out.2.1.stay hbw
  have hr9 := Z.out.2.2.2.stay ((Below.refl w'.heap.size w').alloc (Nat.le_refl _) (.cells #[.int .i64 l1, .int .i64 l2, .slice Al nl cl] 35))
  obtain ⟨bL, hbL⟩ : ∃ b, b = w'.heap.size := ⟨_, rfl⟩
  rw [← hbL] at hnl ⊢
  have HbL := Lib.hid (show S ≤ bL from by have := Z.out.1.size; omega)
  clear hbL
  generalize w'.alloc (.cells #[.int .i64 l1, .int .i64 l2, .slice Al nl cl] 35) = wl at *
  obtain ⟨kl, hkl⟩ : ∃ k, k = l'.rank := ⟨_, rfl⟩
  obtain ⟨kr, hkr⟩ : ∃ k, k = mt.rank := ⟨_, rfl⟩
  have HR := Lib.hid (show (kl = l'.rank ∧ kr = mt.rank) ∧ l'.size < 268435456 from ⟨⟨hkl, hkr⟩, by have := HN.out; simp only [Lh.size] at this; omega⟩)
  have HC1 := Lib.hid (fun d os => in_class (w := wl) (fun W hb => (refRank_any _ _ (l1, l2) Al nl cl W (hl9.stay hb) HR.out.2).mono fun _ _ ⟨he, hb2⟩ => ⟨(show _ = Ending.returned (.int .i64 (kl : Int)) by rw [he, HR.out.1.1]), hb2⟩) d os)
  have HC2 := Lib.hid (fun d os => in_class (w := wl) (fun W hb => (refRank_any _ _ (z1, z2) Az nz cz W (hr9.stay hb) HQ.out.2.2).mono fun _ _ ⟨he, hb2⟩ => ⟨(show _ = Ending.returned (.int .i64 (kr : Int)) by rw [he, HR.out.1.2]), hb2⟩) d os)
  have k0 := fun d os => cell_regrown hnl.c0 d os
  have k1 := fun d os => cell_regrown hnl.c1 d os
  have k2 := fun d os => cell_regrown hnl.c2 d os
  have k3 := fun d os => cell_regrown hvr.c0 d os
  have k4 := fun d os => cell_regrown hvr.c1 d os
  have k5 := fun d os => cell_regrown hvr.c2 d os
  have Y := Lib.hid (And.intro hbl (And.intro hnl (And.intro hvr (And.intro hbw (And.intro hl9 hr9)))))
  clear hbl hnl hvr hbw hl9 hr9 hkl hkr q0 q1 q2 q3
  rw [world_self wl]
  generalize wl.drawn = d0
  generalize (#[] : Array Obj) = os0
  refine wp_region_class (by kernel_rfl) (by kernel_rfl) ?_
  repeat (go_big_quiet_step (first | (with_reducible exact HC1.out _ _) | (with_reducible exact HC2.out _ _) | fail))
  refine wpQuiet_nil ?_
  intro _ hw'
  obtain ⟨⟨dq, osq⟩, hw''⟩ := hw'
  subst hw''
  have hb := below_regrown wl dq osq
  generalize grow (redrawn wl dq) osq = wy at *
  have X := Lib.hid (And.intro (Y.out.2.2.2.1.trans (hb.mono Y.out.2.2.2.1.size)) (And.intro (Y.out.1.trans (hb.mono Y.out.1.size)) hb))
  have HX := Lib.hid (And.intro (Y.out.2.2.2.2.1.stay hb) (Y.out.2.2.2.2.2.stay hb))
  have l0 := (Y.out.2.1.stay hb).c0
  have l1_ := (Y.out.2.1.stay hb).c1
  have l2_ := (Y.out.2.1.stay hb).c2
  have r0 := (Y.out.2.2.1.stay hb).c0
  have r1_ := (Y.out.2.2.1.stay hb).c1
  have r2_ := (Y.out.2.2.1.stay hb).c2
  have hwin := (HG.out.2.1.stay X.out.2.1)
  have x0 := hwin.c0
  have x1_ := hwin.c1
  have hres := (HG.out.1.stay X.out.2.1)
  have wq := HW2.out q (by have := HQ.out; omega)
  clear HC1 HC2 k0 k1 k2 k3 k4 k5 hb hwin
  by_cases hk : kl < kr
  · have g1 : decide ((kl : Int) < (kr : Int)) = true := by simp; omega
    have g2 : (kl : Int) < (kr : Int) := by omega
    have hka : KAt (wy.alloc (.cells #[.int .i64 z1, .int .i64 z2, .slice Az nz cz, .int .i64 l1, .int .i64 l2, .slice Al nl cl] 35)) wy.heap.size (z1, z2) Az nz cz (l1, l2) Al nl cl := new_at rfl
    have hral := hres.stay ((Below.refl wy.heap.size wy).alloc (Nat.le_refl _) (.cells #[.int .i64 z1, .int .i64 z2, .slice Az nz cz, .int .i64 l1, .int .i64 l2, .slice Al nl cl] 35))
    have HKA := Lib.hid hka
    have hk9 := Lib.hid hk
    clear hka hk
    go_wp2_with (refine wpList_store_w rfl _ _ rfl _ rfl rfl hral ?_; intro w12 hv12 hw12)
    have t0 := hv12.c0
    have t1 := hv12.c1
    have t2 := hv12.c2
    refine bodyPost_ret (v := .tuple #[.agg #[.int .i64 y1, .int .i64 y2, .slice (some ⟨wy.heap.size, 0, none⟩) 2 2], .int .i64 (2 * (q : Int) + 2)]) (by simp [results, Tryd.results21, go_sem, t0, t1, t2]) rfl ?_
    have hba : Below w.heap.size w (wy.alloc (.cells #[.int .i64 z1, .int .i64 z2, .slice Az nz cz, .int .i64 l1, .int .i64 l2, .slice Al nl cl] 35)) := X.out.1.alloc X.out.1.size _
    have hsz : w.heap.size ≤ b2 ∧ b2 < S ∧ S ≤ wy.heap.size := ⟨by have := HO.out; omega, by have := HO.out; have := B8.out; omega, by have := X.out.2.1.size; omega⟩
    have hbf := hw12.below hba hsz.1
    have hL : RAt F w12 l' (l1, l2) Al nl cl := HK.out.2.1.stay hbf
    have hR : RAt F w12 mt (z1, z2) Az nz cz := HX.out.2.far (Fo.back (fun k hk hne hlt => (hw12.keep k (by have := HO.out; omega)).trans (((Below.refl wy.heap.size wy).alloc (Nat.le_refl _) _).block k hlt)))
    have hkf := HKA.out.keep (hw12.keep wy.heap.size (by omega))
    refine ⟨y1, y2, some ⟨wy.heap.size, 0, none⟩, 2, 2, ?_, ?_, hbf⟩
    · rw [meldN_lt HV.out, ← HQ.out.1.1, show ((2 * (1 + q) : Nat) : Int) = 2 * (q : Int) + 2 by omega]
    · rw [meld_lt HV.out, ← HQ.out.2.1, mkH, if_pos (by rw [← HR.out.1.1, ← HR.out.1.2]; exact hk9.out)]
      exact RAt.mk (Nat.le_refl _) (by omega) (HF.out _ (by omega)) hkf hR hL
  · have g1 : decide ((kl : Int) < (kr : Int)) = false := by simp; omega
    have g2 : ¬ (kl : Int) < (kr : Int) := by omega
    have hka : KAt (wy.alloc (.cells #[.int .i64 l1, .int .i64 l2, .slice Al nl cl, .int .i64 z1, .int .i64 z2, .slice Az nz cz] 35)) wy.heap.size (l1, l2) Al nl cl (z1, z2) Az nz cz := new_at rfl
    have hral := hres.stay ((Below.refl wy.heap.size wy).alloc (Nat.le_refl _) (.cells #[.int .i64 l1, .int .i64 l2, .slice Al nl cl, .int .i64 z1, .int .i64 z2, .slice Az nz cz] 35))
    have HKA := Lib.hid hka
    have hk9 := Lib.hid hk
    clear hka hk
    go_wp2_with (refine wpList_store_w rfl _ _ rfl _ rfl rfl hral ?_; intro w12 hv12 hw12)
    have t0 := hv12.c0
    have t1 := hv12.c1
    have t2 := hv12.c2
    refine bodyPost_ret (v := .tuple #[.agg #[.int .i64 y1, .int .i64 y2, .slice (some ⟨wy.heap.size, 0, none⟩) 2 2], .int .i64 (2 * (q : Int) + 2)]) (by simp [results, Tryd.results21, go_sem, t0, t1, t2]) rfl ?_
    have hba : Below w.heap.size w (wy.alloc (.cells #[.int .i64 l1, .int .i64 l2, .slice Al nl cl, .int .i64 z1, .int .i64 z2, .slice Az nz cz] 35)) := X.out.1.alloc X.out.1.size _
    have hsz : w.heap.size ≤ b2 ∧ b2 < S ∧ S ≤ wy.heap.size := ⟨by have := HO.out; omega, by have := HO.out; have := B8.out; omega, by have := X.out.2.1.size; omega⟩
    have hbf := hw12.below hba hsz.1
    have hL : RAt F w12 l' (l1, l2) Al nl cl := HK.out.2.1.stay hbf
    have hR : RAt F w12 mt (z1, z2) Az nz cz := HX.out.2.far (Fo.back (fun k hk hne hlt => (hw12.keep k (by have := HO.out; omega)).trans (((Below.refl wy.heap.size wy).alloc (Nat.le_refl _) _).block k hlt)))
    have hkf := HKA.out.keep (hw12.keep wy.heap.size (by omega))
    refine ⟨y1, y2, some ⟨wy.heap.size, 0, none⟩, 2, 2, ?_, ?_, hbf⟩
    · rw [meldN_lt HV.out, ← HQ.out.1.1, show ((2 * (1 + q) : Nat) : Int) = 2 * (q : Int) + 2 by omega]
    · rw [meld_lt HV.out, ← HQ.out.2.1, mkH, if_neg (by rw [← HR.out.1.1, ← HR.out.1.2]; exact hk9.out)]
      exact RAt.mk (Nat.le_refl _) (by omega) (HF.out _ (by omega)) hkf hL hR

theorem refMelds : ∀ N : Nat, N ≤ 268435456 → MeldsR N := by
  intro N
  induction N using Nat.strongRecOn with
  | ind N ih =>
    intro hN
    unfold MeldsR
    intro ta tb hlt F x1 x2 A n c y1 y2 B m d w hF ha hb
    cases ta with
    | nil =>
      obtain ⟨e, rfl, rfl, rfl⟩ := ha
      cases e
      rw [meld_nil, meldN_nil]
      exact refMeld_first F tb y1 y2 B m d w hb
    | node xx l r =>
      obtain rfl : n = 2 := ha.kids.2.1
      obtain rfl : (x1, x2) = xx := ha.kids.1
      cases tb with
      | nil =>
        obtain ⟨e, rfl, rfl, rfl⟩ := hb
        cases e
        rw [meld_right, meldN_right]
        exact refMeld_second F _ x1 x2 A c w ha
      | node yy l' r' =>
        obtain rfl : m = 2 := hb.kids.2.1
        obtain rfl : (y1, y2) = yy := hb.kids.1
        have hI := ih _ hlt (by omega)
        cases hv : ltE (y1, y2) (x1, x2) with
        | true => exact refMeld_lt _ hI (by omega) x1 x2 y1 y2 l r l' r' rfl hv F A B c d w hF ha hb
        | false => exact refMeld_ge _ hI (by omega) x1 x2 y1 y2 l r l' r' rfl hv F A B c d w hF ha hb
/-- Two melded. -/
theorem refMeld_any (F : Nat → Prop) (ta tb : Lh) (x1 x2 : Int) (A : Option Addr) (n c : Nat) (y1 y2 : Int) (B : Option Addr) (m d : Nat) (w : World) (hs : ta.size + tb.size < 268435456) (hF : ∀ k, w.heap.size ≤ k → F k) (ha : RAt F w ta (x1, x2) A n c) (hb : RAt F w tb (y1, y2) B m d) :
    Calls Tryd.prog 21 #[.agg #[.int .i64 x1, .int .i64 x2, .slice A n c], .agg #[.int .i64 y1, .int .i64 y2, .slice B m d]] w (GaveW F (meld ta tb) (2 * meldN ta tb) w) :=
  refMelds 268435456 (Nat.le_refl _) ta tb hs F x1 x2 A n c y1 y2 B m d w hF ha hb

end Go.Proofs.YtliehednnhilkaaDoor
