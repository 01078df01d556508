/-
  Contract of the reference's Put (slagheapref07): a tree put ahead of others, and how many steps there were. Condition: fewer than 2 to the 28th things, all together.
-/
import Derived.Test.YtaeainnkhjnlaaaGreatDoorTga
import Derived.Deep.RegionHeld3
import Derived.Deep.DrawnRows
namespace Go.Proofs.YtaeainnkhjnlaaaGreatDoor
open Go.Sort Go.RowKit

/-- What Put of a row hands back, whatever tree. -/
def PutsR (l : List Tre) : Prop := ∀ (F : Nat → Prop) (t : Tre) (kl : Nat) (x1 x2 : Int) (Ab : Option Addr) (bl cb : Nat) (Ak : Option Addr) (ck sz : Nat) (A : Option Addr) (n c : Nat) (w : World), (∀ k, w.heap.size ≤ k → F k) → t.size + bSize l < 268435456 → TIs F w t kl x1 x2 Ab bl cb Ak ck sz → HAt F w l A n c →
  Calls Tryz.prog 83 #[TVal kl x1 x2 Ab bl cb Ak ck sz, .slice A n c] w (GaveLN F (putT l t) (2 * putTN l t) w)

set_option maxRecDepth 100000 in
set_option maxHeartbeats 4000000 in
theorem refPut_nil (F : Nat → Prop) (t : Tre) (kl : Nat) (x1 x2 : Int) (Ab : Option Addr) (bl cb : Nat) (Ak : Option Addr) (ck sz : Nat) (A : Option Addr) (n c : Nat) (w : World) (hF : ∀ k, w.heap.size ≤ k → F k) (ht : TIs F w t kl x1 x2 Ab bl cb Ak ck sz) (hl : HAt F w [] A n c) :
    Calls Tryz.prog 83 #[TVal kl x1 x2 Ab bl cb Ak ck sz, .slice A n c] w (GaveLN F (putT [] t) (2 * putTN [] t) w) := by
  have hb0 := (Below.refl w.heap.size w).alloc (Nat.le_refl _) (.cells #[.int .i64 kl, .int .i64 x1, .int .i64 x2, .slice Ab bl cb, .slice Ak kl ck, .int .i64 sz] 104)
  have hv : TVar (w.alloc (.cells #[.int .i64 kl, .int .i64 x1, .int .i64 x2, .slice Ab bl cb, .slice Ak kl ck, .int .i64 sz] 104)) w.heap.size kl x1 x2 Ab bl cb Ak ck sz := new_at rfl
  have hsz0 : (w.alloc (.cells #[.int .i64 kl, .int .i64 x1, .int .i64 x2, .slice Ab bl cb, .slice Ak kl ck, .int .i64 sz] 104)).heap.size = w.heap.size + 1 := by simp
  obtain rfl : n = 0 := hl.1
  have H := Lib.hid (And.intro hF (And.intro ht (And.intro hl hb0)))
  clear hF ht hl hb0
  go_enter Tryz.func83, Tryz.ntmps83
  go_wp2_with fail
  generalize w.alloc (.cells #[.int .i64 kl, .int .i64 x1, .int .i64 x2, .slice Ab bl cb, .slice Ak kl ck, .int .i64 sz] 104) = w1 at *
  rw [world_self w1]
  generalize w1.drawn = d0
  generalize (#[] : Array Obj) = os0
  refine wp_region_class (by kernel_rfl) (by kernel_rfl) ?_
  repeat (go_big_quiet_step (fail))
  refine wpQuiet_nil ?_
  intro _ hw'
  obtain ⟨⟨dq, osq⟩, hw''⟩ := hw'
  subst hw''
  have hbq := below_regrown w1 dq osq
  generalize grow (redrawn w1 dq) osq = wq at *
  have hvq := hv.stay hbq
  obtain ⟨c0, c1, c2, c3, c4, c5⟩ : wq.cell? _ = _ ∧ wq.cell? _ = _ ∧ wq.cell? _ = _ ∧ wq.cell? _ = _ ∧ wq.cell? _ = _ ∧ wq.cell? _ = _ := ⟨hvq.hex.c0, hvq.hex.c1, hvq.hex.c2, hvq.hex.c3, hvq.hex.c4, hvq.hex.c5⟩
  have HB := Lib.hid (H.out.2.2.2.trans (hbq.mono H.out.2.2.2.size))
  clear hv hvq hbq hsz0
  go_wp2_with fail
  ((with_reducible refine (refAheadT wq (fun k hk => H.out.1 k (by have := HB.out.size; omega)) (by omega) (H.out.2.2.1.stay HB.out) (H.out.2.1.stay HB.out)).mono ?_); rintro e w3 ⟨A3, n3, c3, rfl, hh, hb3⟩)
  have H3 := Lib.hid (And.intro hh (HB.out.trans (hb3.mono HB.out.size)))
  clear hh hb3
  go_wp2_with fail
  refine bodyPost_ret (v := .tuple #[.slice A3 n3 c3, .int .i64 0]) (by simp [results, Tryz.results83, go_sem]) rfl ?_
  exact ⟨A3, n3, c3, rfl, H3.out.1, H3.out.2⟩

set_option maxRecDepth 100000 in
set_option maxHeartbeats 4000000 in
theorem refPut_cons (F : Nat → Prop) (t : Tre) (kl : Nat) (x1 x2 : Int) (Ab : Option Addr) (bl cb : Nat) (Ak : Option Addr) (ck sz : Nat) (A : Option Addr) (n c : Nat) (w : World) (u : Tre) (r : List Tre) (hI : PutsR r) (hF : ∀ k, w.heap.size ≤ k → F k) (hs : t.size + bSize (u :: r) < 268435456) (ht : TIs F w t kl x1 x2 Ab bl cb Ak ck sz) (hl : HAt F w (u :: r) A n c) :
    Calls Tryz.prog 83 #[TVal kl x1 x2 Ab bl cb Ak ck sz, .slice A n c] w (GaveLN F (putT (u :: r) t) (2 * putTN (u :: r) t) w) := by
  have hb0 := (Below.refl w.heap.size w).alloc (Nat.le_refl _) (.cells #[.int .i64 kl, .int .i64 x1, .int .i64 x2, .slice Ab bl cb, .slice Ak kl ck, .int .i64 sz] 104)
  have hv : TVar (w.alloc (.cells #[.int .i64 kl, .int .i64 x1, .int .i64 x2, .slice Ab bl cb, .slice Ak kl ck, .int .i64 sz] 104)) w.heap.size kl x1 x2 Ab bl cb Ak ck sz := new_at rfl
  have hsz0 : (w.alloc (.cells #[.int .i64 kl, .int .i64 x1, .int .i64 x2, .slice Ab bl cb, .slice Ak kl ck, .int .i64 sz] 104)).heap.size = w.heap.size + 1 := by simp
  obtain ⟨b, of, ul, y1, y2, Bb, dl, db, Bk, dk, uz, rfl, -, ⟨q0, q1, q2, q3, q4, q5⟩, hu⟩ := hl.firstT
  have hbl : b < w.heap.size := block_lt_of_cell q0
  have hn := hl.1
  simp only [List.length_cons] at hn
  have hncap := hl.2.1
  have hcm := hl.2.2.1
  have hz := bSize_len r
  have hs2 : t.size + (u.size + bSize r) < 268435456 := hs
  have hn2 : n < 268435456 := by have : 0 < t.size := (by simp only [Tre.size]; omega); have : 0 < u.size := (by simp only [Tre.size]; omega); omega
  have HR := Lib.hid hl.rest
  unfold PutsR at hI
  have HI := Lib.hid hI
  have H := Lib.hid (And.intro hF (And.intro ht (And.intro hl (And.intro hu (And.intro hb0 (And.intro hs2 (And.intro hn (And.intro hncap (And.intro hcm (And.intro hbl hn2))))))))))
  have p0 := (hb0.cell (p := ⟨b, of, none⟩) hbl).trans q0
  have p1 := (hb0.cell (p := ⟨b, of + 1, none⟩) hbl).trans q1
  have p2 := (hb0.cell (p := ⟨b, of + 2, none⟩) hbl).trans q2
  have p3 := (hb0.cell (p := ⟨b, of + 3, none⟩) hbl).trans q3
  have p4 := (hb0.cell (p := ⟨b, of + 4, none⟩) hbl).trans q4
  have p5 := (hb0.cell (p := ⟨b, of + 5, none⟩) hbl).trans q5
  have zn1 : ((n : Int) == 0) = false := by simp; omega
  have zn2 : ¬ n = 0 := by omega
  have zn3 : (0 : Int) < (n : Int) := by omega
  have zn4 : 0 < n := by omega
  have HCE := Lib.hid (show (kl = t.rank) ∧ ul = u.rank from ⟨ht.1.1, hu.1.1⟩)
  clear hF ht hl hu hb0 hs hs2 hI hn hz q0 q1 q2 q3 q4 q5 hncap hcm hbl hn2
  go_enter Tryz.func83, Tryz.ntmps83
  go_wp2_with fail
  have HSZ := Lib.hid hsz0
  clear hsz0
  generalize w.alloc (.cells #[.int .i64 kl, .int .i64 x1, .int .i64 x2, .slice Ab bl cb, .slice Ak kl ck, .int .i64 sz] 104) = w1 at *
  have PV := Lib.hid (And.intro hv (And.intro p0 (And.intro p1 (And.intro p2 (And.intro p3 (And.intro p4 p5))))))
  obtain ⟨b0, hb0⟩ : ∃ b, b = w.heap.size := ⟨_, rfl⟩
  rw [← hb0] at hv PV ⊢
  have HB0 := Lib.hid hb0
  clear hb0
  have kc0 := fun d os => cell_regrown hv.hex.c0 d os
  have kc1 := fun d os => cell_regrown p0 d os
  rw [world_self w1]
  generalize w1.drawn = d0
  generalize (#[] : Array Obj) = os0
  refine wp_region_class (by kernel_rfl) (by kernel_rfl) ?_
  repeat (go_big_quiet_step (fail))
  refine wpQuiet_nil ?_
  intro _ hw'
  obtain ⟨⟨dq, osq⟩, hw''⟩ := hw'
  subst hw''
  have hbq := below_regrown w1 dq osq
  clear kc0 kc1
  generalize grow (redrawn w1 dq) osq = wq at *
  clear hv p0 p1 p2 p3 p4 p5
  have HQ := Lib.hid (And.intro hbq (H.out.2.2.2.2.1.trans (hbq.mono H.out.2.2.2.2.1.size)))
  have hvq := PV.out.1.stay hbq
  by_cases hr : kl < ul
  · have g1 : decide ((kl : Int) < (ul : Int)) = true := by simp; omega
    have g2 : (kl : Int) < (ul : Int) := by omega
    have c0 := hvq.hex.c0
    have c1 := hvq.hex.c1
    have c2 := hvq.hex.c2
    have c3 := hvq.hex.c3
    have c4 := hvq.hex.c4
    have c5 := hvq.hex.c5
    have HHR := Lib.hid hr
    clear hvq hbq hr
    go_wp2_with fail
    ((with_reducible refine (refAheadT wq (fun k hk => H.out.1 k (by have := HQ.out.2.size; omega)) (by have := H.out; omega) (H.out.2.2.1.stay HQ.out.2) (H.out.2.1.stay HQ.out.2)).mono ?_); rintro e w3 ⟨A3, n3, c3_, rfl, hh, hb3⟩)
    have H3 := Lib.hid (And.intro hh (HQ.out.2.trans (hb3.mono HQ.out.2.size)))
    clear hh hb3
    go_wp2_with fail
    refine bodyPost_ret (v := .tuple #[.slice A3 n3 c3_, .int .i64 0]) (by simp [results, Tryz.results83, go_sem]) rfl ?_
    have hlt : t.rank < u.rank := by have := HCE.out; have := HHR.out; omega
    refine ⟨A3, n3, c3_, ?_, ?_, H3.out.2⟩
    · rw [putTN, if_pos hlt]; rfl
    · rw [putT, if_pos hlt]; exact H3.out.1
  · have g1 : decide ((kl : Int) < (ul : Int)) = false := by simp; omega
    have g2 : ¬ (kl : Int) < (ul : Int) := by omega
    have HHR := Lib.hid hr
    have HV := Lib.hid hvq
    have HS := Lib.hid (fun (w' : World) (hz : Below wq.heap.size wq w') => (show w'.cell? ⟨b0, 0, none⟩ = some (.int .i64 kl) ∧ w'.cell? ⟨b0, 1, none⟩ = some (.int .i64 x1) ∧ w'.cell? ⟨b0, 2, none⟩ = some (.int .i64 x2) ∧ w'.cell? ⟨b0, 3, none⟩ = some (.slice Ab bl cb) ∧ w'.cell? ⟨b0, 4, none⟩ = some (.slice Ak kl ck) ∧ w'.cell? ⟨b0, 5, none⟩ = some (.int .i64 sz) ∧ w'.cell? ⟨b, of, none⟩ = some (.int .i64 ul) ∧ w'.cell? ⟨b, of + 1, none⟩ = some (.int .i64 y1) ∧ w'.cell? ⟨b, of + 2, none⟩ = some (.int .i64 y2) ∧ w'.cell? ⟨b, of + 3, none⟩ = some (.slice Bb dl db) ∧ w'.cell? ⟨b, of + 4, none⟩ = some (.slice Bk ul dk) ∧ w'.cell? ⟨b, of + 5, none⟩ = some (.int .i64 uz) from by
      have a1 := (hvq.stay hz).hex
      have hz1 := hbq.trans (hz.mono hbq.size)
      obtain ⟨-, p0, p1, p2, p3, p4, p5⟩ := PV.out
      exact ⟨a1.c0, a1.c1, a1.c2, a1.c3, a1.c4, a1.c5, (hz1.cell (p := ⟨b, of, none⟩) (block_lt_of_cell p0)).trans p0, (hz1.cell (p := ⟨b, of + 1, none⟩) (block_lt_of_cell p1)).trans p1, (hz1.cell (p := ⟨b, of + 2, none⟩) (block_lt_of_cell p2)).trans p2, (hz1.cell (p := ⟨b, of + 3, none⟩) (block_lt_of_cell p3)).trans p3, (hz1.cell (p := ⟨b, of + 4, none⟩) (block_lt_of_cell p4)).trans p4, (hz1.cell (p := ⟨b, of + 5, none⟩) (block_lt_of_cell p5)).trans p5⟩))
    clear hvq hbq hr
    go_wp2_with fail
    refine wp_after (R := fun a a' w' => ∃ (u26 u27 u28 u29 u30 u25 u31 u32 : Value) (bv : Nat) (vl : Nat) (z1 z2 : Int) (Cb : Option Addr) (el eb : Nat) (Ck : Option Addr) (ek vz : Nat), a' = ((((((((((a.put (some 26) u26).put (some 27) u27).put (some 28) u28).put (some 29) u29).put (some 30) u30).put (some 25) u25).put (some 31) u31).put (some 32) u32).put (some 6) (.pointer (some ⟨bv, 0, none⟩))).put (some 7) (.int .i64 2)) ∧ Below wq.heap.size wq w' ∧ TVar w' bv vl z1 z2 Cb el eb Ck ek vz ∧ TIs F w' (lnk t u) vl z1 z2 Cb el eb Ck ek vz) ?_ ?_
    · have hd0 : Below wq.heap.size wq wq.drew := (Below.refl _ _).drew
      refine wp_region_noPanic ?_
      refine wp_region_held_drew (S := fun w' => w'.cell? ⟨b0, 0, none⟩ = some (.int .i64 kl) ∧ w'.cell? ⟨b0, 1, none⟩ = some (.int .i64 x1) ∧ w'.cell? ⟨b0, 2, none⟩ = some (.int .i64 x2) ∧ w'.cell? ⟨b0, 3, none⟩ = some (.slice Ab bl cb) ∧ w'.cell? ⟨b0, 4, none⟩ = some (.slice Ak kl ck) ∧ w'.cell? ⟨b0, 5, none⟩ = some (.int .i64 sz) ∧ w'.cell? ⟨b, of, none⟩ = some (.int .i64 ul) ∧ w'.cell? ⟨b, of + 1, none⟩ = some (.int .i64 y1) ∧ w'.cell? ⟨b, of + 2, none⟩ = some (.int .i64 y2) ∧ w'.cell? ⟨b, of + 3, none⟩ = some (.slice Bb dl db) ∧ w'.cell? ⟨b, of + 4, none⟩ = some (.slice Bk ul dk) ∧ w'.cell? ⟨b, of + 5, none⟩ = some (.int .i64 uz)) (by kernel_rfl) (HS.out _ hd0) (fun hH => ?_)
      generalize wq.drew = wd at *
      refine wpAnyH_take (i := 0) (oi := { dst := some 26, op := Go.Op.load 104 (Go.Operand.tmp 2), type := 104, pos := "ref.go:24", after := #[], guard := none }) (v := ?v1_0_0) rfl (by as_aux_lemma => kernel_rfl) (by as_aux_lemma => kernel_rfl) (by as_aux_lemma => kernel_rfl) (fun _ _ _ h => h) (Or.inl ⟨(by as_aux_lemma => kernel_rfl), ?hy1_0_0⟩) hH ?rest1_0_0
      case hy1_0_0 => (intro w hSw; (try dsimp only at hSw); go_simp; try with_reducible rfl)
      try simp only [Act.put, List.setIfInBounds_toArray, List.set_cons_zero, List.set_cons_succ]
      refine wpAnyH_take (i := 1) (oi := { dst := some 27, op := Go.Op.move (Go.Operand.tmp 1), type := 33, pos := "ref.go:24", after := #[], guard := none }) (v := ?v1_0_1) rfl (by as_aux_lemma => kernel_rfl) (by as_aux_lemma => kernel_rfl) (by as_aux_lemma => kernel_rfl) (fun _ _ _ h => h) (Or.inl ⟨(by as_aux_lemma => kernel_rfl), ?hy1_0_1⟩) hH ?rest1_0_1
      case hy1_0_1 => (intro w hSw; (try dsimp only at hSw); go_simp; try with_reducible rfl)
      try simp only [Act.put, List.setIfInBounds_toArray, List.set_cons_zero, List.set_cons_succ]
      refine wpAnyH_take (i := 2) (oi := { dst := some 28, op := Go.Op.indexAddr 33 (Go.Operand.tmp 27) (Go.Operand.const (Go.Value.int Go.IntKind.i64 0)), type := 0, pos := "ref.go:24", after := #[{ on := 1, ground := Go.Ground.data }], guard := none }) (v := ?v1_0_2) rfl (by as_aux_lemma => kernel_rfl) (by as_aux_lemma => kernel_rfl) (by as_aux_lemma => kernel_rfl) (fun _ _ _ h => h) (Or.inl ⟨(by as_aux_lemma => kernel_rfl), ?hy1_0_2⟩) hH ?rest1_0_2
      case hy1_0_2 => (intro w hSw; (try dsimp only at hSw); go_simp; try with_reducible rfl)
      try simp only [Act.put, List.setIfInBounds_toArray, List.set_cons_zero, List.set_cons_succ]
      refine wpAnyH_take (i := 3) (oi := { dst := some 29, op := Go.Op.load 104 (Go.Operand.tmp 28), type := 104, pos := "ref.go:24", after := #[{ on := 2, ground := Go.Ground.data }], guard := none }) (v := ?v1_0_3) rfl (by as_aux_lemma => kernel_rfl) (by as_aux_lemma => kernel_rfl) (by as_aux_lemma => kernel_rfl) (fun _ _ _ h => h) (Or.inl ⟨(by as_aux_lemma => kernel_rfl), ?hy1_0_3⟩) hH ?rest1_0_3
      case hy1_0_3 => (intro w hSw; (try dsimp only at hSw); go_simp; try with_reducible rfl)
      try simp only [Act.put, List.setIfInBounds_toArray, List.set_cons_zero, List.set_cons_succ]
      refine wpAnyH_ready (rs := [4, 8]) (by as_aux_lemma => kernel_rfl) (by simp) ?_
      refine AllReadyH.cons (o := { dst := some 30, op := Go.Op.call { callee := Go.Callee.value (Go.Operand.func 80), args := #[Go.Operand.tmp 26, Go.Operand.tmp 29], argTypes := #[104, 104] }, type := 105, pos := "ref.go:24", after := #[{ on := 0, ground := Go.Ground.data }, { on := 3, ground := Go.Ground.data }], guard := none }) rfl (fun K hK => ?_) (AllReadyH.cons (o := { dst := some 6, op := Go.Op.alloc 104, type := 0, pos := "ref.go:24", after := #[], guard := none }) rfl (fun K hK => ?_) AllReadyH.nil)
      · have hdw := HQ.out.2.trans (hd0.mono HQ.out.2.size)
        have hFoA : ∀ k, wd.heap.size ≤ k → F k := fun k hk => H.out.1 k (by have := hdw.size; omega)
        have rA := H.out.2.1.stay hdw
        have rB := H.out.2.2.2.1.stay hdw
        go_simp
        go_at_call 80
        (with_reducible refine (refLinkT _ hFoA rA rB (by have := H.out; omega)).mono ?_)
        rintro e w9 ⟨vl, z1, z2, Cb, el, eb, Ck, ek, vz, rfl, ht9, hb9⟩
        refine hK.out _ _ ?_ (fun hH2 => ?_)
        · exact HS.out _ (hd0.trans (hb9.mono hd0.size))
        clear hK K hH
        have hH := hH2
        clear hH2
        have hbx0 := hd0.trans (hb9.mono hd0.size)
        try simp only [Act.put, List.setIfInBounds_toArray, List.set_cons_zero, List.set_cons_succ]
        refine wpAnyH_take (i := 5) (oi := { dst := some 25, op := Go.Op.move (Go.Operand.tmp 30), type := 105, pos := "ref.go:24", after := #[{ on := 4, ground := Go.Ground.data }], guard := none }) (v := ?v1_1_5) rfl (by as_aux_lemma => kernel_rfl) (by as_aux_lemma => kernel_rfl) (by as_aux_lemma => kernel_rfl) (fun _ _ _ h => h) (Or.inl ⟨(by as_aux_lemma => kernel_rfl), ?hy1_1_5⟩) hH ?rest1_1_5
        case hy1_1_5 => (intro w hSw; (try dsimp only at hSw); go_simp; try with_reducible rfl)
        try simp only [Act.put, List.setIfInBounds_toArray, List.set_cons_zero, List.set_cons_succ]
        refine wpAnyH_take (i := 6) (oi := { dst := some 31, op := Go.Op.extract (Go.Operand.tmp 25) 0, type := 104, pos := "ref.go:24", after := #[{ on := 5, ground := Go.Ground.data }], guard := none }) (v := ?v1_1_6) rfl (by as_aux_lemma => kernel_rfl) (by as_aux_lemma => kernel_rfl) (by as_aux_lemma => kernel_rfl) (fun _ _ _ h => h) (Or.inl ⟨(by as_aux_lemma => kernel_rfl), ?hy1_1_6⟩) hH ?rest1_1_6
        case hy1_1_6 => (intro w hSw; (try dsimp only at hSw); go_simp; try with_reducible rfl)
        try simp only [Act.put, List.setIfInBounds_toArray, List.set_cons_zero, List.set_cons_succ]
        refine wpAnyH_take (i := 7) (oi := { dst := some 32, op := Go.Op.extract (Go.Operand.tmp 25) 1, type := 3, pos := "ref.go:24", after := #[{ on := 5, ground := Go.Ground.data }, { on := 9, ground := Go.Ground.gcOnly Go.Departure.lateStores }], guard := none }) (v := ?v1_1_7) rfl (by as_aux_lemma => kernel_rfl) (by as_aux_lemma => kernel_rfl) (by as_aux_lemma => kernel_rfl) (fun _ _ _ h => h) (Or.inl ⟨(by as_aux_lemma => kernel_rfl), ?hy1_1_7⟩) hH ?rest1_1_7
        case hy1_1_7 => (intro w hSw; (try dsimp only at hSw); go_simp; try with_reducible rfl)
        try simp only [Act.put, List.setIfInBounds_toArray, List.set_cons_zero, List.set_cons_succ]
        refine wpAnyH_ready (rs := [8]) (by as_aux_lemma => kernel_rfl) (by simp) ?_
        refine AllReadyH.cons (o := { dst := some 6, op := Go.Op.alloc 104, type := 0, pos := "ref.go:24", after := #[], guard := none }) rfl (fun K hK => ?_) AllReadyH.nil
        go_simp
        refine hK.out _ _ ?_ (fun hH2 => ?_)
        · exact HS.out _ (hbx0.alloc hbx0.size _)
        clear hK K hH
        have hH := hH2
        clear hH2
        have hv : TVar (w9.alloc (.cells #[.int .i64 0, .int .i64 0, .int .i64 0, .slice none 0 0, .slice none 0 0, .int .i64 0] 104)) w9.heap.size 0 0 0 none 0 0 none 0 0 := new_at rfl
        have hbx := hbx0.alloc hbx0.size (.cells #[.int .i64 0, .int .i64 0, .int .i64 0, .slice none 0 0, .slice none 0 0, .int .i64 0] 104)
        have htx := ht9.far (F' := Fb F w9.heap.size) (W' := w9.alloc (.cells #[.int .i64 0, .int .i64 0, .int .i64 0, .slice none 0 0, .slice none 0 0, .int .i64 0] 104)) ⟨fun k hk _ => ((Below.refl _ w9).alloc (Nat.le_refl _) _).block k hk, fun k hk hf => Fb.of hf (by omega)⟩
        have hSR0 : wq.heap.size ≤ w9.heap.size := hbx0.size
        obtain ⟨bv, hbv⟩ : ∃ b, b = w9.heap.size := ⟨_, rfl⟩
        rw [← hbv] at hv htx hSR0 ⊢
        have hSR := hSR0
        clear hbv hb9 ht9 hbx0 hSR0
        generalize w9.alloc (.cells #[.int .i64 0, .int .i64 0, .int .i64 0, .slice none 0 0, .slice none 0 0, .int .i64 0] 104) = w10 at *
        try simp only [Act.put, List.setIfInBounds_toArray, List.set_cons_zero, List.set_cons_succ]
        have v0 := hv.hex.c0
        have vz0 := hv.hex.z0
        have v1 := hv.hex.c1
        have vz1 := hv.hex.z1
        have v2 := hv.hex.c2
        have vz2 := hv.hex.z2
        have v3 := hv.hex.c3
        have vz3 := hv.hex.z3
        have v4 := hv.hex.c4
        have vz4 := hv.hex.z4
        have v5 := hv.hex.c5
        have vz5 := hv.hex.z5
        refine wpAnyH_ready (rs := [9]) (by as_aux_lemma => kernel_rfl) (by simp) ?_
        refine AllReadyH.cons (o := { dst := none, op := Go.Op.store 104 (Go.Operand.tmp 6) (Go.Operand.tmp 31), type := 0, pos := "ref.go:24", after := #[{ on := 8, ground := Go.Ground.data }, { on := 6, ground := Go.Ground.data }, { on := 4, ground := Go.Ground.chain }, { on := 0, ground := Go.Ground.phase }, { on := 1, ground := Go.Ground.phase }, { on := 2, ground := Go.Ground.phase }, { on := 3, ground := Go.Ground.phase }, { on := 4, ground := Go.Ground.phase }, { on := 5, ground := Go.Ground.phase }, { on := 6, ground := Go.Ground.phase }, { on := 7, ground := Go.Ground.textOnly Go.Departure.lateStores }, { on := 8, ground := Go.Ground.phase }], guard := none }) rfl (fun K hK => ?_) AllReadyH.nil
        go_simp
        refine hK.out _ _ ?_ (fun hH2 => ?_)
        · exact HS.out _ (set6_below hbx hSR _ _ _ _ _ _)
        clear hK K hH
        have hH := hH2
        clear hH2
        have hvz := hv.wrote vl z1 z2 Cb el eb Ck ek vz
        have hbz := set6_below hbx hSR (.int .i64 vl) (.int .i64 z1) (.int .i64 z2) (.slice Cb el eb) (.slice Ck vl ek) (.int .i64 vz)
        have htz := htx.far (F' := F) (W' := set6 w10 bv (.int .i64 vl) (.int .i64 z1) (.int .i64 z2) (.slice Cb el eb) (.slice Ck vl ek) (.int .i64 vz)) ⟨fun k hk hf => set6_far _ _ _ _ _ _ _ _ k hf.2, fun _ _ hf => hf.1⟩
        simp only [set6] at hvz hbz htz
        clear v0 vz0 v1 vz1 v2 vz2 v3 vz3 v4 vz4 v5 vz5
        generalize (((((w10.setCell ⟨bv, 0, none⟩ (.int .i64 vl)).setCell ⟨bv, 1, none⟩ (.int .i64 z1)).setCell ⟨bv, 2, none⟩ (.int .i64 z2)).setCell ⟨bv, 3, none⟩ (.slice Cb el eb)).setCell ⟨bv, 4, none⟩ (.slice Ck vl ek)).setCell ⟨bv, 5, none⟩ (.int .i64 vz) = w11 at *
        try simp only [Act.put, List.setIfInBounds_toArray, List.set_cons_zero, List.set_cons_succ]
        refine wpAnyH_ready (rs := [10]) (by as_aux_lemma => kernel_rfl) (by simp) ?_
        refine AllReadyH.cons (o := { dst := some 7, op := Go.Op.assign (Go.Operand.tmp 32), type := 3, pos := "ref.go:24", after := #[{ on := 7, ground := Go.Ground.data }, { on := 9, ground := Go.Ground.chain }, { on := 0, ground := Go.Ground.phase }, { on := 1, ground := Go.Ground.phase }, { on := 2, ground := Go.Ground.phase }, { on := 3, ground := Go.Ground.phase }, { on := 4, ground := Go.Ground.phase }, { on := 5, ground := Go.Ground.phase }, { on := 6, ground := Go.Ground.phase }, { on := 7, ground := Go.Ground.phase }, { on := 8, ground := Go.Ground.phase }, { on := 9, ground := Go.Ground.phase }], guard := none }) rfl (fun K hK => ?_) AllReadyH.nil
        go_simp
        refine hK.out _ _ ?_ (fun hH2 => ?_)
        · exact HS.out _ hbz
        clear hK K hH
        have hH := hH2
        clear hH2
        try simp only [Act.put, List.setIfInBounds_toArray, List.set_cons_zero, List.set_cons_succ]
        refine wpAnyH_done (by as_aux_lemma => kernel_rfl) ?_ _
        refine NoPanic.normal ?_
        clear hH
        exact ⟨rfl, _, _, _, _, _, _, _, _, bv, vl, z1, z2, Cb, el, eb, Ck, ek, vz, by (try simp only [Act.put, List.setIfInBounds_toArray, List.set_cons_zero, List.set_cons_succ]); rfl, hbz, hvz, htz⟩
      · go_simp
        refine hK.out _ _ ?_ (fun hH2 => ?_)
        · exact HS.out _ (hd0.alloc hd0.size _)
        clear hK K hH
        have hH := hH2
        clear hH2
        have hv : TVar (wd.alloc (.cells #[.int .i64 0, .int .i64 0, .int .i64 0, .slice none 0 0, .slice none 0 0, .int .i64 0] 104)) wd.heap.size 0 0 0 none 0 0 none 0 0 := new_at rfl
        have hdx := hd0.alloc hd0.size (.cells #[.int .i64 0, .int .i64 0, .int .i64 0, .slice none 0 0, .slice none 0 0, .int .i64 0] 104)
        have hdw := HQ.out.2.trans (hd0.mono HQ.out.2.size)
        have hsx : (wd.alloc (.cells #[.int .i64 0, .int .i64 0, .int .i64 0, .slice none 0 0, .slice none 0 0, .int .i64 0] 104)).heap.size = wd.heap.size + 1 := by simp
        obtain ⟨bv, hbv⟩ : ∃ b, b = wd.heap.size := ⟨_, rfl⟩
        rw [← hbv] at hv hsx ⊢
        have hFo2 : ∀ k, (wd.alloc (.cells #[.int .i64 0, .int .i64 0, .int .i64 0, .slice none 0 0, .slice none 0 0, .int .i64 0] 104)).heap.size ≤ k → Fb F bv k := fun k hk => Fb.of (H.out.1 k (by have := hdw.size; omega)) (by omega)
        have hSR : wq.heap.size ≤ bv := by have := hd0.size; omega
        have r9a := (H.out.2.1.stay hdw).far (F' := Fb F bv) (W' := wd.alloc (.cells #[.int .i64 0, .int .i64 0, .int .i64 0, .slice none 0 0, .slice none 0 0, .int .i64 0] 104)) ⟨fun k hk _ => ((Below.refl _ wd).alloc (Nat.le_refl _) _).block k hk, fun k hk hf => Fb.of hf (by omega)⟩
        have r9b := (H.out.2.2.2.1.stay hdw).far (F' := Fb F bv) (W' := wd.alloc (.cells #[.int .i64 0, .int .i64 0, .int .i64 0, .slice none 0 0, .slice none 0 0, .int .i64 0] 104)) ⟨fun k hk _ => ((Below.refl _ wd).alloc (Nat.le_refl _) _).block k hk, fun k hk hf => Fb.of hf (by omega)⟩
        clear hbv hsx
        generalize wd.alloc (.cells #[.int .i64 0, .int .i64 0, .int .i64 0, .slice none 0 0, .slice none 0 0, .int .i64 0] 104) = wx at *
        try simp only [Act.put, List.setIfInBounds_toArray, List.set_cons_zero, List.set_cons_succ]
        refine wpAnyH_ready (rs := [4]) (by as_aux_lemma => kernel_rfl) (by simp) ?_
        refine AllReadyH.cons (o := { dst := some 30, op := Go.Op.call { callee := Go.Callee.value (Go.Operand.func 80), args := #[Go.Operand.tmp 26, Go.Operand.tmp 29], argTypes := #[104, 104] }, type := 105, pos := "ref.go:24", after := #[{ on := 0, ground := Go.Ground.data }, { on := 3, ground := Go.Ground.data }], guard := none }) rfl (fun K hK => ?_) AllReadyH.nil
        go_simp
        go_at_call 80
        (with_reducible refine (refLinkT _ hFo2 r9a r9b (by have := H.out; omega)).mono ?_)
        rintro e w9 ⟨vl, z1, z2, Cb, el, eb, Ck, ek, vz, rfl, ht9, hb9⟩
        refine hK.out _ _ ?_ (fun hH2 => ?_)
        · exact HS.out _ (hdx.trans (hb9.mono hdx.size))
        clear hK K hH
        have hH := hH2
        clear hH2
        have hbx := hdx.trans (hb9.mono hdx.size)
        replace hv := hv.stay hb9
        have htx := ht9
        clear hb9 ht9
        try simp only [Act.put, List.setIfInBounds_toArray, List.set_cons_zero, List.set_cons_succ]
        refine wpAnyH_take (i := 5) (oi := { dst := some 25, op := Go.Op.move (Go.Operand.tmp 30), type := 105, pos := "ref.go:24", after := #[{ on := 4, ground := Go.Ground.data }], guard := none }) (v := ?v1_2_5) rfl (by as_aux_lemma => kernel_rfl) (by as_aux_lemma => kernel_rfl) (by as_aux_lemma => kernel_rfl) (fun _ _ _ h => h) (Or.inl ⟨(by as_aux_lemma => kernel_rfl), ?hy1_2_5⟩) hH ?rest1_2_5
        case hy1_2_5 => (intro w hSw; (try dsimp only at hSw); go_simp; try with_reducible rfl)
        try simp only [Act.put, List.setIfInBounds_toArray, List.set_cons_zero, List.set_cons_succ]
        refine wpAnyH_take (i := 6) (oi := { dst := some 31, op := Go.Op.extract (Go.Operand.tmp 25) 0, type := 104, pos := "ref.go:24", after := #[{ on := 5, ground := Go.Ground.data }], guard := none }) (v := ?v1_2_6) rfl (by as_aux_lemma => kernel_rfl) (by as_aux_lemma => kernel_rfl) (by as_aux_lemma => kernel_rfl) (fun _ _ _ h => h) (Or.inl ⟨(by as_aux_lemma => kernel_rfl), ?hy1_2_6⟩) hH ?rest1_2_6
        case hy1_2_6 => (intro w hSw; (try dsimp only at hSw); go_simp; try with_reducible rfl)
        try simp only [Act.put, List.setIfInBounds_toArray, List.set_cons_zero, List.set_cons_succ]
        refine wpAnyH_take (i := 7) (oi := { dst := some 32, op := Go.Op.extract (Go.Operand.tmp 25) 1, type := 3, pos := "ref.go:24", after := #[{ on := 5, ground := Go.Ground.data }, { on := 9, ground := Go.Ground.gcOnly Go.Departure.lateStores }], guard := none }) (v := ?v1_2_7) rfl (by as_aux_lemma => kernel_rfl) (by as_aux_lemma => kernel_rfl) (by as_aux_lemma => kernel_rfl) (fun _ _ _ h => h) (Or.inl ⟨(by as_aux_lemma => kernel_rfl), ?hy1_2_7⟩) hH ?rest1_2_7
        case hy1_2_7 => (intro w hSw; (try dsimp only at hSw); go_simp; try with_reducible rfl)
        try simp only [Act.put, List.setIfInBounds_toArray, List.set_cons_zero, List.set_cons_succ]
        have v0 := hv.hex.c0
        have vz0 := hv.hex.z0
        have v1 := hv.hex.c1
        have vz1 := hv.hex.z1
        have v2 := hv.hex.c2
        have vz2 := hv.hex.z2
        have v3 := hv.hex.c3
        have vz3 := hv.hex.z3
        have v4 := hv.hex.c4
        have vz4 := hv.hex.z4
        have v5 := hv.hex.c5
        have vz5 := hv.hex.z5
        generalize w9 = w10 at *
        refine wpAnyH_ready (rs := [9]) (by as_aux_lemma => kernel_rfl) (by simp) ?_
        refine AllReadyH.cons (o := { dst := none, op := Go.Op.store 104 (Go.Operand.tmp 6) (Go.Operand.tmp 31), type := 0, pos := "ref.go:24", after := #[{ on := 8, ground := Go.Ground.data }, { on := 6, ground := Go.Ground.data }, { on := 4, ground := Go.Ground.chain }, { on := 0, ground := Go.Ground.phase }, { on := 1, ground := Go.Ground.phase }, { on := 2, ground := Go.Ground.phase }, { on := 3, ground := Go.Ground.phase }, { on := 4, ground := Go.Ground.phase }, { on := 5, ground := Go.Ground.phase }, { on := 6, ground := Go.Ground.phase }, { on := 7, ground := Go.Ground.textOnly Go.Departure.lateStores }, { on := 8, ground := Go.Ground.phase }], guard := none }) rfl (fun K hK => ?_) AllReadyH.nil
        go_simp
        refine hK.out _ _ ?_ (fun hH2 => ?_)
        · exact HS.out _ (set6_below hbx hSR _ _ _ _ _ _)
        clear hK K hH
        have hH := hH2
        clear hH2
        have hvz := hv.wrote vl z1 z2 Cb el eb Ck ek vz
        have hbz := set6_below hbx hSR (.int .i64 vl) (.int .i64 z1) (.int .i64 z2) (.slice Cb el eb) (.slice Ck vl ek) (.int .i64 vz)
        have htz := htx.far (F' := F) (W' := set6 w10 bv (.int .i64 vl) (.int .i64 z1) (.int .i64 z2) (.slice Cb el eb) (.slice Ck vl ek) (.int .i64 vz)) ⟨fun k hk hf => set6_far _ _ _ _ _ _ _ _ k hf.2, fun _ _ hf => hf.1⟩
        simp only [set6] at hvz hbz htz
        clear v0 vz0 v1 vz1 v2 vz2 v3 vz3 v4 vz4 v5 vz5
        generalize (((((w10.setCell ⟨bv, 0, none⟩ (.int .i64 vl)).setCell ⟨bv, 1, none⟩ (.int .i64 z1)).setCell ⟨bv, 2, none⟩ (.int .i64 z2)).setCell ⟨bv, 3, none⟩ (.slice Cb el eb)).setCell ⟨bv, 4, none⟩ (.slice Ck vl ek)).setCell ⟨bv, 5, none⟩ (.int .i64 vz) = w11 at *
        try simp only [Act.put, List.setIfInBounds_toArray, List.set_cons_zero, List.set_cons_succ]
        refine wpAnyH_ready (rs := [10]) (by as_aux_lemma => kernel_rfl) (by simp) ?_
        refine AllReadyH.cons (o := { dst := some 7, op := Go.Op.assign (Go.Operand.tmp 32), type := 3, pos := "ref.go:24", after := #[{ on := 7, ground := Go.Ground.data }, { on := 9, ground := Go.Ground.chain }, { on := 0, ground := Go.Ground.phase }, { on := 1, ground := Go.Ground.phase }, { on := 2, ground := Go.Ground.phase }, { on := 3, ground := Go.Ground.phase }, { on := 4, ground := Go.Ground.phase }, { on := 5, ground := Go.Ground.phase }, { on := 6, ground := Go.Ground.phase }, { on := 7, ground := Go.Ground.phase }, { on := 8, ground := Go.Ground.phase }, { on := 9, ground := Go.Ground.phase }], guard := none }) rfl (fun K hK => ?_) AllReadyH.nil
        go_simp
        refine hK.out _ _ ?_ (fun hH2 => ?_)
        · exact HS.out _ hbz
        clear hK K hH
        have hH := hH2
        clear hH2
        try simp only [Act.put, List.setIfInBounds_toArray, List.set_cons_zero, List.set_cons_succ]
        refine wpAnyH_done (by as_aux_lemma => kernel_rfl) ?_ _
        refine NoPanic.normal ?_
        clear hH
        exact ⟨rfl, _, _, _, _, _, _, _, _, bv, vl, z1, z2, Cb, el, eb, Ck, ek, vz, by (try simp only [Act.put, List.setIfInBounds_toArray, List.set_cons_zero, List.set_cons_succ]); rfl, hbz, hvz, htz⟩
    rintro a' w' ⟨u26, u27, u28, u29, u30, u25, u31, u32, bv, vl, z1, z2, Cb, el, eb, Ck, ek, vz, rfl, hbz, hvz, htz⟩
    try simp only [Act.put, List.setIfInBounds_toArray, List.set_cons_zero, List.set_cons_succ]
    have hbw := HQ.out.2.trans (hbz.mono HQ.out.2.size)
    have Z := Lib.hid (And.intro hbw (And.intro hvz htz))
    have hlk : bSize r + (lnk t u).size < 268435456 := by rw [lnk_size]; have := H.out; omega
    have HLK := Lib.hid hlk
    have htn : putTN (u :: r) t = 1 + putTN r (lnk t u) ∧ putT (u :: r) t = putT r (lnk t u) := by
      have hnl : ¬ t.rank < u.rank := by have := HCE.out; have := HHR.out; omega
      exact ⟨by rw [putTN, if_neg hnl], by rw [putT, if_neg hnl]⟩
    have HTN := Lib.hid htn
    obtain ⟨kk, hkk⟩ : ∃ q, q = 2 * putTN r (lnk t u) := ⟨_, rfl⟩
    have hkb : putTN r (lnk t u) ≤ r.length := by have h1 := putT_len r (lnk t u); have h2 : 0 < (putT r (lnk t u)).length := (by have := (putT_all r (lnk t u)).length_eq; cases hq : putT r (lnk t u) with | nil => rw [hq] at this; simp [bAll, Tre.all] at this | cons a b => simp); omega
    have HKK := Lib.hid (show kk = 2 * putTN r (lnk t u) ∧ kk < 1000000000 from ⟨hkk, by have := H.out.2.2.2.2.2.2.1; have := H.out.2.2.2.2.2.2.2.2.2.2; omega⟩)
    have wk : IntKind.i64.wrap (2 + (kk : Int)) = 2 + (kk : Int) := by have := HKK.out; rw [IntKind.wrap_i64]; omega
    have HS4 := Lib.hid (fun (w2 : World) (hz : Below w'.heap.size w' w2) => (show w2.cell? ⟨bv, 0, none⟩ = some (.int .i64 vl) ∧ w2.cell? ⟨bv, 1, none⟩ = some (.int .i64 z1) ∧ w2.cell? ⟨bv, 2, none⟩ = some (.int .i64 z2) ∧ w2.cell? ⟨bv, 3, none⟩ = some (.slice Cb el eb) ∧ w2.cell? ⟨bv, 4, none⟩ = some (.slice Ck vl ek) ∧ w2.cell? ⟨bv, 5, none⟩ = some (.int .i64 vz) from ⟨(hvz.stay hz).hex.c0, (hvz.stay hz).hex.c1, (hvz.stay hz).hex.c2, (hvz.stay hz).hex.c3, (hvz.stay hz).hex.c4, (hvz.stay hz).hex.c5⟩))
    clear htn hkk hkb hlk hvz htz hbz hbw
    by_cases hc1 : c = 1
    · subst hc1
      have hn1 : n = 1 := by have := H.out; omega
      subst hn1
      have HL := Lib.hid (HR.out.1 rfl)
      go_wp2_with fail
      have hd0 : Below w'.heap.size w' w'.drew := (Below.refl _ _).drew
      refine wp_region_noPanic ?_
      refine wp_region_held_drew (S := fun w2 => w2.cell? ⟨bv, 0, none⟩ = some (.int .i64 vl) ∧ w2.cell? ⟨bv, 1, none⟩ = some (.int .i64 z1) ∧ w2.cell? ⟨bv, 2, none⟩ = some (.int .i64 z2) ∧ w2.cell? ⟨bv, 3, none⟩ = some (.slice Cb el eb) ∧ w2.cell? ⟨bv, 4, none⟩ = some (.slice Ck vl ek) ∧ w2.cell? ⟨bv, 5, none⟩ = some (.int .i64 vz)) (by kernel_rfl) (HS4.out _ hd0) (fun hH => ?_)
      generalize w'.drew = wd at *
      refine wpAnyH_take (i := 0) (oi := { dst := some 34, op := Go.Op.load 104 (Go.Operand.tmp 6), type := 104, pos := "ref.go:25", after := #[], guard := none }) (v := ?v2_0_0) rfl (by as_aux_lemma => kernel_rfl) (by as_aux_lemma => kernel_rfl) (by as_aux_lemma => kernel_rfl) (fun _ _ _ h => h) (Or.inl ⟨(by as_aux_lemma => kernel_rfl), ?hy2_0_0⟩) hH ?rest2_0_0
      case hy2_0_0 => (intro w hSw; (try dsimp only at hSw); go_simp; try with_reducible rfl)
      try simp only [Act.put, List.setIfInBounds_toArray, List.set_cons_zero, List.set_cons_succ]
      refine wpAnyH_take (i := 1) (oi := { dst := some 35, op := Go.Op.move (Go.Operand.tmp 1), type := 33, pos := "ref.go:25", after := #[], guard := none }) (v := ?v2_0_1) rfl (by as_aux_lemma => kernel_rfl) (by as_aux_lemma => kernel_rfl) (by as_aux_lemma => kernel_rfl) (fun _ _ _ h => h) (Or.inl ⟨(by as_aux_lemma => kernel_rfl), ?hy2_0_1⟩) hH ?rest2_0_1
      case hy2_0_1 => (intro w hSw; (try dsimp only at hSw); go_simp; try with_reducible rfl)
      try simp only [Act.put, List.setIfInBounds_toArray, List.set_cons_zero, List.set_cons_succ]
      refine wpAnyH_take (i := 2) (oi := { dst := some 36, op := Go.Op.slice 33 (Go.Operand.tmp 35) (some (Go.Operand.const (Go.Value.int Go.IntKind.i64 1))) none none, type := 33, pos := "ref.go:25", after := #[{ on := 1, ground := Go.Ground.data }], guard := none }) (v := ?v2_0_2) rfl (by as_aux_lemma => kernel_rfl) (by as_aux_lemma => kernel_rfl) (by as_aux_lemma => kernel_rfl) (fun _ _ _ h => h) (Or.inl ⟨(by as_aux_lemma => kernel_rfl), ?hy2_0_2⟩) hH ?rest2_0_2
      case hy2_0_2 => (intro w hSw; (try dsimp only at hSw); go_simp; try with_reducible rfl)
      try simp only [Act.put, List.setIfInBounds_toArray, List.set_cons_zero, List.set_cons_succ]
      refine wpAnyH_ready (rs := [3]) (by as_aux_lemma => kernel_rfl) (by simp) ?_
      refine AllReadyH.cons (o := { dst := some 37, op := Go.Op.call { callee := Go.Callee.value (Go.Operand.func 83), args := #[Go.Operand.tmp 34, Go.Operand.tmp 36], argTypes := #[104, 33] }, type := 109, pos := "ref.go:25", after := #[{ on := 0, ground := Go.Ground.data }, { on := 2, ground := Go.Ground.data }], guard := none }) rfl (fun K hK => ?_) AllReadyH.nil
      have hdw := Z.out.1.trans (hd0.mono Z.out.1.size)
      go_simp
      go_at_call 83
      (with_reducible refine (HI.out F (lnk t u) vl z1 z2 Cb el eb Ck ek vz _ _ _ _ (fun k hk => H.out.1 k (by have := hdw.size; omega)) (by have := HLK.out; omega) (Z.out.2.2.stay hd0) (HL.out.stay hdw)).mono ?_)
      rintro e w3 ⟨A3, n3, c3, rfl, hh, hb3⟩
      rw [← HKK.out.1]
      refine hK.out _ _ ?_ (fun hH2 => ?_)
      · exact HS4.out _ (hd0.trans (hb3.mono hd0.size))
      clear hK K hH
      have hH := hH2
      clear hH2
      have hb4 := hd0.trans (hb3.mono hd0.size)
      have H3 := Lib.hid (And.intro hh (And.intro (hdw.trans (hb3.mono hdw.size)) hb4))
      clear hh hb3
      try simp only [Act.put, List.setIfInBounds_toArray, List.set_cons_zero, List.set_cons_succ]
      refine wpAnyH_take (i := 4) (oi := { dst := some 33, op := Go.Op.move (Go.Operand.tmp 37), type := 109, pos := "ref.go:25", after := #[{ on := 3, ground := Go.Ground.data }], guard := none }) (v := ?v2_0_4) rfl (by as_aux_lemma => kernel_rfl) (by as_aux_lemma => kernel_rfl) (by as_aux_lemma => kernel_rfl) (fun _ _ _ h => h) (Or.inl ⟨(by as_aux_lemma => kernel_rfl), ?hy2_0_4⟩) hH ?rest2_0_4
      case hy2_0_4 => (intro w hSw; (try dsimp only at hSw); go_simp; try with_reducible rfl)
      try simp only [Act.put, List.setIfInBounds_toArray, List.set_cons_zero, List.set_cons_succ]
      refine wpAnyH_take (i := 5) (oi := { dst := some 38, op := Go.Op.extract (Go.Operand.tmp 33) 0, type := 33, pos := "ref.go:25", after := #[{ on := 4, ground := Go.Ground.data }], guard := none }) (v := ?v2_0_5) rfl (by as_aux_lemma => kernel_rfl) (by as_aux_lemma => kernel_rfl) (by as_aux_lemma => kernel_rfl) (fun _ _ _ h => h) (Or.inl ⟨(by as_aux_lemma => kernel_rfl), ?hy2_0_5⟩) hH ?rest2_0_5
      case hy2_0_5 => (intro w hSw; (try dsimp only at hSw); go_simp; try with_reducible rfl)
      try simp only [Act.put, List.setIfInBounds_toArray, List.set_cons_zero, List.set_cons_succ]
      refine wpAnyH_take (i := 6) (oi := { dst := some 39, op := Go.Op.extract (Go.Operand.tmp 33) 1, type := 3, pos := "ref.go:25", after := #[{ on := 4, ground := Go.Ground.data }, { on := 7, ground := Go.Ground.gcOnly Go.Departure.lateStores }], guard := none }) (v := ?v2_0_6) rfl (by as_aux_lemma => kernel_rfl) (by as_aux_lemma => kernel_rfl) (by as_aux_lemma => kernel_rfl) (fun _ _ _ h => h) (Or.inl ⟨(by as_aux_lemma => kernel_rfl), ?hy2_0_6⟩) hH ?rest2_0_6
      case hy2_0_6 => (intro w hSw; (try dsimp only at hSw); go_simp; try with_reducible rfl)
      try simp only [Act.put, List.setIfInBounds_toArray, List.set_cons_zero, List.set_cons_succ]
      refine wpAnyH_ready (rs := [7]) (by as_aux_lemma => kernel_rfl) (by simp) ?_
      refine AllReadyH.cons (o := { dst := some 8, op := Go.Op.assign (Go.Operand.tmp 38), type := 33, pos := "ref.go:25", after := #[{ on := 5, ground := Go.Ground.data }, { on := 3, ground := Go.Ground.chain }, { on := 0, ground := Go.Ground.phase }, { on := 1, ground := Go.Ground.phase }, { on := 2, ground := Go.Ground.phase }, { on := 3, ground := Go.Ground.phase }, { on := 4, ground := Go.Ground.phase }, { on := 5, ground := Go.Ground.phase }, { on := 6, ground := Go.Ground.textOnly Go.Departure.lateStores }], guard := none }) rfl (fun K hK => ?_) AllReadyH.nil
      go_simp
      refine hK.out _ _ ?_ (fun hH2 => ?_)
      · exact HS4.out _ hb4
      clear hK K hH
      have hH := hH2
      clear hH2
      try simp only [Act.put, List.setIfInBounds_toArray, List.set_cons_zero, List.set_cons_succ]
      refine wpAnyH_ready (rs := [8]) (by as_aux_lemma => kernel_rfl) (by simp) ?_
      refine AllReadyH.cons (o := { dst := some 9, op := Go.Op.assign (Go.Operand.tmp 39), type := 3, pos := "ref.go:25", after := #[{ on := 6, ground := Go.Ground.data }, { on := 7, ground := Go.Ground.chain }, { on := 0, ground := Go.Ground.phase }, { on := 1, ground := Go.Ground.phase }, { on := 2, ground := Go.Ground.phase }, { on := 3, ground := Go.Ground.phase }, { on := 4, ground := Go.Ground.phase }, { on := 5, ground := Go.Ground.phase }, { on := 6, ground := Go.Ground.phase }, { on := 7, ground := Go.Ground.phase }], guard := none }) rfl (fun K hK => ?_) AllReadyH.nil
      go_simp
      refine hK.out _ _ ?_ (fun hH2 => ?_)
      · exact HS4.out _ hb4
      clear hK K hH
      have hH := hH2
      clear hH2
      try simp only [Act.put, List.setIfInBounds_toArray, List.set_cons_zero, List.set_cons_succ]
      refine wpAnyH_done (by as_aux_lemma => kernel_rfl) ?_ _
      refine NoPanic.normal ?_
      clear hH
      go_wp2_with fail
      refine bodyPost_ret (v := .tuple #[.slice A3 n3 c3, .int .i64 (2 + (kk : Int))]) (by simp [results, Tryz.results83, go_sem]) rfl ?_
      refine ⟨A3, n3, c3, ?_, ?_, H3.out.2.1⟩
      · rw [HTN.out.1, show ((2 * (1 + putTN r (lnk t u)) : Nat) : Int) = 2 + (kk : Int) by rw [HKK.out.1]; omega]
      · rw [HTN.out.2]; exact H3.out.1
    · have HL := Lib.hid HR.out.2
      have hnc := H.out.2.2.2.2.2.2.2.1
      have hcm := H.out.2.2.2.2.2.2.2.2.1
      have m0 : ¬ n < 1 := by omega
      have m1 : 1 ≤ n := by omega
      have m2 : (1 : Int) ≤ (n : Int) := by omega
      have m3 : ¬ (n : Int) < 1 := by omega
      have m4 : ¬ 1 = c := by omega
      have m5 : 0 < c := by omega
      have m6 : (n : Int) ≤ (c : Int) := by omega
      have m7 : (1 : Int) ≤ (c : Int) := by omega
      have m8 : ¬ c - 1 = 0 := by omega
      have m9 : ¬ c ≤ 1 := by omega
      have m10 : 1 < c := by omega
      have m11 : (0 : Int) < (n : Int) := by omega
      have m12 : 1 ≤ c := by omega
      go_wp2_with fail
      have hd0 : Below w'.heap.size w' w'.drew := (Below.refl _ _).drew
      refine wp_region_noPanic ?_
      refine wp_region_held_drew (S := fun w2 => w2.cell? ⟨bv, 0, none⟩ = some (.int .i64 vl) ∧ w2.cell? ⟨bv, 1, none⟩ = some (.int .i64 z1) ∧ w2.cell? ⟨bv, 2, none⟩ = some (.int .i64 z2) ∧ w2.cell? ⟨bv, 3, none⟩ = some (.slice Cb el eb) ∧ w2.cell? ⟨bv, 4, none⟩ = some (.slice Ck vl ek) ∧ w2.cell? ⟨bv, 5, none⟩ = some (.int .i64 vz)) (by kernel_rfl) (HS4.out _ hd0) (fun hH => ?_)
      generalize w'.drew = wd at *
      refine wpAnyH_take (i := 0) (oi := { dst := some 34, op := Go.Op.load 104 (Go.Operand.tmp 6), type := 104, pos := "ref.go:25", after := #[], guard := none }) (v := ?v3_0_0) rfl (by as_aux_lemma => kernel_rfl) (by as_aux_lemma => kernel_rfl) (by as_aux_lemma => kernel_rfl) (fun _ _ _ h => h) (Or.inl ⟨(by as_aux_lemma => kernel_rfl), ?hy3_0_0⟩) hH ?rest3_0_0
      case hy3_0_0 => (intro w hSw; (try dsimp only at hSw); go_simp; try with_reducible rfl)
      try simp only [Act.put, List.setIfInBounds_toArray, List.set_cons_zero, List.set_cons_succ]
      refine wpAnyH_take (i := 1) (oi := { dst := some 35, op := Go.Op.move (Go.Operand.tmp 1), type := 33, pos := "ref.go:25", after := #[], guard := none }) (v := ?v3_0_1) rfl (by as_aux_lemma => kernel_rfl) (by as_aux_lemma => kernel_rfl) (by as_aux_lemma => kernel_rfl) (fun _ _ _ h => h) (Or.inl ⟨(by as_aux_lemma => kernel_rfl), ?hy3_0_1⟩) hH ?rest3_0_1
      case hy3_0_1 => (intro w hSw; (try dsimp only at hSw); go_simp; try with_reducible rfl)
      try simp only [Act.put, List.setIfInBounds_toArray, List.set_cons_zero, List.set_cons_succ]
      refine wpAnyH_take (i := 2) (oi := { dst := some 36, op := Go.Op.slice 33 (Go.Operand.tmp 35) (some (Go.Operand.const (Go.Value.int Go.IntKind.i64 1))) none none, type := 33, pos := "ref.go:25", after := #[{ on := 1, ground := Go.Ground.data }], guard := none }) (v := ?v3_0_2) rfl (by as_aux_lemma => kernel_rfl) (by as_aux_lemma => kernel_rfl) (by as_aux_lemma => kernel_rfl) (fun _ _ _ h => h) (Or.inl ⟨(by as_aux_lemma => kernel_rfl), ?hy3_0_2⟩) hH ?rest3_0_2
      case hy3_0_2 => (intro w hSw; (try dsimp only at hSw); go_simp; try with_reducible rfl)
      try simp only [Act.put, List.setIfInBounds_toArray, List.set_cons_zero, List.set_cons_succ]
      refine wpAnyH_ready (rs := [3]) (by as_aux_lemma => kernel_rfl) (by simp) ?_
      refine AllReadyH.cons (o := { dst := some 37, op := Go.Op.call { callee := Go.Callee.value (Go.Operand.func 83), args := #[Go.Operand.tmp 34, Go.Operand.tmp 36], argTypes := #[104, 33] }, type := 109, pos := "ref.go:25", after := #[{ on := 0, ground := Go.Ground.data }, { on := 2, ground := Go.Ground.data }], guard := none }) rfl (fun K hK => ?_) AllReadyH.nil
      have hdw := Z.out.1.trans (hd0.mono Z.out.1.size)
      go_simp
      go_at_call 83
      (with_reducible refine (HI.out F (lnk t u) vl z1 z2 Cb el eb Ck ek vz _ _ _ _ (fun k hk => H.out.1 k (by have := hdw.size; omega)) (by have := HLK.out; omega) (Z.out.2.2.stay hd0) (HL.out.stay hdw)).mono ?_)
      rintro e w3 ⟨A3, n3, c3, rfl, hh, hb3⟩
      rw [← HKK.out.1]
      refine hK.out _ _ ?_ (fun hH2 => ?_)
      · exact HS4.out _ (hd0.trans (hb3.mono hd0.size))
      clear hK K hH
      have hH := hH2
      clear hH2
      have hb4 := hd0.trans (hb3.mono hd0.size)
      have H3 := Lib.hid (And.intro hh (And.intro (hdw.trans (hb3.mono hdw.size)) hb4))
      clear hh hb3
      try simp only [Act.put, List.setIfInBounds_toArray, List.set_cons_zero, List.set_cons_succ]
      refine wpAnyH_take (i := 4) (oi := { dst := some 33, op := Go.Op.move (Go.Operand.tmp 37), type := 109, pos := "ref.go:25", after := #[{ on := 3, ground := Go.Ground.data }], guard := none }) (v := ?v3_0_4) rfl (by as_aux_lemma => kernel_rfl) (by as_aux_lemma => kernel_rfl) (by as_aux_lemma => kernel_rfl) (fun _ _ _ h => h) (Or.inl ⟨(by as_aux_lemma => kernel_rfl), ?hy3_0_4⟩) hH ?rest3_0_4
      case hy3_0_4 => (intro w hSw; (try dsimp only at hSw); go_simp; try with_reducible rfl)
      try simp only [Act.put, List.setIfInBounds_toArray, List.set_cons_zero, List.set_cons_succ]
      refine wpAnyH_take (i := 5) (oi := { dst := some 38, op := Go.Op.extract (Go.Operand.tmp 33) 0, type := 33, pos := "ref.go:25", after := #[{ on := 4, ground := Go.Ground.data }], guard := none }) (v := ?v3_0_5) rfl (by as_aux_lemma => kernel_rfl) (by as_aux_lemma => kernel_rfl) (by as_aux_lemma => kernel_rfl) (fun _ _ _ h => h) (Or.inl ⟨(by as_aux_lemma => kernel_rfl), ?hy3_0_5⟩) hH ?rest3_0_5
      case hy3_0_5 => (intro w hSw; (try dsimp only at hSw); go_simp; try with_reducible rfl)
      try simp only [Act.put, List.setIfInBounds_toArray, List.set_cons_zero, List.set_cons_succ]
      refine wpAnyH_take (i := 6) (oi := { dst := some 39, op := Go.Op.extract (Go.Operand.tmp 33) 1, type := 3, pos := "ref.go:25", after := #[{ on := 4, ground := Go.Ground.data }, { on := 7, ground := Go.Ground.gcOnly Go.Departure.lateStores }], guard := none }) (v := ?v3_0_6) rfl (by as_aux_lemma => kernel_rfl) (by as_aux_lemma => kernel_rfl) (by as_aux_lemma => kernel_rfl) (fun _ _ _ h => h) (Or.inl ⟨(by as_aux_lemma => kernel_rfl), ?hy3_0_6⟩) hH ?rest3_0_6
      case hy3_0_6 => (intro w hSw; (try dsimp only at hSw); go_simp; try with_reducible rfl)
      try simp only [Act.put, List.setIfInBounds_toArray, List.set_cons_zero, List.set_cons_succ]
      refine wpAnyH_ready (rs := [7]) (by as_aux_lemma => kernel_rfl) (by simp) ?_
      refine AllReadyH.cons (o := { dst := some 8, op := Go.Op.assign (Go.Operand.tmp 38), type := 33, pos := "ref.go:25", after := #[{ on := 5, ground := Go.Ground.data }, { on := 3, ground := Go.Ground.chain }, { on := 0, ground := Go.Ground.phase }, { on := 1, ground := Go.Ground.phase }, { on := 2, ground := Go.Ground.phase }, { on := 3, ground := Go.Ground.phase }, { on := 4, ground := Go.Ground.phase }, { on := 5, ground := Go.Ground.phase }, { on := 6, ground := Go.Ground.textOnly Go.Departure.lateStores }], guard := none }) rfl (fun K hK => ?_) AllReadyH.nil
      go_simp
      refine hK.out _ _ ?_ (fun hH2 => ?_)
      · exact HS4.out _ hb4
      clear hK K hH
      have hH := hH2
      clear hH2
      try simp only [Act.put, List.setIfInBounds_toArray, List.set_cons_zero, List.set_cons_succ]
      refine wpAnyH_ready (rs := [8]) (by as_aux_lemma => kernel_rfl) (by simp) ?_
      refine AllReadyH.cons (o := { dst := some 9, op := Go.Op.assign (Go.Operand.tmp 39), type := 3, pos := "ref.go:25", after := #[{ on := 6, ground := Go.Ground.data }, { on := 7, ground := Go.Ground.chain }, { on := 0, ground := Go.Ground.phase }, { on := 1, ground := Go.Ground.phase }, { on := 2, ground := Go.Ground.phase }, { on := 3, ground := Go.Ground.phase }, { on := 4, ground := Go.Ground.phase }, { on := 5, ground := Go.Ground.phase }, { on := 6, ground := Go.Ground.phase }, { on := 7, ground := Go.Ground.phase }], guard := none }) rfl (fun K hK => ?_) AllReadyH.nil
      go_simp
      refine hK.out _ _ ?_ (fun hH2 => ?_)
      · exact HS4.out _ hb4
      clear hK K hH
      have hH := hH2
      clear hH2
      try simp only [Act.put, List.setIfInBounds_toArray, List.set_cons_zero, List.set_cons_succ]
      refine wpAnyH_done (by as_aux_lemma => kernel_rfl) ?_ _
      refine NoPanic.normal ?_
      clear hH
      go_wp2_with fail
      refine bodyPost_ret (v := .tuple #[.slice A3 n3 c3, .int .i64 (2 + (kk : Int))]) (by simp [results, Tryz.results83, go_sem]) rfl ?_
      refine ⟨A3, n3, c3, ?_, ?_, H3.out.2.1⟩
      · rw [HTN.out.1, show ((2 * (1 + putTN r (lnk t u)) : Nat) : Int) = 2 + (kk : Int) by rw [HKK.out.1]; omega]
      · rw [HTN.out.2]; exact H3.out.1

theorem refPuts : ∀ l : List Tre, PutsR l
  | [] => fun F t kl x1 x2 Ab bl cb Ak ck sz A n c w hF _ ht hl => refPut_nil F t kl x1 x2 Ab bl cb Ak ck sz A n c w hF ht hl
  | u :: r => fun F t kl x1 x2 Ab bl cb Ak ck sz A n c w hF hs ht hl => refPut_cons F t kl x1 x2 Ab bl cb Ak ck sz A n c w u r (refPuts r) hF hs ht hl

end Go.Proofs.YtaeainnkhjnlaaaGreatDoor
