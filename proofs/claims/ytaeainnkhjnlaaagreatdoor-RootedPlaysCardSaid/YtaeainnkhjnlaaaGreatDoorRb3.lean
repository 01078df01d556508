/-
  Contracts of a rooted heap's Insert, Meld and Pop, by a meter or none: which heap each makes, how many comparisons and things the meter counts, that what was there stays but for the meter's block. Conditions: fewer than 2 to the 27th elements, counts below 2 to the 56th.
-/
import Derived.Test.YtaeainnkhjnlaaaGreatDoorRg
namespace Go.Proofs.YtaeainnkhjnlaaaGreatDoor.Ro
open Go.Sort Go.RowKit

theorem ty_ne {W : World} {g b : Nat} {cur cur' : Array Value} {e e' : TypeId} {z z' : Nat × Nat} (hg : W.heap[g]? = some (.cells cur e z)) (hb : W.heap[b]? = some (.cells cur' e' z')) (hne : e ≠ e') : ¬ g = b := by
  rintro rfl
  rw [hg] at hb
  cases hb
  exact hne rfl
/-- A region's ends, whatever its order, told at once. -/
theorem wp_after {P : Program} {c : Code} {a : Act} {w : World} {Q : Exit → Act → World → Prop} (R : Act → Act → World → Prop) (h1 : c.wp P (fun e a' w' => e = .normal ∧ R a a' w') a w) (h2 : ∀ a' w', R a a' w' → Q .normal a' w') : c.wp P Q a w :=
  Code.wp_mono (fun e a' w' h => by obtain ⟨rfl, hr⟩ := h; exact h2 a' w' hr) h1
/-- A variable that holds a skew binomial heap. -/
def SVar (W : World) (b : Nat) (q : Hp.HP) : Prop := W.heap[b]? = some (.cells #[.pointer q.q, .int .i64 q.n] 73 (0, 0))
section
variable {W W' : World} {b : Nat} {q : Hp.HP} {mo : Option Nat} {c m : Int}
theorem SVar.bt (h : SVar W b q) (hb : Bt mo W W') (hm : MAt W mo c m) : SVar W' b q := hb.row hm h (by decide)
theorem SVar.c0 (h : SVar W b q) : W.cell? ⟨b, 0, none⟩ = some (.pointer q.q) := by unfold SVar at h; simp [World.cell?, h]
theorem SVar.c1 (h : SVar W b q) : W.cell? ⟨b, 1, none⟩ = some (.int .i64 q.n) := by unfold SVar at h; simp [World.cell?, h]
theorem SVar.z0 (h : SVar W b q) : W.frozen? ⟨b, 0, none⟩ = false := by unfold SVar at h; simp [World.frozen?, h]
theorem SVar.z1 (h : SVar W b q) : W.frozen? ⟨b, 1, none⟩ = false := by unfold SVar at h; simp [World.frozen?, h]
theorem SVar.lt (h : SVar W b q) : b < W.heap.size := lt_of_heap h
theorem SVar.alloc (h : SVar W b q) (o : Obj) : SVar (W.alloc o) b q := (alloc_old o (lt_of_heap h)).trans h
theorem SVar.aside {g : Nat} (h : SVar W b q) (hne : b ≠ g) (u v : Value) : SVar ((W.setCell ⟨g, 0, none⟩ u).setCell ⟨g, 1, none⟩ v) b q := (heap_other _ _ hne).trans ((heap_other _ _ hne).trans h)
theorem SVar.put (h : SVar W b q) (r : Hp.HP) : SVar ((W.setCell ⟨b, 0, none⟩ (.pointer r.q)).setCell ⟨b, 1, none⟩ (.int .i64 r.n)) b r := heap_put (j := 1) (heap_put (j := 0) h _) _
end
/-- How far a region has come: what was there at its start stays, but for the meter; its variables, made so far: two elements', a heap's. -/
structure Reg (mo : Option Nat) (w1 : World) (c m : Int) (o7 o8 : Option (Nat × (Int × Int))) (o9 : Option (Nat × Hp.HP)) (W : World) : Prop where
  bt : Bt mo w1 W
  mt : MAt W mo c m
  v7 : ∀ b y, o7 = some (b, y) → EVar W b y ∧ w1.heap.size ≤ b
  v8 : ∀ b y, o8 = some (b, y) → EVar W b y ∧ w1.heap.size ≤ b
  v9 : ∀ b y, o9 = some (b, y) → SVar W b y ∧ w1.heap.size ≤ b
  ne : ∀ b y b' y', o7 = some (b, y) → o8 = some (b', y') → b ≠ b'
section
variable {mo : Option Nat} {w1 W W' : World} {c m c' m' : Int} {o7 o8 : Option (Nat × (Int × Int))} {o9 : Option (Nat × Hp.HP)}
theorem Reg.refl (hm : MAt W mo c m) : Reg mo W c m none none none W := ⟨Bt.refl _ _, hm, fun _ _ e => by (cases e), fun _ _ e => by (cases e), fun _ _ e => by (cases e), fun _ _ _ _ e => by (cases e)⟩
theorem Reg.turn (h : Reg mo w1 c m o7 o8 o9 W) (hm : MAt W' mo c' m') (hb : Bt mo W W') : Reg mo w1 c' m' o7 o8 o9 W' :=
  ⟨h.bt.trans hb, hm, fun b y e => ⟨(h.v7 b y e).1.bt hb h.mt, (h.v7 b y e).2⟩, fun b y e => ⟨(h.v8 b y e).1.bt hb h.mt, (h.v8 b y e).2⟩, fun b y e => ⟨(h.v9 b y e).1.bt hb h.mt, (h.v9 b y e).2⟩, h.ne⟩
theorem Reg.drew (h : Reg mo w1 c m o7 o8 o9 W) : Reg mo w1 c m o7 o8 o9 W.drew := h.turn h.mt.drew ((Bt.refl _ _).drew)
theorem Reg.al7 (h : Reg mo w1 c m none o8 o9 W) : Reg mo w1 c m (some (W.heap.size, (0, 0))) o8 o9 (W.alloc (.cells #[.int .i64 0, .int .i64 0] 32)) :=
  ⟨h.bt.alloc _, h.mt.alloc _, fun b y e => by cases e; exact ⟨EVar.new W 0 0 rfl, h.bt.size⟩, fun b y e => ⟨(h.v8 b y e).1.alloc _, (h.v8 b y e).2⟩, fun b y e => ⟨(h.v9 b y e).1.alloc _, (h.v9 b y e).2⟩, fun b y b' y' e e' => by cases e; have := (h.v8 b' y' e').1.lt; omega⟩
theorem Reg.al8 (h : Reg mo w1 c m o7 none o9 W) : Reg mo w1 c m o7 (some (W.heap.size, (0, 0))) o9 (W.alloc (.cells #[.int .i64 0, .int .i64 0] 32)) :=
  ⟨h.bt.alloc _, h.mt.alloc _, fun b y e => ⟨(h.v7 b y e).1.alloc _, (h.v7 b y e).2⟩, fun b y e => by cases e; exact ⟨EVar.new W 0 0 rfl, h.bt.size⟩, fun b y e => ⟨(h.v9 b y e).1.alloc _, (h.v9 b y e).2⟩, fun b y b' y' e e' => by cases e'; have := (h.v7 b y e).1.lt; omega⟩
theorem Reg.al9 (h : Reg mo w1 c m o7 o8 none W) : Reg mo w1 c m o7 o8 (some (W.heap.size, ⟨none, 0⟩)) (W.alloc (.cells #[.pointer none, .int .i64 0] 73)) :=
  ⟨h.bt.alloc _, h.mt.alloc _, fun b y e => ⟨(h.v7 b y e).1.alloc _, (h.v7 b y e).2⟩, fun b y e => ⟨(h.v8 b y e).1.alloc _, (h.v8 b y e).2⟩, fun b y e => by cases e; exact ⟨new_at rfl, h.bt.size⟩, h.ne⟩
theorem Reg.nw7 (h : Reg mo w1 c m none o8 o9 W) (u1 u2 : Int) : Reg mo w1 c m (some (W.heap.size, (u1, u2))) o8 o9 (W.alloc (.cells #[.int .i64 u1, .int .i64 u2] 32)) :=
  ⟨h.bt.alloc _, h.mt.alloc _, fun b y e => by cases e; exact ⟨EVar.new W u1 u2 rfl, h.bt.size⟩, fun b y e => ⟨(h.v8 b y e).1.alloc _, (h.v8 b y e).2⟩, fun b y e => ⟨(h.v9 b y e).1.alloc _, (h.v9 b y e).2⟩, fun b y b' y' e e' => by cases e; have := (h.v8 b' y' e').1.lt; omega⟩
theorem Reg.nw9 (h : Reg mo w1 c m o7 o8 none W) (q : Hp.HP) : Reg mo w1 c m o7 o8 (some (W.heap.size, q)) (W.alloc (.cells #[.pointer q.q, .int .i64 q.n] 73)) :=
  ⟨h.bt.alloc _, h.mt.alloc _, fun b y e => ⟨(h.v7 b y e).1.alloc _, (h.v7 b y e).2⟩, fun b y e => ⟨(h.v8 b y e).1.alloc _, (h.v8 b y e).2⟩, fun b y e => by cases e; exact ⟨new_at rfl, h.bt.size⟩, h.ne⟩
theorem Reg.st7 {b : Nat} {y : Int × Int} (h : Reg mo w1 c m (some (b, y)) o8 none W) (u1 u2 : Int) : Reg mo w1 c m (some (b, (u1, u2))) o8 none ((W.setCell ⟨b, 0, none⟩ (.int .i64 u1)).setCell ⟨b, 1, none⟩ (.int .i64 u2)) := by
  obtain ⟨hv, hs⟩ := h.v7 b y rfl
  exact ⟨(h.bt.own hs 0 _).own hs 1 _, (h.mt.other hv (by decide) 0 _).other (heap_put (j := 0) hv _) (by decide) 1 _, fun b y e => by cases e; exact ⟨hv.put u1 u2, hs⟩, fun b' y' e => ⟨(h.v8 b' y' e).1.aside (fun e2 => h.ne _ _ _ _ rfl e e2.symm) _ _, (h.v8 b' y' e).2⟩, fun _ _ e => by (cases e), fun b y b' y' e e' => by cases e; exact h.ne _ _ _ _ rfl e'⟩
theorem Reg.st8 {b : Nat} {y : Int × Int} (h : Reg mo w1 c m o7 (some (b, y)) none W) (u1 u2 : Int) : Reg mo w1 c m o7 (some (b, (u1, u2))) none ((W.setCell ⟨b, 0, none⟩ (.int .i64 u1)).setCell ⟨b, 1, none⟩ (.int .i64 u2)) := by
  obtain ⟨hv, hs⟩ := h.v8 b y rfl
  exact ⟨(h.bt.own hs 0 _).own hs 1 _, (h.mt.other hv (by decide) 0 _).other (heap_put (j := 0) hv _) (by decide) 1 _, fun b' y' e => ⟨(h.v7 b' y' e).1.aside (h.ne _ _ _ _ e rfl) _ _, (h.v7 b' y' e).2⟩, fun b y e => by cases e; exact ⟨hv.put u1 u2, hs⟩, fun _ _ e => by (cases e), fun b y b' y' e e' => by cases e'; exact h.ne _ _ _ _ e rfl⟩
theorem Reg.st9 {b : Nat} {y : Hp.HP} (h : Reg mo w1 c m o7 o8 (some (b, y)) W) (r : Hp.HP) : Reg mo w1 c m o7 o8 (some (b, r)) ((W.setCell ⟨b, 0, none⟩ (.pointer r.q)).setCell ⟨b, 1, none⟩ (.int .i64 r.n)) := by
  obtain ⟨hv, hs⟩ := h.v9 b y rfl
  have ne : ∀ {b' : Nat} {y' : Int × Int}, EVar W b' y' → b' ≠ b := fun {b'} {y'} he e => by
    subst e
    have h1 : W.heap[b']? = _ := he
    rw [show W.heap[b']? = _ from hv] at h1
    injection h1 with h1
    injection h1 with _ h1
    exact absurd h1 (by decide)
  exact ⟨(h.bt.own hs 0 _).own hs 1 _, (h.mt.other hv (by decide) 0 _).other (heap_put (j := 0) hv _) (by decide) 1 _, fun b' y' e => ⟨(h.v7 b' y' e).1.aside (ne (h.v7 b' y' e).1) _ _, (h.v7 b' y' e).2⟩, fun b' y' e => ⟨(h.v8 b' y' e).1.aside (ne (h.v8 b' y' e).1) _ _, (h.v8 b' y' e).2⟩, fun b y e => by cases e; exact ⟨hv.put r, hs⟩, h.ne⟩
end

/-- compared, the winner and the loser by name. -/
theorem compared_is (mo : Option Nat) (c m : Int) (x1 x2 y1 y2 v1 v2 l1 l2 : Int) (hv : (v1, v2) = win (x1, x2) (y1, y2)) (hl : (l1, l2) = lose (x1, x2) (y1, y2)) (w : World) (hm : MAt w mo c m) (h0 : 0 ≤ c) (h1 : c < 4611686018427387904) :
    Calls Tryz.prog 24 #[mAddr mo, .agg #[.int .i64 x1, .int .i64 x2], .agg #[.int .i64 y1, .int .i64 y2]] w fun e w' => e = .returned (.tuple #[.agg #[.int .i64 v1, .int .i64 v2], .agg #[.int .i64 l1, .int .i64 l2]]) ∧ MAt w' mo (c + 1) m ∧ Bt mo w w' :=
  (compared_any mo c m x1 x2 y1 y2 w hm h0 h1).mono fun _ _ ⟨he, h2⟩ => ⟨by rw [he, ← hv, ← hl], h2⟩
theorem insert_win (r x : Int × Int) (o : Sk) : (Lh.node r o).insert x = .node (win r x) (o.insert (lose r x)) := by
  unfold win lose
  by_cases h : ltE x r = true
  · rw [insert_lt h, if_pos h, if_pos h]
  · rw [insert_ge (by simpa using h), if_neg h, if_neg h]
theorem meld_win (x y : Int × Int) (o p : Sk) : meld (.node x o) (.node y p) = .node (win x y) ((Go.Proofs.YtaeainnkhjnlaaaGreatDoor.meld o p).insert (lose x y)) := by
  unfold win lose
  by_cases h : ltE y x = true
  · rw [meld_lt h, if_pos h, if_pos h]
  · rw [meld_ge (by simpa using h), if_neg h, if_neg h]

/-- The variables of Insert: a heap, an element, what it hands back. -/
structure Fi (W : World) (a : Nat) (p : Option Addr) (x : Int × Int) : Prop where
  h : HVar W a p
  e : EVar W (a + 1) x
  r : HVar W (a + 2) none
theorem Fi.new (w : World) (p : Option Addr) (x1 x2 : Int) : Fi (((w.alloc (.cells #[.pointer p] 29)).alloc (.cells #[.int .i64 x1, .int .i64 x2] 32)).alloc (.cells #[.pointer none] 29)) w.heap.size p (x1, x2) := by
  refine ⟨?_, ?_, ?_⟩
  · show _ = _
    rw [alloc_old _ (by simp only [World.size_alloc]; omega), alloc_old _ (by simp only [World.size_alloc]; omega)]; exact new_at rfl
  · show _ = _
    rw [alloc_old _ (by simp only [World.size_alloc]; omega)]; exact new_at (by simp)
  · exact new_at (by simp)
theorem Fi.below (w : World) (o1 o2 o3 : Obj) : Below w.heap.size w (((w.alloc o1).alloc o2).alloc o3) := (((Below.refl _ _).alloc (Nat.le_refl _) _).alloc (by simp) _).alloc (by simp only [World.size_alloc]; omega) _

set_option maxRecDepth 100000 in
set_option maxHeartbeats 16000000 in
theorem insert_any (mo : Option Nat) (c m : Int) (h : Lh) (x : Int × Int) (p : Option Addr) (w : World) (hs : h.size < 134217728) (hm : MAt w mo c m) (h0 : 0 ≤ c) (h1 : c < 288230376151711744) (h2 : 0 ≤ m) (h3 : m < 288230376151711744)
    (hh : LAt w h p) : Calls Tryz.prog 8 #[hp p, mAddr mo, el x] w (Gave mo (c + h.insC) (m + h.insM) (h.insert x) w) := by
  obtain ⟨x1, x2⟩ := x
  obtain ⟨w1, hw1⟩ : ∃ u, u = ((w.alloc (.cells #[.pointer p] 29)).alloc (.cells #[.int .i64 x1, .int .i64 x2] 32)).alloc (.cells #[.pointer none] 29) := ⟨_, rfl⟩
  have hb1 : Below w.heap.size w w1 := by rw [hw1]; exact Fi.below w _ _ _
  have F1 : Fi w1 w.heap.size p (x1, x2) := by rw [hw1]; exact Fi.new w p x1 x2
  have K1 : Trk NodeT mo w c m w1 := (Trk.refl hm).stay hb1
  have HF := Lib.hid F1
  have KK := Lib.hid K1
  have HH := Lib.hid (show LAt w1 h p from hh.stay hb1)
  have HN := Lib.hid (And.intro hs (And.intro h0 (And.intro h1 (And.intro h2 h3))))
  have HW := Lib.hid hw1
  have f0 := F1.h.c0
  clear hs h0 h1 h2 h3 F1 K1 hb1 hm hw1 hh
  cases h with
  | nil =>
    obtain rfl : p = none := HH.out
    have f1 := HF.out.e.c0
    have f2 := HF.out.e.c1
    have f3 := HF.out.r.c0
    have f4 := HF.out.r.z0
    go_enter Tryz.func8, Tryz.ntmps8
    go_wp2_with fail
    rw [← HW.out]
    obtain ⟨a, ha⟩ : ∃ a, a = w.heap.size := ⟨_, rfl⟩
    rw [← ha] at HF f0 f1 f2 f3 f4 ⊢
    have HA := Lib.hid ha
    clear ha HW
    ((with_reducible refine (build_any mo c m x1 x2 .nil ⟨none, 0⟩ _ KK.out.mt HN.out.2.2.2.1 (by have := HN.out; omega) (Hp.LAt.nil _)).mono ?_); rintro e w2 ⟨p2, rfl, ht2, hm2, hb2⟩)
    have R2 := Lib.hid (HF.out.r.bt hb2 KK.out.mt)
    have K2 := Lib.hid (KK.out.turn hm2 hb2 node_ne)
    have T2 := Lib.hid ht2
    have r6 := R2.out.c0
    have z6 := R2.out.z0
    clear f0 f1 f2 f3 f4 ht2 hm2 hb2
    go_wp2_with fail
    have hk := K2.out.put R2.out heapT_ne (by decide) (by rw [← HA.out]; omega) 0 (.pointer p2)
    exact bodyPost_ret (v := hp p2) (by simp [results, Tryz.results8, go_sem, r6]) rfl ⟨_, rfl, T2.out.wrote R2.out heapT_ne 0 _, by simpa [Lh.insC, Lh.insM] using hk.mt, hk.bt⟩
  | node r o =>
    obtain ⟨r1, r2⟩ := r
    obtain ⟨b, q, rfl, hb, ho⟩ := HH.out
    obtain ⟨⟨v1, v2⟩, hv⟩ : ∃ v, v = win (r1, r2) (x1, x2) := ⟨_, rfl⟩
    obtain ⟨⟨l1, l2⟩, hl⟩ : ∃ v, v = lose (r1, r2) (x1, x2) := ⟨_, rfl⟩
    have HV := Lib.hid (And.intro hv hl)
    have HL := Lib.hid (And.intro hb ho)
    have HO := Lib.hid (show o.size < 134217728 ∧ o.insC ≤ 2 ∧ o.insM ≤ 2 from ⟨by have := HN.out.1; simp only [Lh.size] at this; omega, Go.Proofs.YtaeainnkhjnlaaaGreatDoor.insC_le o, Go.Proofs.YtaeainnkhjnlaaaGreatDoor.insM_le o⟩)
    have g0 := (four hb).c0
    have g1 := (four hb).c1
    clear hv hl hb ho HH
    go_enter Tryz.func8, Tryz.ntmps8
    go_wp2_with fail
    rw [← HW.out]
    obtain ⟨a, ha⟩ : ∃ a, a = w.heap.size := ⟨_, rfl⟩
    rw [← ha] at HF f0 ⊢
    have HA := Lib.hid ha
    clear ha HW f0 g0 g1
    have M1 := Lib.hid KK.out.mt
    have HS := Lib.hid (fun W (hz : Bt mo w1 W) => (show W.cell? ⟨a, 0, none⟩ = some (.pointer (some ⟨b, 0, none⟩)) ∧ W.cell? ⟨b, 0, none⟩ = some (.int .i64 r1) ∧ W.cell? ⟨b, 1, none⟩ = some (.int .i64 r2) ∧ W.cell? ⟨b, 2, none⟩ = some (.pointer q.q) ∧ W.cell? ⟨b, 3, none⟩ = some (.int .i64 q.n) ∧ W.cell? ⟨a + 1, 0, none⟩ = some (.int .i64 x1) ∧ W.cell? ⟨a + 1, 1, none⟩ = some (.int .i64 x2) from
      have k := four (hz.row M1.out HL.out.1 (by decide)); ⟨(HF.out.h.bt hz M1.out).c0, k.c0, k.c1, k.c2, k.c3, (HF.out.e.bt hz M1.out).c0, (HF.out.e.bt hz M1.out).c1⟩))
    have XX := Lib.hid (Reg.refl (mo := mo) M1.out)
    refine wp_after (R := fun a a' w' => ∃ (u17 u18 u19 u20 u21 u22 u23 u24 u16 u25 u26 : Value) (b7 b8 : Nat), a' = (((((((((((((a.put (some 17) u17).put (some 18) u18).put (some 19) u19).put (some 20) u20).put (some 21) u21).put (some 22) u22).put (some 23) u23).put (some 24) u24).put (some 16) u16).put (some 25) u25).put (some 26) u26).put (some 7) (.pointer (some ⟨b7, 0, none⟩))).put (some 8) (.pointer (some ⟨b8, 0, none⟩))) ∧ Reg mo w1 (c + 1) m (some (b7, (v1, v2))) (some (b8, (l1, l2))) none w') ?_ ?_
    · refine wp_region_noPanic ?_
      refine wp_region_held_drew (S := fun w' => w'.cell? ⟨a, 0, none⟩ = some (.pointer (some ⟨b, 0, none⟩)) ∧ w'.cell? ⟨b, 0, none⟩ = some (.int .i64 r1) ∧ w'.cell? ⟨b, 1, none⟩ = some (.int .i64 r2) ∧ w'.cell? ⟨b, 2, none⟩ = some (.pointer q.q) ∧ w'.cell? ⟨b, 3, none⟩ = some (.int .i64 q.n) ∧ w'.cell? ⟨a + 1, 0, none⟩ = some (.int .i64 x1) ∧ w'.cell? ⟨a + 1, 1, none⟩ = some (.int .i64 x2)) (by kernel_rfl) (HS.out _ XX.out.drew.bt) (fun hH => ?_)
      have X := Lib.hid XX.out.drew
      generalize w1.drew = wd at *
      refine wpAnyH_take (i := 0) (oi := { dst := some 17, op := Go.Op.move (Go.Operand.tmp 1), type := 25, pos := "rooted.go:34", after := #[], guard := none }) (v := ?v1_1_0) rfl (by as_aux_lemma => kernel_rfl) (by as_aux_lemma => kernel_rfl) (by as_aux_lemma => kernel_rfl) (fun _ _ _ h => h) (Or.inl ⟨(by as_aux_lemma => kernel_rfl), ?hy1_1_0⟩) hH ?rest1_1_0
      case hy1_1_0 => (intro w hSw; (try dsimp only at hSw); go_simp; try with_reducible rfl)
      try simp only [Act.put, List.setIfInBounds_toArray, List.set_cons_zero, List.set_cons_succ]
      refine wpAnyH_take (i := 1) (oi := { dst := some 18, op := Go.Op.fieldAddr 29 (Go.Operand.tmp 3) 0, type := 0, pos := "rooted.go:34", after := #[], guard := none }) (v := ?v1_2_1) rfl (by as_aux_lemma => kernel_rfl) (by as_aux_lemma => kernel_rfl) (by as_aux_lemma => kernel_rfl) (fun _ _ _ h => h) (Or.inl ⟨(by as_aux_lemma => kernel_rfl), ?hy1_2_1⟩) hH ?rest1_2_1
      case hy1_2_1 => (intro w hSw; (try dsimp only at hSw); go_simp; try with_reducible rfl)
      try simp only [Act.put, List.setIfInBounds_toArray, List.set_cons_zero, List.set_cons_succ]
      refine wpAnyH_take (i := 2) (oi := { dst := some 19, op := Go.Op.load 27 (Go.Operand.tmp 18), type := 27, pos := "rooted.go:34", after := #[{ on := 1, ground := Go.Ground.data }], guard := none }) (v := ?v1_3_2) rfl (by as_aux_lemma => kernel_rfl) (by as_aux_lemma => kernel_rfl) (by as_aux_lemma => kernel_rfl) (fun _ _ _ h => h) (Or.inl ⟨(by as_aux_lemma => kernel_rfl), ?hy1_3_2⟩) hH ?rest1_3_2
      case hy1_3_2 => (intro w hSw; (try dsimp only at hSw); go_simp; try with_reducible rfl)
      try simp only [Act.put, List.setIfInBounds_toArray, List.set_cons_zero, List.set_cons_succ]
      refine wpAnyH_take (i := 3) (oi := { dst := some 20, op := Go.Op.nilCheck (Go.Operand.tmp 19), type := 0, pos := "rooted.go:34", after := #[{ on := 2, ground := Go.Ground.data }], guard := none }) (v := ?v1_4_3) rfl (by as_aux_lemma => kernel_rfl) (by as_aux_lemma => kernel_rfl) (by as_aux_lemma => kernel_rfl) (fun _ _ _ h => h) (Or.inl ⟨(by as_aux_lemma => kernel_rfl), ?hy1_4_3⟩) hH ?rest1_4_3
      case hy1_4_3 => (intro w hSw; (try dsimp only at hSw); go_simp; try with_reducible rfl)
      try simp only [Act.put, List.setIfInBounds_toArray, List.set_cons_zero, List.set_cons_succ]
      refine wpAnyH_take (i := 4) (oi := { dst := some 21, op := Go.Op.fieldAddr 75 (Go.Operand.tmp 20) 0, type := 0, pos := "rooted.go:34", after := #[{ on := 3, ground := Go.Ground.data }], guard := none }) (v := ?v1_5_4) rfl (by as_aux_lemma => kernel_rfl) (by as_aux_lemma => kernel_rfl) (by as_aux_lemma => kernel_rfl) (fun _ _ _ h => h) (Or.inl ⟨(by as_aux_lemma => kernel_rfl), ?hy1_5_4⟩) hH ?rest1_5_4
      case hy1_5_4 => (intro w hSw; (try dsimp only at hSw); go_simp; try with_reducible rfl)
      try simp only [Act.put, List.setIfInBounds_toArray, List.set_cons_zero, List.set_cons_succ]
      refine wpAnyH_take (i := 5) (oi := { dst := some 22, op := Go.Op.load 32 (Go.Operand.tmp 21), type := 32, pos := "rooted.go:34", after := #[{ on := 4, ground := Go.Ground.data }], guard := none }) (v := ?v1_6_5) rfl (by as_aux_lemma => kernel_rfl) (by as_aux_lemma => kernel_rfl) (by as_aux_lemma => kernel_rfl) (fun _ _ _ h => h) (Or.inl ⟨(by as_aux_lemma => kernel_rfl), ?hy1_6_5⟩) hH ?rest1_6_5
      case hy1_6_5 => (intro w hSw; (try dsimp only at hSw); go_simp; try with_reducible rfl)
      try simp only [Act.put, List.setIfInBounds_toArray, List.set_cons_zero, List.set_cons_succ]
      refine wpAnyH_take (i := 6) (oi := { dst := some 23, op := Go.Op.load 32 (Go.Operand.tmp 5), type := 32, pos := "rooted.go:34", after := #[], guard := none }) (v := ?v1_7_6) rfl (by as_aux_lemma => kernel_rfl) (by as_aux_lemma => kernel_rfl) (by as_aux_lemma => kernel_rfl) (fun _ _ _ h => h) (Or.inl ⟨(by as_aux_lemma => kernel_rfl), ?hy1_7_6⟩) hH ?rest1_7_6
      case hy1_7_6 => (intro w hSw; (try dsimp only at hSw); go_simp; try with_reducible rfl)
      try simp only [Act.put, List.setIfInBounds_toArray, List.set_cons_zero, List.set_cons_succ]
      refine wpAnyH_ready (rs := [7, 11, 12]) (by as_aux_lemma => kernel_rfl) (by simp) ?_
      refine (AllReadyH.cons (o := _) rfl (fun K hK => ?_) (AllReadyH.cons (o := _) rfl (fun K hK => ?_) (AllReadyH.cons (o := _) rfl (fun K hK => ?_) AllReadyH.nil)))
      · go_simp
        go_at_call 24
        ((with_reducible refine (compared_is mo c m r1 r2 x1 x2 v1 v2 l1 l2 HV.out.1 HV.out.2 _ X.out.mt HN.out.2.1 (by have := HN.out; omega)).mono ?_); rintro e wc1 ⟨rfl, hm5, hb5⟩)
        refine hK.out _ _ ?_ (fun hH2 => ?_)
        · exact HS.out _ (X.out.turn hm5 hb5).bt
        have Xn := Lib.hid (X.out.turn hm5 hb5)
        clear hK K hH X hm5 hb5
        have hH := hH2
        have X := Xn
        clear hH2 Xn
        try simp only [Act.put, List.setIfInBounds_toArray, List.set_cons_zero, List.set_cons_succ]
        refine wpAnyH_take (i := 8) (oi := { dst := some 16, op := Go.Op.move (Go.Operand.tmp 24), type := 76, pos := "rooted.go:34", after := #[{ on := 7, ground := Go.Ground.data }], guard := none }) (v := ?v1_8_8) rfl (by as_aux_lemma => kernel_rfl) (by as_aux_lemma => kernel_rfl) (by as_aux_lemma => kernel_rfl) (fun _ _ _ h => h) (Or.inl ⟨(by as_aux_lemma => kernel_rfl), ?hy1_8_8⟩) hH ?rest1_8_8
        case hy1_8_8 => (intro w hSw; (try dsimp only at hSw); go_simp; try with_reducible rfl)
        try simp only [Act.put, List.setIfInBounds_toArray, List.set_cons_zero, List.set_cons_succ]
        refine wpAnyH_take (i := 9) (oi := { dst := some 25, op := Go.Op.extract (Go.Operand.tmp 16) 0, type := 32, pos := "rooted.go:34", after := #[{ on := 8, ground := Go.Ground.data }], guard := none }) (v := ?v1_9_9) rfl (by as_aux_lemma => kernel_rfl) (by as_aux_lemma => kernel_rfl) (by as_aux_lemma => kernel_rfl) (fun _ _ _ h => h) (Or.inl ⟨(by as_aux_lemma => kernel_rfl), ?hy1_9_9⟩) hH ?rest1_9_9
        case hy1_9_9 => (intro w hSw; (try dsimp only at hSw); go_simp; try with_reducible rfl)
        try simp only [Act.put, List.setIfInBounds_toArray, List.set_cons_zero, List.set_cons_succ]
        refine wpAnyH_take (i := 10) (oi := { dst := some 26, op := Go.Op.extract (Go.Operand.tmp 16) 1, type := 32, pos := "rooted.go:34", after := #[{ on := 8, ground := Go.Ground.data }, { on := 13, ground := Go.Ground.gcOnly Go.Departure.lateStores }], guard := none }) (v := ?v1_10_10) rfl (by as_aux_lemma => kernel_rfl) (by as_aux_lemma => kernel_rfl) (by as_aux_lemma => kernel_rfl) (fun _ _ _ h => h) (Or.inl ⟨(by as_aux_lemma => kernel_rfl), ?hy1_10_10⟩) hH ?rest1_10_10
        case hy1_10_10 => (intro w hSw; (try dsimp only at hSw); go_simp; try with_reducible rfl)
        try simp only [Act.put, List.setIfInBounds_toArray, List.set_cons_zero, List.set_cons_succ]
        refine wpAnyH_ready (rs := [11, 12]) (by as_aux_lemma => kernel_rfl) (by simp) ?_
        refine (AllReadyH.cons (o := _) rfl (fun K hK => ?_) (AllReadyH.cons (o := _) rfl (fun K hK => ?_) AllReadyH.nil))
        · go_simp
          refine hK.out _ _ ?_ (fun hH2 => ?_)
          · exact HS.out _ (X.out.al7).bt
          have Xn := Lib.hid (X.out.al7)
          clear hK K hH X
          have hH := hH2
          have X := Xn
          clear hH2 Xn
          obtain ⟨b7, hb7⟩ : ∃ u, u = wc1.heap.size := ⟨_, rfl⟩
          rw [← hb7] at X ⊢
          clear hb7
          generalize wc1.alloc (.cells #[.int .i64 0, .int .i64 0] 32) = wa2 at *
          try simp only [Act.put, List.setIfInBounds_toArray, List.set_cons_zero, List.set_cons_succ]
          refine wpAnyH_ready (rs := [12]) (by as_aux_lemma => kernel_rfl) (by simp) ?_
          refine (AllReadyH.cons (o := _) rfl (fun K hK => ?_) AllReadyH.nil)
          go_simp
          refine hK.out _ _ ?_ (fun hH2 => ?_)
          · exact HS.out _ (X.out.al8).bt
          have Xn := Lib.hid (X.out.al8)
          clear hK K hH X
          have hH := hH2
          have X := Xn
          clear hH2 Xn
          obtain ⟨b8, hb8⟩ : ∃ u, u = wa2.heap.size := ⟨_, rfl⟩
          rw [← hb8] at X ⊢
          clear hb8
          generalize wa2.alloc (.cells #[.int .i64 0, .int .i64 0] 32) = wa3 at *
          try simp only [Act.put, List.setIfInBounds_toArray, List.set_cons_zero, List.set_cons_succ]
          have ev := (X.out.v7 _ _ rfl).1
          have ev0 := ev.c0
          have ev1 := ev.c1
          have ez0 := ev.z0
          have ez1 := ev.z1
          refine wpAnyH_ready (rs := [13]) (by as_aux_lemma => kernel_rfl) (by simp) ?_
          refine (AllReadyH.cons (o := _) rfl (fun K hK => ?_) AllReadyH.nil)
          go_simp
          refine hK.out _ _ ?_ (fun hH2 => ?_)
          · exact HS.out _ (X.out.st7 v1 v2).bt
          have Xn := Lib.hid (X.out.st7 v1 v2)
          clear hK K hH X ev ev0 ev1 ez0 ez1
          have hH := hH2
          have X := Xn
          clear hH2 Xn
          generalize (wa3.setCell ⟨b7, 0, none⟩ (.int .i64 v1)).setCell ⟨b7, 1, none⟩ (.int .i64 v2) = wa4 at *
          try simp only [Act.put, List.setIfInBounds_toArray, List.set_cons_zero, List.set_cons_succ]
          have ev := (X.out.v8 _ _ rfl).1
          have ev0 := ev.c0
          have ev1 := ev.c1
          have ez0 := ev.z0
          have ez1 := ev.z1
          refine wpAnyH_ready (rs := [14]) (by as_aux_lemma => kernel_rfl) (by simp) ?_
          refine (AllReadyH.cons (o := _) rfl (fun K hK => ?_) AllReadyH.nil)
          go_simp
          refine hK.out _ _ ?_ (fun hH2 => ?_)
          · exact HS.out _ (X.out.st8 l1 l2).bt
          have Xn := Lib.hid (X.out.st8 l1 l2)
          clear hK K hH X ev ev0 ev1 ez0 ez1
          have hH := hH2
          have X := Xn
          clear hH2 Xn
          generalize (wa4.setCell ⟨b8, 0, none⟩ (.int .i64 l1)).setCell ⟨b8, 1, none⟩ (.int .i64 l2) = wa5 at *
          try simp only [Act.put, List.setIfInBounds_toArray, List.set_cons_zero, List.set_cons_succ]
          refine wpAnyH_done (by as_aux_lemma => kernel_rfl) ?_ _
          refine NoPanic.normal ?_
          clear hH
          exact ⟨rfl, _, _, _, _, _, _, _, _, _, _, _, b7, b8, by (try simp only [Act.put, List.setIfInBounds_toArray, List.set_cons_zero, List.set_cons_succ]); rfl, X.out⟩
        · go_simp
          refine hK.out _ _ ?_ (fun hH2 => ?_)
          · exact HS.out _ (X.out.al8).bt
          have Xn := Lib.hid (X.out.al8)
          clear hK K hH X
          have hH := hH2
          have X := Xn
          clear hH2 Xn
          obtain ⟨b8, hb8⟩ : ∃ u, u = wc1.heap.size := ⟨_, rfl⟩
          rw [← hb8] at X ⊢
          clear hb8
          generalize wc1.alloc (.cells #[.int .i64 0, .int .i64 0] 32) = wa6 at *
          try simp only [Act.put, List.setIfInBounds_toArray, List.set_cons_zero, List.set_cons_succ]
          refine wpAnyH_ready (rs := [11]) (by as_aux_lemma => kernel_rfl) (by simp) ?_
          refine (AllReadyH.cons (o := _) rfl (fun K hK => ?_) AllReadyH.nil)
          go_simp
          refine hK.out _ _ ?_ (fun hH2 => ?_)
          · exact HS.out _ (X.out.al7).bt
          have Xn := Lib.hid (X.out.al7)
          clear hK K hH X
          have hH := hH2
          have X := Xn
          clear hH2 Xn
          obtain ⟨b7, hb7⟩ : ∃ u, u = wa6.heap.size := ⟨_, rfl⟩
          rw [← hb7] at X ⊢
          clear hb7
          generalize wa6.alloc (.cells #[.int .i64 0, .int .i64 0] 32) = wa7 at *
          try simp only [Act.put, List.setIfInBounds_toArray, List.set_cons_zero, List.set_cons_succ]
          have ev := (X.out.v7 _ _ rfl).1
          have ev0 := ev.c0
          have ev1 := ev.c1
          have ez0 := ev.z0
          have ez1 := ev.z1
          refine wpAnyH_ready (rs := [13]) (by as_aux_lemma => kernel_rfl) (by simp) ?_
          refine (AllReadyH.cons (o := _) rfl (fun K hK => ?_) AllReadyH.nil)
          go_simp
          refine hK.out _ _ ?_ (fun hH2 => ?_)
          · exact HS.out _ (X.out.st7 v1 v2).bt
          have Xn := Lib.hid (X.out.st7 v1 v2)
          clear hK K hH X ev ev0 ev1 ez0 ez1
          have hH := hH2
          have X := Xn
          clear hH2 Xn
          generalize (wa7.setCell ⟨b7, 0, none⟩ (.int .i64 v1)).setCell ⟨b7, 1, none⟩ (.int .i64 v2) = wa8 at *
          try simp only [Act.put, List.setIfInBounds_toArray, List.set_cons_zero, List.set_cons_succ]
          have ev := (X.out.v8 _ _ rfl).1
          have ev0 := ev.c0
          have ev1 := ev.c1
          have ez0 := ev.z0
          have ez1 := ev.z1
          refine wpAnyH_ready (rs := [14]) (by as_aux_lemma => kernel_rfl) (by simp) ?_
          refine (AllReadyH.cons (o := _) rfl (fun K hK => ?_) AllReadyH.nil)
          go_simp
          refine hK.out _ _ ?_ (fun hH2 => ?_)
          · exact HS.out _ (X.out.st8 l1 l2).bt
          have Xn := Lib.hid (X.out.st8 l1 l2)
          clear hK K hH X ev ev0 ev1 ez0 ez1
          have hH := hH2
          have X := Xn
          clear hH2 Xn
          generalize (wa8.setCell ⟨b8, 0, none⟩ (.int .i64 l1)).setCell ⟨b8, 1, none⟩ (.int .i64 l2) = wa9 at *
          try simp only [Act.put, List.setIfInBounds_toArray, List.set_cons_zero, List.set_cons_succ]
          refine wpAnyH_done (by as_aux_lemma => kernel_rfl) ?_ _
          refine NoPanic.normal ?_
          clear hH
          exact ⟨rfl, _, _, _, _, _, _, _, _, _, _, _, b7, b8, by (try simp only [Act.put, List.setIfInBounds_toArray, List.set_cons_zero, List.set_cons_succ]); rfl, X.out⟩
      · go_simp
        refine hK.out _ _ ?_ (fun hH2 => ?_)
        · exact HS.out _ (X.out.al7).bt
        have Xn := Lib.hid (X.out.al7)
        clear hK K hH X
        have hH := hH2
        have X := Xn
        clear hH2 Xn
        obtain ⟨b7, hb7⟩ : ∃ u, u = wd.heap.size := ⟨_, rfl⟩
        rw [← hb7] at X ⊢
        clear hb7
        generalize wd.alloc (.cells #[.int .i64 0, .int .i64 0] 32) = wa10 at *
        try simp only [Act.put, List.setIfInBounds_toArray, List.set_cons_zero, List.set_cons_succ]
        refine wpAnyH_ready (rs := [7, 12]) (by as_aux_lemma => kernel_rfl) (by simp) ?_
        refine (AllReadyH.cons (o := _) rfl (fun K hK => ?_) (AllReadyH.cons (o := _) rfl (fun K hK => ?_) AllReadyH.nil))
        · go_simp
          go_at_call 24
          ((with_reducible refine (compared_is mo c m r1 r2 x1 x2 v1 v2 l1 l2 HV.out.1 HV.out.2 _ X.out.mt HN.out.2.1 (by have := HN.out; omega)).mono ?_); rintro e wc11 ⟨rfl, hm5, hb5⟩)
          refine hK.out _ _ ?_ (fun hH2 => ?_)
          · exact HS.out _ (X.out.turn hm5 hb5).bt
          have Xn := Lib.hid (X.out.turn hm5 hb5)
          clear hK K hH X hm5 hb5
          have hH := hH2
          have X := Xn
          clear hH2 Xn
          try simp only [Act.put, List.setIfInBounds_toArray, List.set_cons_zero, List.set_cons_succ]
          refine wpAnyH_take (i := 8) (oi := { dst := some 16, op := Go.Op.move (Go.Operand.tmp 24), type := 76, pos := "rooted.go:34", after := #[{ on := 7, ground := Go.Ground.data }], guard := none }) (v := ?v1_11_8) rfl (by as_aux_lemma => kernel_rfl) (by as_aux_lemma => kernel_rfl) (by as_aux_lemma => kernel_rfl) (fun _ _ _ h => h) (Or.inl ⟨(by as_aux_lemma => kernel_rfl), ?hy1_11_8⟩) hH ?rest1_11_8
          case hy1_11_8 => (intro w hSw; (try dsimp only at hSw); go_simp; try with_reducible rfl)
          try simp only [Act.put, List.setIfInBounds_toArray, List.set_cons_zero, List.set_cons_succ]
          refine wpAnyH_take (i := 9) (oi := { dst := some 25, op := Go.Op.extract (Go.Operand.tmp 16) 0, type := 32, pos := "rooted.go:34", after := #[{ on := 8, ground := Go.Ground.data }], guard := none }) (v := ?v1_12_9) rfl (by as_aux_lemma => kernel_rfl) (by as_aux_lemma => kernel_rfl) (by as_aux_lemma => kernel_rfl) (fun _ _ _ h => h) (Or.inl ⟨(by as_aux_lemma => kernel_rfl), ?hy1_12_9⟩) hH ?rest1_12_9
          case hy1_12_9 => (intro w hSw; (try dsimp only at hSw); go_simp; try with_reducible rfl)
          try simp only [Act.put, List.setIfInBounds_toArray, List.set_cons_zero, List.set_cons_succ]
          refine wpAnyH_take (i := 10) (oi := { dst := some 26, op := Go.Op.extract (Go.Operand.tmp 16) 1, type := 32, pos := "rooted.go:34", after := #[{ on := 8, ground := Go.Ground.data }, { on := 13, ground := Go.Ground.gcOnly Go.Departure.lateStores }], guard := none }) (v := ?v1_13_10) rfl (by as_aux_lemma => kernel_rfl) (by as_aux_lemma => kernel_rfl) (by as_aux_lemma => kernel_rfl) (fun _ _ _ h => h) (Or.inl ⟨(by as_aux_lemma => kernel_rfl), ?hy1_13_10⟩) hH ?rest1_13_10
          case hy1_13_10 => (intro w hSw; (try dsimp only at hSw); go_simp; try with_reducible rfl)
          try simp only [Act.put, List.setIfInBounds_toArray, List.set_cons_zero, List.set_cons_succ]
          refine wpAnyH_ready (rs := [12]) (by as_aux_lemma => kernel_rfl) (by simp) ?_
          refine (AllReadyH.cons (o := _) rfl (fun K hK => ?_) AllReadyH.nil)
          go_simp
          refine hK.out _ _ ?_ (fun hH2 => ?_)
          · exact HS.out _ (X.out.al8).bt
          have Xn := Lib.hid (X.out.al8)
          clear hK K hH X
          have hH := hH2
          have X := Xn
          clear hH2 Xn
          obtain ⟨b8, hb8⟩ : ∃ u, u = wc11.heap.size := ⟨_, rfl⟩
          rw [← hb8] at X ⊢
          clear hb8
          generalize wc11.alloc (.cells #[.int .i64 0, .int .i64 0] 32) = wa12 at *
          try simp only [Act.put, List.setIfInBounds_toArray, List.set_cons_zero, List.set_cons_succ]
          have ev := (X.out.v7 _ _ rfl).1
          have ev0 := ev.c0
          have ev1 := ev.c1
          have ez0 := ev.z0
          have ez1 := ev.z1
          refine wpAnyH_ready (rs := [13]) (by as_aux_lemma => kernel_rfl) (by simp) ?_
          refine (AllReadyH.cons (o := _) rfl (fun K hK => ?_) AllReadyH.nil)
          go_simp
          refine hK.out _ _ ?_ (fun hH2 => ?_)
          · exact HS.out _ (X.out.st7 v1 v2).bt
          have Xn := Lib.hid (X.out.st7 v1 v2)
          clear hK K hH X ev ev0 ev1 ez0 ez1
          have hH := hH2
          have X := Xn
          clear hH2 Xn
          generalize (wa12.setCell ⟨b7, 0, none⟩ (.int .i64 v1)).setCell ⟨b7, 1, none⟩ (.int .i64 v2) = wa13 at *
          try simp only [Act.put, List.setIfInBounds_toArray, List.set_cons_zero, List.set_cons_succ]
          have ev := (X.out.v8 _ _ rfl).1
          have ev0 := ev.c0
          have ev1 := ev.c1
          have ez0 := ev.z0
          have ez1 := ev.z1
          refine wpAnyH_ready (rs := [14]) (by as_aux_lemma => kernel_rfl) (by simp) ?_
          refine (AllReadyH.cons (o := _) rfl (fun K hK => ?_) AllReadyH.nil)
          go_simp
          refine hK.out _ _ ?_ (fun hH2 => ?_)
          · exact HS.out _ (X.out.st8 l1 l2).bt
          have Xn := Lib.hid (X.out.st8 l1 l2)
          clear hK K hH X ev ev0 ev1 ez0 ez1
          have hH := hH2
          have X := Xn
          clear hH2 Xn
          generalize (wa13.setCell ⟨b8, 0, none⟩ (.int .i64 l1)).setCell ⟨b8, 1, none⟩ (.int .i64 l2) = wa14 at *
          try simp only [Act.put, List.setIfInBounds_toArray, List.set_cons_zero, List.set_cons_succ]
          refine wpAnyH_done (by as_aux_lemma => kernel_rfl) ?_ _
          refine NoPanic.normal ?_
          clear hH
          exact ⟨rfl, _, _, _, _, _, _, _, _, _, _, _, b7, b8, by (try simp only [Act.put, List.setIfInBounds_toArray, List.set_cons_zero, List.set_cons_succ]); rfl, X.out⟩
        · go_simp
          refine hK.out _ _ ?_ (fun hH2 => ?_)
          · exact HS.out _ (X.out.al8).bt
          have Xn := Lib.hid (X.out.al8)
          clear hK K hH X
          have hH := hH2
          have X := Xn
          clear hH2 Xn
          obtain ⟨b8, hb8⟩ : ∃ u, u = wa10.heap.size := ⟨_, rfl⟩
          rw [← hb8] at X ⊢
          clear hb8
          generalize wa10.alloc (.cells #[.int .i64 0, .int .i64 0] 32) = wa15 at *
          try simp only [Act.put, List.setIfInBounds_toArray, List.set_cons_zero, List.set_cons_succ]
          refine wpAnyH_ready (rs := [7]) (by as_aux_lemma => kernel_rfl) (by simp) ?_
          refine (AllReadyH.cons (o := _) rfl (fun K hK => ?_) AllReadyH.nil)
          go_simp
          go_at_call 24
          ((with_reducible refine (compared_is mo c m r1 r2 x1 x2 v1 v2 l1 l2 HV.out.1 HV.out.2 _ X.out.mt HN.out.2.1 (by have := HN.out; omega)).mono ?_); rintro e wc16 ⟨rfl, hm5, hb5⟩)
          refine hK.out _ _ ?_ (fun hH2 => ?_)
          · exact HS.out _ (X.out.turn hm5 hb5).bt
          have Xn := Lib.hid (X.out.turn hm5 hb5)
          clear hK K hH X hm5 hb5
          have hH := hH2
          have X := Xn
          clear hH2 Xn
          try simp only [Act.put, List.setIfInBounds_toArray, List.set_cons_zero, List.set_cons_succ]
          refine wpAnyH_take (i := 8) (oi := { dst := some 16, op := Go.Op.move (Go.Operand.tmp 24), type := 76, pos := "rooted.go:34", after := #[{ on := 7, ground := Go.Ground.data }], guard := none }) (v := ?v1_14_8) rfl (by as_aux_lemma => kernel_rfl) (by as_aux_lemma => kernel_rfl) (by as_aux_lemma => kernel_rfl) (fun _ _ _ h => h) (Or.inl ⟨(by as_aux_lemma => kernel_rfl), ?hy1_14_8⟩) hH ?rest1_14_8
          case hy1_14_8 => (intro w hSw; (try dsimp only at hSw); go_simp; try with_reducible rfl)
          try simp only [Act.put, List.setIfInBounds_toArray, List.set_cons_zero, List.set_cons_succ]
          refine wpAnyH_take (i := 9) (oi := { dst := some 25, op := Go.Op.extract (Go.Operand.tmp 16) 0, type := 32, pos := "rooted.go:34", after := #[{ on := 8, ground := Go.Ground.data }], guard := none }) (v := ?v1_15_9) rfl (by as_aux_lemma => kernel_rfl) (by as_aux_lemma => kernel_rfl) (by as_aux_lemma => kernel_rfl) (fun _ _ _ h => h) (Or.inl ⟨(by as_aux_lemma => kernel_rfl), ?hy1_15_9⟩) hH ?rest1_15_9
          case hy1_15_9 => (intro w hSw; (try dsimp only at hSw); go_simp; try with_reducible rfl)
          try simp only [Act.put, List.setIfInBounds_toArray, List.set_cons_zero, List.set_cons_succ]
          refine wpAnyH_take (i := 10) (oi := { dst := some 26, op := Go.Op.extract (Go.Operand.tmp 16) 1, type := 32, pos := "rooted.go:34", after := #[{ on := 8, ground := Go.Ground.data }, { on := 13, ground := Go.Ground.gcOnly Go.Departure.lateStores }], guard := none }) (v := ?v1_16_10) rfl (by as_aux_lemma => kernel_rfl) (by as_aux_lemma => kernel_rfl) (by as_aux_lemma => kernel_rfl) (fun _ _ _ h => h) (Or.inl ⟨(by as_aux_lemma => kernel_rfl), ?hy1_16_10⟩) hH ?rest1_16_10
          case hy1_16_10 => (intro w hSw; (try dsimp only at hSw); go_simp; try with_reducible rfl)
          try simp only [Act.put, List.setIfInBounds_toArray, List.set_cons_zero, List.set_cons_succ]
          have ev := (X.out.v7 _ _ rfl).1
          have ev0 := ev.c0
          have ev1 := ev.c1
          have ez0 := ev.z0
          have ez1 := ev.z1
          refine wpAnyH_ready (rs := [13]) (by as_aux_lemma => kernel_rfl) (by simp) ?_
          refine (AllReadyH.cons (o := _) rfl (fun K hK => ?_) AllReadyH.nil)
          go_simp
          refine hK.out _ _ ?_ (fun hH2 => ?_)
          · exact HS.out _ (X.out.st7 v1 v2).bt
          have Xn := Lib.hid (X.out.st7 v1 v2)
          clear hK K hH X ev ev0 ev1 ez0 ez1
          have hH := hH2
          have X := Xn
          clear hH2 Xn
          generalize (wc16.setCell ⟨b7, 0, none⟩ (.int .i64 v1)).setCell ⟨b7, 1, none⟩ (.int .i64 v2) = wa17 at *
          try simp only [Act.put, List.setIfInBounds_toArray, List.set_cons_zero, List.set_cons_succ]
          have ev := (X.out.v8 _ _ rfl).1
          have ev0 := ev.c0
          have ev1 := ev.c1
          have ez0 := ev.z0
          have ez1 := ev.z1
          refine wpAnyH_ready (rs := [14]) (by as_aux_lemma => kernel_rfl) (by simp) ?_
          refine (AllReadyH.cons (o := _) rfl (fun K hK => ?_) AllReadyH.nil)
          go_simp
          refine hK.out _ _ ?_ (fun hH2 => ?_)
          · exact HS.out _ (X.out.st8 l1 l2).bt
          have Xn := Lib.hid (X.out.st8 l1 l2)
          clear hK K hH X ev ev0 ev1 ez0 ez1
          have hH := hH2
          have X := Xn
          clear hH2 Xn
          generalize (wa17.setCell ⟨b8, 0, none⟩ (.int .i64 l1)).setCell ⟨b8, 1, none⟩ (.int .i64 l2) = wa18 at *
          try simp only [Act.put, List.setIfInBounds_toArray, List.set_cons_zero, List.set_cons_succ]
          refine wpAnyH_done (by as_aux_lemma => kernel_rfl) ?_ _
          refine NoPanic.normal ?_
          clear hH
          exact ⟨rfl, _, _, _, _, _, _, _, _, _, _, _, b7, b8, by (try simp only [Act.put, List.setIfInBounds_toArray, List.set_cons_zero, List.set_cons_succ]); rfl, X.out⟩
      · go_simp
        refine hK.out _ _ ?_ (fun hH2 => ?_)
        · exact HS.out _ (X.out.al8).bt
        have Xn := Lib.hid (X.out.al8)
        clear hK K hH X
        have hH := hH2
        have X := Xn
        clear hH2 Xn
        obtain ⟨b8, hb8⟩ : ∃ u, u = wd.heap.size := ⟨_, rfl⟩
        rw [← hb8] at X ⊢
        clear hb8
        generalize wd.alloc (.cells #[.int .i64 0, .int .i64 0] 32) = wa19 at *
        try simp only [Act.put, List.setIfInBounds_toArray, List.set_cons_zero, List.set_cons_succ]
        refine wpAnyH_ready (rs := [7, 11]) (by as_aux_lemma => kernel_rfl) (by simp) ?_
        refine (AllReadyH.cons (o := _) rfl (fun K hK => ?_) (AllReadyH.cons (o := _) rfl (fun K hK => ?_) AllReadyH.nil))
        · go_simp
          go_at_call 24
          ((with_reducible refine (compared_is mo c m r1 r2 x1 x2 v1 v2 l1 l2 HV.out.1 HV.out.2 _ X.out.mt HN.out.2.1 (by have := HN.out; omega)).mono ?_); rintro e wc20 ⟨rfl, hm5, hb5⟩)
          refine hK.out _ _ ?_ (fun hH2 => ?_)
          · exact HS.out _ (X.out.turn hm5 hb5).bt
          have Xn := Lib.hid (X.out.turn hm5 hb5)
          clear hK K hH X hm5 hb5
          have hH := hH2
          have X := Xn
          clear hH2 Xn
          try simp only [Act.put, List.setIfInBounds_toArray, List.set_cons_zero, List.set_cons_succ]
          refine wpAnyH_take (i := 8) (oi := { dst := some 16, op := Go.Op.move (Go.Operand.tmp 24), type := 76, pos := "rooted.go:34", after := #[{ on := 7, ground := Go.Ground.data }], guard := none }) (v := ?v1_17_8) rfl (by as_aux_lemma => kernel_rfl) (by as_aux_lemma => kernel_rfl) (by as_aux_lemma => kernel_rfl) (fun _ _ _ h => h) (Or.inl ⟨(by as_aux_lemma => kernel_rfl), ?hy1_17_8⟩) hH ?rest1_17_8
          case hy1_17_8 => (intro w hSw; (try dsimp only at hSw); go_simp; try with_reducible rfl)
          try simp only [Act.put, List.setIfInBounds_toArray, List.set_cons_zero, List.set_cons_succ]
          refine wpAnyH_take (i := 9) (oi := { dst := some 25, op := Go.Op.extract (Go.Operand.tmp 16) 0, type := 32, pos := "rooted.go:34", after := #[{ on := 8, ground := Go.Ground.data }], guard := none }) (v := ?v1_18_9) rfl (by as_aux_lemma => kernel_rfl) (by as_aux_lemma => kernel_rfl) (by as_aux_lemma => kernel_rfl) (fun _ _ _ h => h) (Or.inl ⟨(by as_aux_lemma => kernel_rfl), ?hy1_18_9⟩) hH ?rest1_18_9
          case hy1_18_9 => (intro w hSw; (try dsimp only at hSw); go_simp; try with_reducible rfl)
          try simp only [Act.put, List.setIfInBounds_toArray, List.set_cons_zero, List.set_cons_succ]
          refine wpAnyH_take (i := 10) (oi := { dst := some 26, op := Go.Op.extract (Go.Operand.tmp 16) 1, type := 32, pos := "rooted.go:34", after := #[{ on := 8, ground := Go.Ground.data }, { on := 13, ground := Go.Ground.gcOnly Go.Departure.lateStores }], guard := none }) (v := ?v1_19_10) rfl (by as_aux_lemma => kernel_rfl) (by as_aux_lemma => kernel_rfl) (by as_aux_lemma => kernel_rfl) (fun _ _ _ h => h) (Or.inl ⟨(by as_aux_lemma => kernel_rfl), ?hy1_19_10⟩) hH ?rest1_19_10
          case hy1_19_10 => (intro w hSw; (try dsimp only at hSw); go_simp; try with_reducible rfl)
          try simp only [Act.put, List.setIfInBounds_toArray, List.set_cons_zero, List.set_cons_succ]
          refine wpAnyH_ready (rs := [11]) (by as_aux_lemma => kernel_rfl) (by simp) ?_
          refine (AllReadyH.cons (o := _) rfl (fun K hK => ?_) AllReadyH.nil)
          go_simp
          refine hK.out _ _ ?_ (fun hH2 => ?_)
          · exact HS.out _ (X.out.al7).bt
          have Xn := Lib.hid (X.out.al7)
          clear hK K hH X
          have hH := hH2
          have X := Xn
          clear hH2 Xn
          obtain ⟨b7, hb7⟩ : ∃ u, u = wc20.heap.size := ⟨_, rfl⟩
          rw [← hb7] at X ⊢
          clear hb7
          generalize wc20.alloc (.cells #[.int .i64 0, .int .i64 0] 32) = wa21 at *
          try simp only [Act.put, List.setIfInBounds_toArray, List.set_cons_zero, List.set_cons_succ]
          have ev := (X.out.v7 _ _ rfl).1
          have ev0 := ev.c0
          have ev1 := ev.c1
          have ez0 := ev.z0
          have ez1 := ev.z1
          refine wpAnyH_ready (rs := [13]) (by as_aux_lemma => kernel_rfl) (by simp) ?_
          refine (AllReadyH.cons (o := _) rfl (fun K hK => ?_) AllReadyH.nil)
          go_simp
          refine hK.out _ _ ?_ (fun hH2 => ?_)
          · exact HS.out _ (X.out.st7 v1 v2).bt
          have Xn := Lib.hid (X.out.st7 v1 v2)
          clear hK K hH X ev ev0 ev1 ez0 ez1
          have hH := hH2
          have X := Xn
          clear hH2 Xn
          generalize (wa21.setCell ⟨b7, 0, none⟩ (.int .i64 v1)).setCell ⟨b7, 1, none⟩ (.int .i64 v2) = wa22 at *
          try simp only [Act.put, List.setIfInBounds_toArray, List.set_cons_zero, List.set_cons_succ]
          have ev := (X.out.v8 _ _ rfl).1
          have ev0 := ev.c0
          have ev1 := ev.c1
          have ez0 := ev.z0
          have ez1 := ev.z1
          refine wpAnyH_ready (rs := [14]) (by as_aux_lemma => kernel_rfl) (by simp) ?_
          refine (AllReadyH.cons (o := _) rfl (fun K hK => ?_) AllReadyH.nil)
          go_simp
          refine hK.out _ _ ?_ (fun hH2 => ?_)
          · exact HS.out _ (X.out.st8 l1 l2).bt
          have Xn := Lib.hid (X.out.st8 l1 l2)
          clear hK K hH X ev ev0 ev1 ez0 ez1
          have hH := hH2
          have X := Xn
          clear hH2 Xn
          generalize (wa22.setCell ⟨b8, 0, none⟩ (.int .i64 l1)).setCell ⟨b8, 1, none⟩ (.int .i64 l2) = wa23 at *
          try simp only [Act.put, List.setIfInBounds_toArray, List.set_cons_zero, List.set_cons_succ]
          refine wpAnyH_done (by as_aux_lemma => kernel_rfl) ?_ _
          refine NoPanic.normal ?_
          clear hH
          exact ⟨rfl, _, _, _, _, _, _, _, _, _, _, _, b7, b8, by (try simp only [Act.put, List.setIfInBounds_toArray, List.set_cons_zero, List.set_cons_succ]); rfl, X.out⟩
        · go_simp
          refine hK.out _ _ ?_ (fun hH2 => ?_)
          · exact HS.out _ (X.out.al7).bt
          have Xn := Lib.hid (X.out.al7)
          clear hK K hH X
          have hH := hH2
          have X := Xn
          clear hH2 Xn
          obtain ⟨b7, hb7⟩ : ∃ u, u = wa19.heap.size := ⟨_, rfl⟩
          rw [← hb7] at X ⊢
          clear hb7
          generalize wa19.alloc (.cells #[.int .i64 0, .int .i64 0] 32) = wa24 at *
          try simp only [Act.put, List.setIfInBounds_toArray, List.set_cons_zero, List.set_cons_succ]
          refine wpAnyH_ready (rs := [7]) (by as_aux_lemma => kernel_rfl) (by simp) ?_
          refine (AllReadyH.cons (o := _) rfl (fun K hK => ?_) AllReadyH.nil)
          go_simp
          go_at_call 24
          ((with_reducible refine (compared_is mo c m r1 r2 x1 x2 v1 v2 l1 l2 HV.out.1 HV.out.2 _ X.out.mt HN.out.2.1 (by have := HN.out; omega)).mono ?_); rintro e wc25 ⟨rfl, hm5, hb5⟩)
          refine hK.out _ _ ?_ (fun hH2 => ?_)
          · exact HS.out _ (X.out.turn hm5 hb5).bt
          have Xn := Lib.hid (X.out.turn hm5 hb5)
          clear hK K hH X hm5 hb5
          have hH := hH2
          have X := Xn
          clear hH2 Xn
          try simp only [Act.put, List.setIfInBounds_toArray, List.set_cons_zero, List.set_cons_succ]
          refine wpAnyH_take (i := 8) (oi := { dst := some 16, op := Go.Op.move (Go.Operand.tmp 24), type := 76, pos := "rooted.go:34", after := #[{ on := 7, ground := Go.Ground.data }], guard := none }) (v := ?v1_20_8) rfl (by as_aux_lemma => kernel_rfl) (by as_aux_lemma => kernel_rfl) (by as_aux_lemma => kernel_rfl) (fun _ _ _ h => h) (Or.inl ⟨(by as_aux_lemma => kernel_rfl), ?hy1_20_8⟩) hH ?rest1_20_8
          case hy1_20_8 => (intro w hSw; (try dsimp only at hSw); go_simp; try with_reducible rfl)
          try simp only [Act.put, List.setIfInBounds_toArray, List.set_cons_zero, List.set_cons_succ]
          refine wpAnyH_take (i := 9) (oi := { dst := some 25, op := Go.Op.extract (Go.Operand.tmp 16) 0, type := 32, pos := "rooted.go:34", after := #[{ on := 8, ground := Go.Ground.data }], guard := none }) (v := ?v1_21_9) rfl (by as_aux_lemma => kernel_rfl) (by as_aux_lemma => kernel_rfl) (by as_aux_lemma => kernel_rfl) (fun _ _ _ h => h) (Or.inl ⟨(by as_aux_lemma => kernel_rfl), ?hy1_21_9⟩) hH ?rest1_21_9
          case hy1_21_9 => (intro w hSw; (try dsimp only at hSw); go_simp; try with_reducible rfl)
          try simp only [Act.put, List.setIfInBounds_toArray, List.set_cons_zero, List.set_cons_succ]
          refine wpAnyH_take (i := 10) (oi := { dst := some 26, op := Go.Op.extract (Go.Operand.tmp 16) 1, type := 32, pos := "rooted.go:34", after := #[{ on := 8, ground := Go.Ground.data }, { on := 13, ground := Go.Ground.gcOnly Go.Departure.lateStores }], guard := none }) (v := ?v1_22_10) rfl (by as_aux_lemma => kernel_rfl) (by as_aux_lemma => kernel_rfl) (by as_aux_lemma => kernel_rfl) (fun _ _ _ h => h) (Or.inl ⟨(by as_aux_lemma => kernel_rfl), ?hy1_22_10⟩) hH ?rest1_22_10
          case hy1_22_10 => (intro w hSw; (try dsimp only at hSw); go_simp; try with_reducible rfl)
          try simp only [Act.put, List.setIfInBounds_toArray, List.set_cons_zero, List.set_cons_succ]
          have ev := (X.out.v7 _ _ rfl).1
          have ev0 := ev.c0
          have ev1 := ev.c1
          have ez0 := ev.z0
          have ez1 := ev.z1
          refine wpAnyH_ready (rs := [13]) (by as_aux_lemma => kernel_rfl) (by simp) ?_
          refine (AllReadyH.cons (o := _) rfl (fun K hK => ?_) AllReadyH.nil)
          go_simp
          refine hK.out _ _ ?_ (fun hH2 => ?_)
          · exact HS.out _ (X.out.st7 v1 v2).bt
          have Xn := Lib.hid (X.out.st7 v1 v2)
          clear hK K hH X ev ev0 ev1 ez0 ez1
          have hH := hH2
          have X := Xn
          clear hH2 Xn
          generalize (wc25.setCell ⟨b7, 0, none⟩ (.int .i64 v1)).setCell ⟨b7, 1, none⟩ (.int .i64 v2) = wa26 at *
          try simp only [Act.put, List.setIfInBounds_toArray, List.set_cons_zero, List.set_cons_succ]
          have ev := (X.out.v8 _ _ rfl).1
          have ev0 := ev.c0
          have ev1 := ev.c1
          have ez0 := ev.z0
          have ez1 := ev.z1
          refine wpAnyH_ready (rs := [14]) (by as_aux_lemma => kernel_rfl) (by simp) ?_
          refine (AllReadyH.cons (o := _) rfl (fun K hK => ?_) AllReadyH.nil)
          go_simp
          refine hK.out _ _ ?_ (fun hH2 => ?_)
          · exact HS.out _ (X.out.st8 l1 l2).bt
          have Xn := Lib.hid (X.out.st8 l1 l2)
          clear hK K hH X ev ev0 ev1 ez0 ez1
          have hH := hH2
          have X := Xn
          clear hH2 Xn
          generalize (wa26.setCell ⟨b8, 0, none⟩ (.int .i64 l1)).setCell ⟨b8, 1, none⟩ (.int .i64 l2) = wa27 at *
          try simp only [Act.put, List.setIfInBounds_toArray, List.set_cons_zero, List.set_cons_succ]
          refine wpAnyH_done (by as_aux_lemma => kernel_rfl) ?_ _
          refine NoPanic.normal ?_
          clear hH
          exact ⟨rfl, _, _, _, _, _, _, _, _, _, _, _, b7, b8, by (try simp only [Act.put, List.setIfInBounds_toArray, List.set_cons_zero, List.set_cons_succ]); rfl, X.out⟩
    rintro a' w2 ⟨u17, u18, u19, u20, u21, u22, u23, u24, u16, u25, u26, b7, b8, rfl, X2⟩
    try simp only [Act.put, List.setIfInBounds_toArray, List.set_cons_zero, List.set_cons_succ]
    have s0 := (HS.out _ X2.bt).1
    have s1 := (HS.out _ X2.bt).2.2.2.1
    have s2 := (HS.out _ X2.bt).2.2.2.2.1
    have s3 := (X2.v7 _ _ rfl).1.c0
    have s4 := (X2.v7 _ _ rfl).1.c1
    have s5 := (X2.v8 _ _ rfl).1.c0
    have s6 := (X2.v8 _ _ rfl).1.c1
    have hl9 := lt_of_heap (show w1.heap[a + 2]? = _ from HF.out.r)
    have n1 : ¬ a = a + 1 + 1 := by omega
    have n2 : ¬ a + 1 + 1 = a := by omega
    have n3 : ¬ b = a + 1 + 1 := ty_ne HL.out.1 (show w1.heap[a + 1 + 1]? = _ from HF.out.r) (by decide)
    have n4 : ¬ a + 1 + 1 = b := fun e => n3 e.symm
    have n5 : ¬ b7 = a + 1 + 1 := by have := (X2.v7 _ _ rfl).2; omega
    have n6 : ¬ a + 1 + 1 = b7 := fun e => n5 e.symm
    have n7 : ¬ b8 = a + 1 + 1 := by have := (X2.v8 _ _ rfl).2; omega
    have n8 : ¬ a + 1 + 1 = b8 := fun e => n7 e.symm
    clear hl9
    have XA := Lib.hid X2
    clear X2
    go_wp2_with fail
    go_region_held3 (fun w' => w'.cell? ⟨a, 0, none⟩ = some (.pointer (some ⟨b, 0, none⟩)) ∧ w'.cell? ⟨b, 2, none⟩ = some (.pointer q.q) ∧ w'.cell? ⟨b, 3, none⟩ = some (.int .i64 q.n) ∧ w'.cell? ⟨b7, 0, none⟩ = some (.int .i64 v1) ∧ w'.cell? ⟨b7, 1, none⟩ = some (.int .i64 v2) ∧ w'.cell? ⟨b8, 0, none⟩ = some (.int .i64 l1) ∧ w'.cell? ⟨b8, 1, none⟩ = some (.int .i64 l2)) (go_keep)
      (first | (go_at_call 23; ((with_reducible refine (build_any mo _ _ v1 v2 (o.insert (l1, l2)) q5 _ XB.out.mt (by have := HN.out; have := HO.out; omega) (by have := HN.out; have := HO.out; omega) TB.out).mono ?_); rintro e w6 ⟨p6, rfl, ht6, hm6, hb6⟩; have XC := Lib.hid (XB.out.turn hm6 hb6); have TC := Lib.hid ht6; have k0 := (HS.out _ XC.out.bt).1; have k1 := (HS.out _ XC.out.bt).2.2.2.1; have k2 := (HS.out _ XC.out.bt).2.2.2.2.1; have k3 := (XC.out.v7 _ _ rfl).1.c0; have k4 := (XC.out.v7 _ _ rfl).1.c1; have k5 := (XC.out.v8 _ _ rfl).1.c0; have k6 := (XC.out.v8 _ _ rfl).1.c1; have r6 := (HF.out.r.bt XC.out.bt M1.out).c0; have z6 := (HF.out.r.bt XC.out.bt M1.out).z0; clear ht6 hm6 hb6)) | (go_at_call 25; ((with_reducible refine (Hp.insert_any mo _ _ o (l1, l2) q _ HO.out.1 XA.out.drew.mt (by have := HN.out; omega) (by have := HN.out; omega) HN.out.2.2.2.1 (by have := HN.out; omega) (Hp.LAt.bt HL.out.2 XA.out.drew.bt M1.out)).mono ?_); rintro e w5 ⟨q5, rfl, ht5, hm5, hb5⟩; have XB := Lib.hid (XA.out.drew.turn hm5 hb5); have TB := Lib.hid ht5; have g0 := (HS.out _ XB.out.bt).1; have g1 := (HS.out _ XB.out.bt).2.2.2.1; have g2 := (HS.out _ XB.out.bt).2.2.2.2.1; have g3 := (XB.out.v7 _ _ rfl).1.c0; have g4 := (XB.out.v7 _ _ rfl).1.c1; have g5 := (XB.out.v8 _ _ rfl).1.c0; have g6 := (XB.out.v8 _ _ rfl).1.c1; clear ht5 hm5 hb5)))
    go_wp2_with fail
    have hk := (KK.out.turn XC.out.mt XC.out.bt node_ne).put (HF.out.r.bt XC.out.bt M1.out) heapT_ne (by decide) (by rw [← HA.out]; omega) 0 (.pointer p6)
    refine bodyPost_ret (v := hp p6) (by simp [results, Tryz.results8, go_sem, r6]) rfl ⟨_, rfl, ?_, ?_, hk.bt⟩
    · rw [insert_win, ← HV.out.1, ← HV.out.2]
      exact TC.out.wrote (HF.out.r.bt XC.out.bt M1.out) heapT_ne 0 _
    · have e1 : c + (((Lh.node (r1, r2) o).insC : Nat) : Int) = c + 1 + (o.insC : Nat) := by show c + ((o.insC + 1 : Nat) : Int) = _; omega
      have e2 : m + (((Lh.node (r1, r2) o).insM : Nat) : Int) = m + (o.insM : Nat) + 1 := by show m + ((o.insM + 1 : Nat) : Int) = _; omega
      rw [e1, e2]
      exact hk.mt

/-- The variables of Meld: two heaps, what it hands back. -/
structure Fm (W : World) (a : Nat) (p pd : Option Addr) : Prop where
  h : HVar W a p
  o : HVar W (a + 1) pd
  r : HVar W (a + 2) none
theorem Fm.new (w : World) (p pd : Option Addr) : Fm (((w.alloc (.cells #[.pointer p] 29)).alloc (.cells #[.pointer pd] 29)).alloc (.cells #[.pointer none] 29)) w.heap.size p pd := by
  refine ⟨?_, ?_, ?_⟩
  · show _ = _
    rw [alloc_old _ (by simp only [World.size_alloc]; omega), alloc_old _ (by simp only [World.size_alloc]; omega)]; exact new_at rfl
  · show _ = _
    rw [alloc_old _ (by simp only [World.size_alloc]; omega)]; exact new_at (by simp)
  · exact new_at (by simp)

set_option maxRecDepth 100000 in
set_option maxHeartbeats 16000000 in
theorem meld_any (mo : Option Nat) (ta tb : Lh) (c m : Int) (p pd : Option Addr) (w : World) (hs : ta.size + tb.size < 134217728) (hm : MAt w mo c m) (h0 : 0 ≤ c) (h1 : c < 144115188075855872) (h2 : 0 ≤ m) (h3 : m < 144115188075855872)
    (ha : LAt w ta p) (hb : LAt w tb pd) : Calls Tryz.prog 10 #[hp p, mAddr mo, hp pd] w (Gave mo (c + meldC ta tb) (m + meldM ta tb) (meld ta tb) w) := by
  obtain ⟨w1, hw1⟩ : ∃ u, u = ((w.alloc (.cells #[.pointer p] 29)).alloc (.cells #[.pointer pd] 29)).alloc (.cells #[.pointer none] 29) := ⟨_, rfl⟩
  have hb1 : Below w.heap.size w w1 := by rw [hw1]; exact Fi.below w _ _ _
  have F1 : Fm w1 w.heap.size p pd := by rw [hw1]; exact Fm.new w p pd
  have K1 : Trk NodeT mo w c m w1 := (Trk.refl hm).stay hb1
  have HF := Lib.hid F1
  have KK := Lib.hid K1
  have HA_ := Lib.hid (show LAt w1 ta p from ha.stay hb1)
  have HB_ := Lib.hid (show LAt w1 tb pd from hb.stay hb1)
  have HN := Lib.hid (And.intro hs (And.intro h0 (And.intro h1 (And.intro h2 h3))))
  have HW := Lib.hid hw1
  have H0 := Lib.hid (And.intro hm (And.intro ha hb))
  have f0 := F1.h.c0
  have f1 := F1.o.c0
  have f2 := F1.r.c0
  have f3 := F1.r.z0
  clear hs h0 h1 h2 h3 F1 K1 hb1 hm hw1 ha hb
  cases ta with
  | nil =>
    obtain rfl : p = none := HA_.out
    go_enter Tryz.func10, Tryz.ntmps10
    go_wp2_with fail
    have hbe := Fi.below w (.cells #[.pointer none] 29) (.cells #[.pointer pd] 29) (.cells #[.pointer pd] 29)
    exact bodyPost_ret (v := hp pd) (by simp [results, Tryz.results10, go_sem]) rfl ⟨_, rfl, H0.out.2.2.stay hbe, by simpa [meldC, meldM] using H0.out.1.stay hbe, Bt.ofBelow hbe⟩
  | node r o1 =>
    obtain ⟨r1, r2⟩ := r
    obtain ⟨b, q, rfl, hb, ho⟩ := HA_.out
    cases tb with
    | nil =>
      obtain rfl : pd = none := HB_.out
      go_enter Tryz.func10, Tryz.ntmps10
      go_wp2_with fail
      have hbe := Fi.below w (.cells #[.pointer (some ⟨b, 0, none⟩)] 29) (.cells #[.pointer none] 29) (.cells #[.pointer (some ⟨b, 0, none⟩)] 29)
      exact bodyPost_ret (v := hp (some ⟨b, 0, none⟩)) (by simp [results, Tryz.results10, go_sem]) rfl ⟨_, rfl, by rw [meld_right]; exact H0.out.2.1.stay hbe, by simpa [meldC, meldM] using H0.out.1.stay hbe, Bt.ofBelow hbe⟩
    | node x o2 =>
      obtain ⟨x1, x2⟩ := x
      obtain ⟨d, qd, rfl, hd, hod⟩ := HB_.out
      obtain ⟨⟨v1, v2⟩, hv⟩ : ∃ v, v = win (r1, r2) (x1, x2) := ⟨_, rfl⟩
      obtain ⟨⟨l1, l2⟩, hl⟩ : ∃ v, v = lose (r1, r2) (x1, x2) := ⟨_, rfl⟩
      obtain ⟨CM, hCM⟩ : ∃ n, n = meldN o1 o2 := ⟨_, rfl⟩
      have HV := Lib.hid (And.intro hv hl)
      have HL := Lib.hid (And.intro ho hod)
      have HB := Lib.hid (And.intro hb hd)
      have hsz : o1.size + o2.size < 134217728 := by have := HN.out.1; simp only [Lh.size] at this; omega
      have HO := Lib.hid (show o1.size + o2.size < 134217728 ∧ CM < 134217730 ∧ CM = meldN o1 o2 ∧ (Go.Proofs.YtaeainnkhjnlaaaGreatDoor.meld o1 o2).size = o1.size + o2.size ∧ (Go.Proofs.YtaeainnkhjnlaaaGreatDoor.meld o1 o2).insC ≤ 2 ∧ (Go.Proofs.YtaeainnkhjnlaaaGreatDoor.meld o1 o2).insM ≤ 2 from ⟨hsz, by have := meldN_size o1 o2; omega, hCM, Go.Proofs.YtaeainnkhjnlaaaGreatDoor.meld_size o1 o2, Go.Proofs.YtaeainnkhjnlaaaGreatDoor.insC_le _, Go.Proofs.YtaeainnkhjnlaaaGreatDoor.insM_le _⟩)
      have HN := Lib.hid (show o1.size + o2.size < 268435456 ∧ 0 ≤ c ∧ c < 144115188075855872 ∧ 0 ≤ m ∧ m < 144115188075855872 from ⟨by omega, HN.out.2⟩)
      have g0 := (four hb).c0
      have g1 := (four hb).c1
      have g2 := (four hd).c0
      have g3 := (four hd).c1
      clear hv hl hb ho hd hod HA_ HB_ hsz hCM
      go_enter Tryz.func10, Tryz.ntmps10
      go_wp2_with fail
      rw [← HW.out]
      obtain ⟨a, ha⟩ : ∃ a, a = w.heap.size := ⟨_, rfl⟩
      rw [← ha] at HF f0 f1 f2 f3 ⊢
      have HA := Lib.hid ha
      clear ha HW
      try go_wp2_with fail
      clear f0 f1 f2 f3 g0 g1 g2 g3
      have M1 := Lib.hid KK.out.mt
      have HS := Lib.hid (fun W (hz : Bt mo w1 W) => (show W.cell? ⟨a, 0, none⟩ = some (.pointer (some ⟨b, 0, none⟩)) ∧ W.cell? ⟨b, 0, none⟩ = some (.int .i64 r1) ∧ W.cell? ⟨b, 1, none⟩ = some (.int .i64 r2) ∧ W.cell? ⟨b, 2, none⟩ = some (.pointer q.q) ∧ W.cell? ⟨b, 3, none⟩ = some (.int .i64 q.n) ∧ W.cell? ⟨a + 1, 0, none⟩ = some (.pointer (some ⟨d, 0, none⟩)) ∧ W.cell? ⟨d, 0, none⟩ = some (.int .i64 x1) ∧ W.cell? ⟨d, 1, none⟩ = some (.int .i64 x2) ∧ W.cell? ⟨d, 2, none⟩ = some (.pointer qd.q) ∧ W.cell? ⟨d, 3, none⟩ = some (.int .i64 qd.n) from
        have k := four (hz.row M1.out HB.out.1 (by decide)); have l := four (hz.row M1.out HB.out.2 (by decide)); ⟨(HF.out.h.bt hz M1.out).c0, k.c0, k.c1, k.c2, k.c3, (HF.out.o.bt hz M1.out).c0, l.c0, l.c1, l.c2, l.c3⟩))
      have XX := Lib.hid (Reg.refl (mo := mo) M1.out)
      refine wp_after (R := fun a a' w' => ∃ (u19 u20 u21 u22 u23 u24 u25 u26 u27 u28 u29 u30 u18 u31 u32 : Value) (b7 b8 : Nat), a' = (((((((((((((((((a.put (some 19) u19).put (some 20) u20).put (some 21) u21).put (some 22) u22).put (some 23) u23).put (some 24) u24).put (some 25) u25).put (some 26) u26).put (some 27) u27).put (some 28) u28).put (some 29) u29).put (some 30) u30).put (some 18) u18).put (some 31) u31).put (some 32) u32).put (some 7) (.pointer (some ⟨b7, 0, none⟩))).put (some 8) (.pointer (some ⟨b8, 0, none⟩))) ∧ Reg mo w1 (c + 1) m (some (b7, (v1, v2))) (some (b8, (l1, l2))) none w') ?_ ?_
      · refine wp_region_noPanic ?_
        refine wp_region_held_drew (S := fun w' => w'.cell? ⟨a, 0, none⟩ = some (.pointer (some ⟨b, 0, none⟩)) ∧ w'.cell? ⟨b, 0, none⟩ = some (.int .i64 r1) ∧ w'.cell? ⟨b, 1, none⟩ = some (.int .i64 r2) ∧ w'.cell? ⟨b, 2, none⟩ = some (.pointer q.q) ∧ w'.cell? ⟨b, 3, none⟩ = some (.int .i64 q.n) ∧ w'.cell? ⟨a + 1, 0, none⟩ = some (.pointer (some ⟨d, 0, none⟩)) ∧ w'.cell? ⟨d, 0, none⟩ = some (.int .i64 x1) ∧ w'.cell? ⟨d, 1, none⟩ = some (.int .i64 x2) ∧ w'.cell? ⟨d, 2, none⟩ = some (.pointer qd.q) ∧ w'.cell? ⟨d, 3, none⟩ = some (.int .i64 qd.n)) (by kernel_rfl) (HS.out _ XX.out.drew.bt) (fun hH => ?_)
        have X := Lib.hid XX.out.drew
        generalize w1.drew = wd at *
        refine wpAnyH_take (i := 0) (oi := { dst := some 19, op := Go.Op.move (Go.Operand.tmp 1), type := 25, pos := "rooted.go:46", after := #[], guard := none }) (v := ?v2_1_0) rfl (by as_aux_lemma => kernel_rfl) (by as_aux_lemma => kernel_rfl) (by as_aux_lemma => kernel_rfl) (fun _ _ _ h => h) (Or.inl ⟨(by as_aux_lemma => kernel_rfl), ?hy2_1_0⟩) hH ?rest2_1_0
        case hy2_1_0 => (intro w hSw; (try dsimp only at hSw); go_simp; try with_reducible rfl)
        try simp only [Act.put, List.setIfInBounds_toArray, List.set_cons_zero, List.set_cons_succ]
        refine wpAnyH_take (i := 1) (oi := { dst := some 20, op := Go.Op.fieldAddr 29 (Go.Operand.tmp 3) 0, type := 0, pos := "rooted.go:46", after := #[], guard := none }) (v := ?v2_2_1) rfl (by as_aux_lemma => kernel_rfl) (by as_aux_lemma => kernel_rfl) (by as_aux_lemma => kernel_rfl) (fun _ _ _ h => h) (Or.inl ⟨(by as_aux_lemma => kernel_rfl), ?hy2_2_1⟩) hH ?rest2_2_1
        case hy2_2_1 => (intro w hSw; (try dsimp only at hSw); go_simp; try with_reducible rfl)
        try simp only [Act.put, List.setIfInBounds_toArray, List.set_cons_zero, List.set_cons_succ]
        refine wpAnyH_take (i := 2) (oi := { dst := some 21, op := Go.Op.load 27 (Go.Operand.tmp 20), type := 27, pos := "rooted.go:46", after := #[{ on := 1, ground := Go.Ground.data }], guard := none }) (v := ?v2_3_2) rfl (by as_aux_lemma => kernel_rfl) (by as_aux_lemma => kernel_rfl) (by as_aux_lemma => kernel_rfl) (fun _ _ _ h => h) (Or.inl ⟨(by as_aux_lemma => kernel_rfl), ?hy2_3_2⟩) hH ?rest2_3_2
        case hy2_3_2 => (intro w hSw; (try dsimp only at hSw); go_simp; try with_reducible rfl)
        try simp only [Act.put, List.setIfInBounds_toArray, List.set_cons_zero, List.set_cons_succ]
        refine wpAnyH_take (i := 3) (oi := { dst := some 22, op := Go.Op.nilCheck (Go.Operand.tmp 21), type := 0, pos := "rooted.go:46", after := #[{ on := 2, ground := Go.Ground.data }], guard := none }) (v := ?v2_4_3) rfl (by as_aux_lemma => kernel_rfl) (by as_aux_lemma => kernel_rfl) (by as_aux_lemma => kernel_rfl) (fun _ _ _ h => h) (Or.inl ⟨(by as_aux_lemma => kernel_rfl), ?hy2_4_3⟩) hH ?rest2_4_3
        case hy2_4_3 => (intro w hSw; (try dsimp only at hSw); go_simp; try with_reducible rfl)
        try simp only [Act.put, List.setIfInBounds_toArray, List.set_cons_zero, List.set_cons_succ]
        refine wpAnyH_take (i := 4) (oi := { dst := some 23, op := Go.Op.fieldAddr 75 (Go.Operand.tmp 22) 0, type := 0, pos := "rooted.go:46", after := #[{ on := 3, ground := Go.Ground.data }], guard := none }) (v := ?v2_5_4) rfl (by as_aux_lemma => kernel_rfl) (by as_aux_lemma => kernel_rfl) (by as_aux_lemma => kernel_rfl) (fun _ _ _ h => h) (Or.inl ⟨(by as_aux_lemma => kernel_rfl), ?hy2_5_4⟩) hH ?rest2_5_4
        case hy2_5_4 => (intro w hSw; (try dsimp only at hSw); go_simp; try with_reducible rfl)
        try simp only [Act.put, List.setIfInBounds_toArray, List.set_cons_zero, List.set_cons_succ]
        refine wpAnyH_take (i := 5) (oi := { dst := some 24, op := Go.Op.load 32 (Go.Operand.tmp 23), type := 32, pos := "rooted.go:46", after := #[{ on := 4, ground := Go.Ground.data }], guard := none }) (v := ?v2_6_5) rfl (by as_aux_lemma => kernel_rfl) (by as_aux_lemma => kernel_rfl) (by as_aux_lemma => kernel_rfl) (fun _ _ _ h => h) (Or.inl ⟨(by as_aux_lemma => kernel_rfl), ?hy2_6_5⟩) hH ?rest2_6_5
        case hy2_6_5 => (intro w hSw; (try dsimp only at hSw); go_simp; try with_reducible rfl)
        try simp only [Act.put, List.setIfInBounds_toArray, List.set_cons_zero, List.set_cons_succ]
        refine wpAnyH_take (i := 6) (oi := { dst := some 25, op := Go.Op.fieldAddr 29 (Go.Operand.tmp 5) 0, type := 0, pos := "rooted.go:46", after := #[], guard := none }) (v := ?v2_7_6) rfl (by as_aux_lemma => kernel_rfl) (by as_aux_lemma => kernel_rfl) (by as_aux_lemma => kernel_rfl) (fun _ _ _ h => h) (Or.inl ⟨(by as_aux_lemma => kernel_rfl), ?hy2_7_6⟩) hH ?rest2_7_6
        case hy2_7_6 => (intro w hSw; (try dsimp only at hSw); go_simp; try with_reducible rfl)
        try simp only [Act.put, List.setIfInBounds_toArray, List.set_cons_zero, List.set_cons_succ]
        refine wpAnyH_take (i := 7) (oi := { dst := some 26, op := Go.Op.load 27 (Go.Operand.tmp 25), type := 27, pos := "rooted.go:46", after := #[{ on := 6, ground := Go.Ground.data }], guard := none }) (v := ?v2_8_7) rfl (by as_aux_lemma => kernel_rfl) (by as_aux_lemma => kernel_rfl) (by as_aux_lemma => kernel_rfl) (fun _ _ _ h => h) (Or.inl ⟨(by as_aux_lemma => kernel_rfl), ?hy2_8_7⟩) hH ?rest2_8_7
        case hy2_8_7 => (intro w hSw; (try dsimp only at hSw); go_simp; try with_reducible rfl)
        try simp only [Act.put, List.setIfInBounds_toArray, List.set_cons_zero, List.set_cons_succ]
        refine wpAnyH_take (i := 8) (oi := { dst := some 27, op := Go.Op.nilCheck (Go.Operand.tmp 26), type := 0, pos := "rooted.go:46", after := #[{ on := 7, ground := Go.Ground.data }], guard := none }) (v := ?v2_9_8) rfl (by as_aux_lemma => kernel_rfl) (by as_aux_lemma => kernel_rfl) (by as_aux_lemma => kernel_rfl) (fun _ _ _ h => h) (Or.inl ⟨(by as_aux_lemma => kernel_rfl), ?hy2_9_8⟩) hH ?rest2_9_8
        case hy2_9_8 => (intro w hSw; (try dsimp only at hSw); go_simp; try with_reducible rfl)
        try simp only [Act.put, List.setIfInBounds_toArray, List.set_cons_zero, List.set_cons_succ]
        refine wpAnyH_take (i := 9) (oi := { dst := some 28, op := Go.Op.fieldAddr 75 (Go.Operand.tmp 27) 0, type := 0, pos := "rooted.go:46", after := #[{ on := 8, ground := Go.Ground.data }], guard := none }) (v := ?v2_10_9) rfl (by as_aux_lemma => kernel_rfl) (by as_aux_lemma => kernel_rfl) (by as_aux_lemma => kernel_rfl) (fun _ _ _ h => h) (Or.inl ⟨(by as_aux_lemma => kernel_rfl), ?hy2_10_9⟩) hH ?rest2_10_9
        case hy2_10_9 => (intro w hSw; (try dsimp only at hSw); go_simp; try with_reducible rfl)
        try simp only [Act.put, List.setIfInBounds_toArray, List.set_cons_zero, List.set_cons_succ]
        refine wpAnyH_take (i := 10) (oi := { dst := some 29, op := Go.Op.load 32 (Go.Operand.tmp 28), type := 32, pos := "rooted.go:46", after := #[{ on := 9, ground := Go.Ground.data }], guard := none }) (v := ?v2_11_10) rfl (by as_aux_lemma => kernel_rfl) (by as_aux_lemma => kernel_rfl) (by as_aux_lemma => kernel_rfl) (fun _ _ _ h => h) (Or.inl ⟨(by as_aux_lemma => kernel_rfl), ?hy2_11_10⟩) hH ?rest2_11_10
        case hy2_11_10 => (intro w hSw; (try dsimp only at hSw); go_simp; try with_reducible rfl)
        try simp only [Act.put, List.setIfInBounds_toArray, List.set_cons_zero, List.set_cons_succ]
        refine wpAnyH_ready (rs := [11, 15, 16]) (by as_aux_lemma => kernel_rfl) (by simp) ?_
        refine (AllReadyH.cons (o := _) rfl (fun K hK => ?_) (AllReadyH.cons (o := _) rfl (fun K hK => ?_) (AllReadyH.cons (o := _) rfl (fun K hK => ?_) AllReadyH.nil)))
        · go_simp
          go_at_call 24
          ((with_reducible refine (compared_is mo c m r1 r2 x1 x2 v1 v2 l1 l2 HV.out.1 HV.out.2 _ X.out.mt HN.out.2.1 (by have := HN.out; omega)).mono ?_); rintro e wc1 ⟨rfl, hm5, hb5⟩)
          refine hK.out _ _ ?_ (fun hH2 => ?_)
          · exact HS.out _ (X.out.turn hm5 hb5).bt
          have Xn := Lib.hid (X.out.turn hm5 hb5)
          clear hK K hH X hm5 hb5
          have hH := hH2
          have X := Xn
          clear hH2 Xn
          try simp only [Act.put, List.setIfInBounds_toArray, List.set_cons_zero, List.set_cons_succ]
          refine wpAnyH_take (i := 12) (oi := { dst := some 18, op := Go.Op.move (Go.Operand.tmp 30), type := 76, pos := "rooted.go:46", after := #[{ on := 11, ground := Go.Ground.data }], guard := none }) (v := ?v2_12_12) rfl (by as_aux_lemma => kernel_rfl) (by as_aux_lemma => kernel_rfl) (by as_aux_lemma => kernel_rfl) (fun _ _ _ h => h) (Or.inl ⟨(by as_aux_lemma => kernel_rfl), ?hy2_12_12⟩) hH ?rest2_12_12
          case hy2_12_12 => (intro w hSw; (try dsimp only at hSw); go_simp; try with_reducible rfl)
          try simp only [Act.put, List.setIfInBounds_toArray, List.set_cons_zero, List.set_cons_succ]
          refine wpAnyH_take (i := 13) (oi := { dst := some 31, op := Go.Op.extract (Go.Operand.tmp 18) 0, type := 32, pos := "rooted.go:46", after := #[{ on := 12, ground := Go.Ground.data }], guard := none }) (v := ?v2_13_13) rfl (by as_aux_lemma => kernel_rfl) (by as_aux_lemma => kernel_rfl) (by as_aux_lemma => kernel_rfl) (fun _ _ _ h => h) (Or.inl ⟨(by as_aux_lemma => kernel_rfl), ?hy2_13_13⟩) hH ?rest2_13_13
          case hy2_13_13 => (intro w hSw; (try dsimp only at hSw); go_simp; try with_reducible rfl)
          try simp only [Act.put, List.setIfInBounds_toArray, List.set_cons_zero, List.set_cons_succ]
          refine wpAnyH_take (i := 14) (oi := { dst := some 32, op := Go.Op.extract (Go.Operand.tmp 18) 1, type := 32, pos := "rooted.go:46", after := #[{ on := 12, ground := Go.Ground.data }, { on := 17, ground := Go.Ground.gcOnly Go.Departure.lateStores }], guard := none }) (v := ?v2_14_14) rfl (by as_aux_lemma => kernel_rfl) (by as_aux_lemma => kernel_rfl) (by as_aux_lemma => kernel_rfl) (fun _ _ _ h => h) (Or.inl ⟨(by as_aux_lemma => kernel_rfl), ?hy2_14_14⟩) hH ?rest2_14_14
          case hy2_14_14 => (intro w hSw; (try dsimp only at hSw); go_simp; try with_reducible rfl)
          try simp only [Act.put, List.setIfInBounds_toArray, List.set_cons_zero, List.set_cons_succ]
          refine wpAnyH_ready (rs := [15, 16]) (by as_aux_lemma => kernel_rfl) (by simp) ?_
          refine (AllReadyH.cons (o := _) rfl (fun K hK => ?_) (AllReadyH.cons (o := _) rfl (fun K hK => ?_) AllReadyH.nil))
          · go_simp
            refine hK.out _ _ ?_ (fun hH2 => ?_)
            · exact HS.out _ (X.out.al7).bt
            have Xn := Lib.hid (X.out.al7)
            clear hK K hH X
            have hH := hH2
            have X := Xn
            clear hH2 Xn
            obtain ⟨b7, hb7⟩ : ∃ u, u = wc1.heap.size := ⟨_, rfl⟩
            rw [← hb7] at X ⊢
            clear hb7
            generalize wc1.alloc (.cells #[.int .i64 0, .int .i64 0] 32) = wa2 at *
            try simp only [Act.put, List.setIfInBounds_toArray, List.set_cons_zero, List.set_cons_succ]
            refine wpAnyH_ready (rs := [16]) (by as_aux_lemma => kernel_rfl) (by simp) ?_
            refine (AllReadyH.cons (o := _) rfl (fun K hK => ?_) AllReadyH.nil)
            go_simp
            refine hK.out _ _ ?_ (fun hH2 => ?_)
            · exact HS.out _ (X.out.al8).bt
            have Xn := Lib.hid (X.out.al8)
            clear hK K hH X
            have hH := hH2
            have X := Xn
            clear hH2 Xn
            obtain ⟨b8, hb8⟩ : ∃ u, u = wa2.heap.size := ⟨_, rfl⟩
            rw [← hb8] at X ⊢
            clear hb8
            generalize wa2.alloc (.cells #[.int .i64 0, .int .i64 0] 32) = wa3 at *
            try simp only [Act.put, List.setIfInBounds_toArray, List.set_cons_zero, List.set_cons_succ]
            have ev := (X.out.v7 _ _ rfl).1
            have ev0 := ev.c0
            have ev1 := ev.c1
            have ez0 := ev.z0
            have ez1 := ev.z1
            refine wpAnyH_ready (rs := [17]) (by as_aux_lemma => kernel_rfl) (by simp) ?_
            refine (AllReadyH.cons (o := _) rfl (fun K hK => ?_) AllReadyH.nil)
            go_simp
            refine hK.out _ _ ?_ (fun hH2 => ?_)
            · exact HS.out _ (X.out.st7 v1 v2).bt
            have Xn := Lib.hid (X.out.st7 v1 v2)
            clear hK K hH X ev ev0 ev1 ez0 ez1
            have hH := hH2
            have X := Xn
            clear hH2 Xn
            generalize (wa3.setCell ⟨b7, 0, none⟩ (.int .i64 v1)).setCell ⟨b7, 1, none⟩ (.int .i64 v2) = wa4 at *
            try simp only [Act.put, List.setIfInBounds_toArray, List.set_cons_zero, List.set_cons_succ]
            have ev := (X.out.v8 _ _ rfl).1
            have ev0 := ev.c0
            have ev1 := ev.c1
            have ez0 := ev.z0
            have ez1 := ev.z1
            refine wpAnyH_ready (rs := [18]) (by as_aux_lemma => kernel_rfl) (by simp) ?_
            refine (AllReadyH.cons (o := _) rfl (fun K hK => ?_) AllReadyH.nil)
            go_simp
            refine hK.out _ _ ?_ (fun hH2 => ?_)
            · exact HS.out _ (X.out.st8 l1 l2).bt
            have Xn := Lib.hid (X.out.st8 l1 l2)
            clear hK K hH X ev ev0 ev1 ez0 ez1
            have hH := hH2
            have X := Xn
            clear hH2 Xn
            generalize (wa4.setCell ⟨b8, 0, none⟩ (.int .i64 l1)).setCell ⟨b8, 1, none⟩ (.int .i64 l2) = wa5 at *
            try simp only [Act.put, List.setIfInBounds_toArray, List.set_cons_zero, List.set_cons_succ]
            refine wpAnyH_done (by as_aux_lemma => kernel_rfl) ?_ _
            refine NoPanic.normal ?_
            clear hH
            exact ⟨rfl, _, _, _, _, _, _, _, _, _, _, _, _, _, _, _, b7, b8, by (try simp only [Act.put, List.setIfInBounds_toArray, List.set_cons_zero, List.set_cons_succ]); rfl, X.out⟩
          · go_simp
            refine hK.out _ _ ?_ (fun hH2 => ?_)
            · exact HS.out _ (X.out.al8).bt
            have Xn := Lib.hid (X.out.al8)
            clear hK K hH X
            have hH := hH2
            have X := Xn
            clear hH2 Xn
            obtain ⟨b8, hb8⟩ : ∃ u, u = wc1.heap.size := ⟨_, rfl⟩
            rw [← hb8] at X ⊢
            clear hb8
            generalize wc1.alloc (.cells #[.int .i64 0, .int .i64 0] 32) = wa6 at *
            try simp only [Act.put, List.setIfInBounds_toArray, List.set_cons_zero, List.set_cons_succ]
            refine wpAnyH_ready (rs := [15]) (by as_aux_lemma => kernel_rfl) (by simp) ?_
            refine (AllReadyH.cons (o := _) rfl (fun K hK => ?_) AllReadyH.nil)
            go_simp
            refine hK.out _ _ ?_ (fun hH2 => ?_)
            · exact HS.out _ (X.out.al7).bt
            have Xn := Lib.hid (X.out.al7)
            clear hK K hH X
            have hH := hH2
            have X := Xn
            clear hH2 Xn
            obtain ⟨b7, hb7⟩ : ∃ u, u = wa6.heap.size := ⟨_, rfl⟩
            rw [← hb7] at X ⊢
            clear hb7
            generalize wa6.alloc (.cells #[.int .i64 0, .int .i64 0] 32) = wa7 at *
            try simp only [Act.put, List.setIfInBounds_toArray, List.set_cons_zero, List.set_cons_succ]
            have ev := (X.out.v7 _ _ rfl).1
            have ev0 := ev.c0
            have ev1 := ev.c1
            have ez0 := ev.z0
            have ez1 := ev.z1
            refine wpAnyH_ready (rs := [17]) (by as_aux_lemma => kernel_rfl) (by simp) ?_
            refine (AllReadyH.cons (o := _) rfl (fun K hK => ?_) AllReadyH.nil)
            go_simp
            refine hK.out _ _ ?_ (fun hH2 => ?_)
            · exact HS.out _ (X.out.st7 v1 v2).bt
            have Xn := Lib.hid (X.out.st7 v1 v2)
            clear hK K hH X ev ev0 ev1 ez0 ez1
            have hH := hH2
            have X := Xn
            clear hH2 Xn
            generalize (wa7.setCell ⟨b7, 0, none⟩ (.int .i64 v1)).setCell ⟨b7, 1, none⟩ (.int .i64 v2) = wa8 at *
            try simp only [Act.put, List.setIfInBounds_toArray, List.set_cons_zero, List.set_cons_succ]
            have ev := (X.out.v8 _ _ rfl).1
            have ev0 := ev.c0
            have ev1 := ev.c1
            have ez0 := ev.z0
            have ez1 := ev.z1
            refine wpAnyH_ready (rs := [18]) (by as_aux_lemma => kernel_rfl) (by simp) ?_
            refine (AllReadyH.cons (o := _) rfl (fun K hK => ?_) AllReadyH.nil)
            go_simp
            refine hK.out _ _ ?_ (fun hH2 => ?_)
            · exact HS.out _ (X.out.st8 l1 l2).bt
            have Xn := Lib.hid (X.out.st8 l1 l2)
            clear hK K hH X ev ev0 ev1 ez0 ez1
            have hH := hH2
            have X := Xn
            clear hH2 Xn
            generalize (wa8.setCell ⟨b8, 0, none⟩ (.int .i64 l1)).setCell ⟨b8, 1, none⟩ (.int .i64 l2) = wa9 at *
            try simp only [Act.put, List.setIfInBounds_toArray, List.set_cons_zero, List.set_cons_succ]
            refine wpAnyH_done (by as_aux_lemma => kernel_rfl) ?_ _
            refine NoPanic.normal ?_
            clear hH
            exact ⟨rfl, _, _, _, _, _, _, _, _, _, _, _, _, _, _, _, b7, b8, by (try simp only [Act.put, List.setIfInBounds_toArray, List.set_cons_zero, List.set_cons_succ]); rfl, X.out⟩
        · go_simp
          refine hK.out _ _ ?_ (fun hH2 => ?_)
          · exact HS.out _ (X.out.al7).bt
          have Xn := Lib.hid (X.out.al7)
          clear hK K hH X
          have hH := hH2
          have X := Xn
          clear hH2 Xn
          obtain ⟨b7, hb7⟩ : ∃ u, u = wd.heap.size := ⟨_, rfl⟩
          rw [← hb7] at X ⊢
          clear hb7
          generalize wd.alloc (.cells #[.int .i64 0, .int .i64 0] 32) = wa10 at *
          try simp only [Act.put, List.setIfInBounds_toArray, List.set_cons_zero, List.set_cons_succ]
          refine wpAnyH_ready (rs := [11, 16]) (by as_aux_lemma => kernel_rfl) (by simp) ?_
          refine (AllReadyH.cons (o := _) rfl (fun K hK => ?_) (AllReadyH.cons (o := _) rfl (fun K hK => ?_) AllReadyH.nil))
          · go_simp
            go_at_call 24
            ((with_reducible refine (compared_is mo c m r1 r2 x1 x2 v1 v2 l1 l2 HV.out.1 HV.out.2 _ X.out.mt HN.out.2.1 (by have := HN.out; omega)).mono ?_); rintro e wc11 ⟨rfl, hm5, hb5⟩)
            refine hK.out _ _ ?_ (fun hH2 => ?_)
            · exact HS.out _ (X.out.turn hm5 hb5).bt
            have Xn := Lib.hid (X.out.turn hm5 hb5)
            clear hK K hH X hm5 hb5
            have hH := hH2
            have X := Xn
            clear hH2 Xn
            try simp only [Act.put, List.setIfInBounds_toArray, List.set_cons_zero, List.set_cons_succ]
            refine wpAnyH_take (i := 12) (oi := { dst := some 18, op := Go.Op.move (Go.Operand.tmp 30), type := 76, pos := "rooted.go:46", after := #[{ on := 11, ground := Go.Ground.data }], guard := none }) (v := ?v2_15_12) rfl (by as_aux_lemma => kernel_rfl) (by as_aux_lemma => kernel_rfl) (by as_aux_lemma => kernel_rfl) (fun _ _ _ h => h) (Or.inl ⟨(by as_aux_lemma => kernel_rfl), ?hy2_15_12⟩) hH ?rest2_15_12
            case hy2_15_12 => (intro w hSw; (try dsimp only at hSw); go_simp; try with_reducible rfl)
            try simp only [Act.put, List.setIfInBounds_toArray, List.set_cons_zero, List.set_cons_succ]
            refine wpAnyH_take (i := 13) (oi := { dst := some 31, op := Go.Op.extract (Go.Operand.tmp 18) 0, type := 32, pos := "rooted.go:46", after := #[{ on := 12, ground := Go.Ground.data }], guard := none }) (v := ?v2_16_13) rfl (by as_aux_lemma => kernel_rfl) (by as_aux_lemma => kernel_rfl) (by as_aux_lemma => kernel_rfl) (fun _ _ _ h => h) (Or.inl ⟨(by as_aux_lemma => kernel_rfl), ?hy2_16_13⟩) hH ?rest2_16_13
            case hy2_16_13 => (intro w hSw; (try dsimp only at hSw); go_simp; try with_reducible rfl)
            try simp only [Act.put, List.setIfInBounds_toArray, List.set_cons_zero, List.set_cons_succ]
            refine wpAnyH_take (i := 14) (oi := { dst := some 32, op := Go.Op.extract (Go.Operand.tmp 18) 1, type := 32, pos := "rooted.go:46", after := #[{ on := 12, ground := Go.Ground.data }, { on := 17, ground := Go.Ground.gcOnly Go.Departure.lateStores }], guard := none }) (v := ?v2_17_14) rfl (by as_aux_lemma => kernel_rfl) (by as_aux_lemma => kernel_rfl) (by as_aux_lemma => kernel_rfl) (fun _ _ _ h => h) (Or.inl ⟨(by as_aux_lemma => kernel_rfl), ?hy2_17_14⟩) hH ?rest2_17_14
            case hy2_17_14 => (intro w hSw; (try dsimp only at hSw); go_simp; try with_reducible rfl)
            try simp only [Act.put, List.setIfInBounds_toArray, List.set_cons_zero, List.set_cons_succ]
            refine wpAnyH_ready (rs := [16]) (by as_aux_lemma => kernel_rfl) (by simp) ?_
            refine (AllReadyH.cons (o := _) rfl (fun K hK => ?_) AllReadyH.nil)
            go_simp
            refine hK.out _ _ ?_ (fun hH2 => ?_)
            · exact HS.out _ (X.out.al8).bt
            have Xn := Lib.hid (X.out.al8)
            clear hK K hH X
            have hH := hH2
            have X := Xn
            clear hH2 Xn
            obtain ⟨b8, hb8⟩ : ∃ u, u = wc11.heap.size := ⟨_, rfl⟩
            rw [← hb8] at X ⊢
            clear hb8
            generalize wc11.alloc (.cells #[.int .i64 0, .int .i64 0] 32) = wa12 at *
            try simp only [Act.put, List.setIfInBounds_toArray, List.set_cons_zero, List.set_cons_succ]
            have ev := (X.out.v7 _ _ rfl).1
            have ev0 := ev.c0
            have ev1 := ev.c1
            have ez0 := ev.z0
            have ez1 := ev.z1
            refine wpAnyH_ready (rs := [17]) (by as_aux_lemma => kernel_rfl) (by simp) ?_
            refine (AllReadyH.cons (o := _) rfl (fun K hK => ?_) AllReadyH.nil)
            go_simp
            refine hK.out _ _ ?_ (fun hH2 => ?_)
            · exact HS.out _ (X.out.st7 v1 v2).bt
            have Xn := Lib.hid (X.out.st7 v1 v2)
            clear hK K hH X ev ev0 ev1 ez0 ez1
            have hH := hH2
            have X := Xn
            clear hH2 Xn
            generalize (wa12.setCell ⟨b7, 0, none⟩ (.int .i64 v1)).setCell ⟨b7, 1, none⟩ (.int .i64 v2) = wa13 at *
            try simp only [Act.put, List.setIfInBounds_toArray, List.set_cons_zero, List.set_cons_succ]
            have ev := (X.out.v8 _ _ rfl).1
            have ev0 := ev.c0
            have ev1 := ev.c1
            have ez0 := ev.z0
            have ez1 := ev.z1
            refine wpAnyH_ready (rs := [18]) (by as_aux_lemma => kernel_rfl) (by simp) ?_
            refine (AllReadyH.cons (o := _) rfl (fun K hK => ?_) AllReadyH.nil)
            go_simp
            refine hK.out _ _ ?_ (fun hH2 => ?_)
            · exact HS.out _ (X.out.st8 l1 l2).bt
            have Xn := Lib.hid (X.out.st8 l1 l2)
            clear hK K hH X ev ev0 ev1 ez0 ez1
            have hH := hH2
            have X := Xn
            clear hH2 Xn
            generalize (wa13.setCell ⟨b8, 0, none⟩ (.int .i64 l1)).setCell ⟨b8, 1, none⟩ (.int .i64 l2) = wa14 at *
            try simp only [Act.put, List.setIfInBounds_toArray, List.set_cons_zero, List.set_cons_succ]
            refine wpAnyH_done (by as_aux_lemma => kernel_rfl) ?_ _
            refine NoPanic.normal ?_
            clear hH
            exact ⟨rfl, _, _, _, _, _, _, _, _, _, _, _, _, _, _, _, b7, b8, by (try simp only [Act.put, List.setIfInBounds_toArray, List.set_cons_zero, List.set_cons_succ]); rfl, X.out⟩
          · go_simp
            refine hK.out _ _ ?_ (fun hH2 => ?_)
            · exact HS.out _ (X.out.al8).bt
            have Xn := Lib.hid (X.out.al8)
            clear hK K hH X
            have hH := hH2
            have X := Xn
            clear hH2 Xn
            obtain ⟨b8, hb8⟩ : ∃ u, u = wa10.heap.size := ⟨_, rfl⟩
            rw [← hb8] at X ⊢
            clear hb8
            generalize wa10.alloc (.cells #[.int .i64 0, .int .i64 0] 32) = wa15 at *
            try simp only [Act.put, List.setIfInBounds_toArray, List.set_cons_zero, List.set_cons_succ]
            refine wpAnyH_ready (rs := [11]) (by as_aux_lemma => kernel_rfl) (by simp) ?_
            refine (AllReadyH.cons (o := _) rfl (fun K hK => ?_) AllReadyH.nil)
            go_simp
            go_at_call 24
            ((with_reducible refine (compared_is mo c m r1 r2 x1 x2 v1 v2 l1 l2 HV.out.1 HV.out.2 _ X.out.mt HN.out.2.1 (by have := HN.out; omega)).mono ?_); rintro e wc16 ⟨rfl, hm5, hb5⟩)
            refine hK.out _ _ ?_ (fun hH2 => ?_)
            · exact HS.out _ (X.out.turn hm5 hb5).bt
            have Xn := Lib.hid (X.out.turn hm5 hb5)
            clear hK K hH X hm5 hb5
            have hH := hH2
            have X := Xn
            clear hH2 Xn
            try simp only [Act.put, List.setIfInBounds_toArray, List.set_cons_zero, List.set_cons_succ]
            refine wpAnyH_take (i := 12) (oi := { dst := some 18, op := Go.Op.move (Go.Operand.tmp 30), type := 76, pos := "rooted.go:46", after := #[{ on := 11, ground := Go.Ground.data }], guard := none }) (v := ?v2_18_12) rfl (by as_aux_lemma => kernel_rfl) (by as_aux_lemma => kernel_rfl) (by as_aux_lemma => kernel_rfl) (fun _ _ _ h => h) (Or.inl ⟨(by as_aux_lemma => kernel_rfl), ?hy2_18_12⟩) hH ?rest2_18_12
            case hy2_18_12 => (intro w hSw; (try dsimp only at hSw); go_simp; try with_reducible rfl)
            try simp only [Act.put, List.setIfInBounds_toArray, List.set_cons_zero, List.set_cons_succ]
            refine wpAnyH_take (i := 13) (oi := { dst := some 31, op := Go.Op.extract (Go.Operand.tmp 18) 0, type := 32, pos := "rooted.go:46", after := #[{ on := 12, ground := Go.Ground.data }], guard := none }) (v := ?v2_19_13) rfl (by as_aux_lemma => kernel_rfl) (by as_aux_lemma => kernel_rfl) (by as_aux_lemma => kernel_rfl) (fun _ _ _ h => h) (Or.inl ⟨(by as_aux_lemma => kernel_rfl), ?hy2_19_13⟩) hH ?rest2_19_13
            case hy2_19_13 => (intro w hSw; (try dsimp only at hSw); go_simp; try with_reducible rfl)
            try simp only [Act.put, List.setIfInBounds_toArray, List.set_cons_zero, List.set_cons_succ]
            refine wpAnyH_take (i := 14) (oi := { dst := some 32, op := Go.Op.extract (Go.Operand.tmp 18) 1, type := 32, pos := "rooted.go:46", after := #[{ on := 12, ground := Go.Ground.data }, { on := 17, ground := Go.Ground.gcOnly Go.Departure.lateStores }], guard := none }) (v := ?v2_20_14) rfl (by as_aux_lemma => kernel_rfl) (by as_aux_lemma => kernel_rfl) (by as_aux_lemma => kernel_rfl) (fun _ _ _ h => h) (Or.inl ⟨(by as_aux_lemma => kernel_rfl), ?hy2_20_14⟩) hH ?rest2_20_14
            case hy2_20_14 => (intro w hSw; (try dsimp only at hSw); go_simp; try with_reducible rfl)
            try simp only [Act.put, List.setIfInBounds_toArray, List.set_cons_zero, List.set_cons_succ]
            have ev := (X.out.v7 _ _ rfl).1
            have ev0 := ev.c0
            have ev1 := ev.c1
            have ez0 := ev.z0
            have ez1 := ev.z1
            refine wpAnyH_ready (rs := [17]) (by as_aux_lemma => kernel_rfl) (by simp) ?_
            refine (AllReadyH.cons (o := _) rfl (fun K hK => ?_) AllReadyH.nil)
            go_simp
            refine hK.out _ _ ?_ (fun hH2 => ?_)
            · exact HS.out _ (X.out.st7 v1 v2).bt
            have Xn := Lib.hid (X.out.st7 v1 v2)
            clear hK K hH X ev ev0 ev1 ez0 ez1
            have hH := hH2
            have X := Xn
            clear hH2 Xn
            generalize (wc16.setCell ⟨b7, 0, none⟩ (.int .i64 v1)).setCell ⟨b7, 1, none⟩ (.int .i64 v2) = wa17 at *
            try simp only [Act.put, List.setIfInBounds_toArray, List.set_cons_zero, List.set_cons_succ]
            have ev := (X.out.v8 _ _ rfl).1
            have ev0 := ev.c0
            have ev1 := ev.c1
            have ez0 := ev.z0
            have ez1 := ev.z1
            refine wpAnyH_ready (rs := [18]) (by as_aux_lemma => kernel_rfl) (by simp) ?_
            refine (AllReadyH.cons (o := _) rfl (fun K hK => ?_) AllReadyH.nil)
            go_simp
            refine hK.out _ _ ?_ (fun hH2 => ?_)
            · exact HS.out _ (X.out.st8 l1 l2).bt
            have Xn := Lib.hid (X.out.st8 l1 l2)
            clear hK K hH X ev ev0 ev1 ez0 ez1
            have hH := hH2
            have X := Xn
            clear hH2 Xn
            generalize (wa17.setCell ⟨b8, 0, none⟩ (.int .i64 l1)).setCell ⟨b8, 1, none⟩ (.int .i64 l2) = wa18 at *
            try simp only [Act.put, List.setIfInBounds_toArray, List.set_cons_zero, List.set_cons_succ]
            refine wpAnyH_done (by as_aux_lemma => kernel_rfl) ?_ _
            refine NoPanic.normal ?_
            clear hH
            exact ⟨rfl, _, _, _, _, _, _, _, _, _, _, _, _, _, _, _, b7, b8, by (try simp only [Act.put, List.setIfInBounds_toArray, List.set_cons_zero, List.set_cons_succ]); rfl, X.out⟩
        · go_simp
          refine hK.out _ _ ?_ (fun hH2 => ?_)
          · exact HS.out _ (X.out.al8).bt
          have Xn := Lib.hid (X.out.al8)
          clear hK K hH X
          have hH := hH2
          have X := Xn
          clear hH2 Xn
          obtain ⟨b8, hb8⟩ : ∃ u, u = wd.heap.size := ⟨_, rfl⟩
          rw [← hb8] at X ⊢
          clear hb8
          generalize wd.alloc (.cells #[.int .i64 0, .int .i64 0] 32) = wa19 at *
          try simp only [Act.put, List.setIfInBounds_toArray, List.set_cons_zero, List.set_cons_succ]
          refine wpAnyH_ready (rs := [11, 15]) (by as_aux_lemma => kernel_rfl) (by simp) ?_
          refine (AllReadyH.cons (o := _) rfl (fun K hK => ?_) (AllReadyH.cons (o := _) rfl (fun K hK => ?_) AllReadyH.nil))
          · go_simp
            go_at_call 24
            ((with_reducible refine (compared_is mo c m r1 r2 x1 x2 v1 v2 l1 l2 HV.out.1 HV.out.2 _ X.out.mt HN.out.2.1 (by have := HN.out; omega)).mono ?_); rintro e wc20 ⟨rfl, hm5, hb5⟩)
            refine hK.out _ _ ?_ (fun hH2 => ?_)
            · exact HS.out _ (X.out.turn hm5 hb5).bt
            have Xn := Lib.hid (X.out.turn hm5 hb5)
            clear hK K hH X hm5 hb5
            have hH := hH2
            have X := Xn
            clear hH2 Xn
            try simp only [Act.put, List.setIfInBounds_toArray, List.set_cons_zero, List.set_cons_succ]
            refine wpAnyH_take (i := 12) (oi := { dst := some 18, op := Go.Op.move (Go.Operand.tmp 30), type := 76, pos := "rooted.go:46", after := #[{ on := 11, ground := Go.Ground.data }], guard := none }) (v := ?v2_21_12) rfl (by as_aux_lemma => kernel_rfl) (by as_aux_lemma => kernel_rfl) (by as_aux_lemma => kernel_rfl) (fun _ _ _ h => h) (Or.inl ⟨(by as_aux_lemma => kernel_rfl), ?hy2_21_12⟩) hH ?rest2_21_12
            case hy2_21_12 => (intro w hSw; (try dsimp only at hSw); go_simp; try with_reducible rfl)
            try simp only [Act.put, List.setIfInBounds_toArray, List.set_cons_zero, List.set_cons_succ]
            refine wpAnyH_take (i := 13) (oi := { dst := some 31, op := Go.Op.extract (Go.Operand.tmp 18) 0, type := 32, pos := "rooted.go:46", after := #[{ on := 12, ground := Go.Ground.data }], guard := none }) (v := ?v2_22_13) rfl (by as_aux_lemma => kernel_rfl) (by as_aux_lemma => kernel_rfl) (by as_aux_lemma => kernel_rfl) (fun _ _ _ h => h) (Or.inl ⟨(by as_aux_lemma => kernel_rfl), ?hy2_22_13⟩) hH ?rest2_22_13
            case hy2_22_13 => (intro w hSw; (try dsimp only at hSw); go_simp; try with_reducible rfl)
            try simp only [Act.put, List.setIfInBounds_toArray, List.set_cons_zero, List.set_cons_succ]
            refine wpAnyH_take (i := 14) (oi := { dst := some 32, op := Go.Op.extract (Go.Operand.tmp 18) 1, type := 32, pos := "rooted.go:46", after := #[{ on := 12, ground := Go.Ground.data }, { on := 17, ground := Go.Ground.gcOnly Go.Departure.lateStores }], guard := none }) (v := ?v2_23_14) rfl (by as_aux_lemma => kernel_rfl) (by as_aux_lemma => kernel_rfl) (by as_aux_lemma => kernel_rfl) (fun _ _ _ h => h) (Or.inl ⟨(by as_aux_lemma => kernel_rfl), ?hy2_23_14⟩) hH ?rest2_23_14
            case hy2_23_14 => (intro w hSw; (try dsimp only at hSw); go_simp; try with_reducible rfl)
            try simp only [Act.put, List.setIfInBounds_toArray, List.set_cons_zero, List.set_cons_succ]
            refine wpAnyH_ready (rs := [15]) (by as_aux_lemma => kernel_rfl) (by simp) ?_
            refine (AllReadyH.cons (o := _) rfl (fun K hK => ?_) AllReadyH.nil)
            go_simp
            refine hK.out _ _ ?_ (fun hH2 => ?_)
            · exact HS.out _ (X.out.al7).bt
            have Xn := Lib.hid (X.out.al7)
            clear hK K hH X
            have hH := hH2
            have X := Xn
            clear hH2 Xn
            obtain ⟨b7, hb7⟩ : ∃ u, u = wc20.heap.size := ⟨_, rfl⟩
            rw [← hb7] at X ⊢
            clear hb7
            generalize wc20.alloc (.cells #[.int .i64 0, .int .i64 0] 32) = wa21 at *
            try simp only [Act.put, List.setIfInBounds_toArray, List.set_cons_zero, List.set_cons_succ]
            have ev := (X.out.v7 _ _ rfl).1
            have ev0 := ev.c0
            have ev1 := ev.c1
            have ez0 := ev.z0
            have ez1 := ev.z1
            refine wpAnyH_ready (rs := [17]) (by as_aux_lemma => kernel_rfl) (by simp) ?_
            refine (AllReadyH.cons (o := _) rfl (fun K hK => ?_) AllReadyH.nil)
            go_simp
            refine hK.out _ _ ?_ (fun hH2 => ?_)
            · exact HS.out _ (X.out.st7 v1 v2).bt
            have Xn := Lib.hid (X.out.st7 v1 v2)
            clear hK K hH X ev ev0 ev1 ez0 ez1
            have hH := hH2
            have X := Xn
            clear hH2 Xn
            generalize (wa21.setCell ⟨b7, 0, none⟩ (.int .i64 v1)).setCell ⟨b7, 1, none⟩ (.int .i64 v2) = wa22 at *
            try simp only [Act.put, List.setIfInBounds_toArray, List.set_cons_zero, List.set_cons_succ]
            have ev := (X.out.v8 _ _ rfl).1
            have ev0 := ev.c0
            have ev1 := ev.c1
            have ez0 := ev.z0
            have ez1 := ev.z1
            refine wpAnyH_ready (rs := [18]) (by as_aux_lemma => kernel_rfl) (by simp) ?_
            refine (AllReadyH.cons (o := _) rfl (fun K hK => ?_) AllReadyH.nil)
            go_simp
            refine hK.out _ _ ?_ (fun hH2 => ?_)
            · exact HS.out _ (X.out.st8 l1 l2).bt
            have Xn := Lib.hid (X.out.st8 l1 l2)
            clear hK K hH X ev ev0 ev1 ez0 ez1
            have hH := hH2
            have X := Xn
            clear hH2 Xn
            generalize (wa22.setCell ⟨b8, 0, none⟩ (.int .i64 l1)).setCell ⟨b8, 1, none⟩ (.int .i64 l2) = wa23 at *
            try simp only [Act.put, List.setIfInBounds_toArray, List.set_cons_zero, List.set_cons_succ]
            refine wpAnyH_done (by as_aux_lemma => kernel_rfl) ?_ _
            refine NoPanic.normal ?_
            clear hH
            exact ⟨rfl, _, _, _, _, _, _, _, _, _, _, _, _, _, _, _, b7, b8, by (try simp only [Act.put, List.setIfInBounds_toArray, List.set_cons_zero, List.set_cons_succ]); rfl, X.out⟩
          · go_simp
            refine hK.out _ _ ?_ (fun hH2 => ?_)
            · exact HS.out _ (X.out.al7).bt
            have Xn := Lib.hid (X.out.al7)
            clear hK K hH X
            have hH := hH2
            have X := Xn
            clear hH2 Xn
            obtain ⟨b7, hb7⟩ : ∃ u, u = wa19.heap.size := ⟨_, rfl⟩
            rw [← hb7] at X ⊢
            clear hb7
            generalize wa19.alloc (.cells #[.int .i64 0, .int .i64 0] 32) = wa24 at *
            try simp only [Act.put, List.setIfInBounds_toArray, List.set_cons_zero, List.set_cons_succ]
            refine wpAnyH_ready (rs := [11]) (by as_aux_lemma => kernel_rfl) (by simp) ?_
            refine (AllReadyH.cons (o := _) rfl (fun K hK => ?_) AllReadyH.nil)
            go_simp
            go_at_call 24
            ((with_reducible refine (compared_is mo c m r1 r2 x1 x2 v1 v2 l1 l2 HV.out.1 HV.out.2 _ X.out.mt HN.out.2.1 (by have := HN.out; omega)).mono ?_); rintro e wc25 ⟨rfl, hm5, hb5⟩)
            refine hK.out _ _ ?_ (fun hH2 => ?_)
            · exact HS.out _ (X.out.turn hm5 hb5).bt
            have Xn := Lib.hid (X.out.turn hm5 hb5)
            clear hK K hH X hm5 hb5
            have hH := hH2
            have X := Xn
            clear hH2 Xn
            try simp only [Act.put, List.setIfInBounds_toArray, List.set_cons_zero, List.set_cons_succ]
            refine wpAnyH_take (i := 12) (oi := { dst := some 18, op := Go.Op.move (Go.Operand.tmp 30), type := 76, pos := "rooted.go:46", after := #[{ on := 11, ground := Go.Ground.data }], guard := none }) (v := ?v2_24_12) rfl (by as_aux_lemma => kernel_rfl) (by as_aux_lemma => kernel_rfl) (by as_aux_lemma => kernel_rfl) (fun _ _ _ h => h) (Or.inl ⟨(by as_aux_lemma => kernel_rfl), ?hy2_24_12⟩) hH ?rest2_24_12
            case hy2_24_12 => (intro w hSw; (try dsimp only at hSw); go_simp; try with_reducible rfl)
            try simp only [Act.put, List.setIfInBounds_toArray, List.set_cons_zero, List.set_cons_succ]
            refine wpAnyH_take (i := 13) (oi := { dst := some 31, op := Go.Op.extract (Go.Operand.tmp 18) 0, type := 32, pos := "rooted.go:46", after := #[{ on := 12, ground := Go.Ground.data }], guard := none }) (v := ?v2_25_13) rfl (by as_aux_lemma => kernel_rfl) (by as_aux_lemma => kernel_rfl) (by as_aux_lemma => kernel_rfl) (fun _ _ _ h => h) (Or.inl ⟨(by as_aux_lemma => kernel_rfl), ?hy2_25_13⟩) hH ?rest2_25_13
            case hy2_25_13 => (intro w hSw; (try dsimp only at hSw); go_simp; try with_reducible rfl)
            try simp only [Act.put, List.setIfInBounds_toArray, List.set_cons_zero, List.set_cons_succ]
            refine wpAnyH_take (i := 14) (oi := { dst := some 32, op := Go.Op.extract (Go.Operand.tmp 18) 1, type := 32, pos := "rooted.go:46", after := #[{ on := 12, ground := Go.Ground.data }, { on := 17, ground := Go.Ground.gcOnly Go.Departure.lateStores }], guard := none }) (v := ?v2_26_14) rfl (by as_aux_lemma => kernel_rfl) (by as_aux_lemma => kernel_rfl) (by as_aux_lemma => kernel_rfl) (fun _ _ _ h => h) (Or.inl ⟨(by as_aux_lemma => kernel_rfl), ?hy2_26_14⟩) hH ?rest2_26_14
            case hy2_26_14 => (intro w hSw; (try dsimp only at hSw); go_simp; try with_reducible rfl)
            try simp only [Act.put, List.setIfInBounds_toArray, List.set_cons_zero, List.set_cons_succ]
            have ev := (X.out.v7 _ _ rfl).1
            have ev0 := ev.c0
            have ev1 := ev.c1
            have ez0 := ev.z0
            have ez1 := ev.z1
            refine wpAnyH_ready (rs := [17]) (by as_aux_lemma => kernel_rfl) (by simp) ?_
            refine (AllReadyH.cons (o := _) rfl (fun K hK => ?_) AllReadyH.nil)
            go_simp
            refine hK.out _ _ ?_ (fun hH2 => ?_)
            · exact HS.out _ (X.out.st7 v1 v2).bt
            have Xn := Lib.hid (X.out.st7 v1 v2)
            clear hK K hH X ev ev0 ev1 ez0 ez1
            have hH := hH2
            have X := Xn
            clear hH2 Xn
            generalize (wc25.setCell ⟨b7, 0, none⟩ (.int .i64 v1)).setCell ⟨b7, 1, none⟩ (.int .i64 v2) = wa26 at *
            try simp only [Act.put, List.setIfInBounds_toArray, List.set_cons_zero, List.set_cons_succ]
            have ev := (X.out.v8 _ _ rfl).1
            have ev0 := ev.c0
            have ev1 := ev.c1
            have ez0 := ev.z0
            have ez1 := ev.z1
            refine wpAnyH_ready (rs := [18]) (by as_aux_lemma => kernel_rfl) (by simp) ?_
            refine (AllReadyH.cons (o := _) rfl (fun K hK => ?_) AllReadyH.nil)
            go_simp
            refine hK.out _ _ ?_ (fun hH2 => ?_)
            · exact HS.out _ (X.out.st8 l1 l2).bt
            have Xn := Lib.hid (X.out.st8 l1 l2)
            clear hK K hH X ev ev0 ev1 ez0 ez1
            have hH := hH2
            have X := Xn
            clear hH2 Xn
            generalize (wa26.setCell ⟨b8, 0, none⟩ (.int .i64 l1)).setCell ⟨b8, 1, none⟩ (.int .i64 l2) = wa27 at *
            try simp only [Act.put, List.setIfInBounds_toArray, List.set_cons_zero, List.set_cons_succ]
            refine wpAnyH_done (by as_aux_lemma => kernel_rfl) ?_ _
            refine NoPanic.normal ?_
            clear hH
            exact ⟨rfl, _, _, _, _, _, _, _, _, _, _, _, _, _, _, _, b7, b8, by (try simp only [Act.put, List.setIfInBounds_toArray, List.set_cons_zero, List.set_cons_succ]); rfl, X.out⟩
      rintro a' w2 ⟨u19, u20, u21, u22, u23, u24, u25, u26, u27, u28, u29, u30, u18, u31, u32, b7, b8, rfl, X2⟩
      try simp only [Act.put, List.setIfInBounds_toArray, List.set_cons_zero, List.set_cons_succ]
      have XX := Lib.hid X2
      clear X2
      go_wp2_with fail
      refine wp_after (R := fun a a' w' => ∃ (u33 u34 u35 u36 u37 u38 u39 u40 u41 u42 u43 u44 : Value) (b9 : Nat) (q5 : Hp.HP), a' = (((((((((((((a.put (some 33) u33).put (some 34) u34).put (some 35) u35).put (some 36) u36).put (some 37) u37).put (some 38) u38).put (some 39) u39).put (some 40) u40).put (some 41) u41).put (some 42) u42).put (some 43) u43).put (some 44) u44).put (some 9) (.pointer (some ⟨b9, 0, none⟩))) ∧ Reg mo w1 (c + 1 + (CM : Nat)) (m + (CM : Nat)) (some (b7, (v1, v2))) (some (b8, (l1, l2))) (some (b9, q5)) w' ∧ Hp.LAt w' (Go.Proofs.YtaeainnkhjnlaaaGreatDoor.meld o1 o2) q5) ?_ ?_
      · refine wp_region_noPanic ?_
        refine wp_region_held_drew (S := fun w' => w'.cell? ⟨a, 0, none⟩ = some (.pointer (some ⟨b, 0, none⟩)) ∧ w'.cell? ⟨b, 0, none⟩ = some (.int .i64 r1) ∧ w'.cell? ⟨b, 1, none⟩ = some (.int .i64 r2) ∧ w'.cell? ⟨b, 2, none⟩ = some (.pointer q.q) ∧ w'.cell? ⟨b, 3, none⟩ = some (.int .i64 q.n) ∧ w'.cell? ⟨a + 1, 0, none⟩ = some (.pointer (some ⟨d, 0, none⟩)) ∧ w'.cell? ⟨d, 0, none⟩ = some (.int .i64 x1) ∧ w'.cell? ⟨d, 1, none⟩ = some (.int .i64 x2) ∧ w'.cell? ⟨d, 2, none⟩ = some (.pointer qd.q) ∧ w'.cell? ⟨d, 3, none⟩ = some (.int .i64 qd.n)) (by kernel_rfl) (HS.out _ XX.out.drew.bt) (fun hH => ?_)
        have X := Lib.hid XX.out.drew
        generalize w2.drew = wd at *
        refine wpAnyH_take (i := 0) (oi := { dst := some 33, op := Go.Op.fieldAddr 29 (Go.Operand.tmp 3) 0, type := 0, pos := "rooted.go:47", after := #[], guard := none }) (v := ?v3_1_0) rfl (by as_aux_lemma => kernel_rfl) (by as_aux_lemma => kernel_rfl) (by as_aux_lemma => kernel_rfl) (fun _ _ _ h => h) (Or.inl ⟨(by as_aux_lemma => kernel_rfl), ?hy3_1_0⟩) hH ?rest3_1_0
        case hy3_1_0 => (intro w hSw; (try dsimp only at hSw); go_simp; try with_reducible rfl)
        try simp only [Act.put, List.setIfInBounds_toArray, List.set_cons_zero, List.set_cons_succ]
        refine wpAnyH_take (i := 1) (oi := { dst := some 34, op := Go.Op.load 27 (Go.Operand.tmp 33), type := 27, pos := "rooted.go:47", after := #[{ on := 0, ground := Go.Ground.data }], guard := none }) (v := ?v3_2_1) rfl (by as_aux_lemma => kernel_rfl) (by as_aux_lemma => kernel_rfl) (by as_aux_lemma => kernel_rfl) (fun _ _ _ h => h) (Or.inl ⟨(by as_aux_lemma => kernel_rfl), ?hy3_2_1⟩) hH ?rest3_2_1
        case hy3_2_1 => (intro w hSw; (try dsimp only at hSw); go_simp; try with_reducible rfl)
        try simp only [Act.put, List.setIfInBounds_toArray, List.set_cons_zero, List.set_cons_succ]
        refine wpAnyH_take (i := 2) (oi := { dst := some 35, op := Go.Op.nilCheck (Go.Operand.tmp 34), type := 0, pos := "rooted.go:47", after := #[{ on := 1, ground := Go.Ground.data }], guard := none }) (v := ?v3_3_2) rfl (by as_aux_lemma => kernel_rfl) (by as_aux_lemma => kernel_rfl) (by as_aux_lemma => kernel_rfl) (fun _ _ _ h => h) (Or.inl ⟨(by as_aux_lemma => kernel_rfl), ?hy3_3_2⟩) hH ?rest3_3_2
        case hy3_3_2 => (intro w hSw; (try dsimp only at hSw); go_simp; try with_reducible rfl)
        try simp only [Act.put, List.setIfInBounds_toArray, List.set_cons_zero, List.set_cons_succ]
        refine wpAnyH_take (i := 3) (oi := { dst := some 36, op := Go.Op.fieldAddr 75 (Go.Operand.tmp 35) 1, type := 0, pos := "rooted.go:47", after := #[{ on := 2, ground := Go.Ground.data }], guard := none }) (v := ?v3_4_3) rfl (by as_aux_lemma => kernel_rfl) (by as_aux_lemma => kernel_rfl) (by as_aux_lemma => kernel_rfl) (fun _ _ _ h => h) (Or.inl ⟨(by as_aux_lemma => kernel_rfl), ?hy3_4_3⟩) hH ?rest3_4_3
        case hy3_4_3 => (intro w hSw; (try dsimp only at hSw); go_simp; try with_reducible rfl)
        try simp only [Act.put, List.setIfInBounds_toArray, List.set_cons_zero, List.set_cons_succ]
        refine wpAnyH_take (i := 4) (oi := { dst := some 37, op := Go.Op.load 73 (Go.Operand.tmp 36), type := 73, pos := "rooted.go:47", after := #[{ on := 3, ground := Go.Ground.data }], guard := none }) (v := ?v3_5_4) rfl (by as_aux_lemma => kernel_rfl) (by as_aux_lemma => kernel_rfl) (by as_aux_lemma => kernel_rfl) (fun _ _ _ h => h) (Or.inl ⟨(by as_aux_lemma => kernel_rfl), ?hy3_5_4⟩) hH ?rest3_5_4
        case hy3_5_4 => (intro w hSw; (try dsimp only at hSw); go_simp; try with_reducible rfl)
        try simp only [Act.put, List.setIfInBounds_toArray, List.set_cons_zero, List.set_cons_succ]
        refine wpAnyH_take (i := 5) (oi := { dst := some 38, op := Go.Op.move (Go.Operand.tmp 1), type := 25, pos := "rooted.go:47", after := #[], guard := none }) (v := ?v3_6_5) rfl (by as_aux_lemma => kernel_rfl) (by as_aux_lemma => kernel_rfl) (by as_aux_lemma => kernel_rfl) (fun _ _ _ h => h) (Or.inl ⟨(by as_aux_lemma => kernel_rfl), ?hy3_6_5⟩) hH ?rest3_6_5
        case hy3_6_5 => (intro w hSw; (try dsimp only at hSw); go_simp; try with_reducible rfl)
        try simp only [Act.put, List.setIfInBounds_toArray, List.set_cons_zero, List.set_cons_succ]
        refine wpAnyH_take (i := 6) (oi := { dst := some 39, op := Go.Op.fieldAddr 29 (Go.Operand.tmp 5) 0, type := 0, pos := "rooted.go:47", after := #[], guard := none }) (v := ?v3_7_6) rfl (by as_aux_lemma => kernel_rfl) (by as_aux_lemma => kernel_rfl) (by as_aux_lemma => kernel_rfl) (fun _ _ _ h => h) (Or.inl ⟨(by as_aux_lemma => kernel_rfl), ?hy3_7_6⟩) hH ?rest3_7_6
        case hy3_7_6 => (intro w hSw; (try dsimp only at hSw); go_simp; try with_reducible rfl)
        try simp only [Act.put, List.setIfInBounds_toArray, List.set_cons_zero, List.set_cons_succ]
        refine wpAnyH_take (i := 7) (oi := { dst := some 40, op := Go.Op.load 27 (Go.Operand.tmp 39), type := 27, pos := "rooted.go:47", after := #[{ on := 6, ground := Go.Ground.data }], guard := none }) (v := ?v3_8_7) rfl (by as_aux_lemma => kernel_rfl) (by as_aux_lemma => kernel_rfl) (by as_aux_lemma => kernel_rfl) (fun _ _ _ h => h) (Or.inl ⟨(by as_aux_lemma => kernel_rfl), ?hy3_8_7⟩) hH ?rest3_8_7
        case hy3_8_7 => (intro w hSw; (try dsimp only at hSw); go_simp; try with_reducible rfl)
        try simp only [Act.put, List.setIfInBounds_toArray, List.set_cons_zero, List.set_cons_succ]
        refine wpAnyH_take (i := 8) (oi := { dst := some 41, op := Go.Op.nilCheck (Go.Operand.tmp 40), type := 0, pos := "rooted.go:47", after := #[{ on := 7, ground := Go.Ground.data }], guard := none }) (v := ?v3_9_8) rfl (by as_aux_lemma => kernel_rfl) (by as_aux_lemma => kernel_rfl) (by as_aux_lemma => kernel_rfl) (fun _ _ _ h => h) (Or.inl ⟨(by as_aux_lemma => kernel_rfl), ?hy3_9_8⟩) hH ?rest3_9_8
        case hy3_9_8 => (intro w hSw; (try dsimp only at hSw); go_simp; try with_reducible rfl)
        try simp only [Act.put, List.setIfInBounds_toArray, List.set_cons_zero, List.set_cons_succ]
        refine wpAnyH_take (i := 9) (oi := { dst := some 42, op := Go.Op.fieldAddr 75 (Go.Operand.tmp 41) 1, type := 0, pos := "rooted.go:47", after := #[{ on := 8, ground := Go.Ground.data }], guard := none }) (v := ?v3_10_9) rfl (by as_aux_lemma => kernel_rfl) (by as_aux_lemma => kernel_rfl) (by as_aux_lemma => kernel_rfl) (fun _ _ _ h => h) (Or.inl ⟨(by as_aux_lemma => kernel_rfl), ?hy3_10_9⟩) hH ?rest3_10_9
        case hy3_10_9 => (intro w hSw; (try dsimp only at hSw); go_simp; try with_reducible rfl)
        try simp only [Act.put, List.setIfInBounds_toArray, List.set_cons_zero, List.set_cons_succ]
        refine wpAnyH_take (i := 10) (oi := { dst := some 43, op := Go.Op.load 73 (Go.Operand.tmp 42), type := 73, pos := "rooted.go:47", after := #[{ on := 9, ground := Go.Ground.data }], guard := none }) (v := ?v3_11_10) rfl (by as_aux_lemma => kernel_rfl) (by as_aux_lemma => kernel_rfl) (by as_aux_lemma => kernel_rfl) (fun _ _ _ h => h) (Or.inl ⟨(by as_aux_lemma => kernel_rfl), ?hy3_11_10⟩) hH ?rest3_11_10
        case hy3_11_10 => (intro w hSw; (try dsimp only at hSw); go_simp; try with_reducible rfl)
        try simp only [Act.put, List.setIfInBounds_toArray, List.set_cons_zero, List.set_cons_succ]
        refine wpAnyH_ready (rs := [11, 12]) (by as_aux_lemma => kernel_rfl) (by simp) ?_
        refine (AllReadyH.cons (o := _) rfl (fun K hK => ?_) (AllReadyH.cons (o := _) rfl (fun K hK => ?_) AllReadyH.nil))
        · go_simp
          go_at_call 28
          ((with_reducible refine (Hp.meld_any mo o1 o2 (c + 1) m q qd _ (by have := HN.out; omega) X.out.mt (by have := HN.out; omega) (by have := HN.out; omega) HN.out.2.2.2.1 (by have := HN.out; omega) (Hp.LAt.bt HL.out.1 X.out.bt M1.out) (Hp.LAt.bt HL.out.2 X.out.bt M1.out)).mono ?_); rintro e wc1 ⟨q5, rfl, ht5, hm5, hb5⟩)
          rw [← HO.out.2.2.1] at hm5
          refine hK.out _ _ ?_ (fun hH2 => ?_)
          · exact HS.out _ (X.out.turn hm5 hb5).bt
          have T5 := Lib.hid ht5; clear ht5
          have Xn := Lib.hid (X.out.turn hm5 hb5)
          clear hK K hH X hm5 hb5
          have hH := hH2
          have X := Xn
          clear hH2 Xn
          try simp only [Act.put, List.setIfInBounds_toArray, List.set_cons_zero, List.set_cons_succ]
          refine wpAnyH_ready (rs := [12]) (by as_aux_lemma => kernel_rfl) (by simp) ?_
          refine (AllReadyH.cons (o := _) rfl (fun K hK => ?_) AllReadyH.nil)
          go_simp
          refine hK.out _ _ ?_ (fun hH2 => ?_)
          · exact HS.out _ (X.out.al9).bt
          have Xn := Lib.hid (X.out.al9)
          have Tn := Lib.hid (T5.out.stay ((Below.refl _ _).alloc (Nat.le_refl _) (.cells #[.pointer none, .int .i64 0] 73)))
          clear hK K hH X T5
          have hH := hH2
          have X := Xn
          have T5 := Tn
          clear hH2 Xn Tn
          obtain ⟨b9, hb9⟩ : ∃ u, u = wc1.heap.size := ⟨_, rfl⟩
          rw [← hb9] at X ⊢
          clear hb9
          generalize wc1.alloc (.cells #[.pointer none, .int .i64 0] 73) = wa2 at *
          try simp only [Act.put, List.setIfInBounds_toArray, List.set_cons_zero, List.set_cons_succ]
          have ev := (X.out.v9 _ _ rfl).1
          have ev0 := ev.c0
          have ev1 := ev.c1
          have ez0 := ev.z0
          have ez1 := ev.z1
          refine wpAnyH_ready (rs := [13]) (by as_aux_lemma => kernel_rfl) (by simp) ?_
          refine (AllReadyH.cons (o := _) rfl (fun K hK => ?_) AllReadyH.nil)
          go_simp
          refine hK.out _ _ ?_ (fun hH2 => ?_)
          · exact HS.out _ (X.out.st9 q5).bt
          have Xn := Lib.hid (X.out.st9 q5)
          have Tn := Lib.hid (T5.out.set2 (X.out.v9 _ _ rfl).1 Hp.heapT_ne (.pointer q5.q) (.int .i64 q5.n))
          clear hK K hH X ev ev0 ev1 ez0 ez1 T5
          have hH := hH2
          have X := Xn
          have T5 := Tn
          clear hH2 Xn Tn
          generalize (wa2.setCell ⟨b9, 0, none⟩ (.pointer q5.q)).setCell ⟨b9, 1, none⟩ (.int .i64 q5.n) = wa3 at *
          try simp only [Act.put, List.setIfInBounds_toArray, List.set_cons_zero, List.set_cons_succ]
          refine wpAnyH_done (by as_aux_lemma => kernel_rfl) ?_ _
          refine NoPanic.normal ?_
          clear hH
          exact ⟨rfl, _, _, _, _, _, _, _, _, _, _, _, _, b9, q5, by (try simp only [Act.put, List.setIfInBounds_toArray, List.set_cons_zero, List.set_cons_succ]); rfl, X.out, T5.out⟩
        · go_simp
          refine hK.out _ _ ?_ (fun hH2 => ?_)
          · exact HS.out _ (X.out.al9).bt
          have Xn := Lib.hid (X.out.al9)
          clear hK K hH X
          have hH := hH2
          have X := Xn
          clear hH2 Xn
          obtain ⟨b9, hb9⟩ : ∃ u, u = wd.heap.size := ⟨_, rfl⟩
          rw [← hb9] at X ⊢
          clear hb9
          generalize wd.alloc (.cells #[.pointer none, .int .i64 0] 73) = wa4 at *
          try simp only [Act.put, List.setIfInBounds_toArray, List.set_cons_zero, List.set_cons_succ]
          refine wpAnyH_ready (rs := [11]) (by as_aux_lemma => kernel_rfl) (by simp) ?_
          refine (AllReadyH.cons (o := _) rfl (fun K hK => ?_) AllReadyH.nil)
          go_simp
          go_at_call 28
          ((with_reducible refine (Hp.meld_any mo o1 o2 (c + 1) m q qd _ (by have := HN.out; omega) X.out.mt (by have := HN.out; omega) (by have := HN.out; omega) HN.out.2.2.2.1 (by have := HN.out; omega) (Hp.LAt.bt HL.out.1 X.out.bt M1.out) (Hp.LAt.bt HL.out.2 X.out.bt M1.out)).mono ?_); rintro e wc5 ⟨q5, rfl, ht5, hm5, hb5⟩)
          rw [← HO.out.2.2.1] at hm5
          refine hK.out _ _ ?_ (fun hH2 => ?_)
          · exact HS.out _ (X.out.turn hm5 hb5).bt
          have T5 := Lib.hid ht5; clear ht5
          have Xn := Lib.hid (X.out.turn hm5 hb5)
          clear hK K hH X hm5 hb5
          have hH := hH2
          have X := Xn
          clear hH2 Xn
          try simp only [Act.put, List.setIfInBounds_toArray, List.set_cons_zero, List.set_cons_succ]
          have ev := (X.out.v9 _ _ rfl).1
          have ev0 := ev.c0
          have ev1 := ev.c1
          have ez0 := ev.z0
          have ez1 := ev.z1
          refine wpAnyH_ready (rs := [13]) (by as_aux_lemma => kernel_rfl) (by simp) ?_
          refine (AllReadyH.cons (o := _) rfl (fun K hK => ?_) AllReadyH.nil)
          go_simp
          refine hK.out _ _ ?_ (fun hH2 => ?_)
          · exact HS.out _ (X.out.st9 q5).bt
          have Xn := Lib.hid (X.out.st9 q5)
          have Tn := Lib.hid (T5.out.set2 (X.out.v9 _ _ rfl).1 Hp.heapT_ne (.pointer q5.q) (.int .i64 q5.n))
          clear hK K hH X ev ev0 ev1 ez0 ez1 T5
          have hH := hH2
          have X := Xn
          have T5 := Tn
          clear hH2 Xn Tn
          generalize (wc5.setCell ⟨b9, 0, none⟩ (.pointer q5.q)).setCell ⟨b9, 1, none⟩ (.int .i64 q5.n) = wa6 at *
          try simp only [Act.put, List.setIfInBounds_toArray, List.set_cons_zero, List.set_cons_succ]
          refine wpAnyH_done (by as_aux_lemma => kernel_rfl) ?_ _
          refine NoPanic.normal ?_
          clear hH
          exact ⟨rfl, _, _, _, _, _, _, _, _, _, _, _, _, b9, q5, by (try simp only [Act.put, List.setIfInBounds_toArray, List.set_cons_zero, List.set_cons_succ]); rfl, X.out, T5.out⟩
      rintro a' w3 ⟨u33, u34, u35, u36, u37, u38, u39, u40, u41, u42, u43, u44, b9, q5, rfl, X3, T3⟩
      try simp only [Act.put, List.setIfInBounds_toArray, List.set_cons_zero, List.set_cons_succ]
      have s3 := (X3.v7 _ _ rfl).1.c0
      have s4 := (X3.v7 _ _ rfl).1.c1
      have s5 := (X3.v8 _ _ rfl).1.c0
      have s6 := (X3.v8 _ _ rfl).1.c1
      have s7 := (X3.v9 _ _ rfl).1.c0
      have s8 := (X3.v9 _ _ rfl).1.c1
      have hl9 := lt_of_heap (show w1.heap[a + 2]? = _ from HF.out.r)
      have n5 : ¬ b7 = a + 1 + 1 := by have := (X3.v7 _ _ rfl).2; omega
      have n6 : ¬ a + 1 + 1 = b7 := fun e => n5 e.symm
      have n7 : ¬ b8 = a + 1 + 1 := by have := (X3.v8 _ _ rfl).2; omega
      have n8 : ¬ a + 1 + 1 = b8 := fun e => n7 e.symm
      have n9 : ¬ b9 = a + 1 + 1 := by have := (X3.v9 _ _ rfl).2; omega
      have n0 : ¬ a + 1 + 1 = b9 := fun e => n9 e.symm
      clear hl9
      have XA := Lib.hid X3
      have TA := Lib.hid T3
      clear X3 T3
      go_wp2_with fail
      go_region_held3 (fun w' => w'.cell? ⟨b7, 0, none⟩ = some (.int .i64 v1) ∧ w'.cell? ⟨b7, 1, none⟩ = some (.int .i64 v2) ∧ w'.cell? ⟨b8, 0, none⟩ = some (.int .i64 l1) ∧ w'.cell? ⟨b8, 1, none⟩ = some (.int .i64 l2) ∧ w'.cell? ⟨b9, 0, none⟩ = some (.pointer q5.q) ∧ w'.cell? ⟨b9, 1, none⟩ = some (.int .i64 q5.n)) (go_keep)
        (first | (go_at_call 23; ((with_reducible refine (build_any mo _ _ v1 v2 ((Go.Proofs.YtaeainnkhjnlaaaGreatDoor.meld o1 o2).insert (l1, l2)) q6 _ XB.out.mt (by have := HN.out; have := HO.out; omega) (by have := HN.out; have := HO.out; omega) TB.out).mono ?_); rintro e w6 ⟨p6, rfl, ht6, hm6, hb6⟩; have XC := Lib.hid (XB.out.turn hm6 hb6); have TC := Lib.hid ht6; have k3 := (XC.out.v7 _ _ rfl).1.c0; have k4 := (XC.out.v7 _ _ rfl).1.c1; have k5 := (XC.out.v8 _ _ rfl).1.c0; have k6 := (XC.out.v8 _ _ rfl).1.c1; have k7 := (XC.out.v9 _ _ rfl).1.c0; have k8 := (XC.out.v9 _ _ rfl).1.c1; have r6 := (HF.out.r.bt XC.out.bt M1.out).c0; have z6 := (HF.out.r.bt XC.out.bt M1.out).z0; clear ht6 hm6 hb6)) | (go_at_call 25; ((with_reducible refine (Hp.insert_any mo _ _ (Go.Proofs.YtaeainnkhjnlaaaGreatDoor.meld o1 o2) (l1, l2) q5 _ (by have := HO.out; omega) XA.out.drew.mt (by have := HN.out; omega) (by have := HN.out; have := HO.out; omega) (by have := HN.out; omega) (by have := HN.out; have := HO.out; omega) (Hp.LAt.bt TA.out ((Bt.refl _ _).drew) XA.out.mt)).mono ?_); rintro e w5 ⟨q6, rfl, ht5, hm5, hb5⟩; have XB := Lib.hid (XA.out.drew.turn hm5 hb5); have TB := Lib.hid ht5; have g3 := (XB.out.v7 _ _ rfl).1.c0; have g4 := (XB.out.v7 _ _ rfl).1.c1; have g5 := (XB.out.v8 _ _ rfl).1.c0; have g6 := (XB.out.v8 _ _ rfl).1.c1; have g7 := (XB.out.v9 _ _ rfl).1.c0; have g8 := (XB.out.v9 _ _ rfl).1.c1; clear ht5 hm5 hb5)))
      go_wp2_with fail
      have hk := (KK.out.turn XC.out.mt XC.out.bt node_ne).put (HF.out.r.bt XC.out.bt M1.out) heapT_ne (by decide) (by rw [← HA.out]; omega) 0 (.pointer p6)
      refine bodyPost_ret (v := hp p6) (by simp [results, Tryz.results10, go_sem, r6]) rfl ⟨_, rfl, ?_, ?_, hk.bt⟩
      · rw [meld_win, ← HV.out.1, ← HV.out.2]
        exact TC.out.wrote (HF.out.r.bt XC.out.bt M1.out) heapT_ne 0 _
      · have e1 : c + ((meldC (.node (r1, r2) o1) (.node (x1, x2) o2) : Nat) : Int) = c + 1 + (CM : Nat) + ((Go.Proofs.YtaeainnkhjnlaaaGreatDoor.meld o1 o2).insC : Nat) := by show c + ((meldN o1 o2 + (Go.Proofs.YtaeainnkhjnlaaaGreatDoor.meld o1 o2).insC + 1 : Nat) : Int) = _; rw [← HO.out.2.2.1]; omega
        have e2 : m + ((meldM (.node (r1, r2) o1) (.node (x1, x2) o2) : Nat) : Int) = m + (CM : Nat) + ((Go.Proofs.YtaeainnkhjnlaaaGreatDoor.meld o1 o2).insM : Nat) + 1 := by show m + ((meldN o1 o2 + (Go.Proofs.YtaeainnkhjnlaaaGreatDoor.meld o1 o2).insM + 1 : Nat) : Int) = _; rw [← HO.out.2.2.1]; omega
        rw [e1, e2]
        exact hk.mt

/-- What Pop hands back. -/
def Popped (mo : Option Nat) (c m : Int) (t : Lh) (is : Bool) (w : World) (e : Ending) (w' : World) : Prop := ∃ p, e = .returned (.tuple #[hp p, .bool is]) ∧ LAt w' t p ∧ MAt w' mo c m ∧ Bt mo w w'
/-- The variables of Pop: a heap, what it hands back. -/
structure Fp (W : World) (a : Nat) (p : Option Addr) : Prop where
  h : HVar W a p
  r : HVar W (a + 1) none
theorem Fp.new (w : World) (p : Option Addr) : Fp ((w.alloc (.cells #[.pointer p] 29)).alloc (.cells #[.pointer none] 29)) w.heap.size p := by
  refine ⟨?_, ?_⟩
  · show _ = _
    rw [alloc_old _ (by simp only [World.size_alloc]; omega)]; exact new_at rfl
  · exact new_at (by simp)
set_option maxRecDepth 100000 in
set_option maxHeartbeats 8000000 in
theorem pop_any (mo : Option Nat) (c m : Int) (h : Lh) (p : Option Addr) (w : World) (hs : h.size < 134217728) (hm : MAt w mo c m) (h0 : 0 ≤ c) (h1 : c < 72057594037927936) (h2 : 0 ≤ m) (h3 : m < 72057594037927936)
    (hh : LAt w h p) : Calls Tryz.prog 12 #[hp p, mAddr mo] w (Popped mo (c + h.popC) (m + h.popM) h.pop h.some w) := by
  obtain ⟨w1, hw1⟩ : ∃ u, u = (w.alloc (.cells #[.pointer p] 29)).alloc (.cells #[.pointer none] 29) := ⟨_, rfl⟩
  have hb1 : Below w.heap.size w w1 := by rw [hw1]; exact ((Below.refl _ _).alloc (Nat.le_refl _) _).alloc (by simp) _
  have F1 : Fp w1 w.heap.size p := by rw [hw1]; exact Fp.new w p
  have K1 : Trk NodeT mo w c m w1 := (Trk.refl hm).stay hb1
  have HF := Lib.hid F1
  have KK := Lib.hid K1
  have HH := Lib.hid (show LAt w1 h p from hh.stay hb1)
  have HN := Lib.hid (And.intro hs (And.intro h0 (And.intro h1 (And.intro h2 h3))))
  have HW := Lib.hid hw1
  have H0 := Lib.hid hm
  have f0 := F1.h.c0
  have f2 := F1.r.c0
  have f3 := F1.r.z0
  clear hs h0 h1 h2 h3 F1 K1 hb1 hm hw1 hh
  cases h with
  | nil =>
    obtain rfl : p = none := HH.out
    go_enter Tryz.func12, Tryz.ntmps12
    go_wp2_with fail
    have hbe : Below w.heap.size w ((w.alloc (.cells #[.pointer none] 29)).alloc (.cells #[.pointer none] 29)) := ((Below.refl _ _).alloc (Nat.le_refl _) _).alloc (by simp) _
    exact bodyPost_ret (v := .tuple #[hp none, .bool false]) (by simp [results, Tryz.results12, go_sem]) rfl ⟨_, rfl, rfl, by simpa [Lh.popC, Lh.popM] using H0.out.stay hbe, Bt.ofBelow hbe⟩
  | node x o =>
    obtain ⟨b, q, rfl, hb, ho⟩ := HH.out
    obtain ⟨⟨⟨m1, m2⟩, is⟩, hmm⟩ : ∃ mm, mm = o.min := ⟨_, rfl⟩
    obtain ⟨T, hT⟩ : ∃ n, n = o.tellN := ⟨_, rfl⟩
    have HM := Lib.hid hmm
    have HL := Lib.hid (And.intro hb ho)
    have HO := Lib.hid (show o.size < 134217728 ∧ T = o.tellN ∧ T < 134217728 from ⟨by have := HN.out.1; simp only [Lh.size] at this; omega, hT, by have := tellN_size o; have := HN.out.1; simp only [Lh.size] at this; omega⟩)
    have g2 := (four hb).c2
    have g3 := (four hb).c3
    rw [HW.out] at g2 g3
    clear hmm hb ho hT HH
    go_enter Tryz.func12, Tryz.ntmps12
    go_wp2_with fail
    rw [← HW.out]
    obtain ⟨a, ha⟩ : ∃ a, a = w.heap.size := ⟨_, rfl⟩
    rw [← ha] at HF f0 f2 f3 ⊢
    have HA := Lib.hid ha
    clear ha HW
    try go_wp2_with fail
    ((with_reducible refine (Hp.min_any mo c m o q _ KK.out.mt HN.out.2.1 (by have := HN.out; omega) HL.out.2).mono ?_); rintro e w2 ⟨rfl, hm2, hb2⟩)
    rw [show Hp.minV o = .tuple #[.agg #[.int .i64 m1, .int .i64 m2], .bool is] from by rw [Hp.minV, ← HM.out]]
    rw [← HO.out.2.1] at hm2
    have XX := Lib.hid (((Reg.refl KK.out.mt).turn hm2 hb2).nw7 m1 m2)
    clear f0 f2 f3 g2 g3 hm2 hb2
    have M1 := Lib.hid KK.out.mt
    have f0 := (HF.out.h.bt XX.out.bt M1.out).c0
    have f2 := (HF.out.r.bt XX.out.bt M1.out).c0
    have f3 := (HF.out.r.bt XX.out.bt M1.out).z0
    have k := four (XX.out.bt.row M1.out HL.out.1 (by decide))
    have g2 := k.c2
    have g3 := k.c3
    clear k
    cases is with
    | false =>
      have hsome : o.some = false := by show o.min.2 = false; rw [← HM.out]
      have hnil : o = .nil := sk_none hsome
      have hT0 : T = 0 := by rw [HO.out.2.1, hnil]; rfl
      go_wp2_with fail
      generalize w2.alloc (.cells #[.int .i64 m1, .int .i64 m2] 32) = w3 at *
      obtain ⟨b7, hb7⟩ : ∃ n, n = w2.heap.size := ⟨_, rfl⟩
      rw [← hb7] at XX ⊢
      clear hb7
      have hk := (KK.out.turn XX.out.mt XX.out.bt node_ne).put (HF.out.r.bt XX.out.bt M1.out) heapT_ne (by decide) (by rw [← HA.out]; omega) 0 (.pointer none)
      refine bodyPost_ret (v := .tuple #[hp none, .bool true]) (by simp [results, Tryz.results12, go_sem, f2]) rfl ⟨none, rfl, ?_, ?_, hk.bt⟩
      · rw [pop_none hsome]; rfl
      · have e1 : (Lh.node x o).popC = 0 := by simp only [Lh.popC]; rw [hsome]; rfl
        have e2 : (Lh.node x o).popM = 0 := by simp only [Lh.popM]; rw [hsome]; rfl
        rw [e1, e2]
        have := hk.mt
        rw [hT0] at this
        simpa using this
    | true =>
      have hsome : o.some = true := by show o.min.2 = true; rw [← HM.out]
      obtain ⟨PC, hPC⟩ : ∃ n, n = o.popC := ⟨_, rfl⟩
      obtain ⟨PM, hPM⟩ : ∃ n, n = o.popM := ⟨_, rfl⟩
      have HP := Lib.hid (show PC = o.popC ∧ PM = o.popM ∧ PC < 536870912 ∧ PM < 536870912 ∧ o.some = true from ⟨hPC, hPM, by have := Go.Proofs.YtaeainnkhjnlaaaGreatDoor.pop_counts o; have := HO.out; omega, by have := Go.Proofs.YtaeainnkhjnlaaaGreatDoor.pop_counts o; have := HO.out; omega, hsome⟩)
      clear hPC hPM hsome
      go_wp2_with fail
      generalize w2.alloc (.cells #[.int .i64 m1, .int .i64 m2] 32) = w3 at *
      obtain ⟨b7, hb7⟩ : ∃ n, n = w2.heap.size := ⟨_, rfl⟩
      rw [← hb7] at XX ⊢
      clear hb7
      ((with_reducible refine (Hp.pop_any mo (c + (T : Nat)) m o q _ HO.out.1 XX.out.mt (by have := HN.out; omega) (by have := HN.out; have := HO.out; omega) (by have := HN.out; omega) (by have := HN.out; omega) (Hp.LAt.bt HL.out.2 XX.out.bt M1.out)).mono ?_); rintro e w4 ⟨q5, rfl, ht4, hm4, hb4⟩)
      rw [← HP.out.1, ← HP.out.2.1, ← HO.out.2.1] at hm4
      rw [HP.out.2.2.2.2]
      have XY := Lib.hid ((XX.out.turn hm4 hb4).nw9 q5)
      have TY := Lib.hid (ht4.stay ((Below.refl _ _).alloc (Nat.le_refl _) (.cells #[.pointer q5.q, .int .i64 q5.n] 73)))
      have s3 := (XY.out.v7 _ _ rfl).1.c0
      have s4 := (XY.out.v7 _ _ rfl).1.c1
      have s7 := (XY.out.v9 _ _ rfl).1.c0
      have s8 := (XY.out.v9 _ _ rfl).1.c1
      clear f0 f2 f3 g2 g3 hm4 hb4 ht4
      go_wp2_with fail
      generalize w4.alloc (.cells #[.pointer q5.q, .int .i64 q5.n] 73) = w5 at *
      obtain ⟨b9, hb9⟩ : ∃ n, n = w4.heap.size := ⟨_, rfl⟩
      rw [← hb9] at XY s7 s8 ⊢
      clear hb9
      ((with_reducible refine (build_any mo _ _ m1 m2 o.pop q5 _ XY.out.mt (by have := HN.out; omega) (by have := HN.out; have := HP.out; omega) TY.out).mono ?_); rintro e w6 ⟨p6, rfl, ht6, hm6, hb6⟩)
      have XC := Lib.hid (XY.out.turn hm6 hb6)
      have TC := Lib.hid ht6
      have r6 := (HF.out.r.bt XC.out.bt M1.out).c0
      have z6 := (HF.out.r.bt XC.out.bt M1.out).z0
      clear ht6 hm6 hb6 s3 s4 s7 s8
      go_wp2_with fail
      have hk := (KK.out.turn XC.out.mt XC.out.bt node_ne).put (HF.out.r.bt XC.out.bt M1.out) heapT_ne (by decide) (by rw [← HA.out]; omega) 0 (.pointer p6)
      refine bodyPost_ret (v := .tuple #[hp p6, .bool true]) (by simp [results, Tryz.results12, go_sem, r6]) rfl ⟨p6, rfl, ?_, ?_, hk.bt⟩
      · rw [pop_some HP.out.2.2.2.2, ← HM.out]
        exact TC.out.wrote (HF.out.r.bt XC.out.bt M1.out) heapT_ne 0 _
      · have e1 : c + (((Lh.node x o).popC : Nat) : Int) = c + (T : Nat) + ((PC + T : Nat) : Int) := by simp only [Lh.popC]; rw [if_pos HP.out.2.2.2.2, ← HP.out.1, ← HO.out.2.1]; omega
        have e2 : m + (((Lh.node x o).popM : Nat) : Int) = m + (PM : Nat) + 1 := by simp only [Lh.popM]; rw [if_pos HP.out.2.2.2.2, ← HP.out.2.1]; omega
        rw [e1, e2]
        exact hk.mt

end Go.Proofs.YtaeainnkhjnlaaaGreatDoor.Ro
