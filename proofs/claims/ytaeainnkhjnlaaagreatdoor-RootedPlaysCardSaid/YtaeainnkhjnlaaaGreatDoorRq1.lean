/-
  Contracts of the reference's Size, Min, Show, Insert, Meld and Pop (slagheapref10): the number, element, text or heap, and how many steps there were. Conditions: heaps of fewer than 2 to the 27th elements, both together.
-/
import Derived.Test.YtaeainnkhjnlaaaGreatDoorRq0
namespace Go.Proofs.YtaeainnkhjnlaaaGreatDoor.Ro
open Go.Sort Go.RowKit

theorem refLessW (x y : Int × Int) (w : World) : Calls Tryz.prog 26 #[.agg #[.int .i64 x.1, .int .i64 x.2], .agg #[.int .i64 y.1, .int .i64 y.2]] w fun e w' => e = .returned (.bool (ltE x y)) ∧ Below w.heap.size w w' := refLess_below x.1 x.2 y.1 y.2 w
theorem refTextP (x1 x2 : Int) (h : in64 x1 ∧ in64 x2) (w : World) : Calls Tryz.prog 37 #[.agg #[.int .i64 x1, .int .i64 x2]] w fun e w' => e = .returned (.string ⟨(textOf x1 x2).toArray⟩) ∧ Below w.heap.size w w' := refText_any x1 x2 h.1 h.2 w
section
variable {F : Nat → Prop} {o p : Sk} {A B : Option Addr} {n c m d : Nat} {w : World}
/-- Layer 9's reference, by heaps. -/
theorem skInsert (x1 x2 : Int) (hF : ∀ k, w.heap.size ≤ k → F k) (hs : o.size < 134217728) (h : HAt F w o.ts A n c) : Calls Tryz.prog 27 #[.agg #[.int .i64 x1, .int .i64 x2], .agg #[.slice A n c]] w (GaveH F (o.insert (x1, x2)).ts (o.insC + o.insM) w) :=
  Hp.refInsert9 F o.ts x1 x2 A n c w hF hs h
theorem skMeld (hF : ∀ k, w.heap.size ≤ k → F k) (hs : o.size + p.size < 268435456) (ha : HAt F w o.ts A n c) (hb : HAt F w p.ts B m d) : Calls Tryz.prog 29 #[.agg #[.slice A n c], .agg #[.slice B m d]] w (GaveH F (Go.Proofs.YtaeainnkhjnlaaaGreatDoor.meld o p).ts (2 * meldN o p) w) :=
  Hp.refMeld9 F o.ts p.ts A n c B m d w hF hs ha hb
theorem skPop (hF : ∀ k, w.heap.size ≤ k → F k) (hs : o.size < 134217728) (h : HAt F w o.ts A n c) : Calls Tryz.prog 33 #[.agg #[.slice A n c]] w (GaveH F o.pop.ts (o.popC + o.popM + o.tellN) w) := by
  obtain ⟨l⟩ := o
  cases l with
  | nil => exact Hp.refPop9_nil F A n c w h
  | cons u r =>
    have hn : n = (u :: r).length := h.1
    have h1 := Hp.refPop9_some F (u :: r) A n c w hF hs (by rw [hn]; simp) h
    rw [hn] at h1
    subst hn
    exact h1
theorem skMin (hs : o.size < 268435456) (h : HAt F w o.ts A n c) (x1 x2 : Int) (hx : (x1, x2) = o.min.1) : Calls Tryz.prog 32 #[.agg #[.slice A n c]] w fun e w' => e = .returned (.tuple #[.agg #[.int .i64 x1, .int .i64 x2], .int .i64 (o.tellN : Nat)]) ∧ Below w.heap.size w w' := by
  obtain ⟨l⟩ := o
  cases l with
  | nil =>
    have e : (x1, x2) = (0, 0) := hx
    cases e
    exact Hp.refMin9_nil F A n c w h
  | cons u r =>
    have hn : n = (u :: r).length := h.1
    have h1 := Hp.refMin9_some F (u :: r) A n c w hs (by rw [hn]; simp) h x1 x2 hx
    rw [show (n - 1 : Nat) = (Go.Proofs.YtaeainnkhjnlaaaGreatDoor.Lh.mk (u :: r)).tellN from by rw [hn]; rfl] at h1
    exact h1
theorem skShow (hs : o.size < 268435456) (hf : fits o.all) (h : HAt F w o.ts A n c) : Calls Tryz.prog 38 #[.agg #[.slice A n c]] w fun e w' => e = .returned (.string ⟨o.show.toArray⟩) ∧ Below w.heap.size w w' := by
  obtain ⟨l⟩ := o
  cases l with
  | nil => exact Hp.refShow9_nil F A n c w h
  | cons u r =>
    have hn : n = (u :: r).length := h.1
    exact Hp.refShow9_some F (u :: r) A n c w hs hf (by rw [hn]; simp) h
theorem skSize (hs : o.size < 268435456) (h : HAt F w o.ts A n c) : Calls Tryz.prog 22 #[.agg #[.slice A n c]] w fun e w' => e = .returned (.int .i64 (o.size : Nat)) ∧ Below w.heap.size w w' := Hp.refSize9 F o.ts A n c w hs h
end

set_option maxHeartbeats 1000000 in
theorem refSize_any (F : Nat → Prop) (t : Lh) (x1 x2 : Int) (A : Option Addr) (n c : Nat) (N : Bool) (s : Nat) (w : World) (h : RAt F w t (x1, x2) A n c N) (hs : s = t.size) (hsm : s < 268435456) : Calls Tryz.prog 7 #[.agg #[.bool N, .int .i64 x1, .int .i64 x2, .slice A n c]] w fun e w' => e = .returned (.int .i64 (s : Int)) ∧ Below w.heap.size w w' := by
  have hb0 : Below w.heap.size w (w.alloc (.cells #[.bool N, .int .i64 x1, .int .i64 x2, .slice A n c] 37)) := (Below.refl _ _).alloc (Nat.le_refl _) _
  cases t with
  | nil =>
    obtain ⟨-, rfl, rfl, rfl, rfl⟩ := h
    obtain rfl : s = 0 := hs
    go_enter Tryz.func7, Tryz.ntmps7
    go_wp2_with fail
    go_ret
    exact ⟨rfl, hb0⟩
  | node y o =>
    obtain ⟨-, rfl, ho⟩ := h
    have H := Lib.hid (And.intro hb0 (HAt.stay ho hb0))
    have hos : o.size + 1 = s := hs.symm
    obtain ⟨k, hk⟩ : ∃ k, k = o.size := ⟨_, rfl⟩
    have HK := Lib.hid (show k = o.size ∧ k + 1 = s ∧ s < 268435456 from ⟨hk, by omega, hsm⟩)
    have w1 : IntKind.i64.wrap (1 + (k : Int)) = 1 + (k : Int) := by rw [IntKind.wrap_i64]; omega
    have e9 : (s : Int) = 1 + (k : Int) := by omega
    rw [e9]
    clear hb0 ho hs hsm hos hk e9
    go_enter Tryz.func7, Tryz.ntmps7
    go_wp2_with fail
    ((with_reducible refine (skSize (by have := HK.out; omega) H.out.2).mono ?_); rintro e w2 ⟨rfl, hb2⟩)
    rw [← HK.out.1]
    have Y := Lib.hid (H.out.1.trans (hb2.mono H.out.1.size))
    clear hb2
    go_wp2_with fail
    go_ret
    refine ⟨?_, Y.out⟩
    first | rfl | (show Ending.returned (.int .i64 (IntKind.i64.wrap (1 + (k : Int)))) = _; rw [w1])

theorem refMin_any (x1 x2 : Int) (A : Option Addr) (n c : Nat) (N : Bool) (w : World) : Calls Tryz.prog 17 #[.agg #[.bool N, .int .i64 x1, .int .i64 x2, .slice A n c]] w fun e w' => e = .returned (.tuple #[.agg #[.int .i64 x1, .int .i64 x2], .int .i64 0]) ∧ Below w.heap.size w w' := by
  go_enter Tryz.func17, Tryz.ntmps17
  go_wp2_with fail
  refine bodyPost_ret (v := .tuple #[.agg #[.int .i64 x1, .int .i64 x2], .int .i64 0]) (by simp [results, Tryz.results17, go_sem]) rfl ⟨rfl, ?_⟩
  exact ((Below.refl w.heap.size w).alloc (Nat.le_refl _) (.cells #[.bool N, .int .i64 x1, .int .i64 x2, .slice A n c] 37)).alloc (by simp) (.cells #[.int .i64 x1, .int .i64 x2] 32)


set_option maxRecDepth 100000 in
set_option maxHeartbeats 2000000 in
theorem refShow_any (F : Nat → Prop) (t : Lh) (x1 x2 : Int) (A : Option Addr) (n c : Nat) (N : Bool) (w : World) (h : RAt F w t (x1, x2) A n c N) (hs : t.size < 268435456) (hf : fits t.all) : Calls Tryz.prog 19 #[.agg #[.bool N, .int .i64 x1, .int .i64 x2, .slice A n c]] w fun e w' => e = .returned (.string ⟨t.show.toArray⟩) ∧ Below w.heap.size w w' := by
  have hb1 : Below w.heap.size w (w.alloc (.cells #[.bool N, .int .i64 x1, .int .i64 x2, .slice A n c] 37)) := (Below.refl _ _).alloc (Nat.le_refl _) _
  have hv : QVar (w.alloc (.cells #[.bool N, .int .i64 x1, .int .i64 x2, .slice A n c] 37)) w.heap.size (x1, x2) A n c N := QVar.new w x1 x2 A n c N rfl
  cases t with
  | nil =>
    obtain ⟨-, rfl, rfl, rfl, rfl⟩ := h
    go_enter Tryz.func19, Tryz.ntmps19
    go_wp2_with fail
    go_ret
    exact ⟨rfl, hb1⟩
  | node y o =>
    obtain ⟨rfl, rfl, ho⟩ := h
    have hx : in64 x1 ∧ in64 x2 := (show fits ((x1, x2) :: o.all) from hf).cons.1
    have hfo : fits o.all := (show fits ((x1, x2) :: o.all) from hf).cons.2
    have hso : o.size < 268435456 := by simp only [Lh.size] at hs; omega
    have hlt := textOf_length x1 x2 hx.1 hx.2
    have hlo := sk_show_length o hfo
    have H := Lib.hid (And.intro hb1 (HAt.stay ho hb1))
    have HX := Lib.hid (And.intro hx (And.intro hfo hso))
    have HV := Lib.hid hv.qd
    have HS := Lib.hid (show (Lh.node (x1, x2) o).show = textOf x1 x2 ++ 32 :: o.show from rfl)
    obtain ⟨u, hu⟩ : ∃ u, u = textOf x1 x2 := ⟨_, rfl⟩
    obtain ⟨v, hv2⟩ : ∃ u, u = o.show := ⟨_, rfl⟩
    rw [← hu] at hlt
    rw [← hv2] at hlo
    have HU := Lib.hid (And.intro hu hv2)
    have n1 : ¬ 9223372036854775807 < u.length + 1 := by omega
    have n2 : ¬ 9223372036854775807 < u.length + 1 + v.length := by omega
    clear hv hb1 ho hf hs hx hfo hso hlt hlo hu hv2
    go_enter Tryz.func19, Tryz.ntmps19
    go_wp2_with fail
    obtain ⟨a, ha⟩ : ∃ a, a = w.heap.size := ⟨_, rfl⟩
    rw [← ha] at HV ⊢
    generalize w.alloc (.cells #[.bool true, .int .i64 x1, .int .i64 x2, .slice A n c] 37) = w1 at *
    have HA := Lib.hid ha
    clear ha
    have kc0 := fun d os => cell_regrown HV.out.c0 d os
    have kc1 := fun d os => cell_regrown HV.out.c1 d os
    have kc2 := fun d os => cell_regrown HV.out.c2 d os
    have kc3 := fun d os => cell_regrown HV.out.c3 d os
    have HC1 := Lib.hid (fun d os => in_class (w := w1) (fun W hb => ((refTextP x1 x2 HX.out.1 W).mono fun _ _ ⟨he, hb2⟩ => ⟨(show _ = Ending.returned (.string ⟨u.toArray⟩) by rw [he, HU.out.1]), hb2⟩)) d os)
    have HC2 := Lib.hid (fun d os => in_class (w := w1) (fun W hb => ((skShow HX.out.2.2 HX.out.2.1 (HAt.stay H.out.2 hb)).mono fun _ _ ⟨he, hb2⟩ => ⟨(show _ = Ending.returned (.string ⟨v.toArray⟩) by rw [he, HU.out.2]), hb2⟩)) d os)
    rw [world_self w1]
    generalize w1.drawn = d0
    generalize (#[] : Array Obj) = os0
    refine wp_region_class (by kernel_rfl) (by kernel_rfl) ?_
    repeat (go_big_quiet_step (first | (with_reducible exact HC1.out _ _) | (with_reducible exact HC2.out _ _) | fail))
    refine wpQuiet_nil ?_
    intro _ hw'
    obtain ⟨⟨dq, osq⟩, hw''⟩ := hw'
    subst hw''
    have HB := Lib.hid (H.out.1.trans ((below_regrown w1 dq osq).mono H.out.1.size))
    clear kc0 kc1 kc2 kc3
    go_wp2_with fail
    go_ret
    refine ⟨?_, HB.out⟩
    rw [HS.out, ← HU.out.1, ← HU.out.2, show (⟨#[32]⟩ : ByteArray) = ⟨[32].toArray⟩ from rfl, append_bytes, append_bytes]
    simp


/-- What a call of the reference's has, of its own: what was there stays; what it hands back is none yet; the winner, the loser. -/
structure Rv (w : World) (a : Nat) (u v : Int × Int) (W : World) : Prop where
  be : Below a w W
  sz : a = w.heap.size
  r : QVar W (a + 1 + 1) (0, 0) none 0 0 false
  u : EVar W (a + 1 + 1 + 1) u
  v : EVar W (a + 1 + 1 + 1 + 1) v
section
variable {w W W' : World} {a : Nat} {u v : Int × Int}
theorem Rv.stay (h : Rv w a u v W) (hb : Below W.heap.size W W') : Rv w a u v W' := ⟨h.be.trans (hb.mono (by have := h.be.size; have := h.sz; omega)), h.sz, h.r.stay hb, h.u.stay hb, h.v.stay hb⟩
theorem Rv.below (h : Rv w a u v W) : Below w.heap.size w W := h.sz ▸ h.be
theorem Rv.swap (h : Rv w a u v W) (u1 u2 v1 v2 : Int) : Rv w a (u1, u2) (v1, v2) ((((W.setCell ⟨a + 1 + 1 + 1, 0, none⟩ (.int .i64 u1)).setCell ⟨a + 1 + 1 + 1, 1, none⟩ (.int .i64 u2)).setCell ⟨a + 1 + 1 + 1 + 1, 0, none⟩ (.int .i64 v1)).setCell ⟨a + 1 + 1 + 1 + 1, 1, none⟩ (.int .i64 v2)) := by
  refine ⟨below_set2 (below_set2 h.be (by omega) _ _) (by omega) _ _, h.sz, ?_, ?_, ?_⟩
  · exact (heap_other _ _ (by omega)).trans ((heap_other _ _ (by omega)).trans ((heap_other _ _ (by omega)).trans ((heap_other _ _ (by omega)).trans h.r)))
  · exact EVar.aside (h.u.put u1 u2) (by omega) _ _
  · exact EVar.put (h.v.aside (by omega) _ _) v1 v2
theorem five_new (w : World) (o1 o2 : Obj) (u1 u2 v1 v2 : Int) : Rv w w.heap.size (u1, u2) (v1, v2) (((((w.alloc o1).alloc o2).alloc (.cells #[.bool false, .int .i64 0, .int .i64 0, .slice none 0 0] 37)).alloc (.cells #[.int .i64 u1, .int .i64 u2] 32)).alloc (.cells #[.int .i64 v1, .int .i64 v2] 32)) := by
  refine ⟨(((((Below.refl _ _).alloc (Nat.le_refl _) _).alloc (by simp) _).alloc (by simp; omega) _).alloc (by simp; omega) _).alloc (by simp; omega) _, rfl, ?_, ?_, ?_⟩
  · exact QVar.alloc (QVar.alloc (QVar.new _ 0 0 none 0 0 false (by simp)) _) _
  · exact EVar.alloc (EVar.new _ u1 u2 (by simp)) _
  · exact EVar.new _ v1 v2 (by simp)
end


set_option maxRecDepth 100000 in
set_option maxHeartbeats 8000000 in
theorem refInsert_lt (F : Nat → Prop) (o : Sk) (y1 y2 x1 x2 : Int) (A : Option Addr) (n c : Nat) (w : World) (hlt : ltE (y1, y2) (x1, x2) = true) (hF : ∀ k, w.heap.size ≤ k → F k) (hs : o.size < 134217728) (h : HAt F w o.ts A n c) :
    Calls Tryz.prog 9 #[.agg #[.int .i64 y1, .int .i64 y2], .agg #[.bool true, .int .i64 x1, .int .i64 x2, .slice A n c]] w (GaveP F (.node (y1, y2) (o.insert (x1, x2))) (o.insC + o.insM + 2) w) := by
  obtain ⟨W5, hW5⟩ : ∃ u, u = ((((w.alloc (.cells #[.int .i64 y1, .int .i64 y2] 32)).alloc (.cells #[.bool true, .int .i64 x1, .int .i64 x2, .slice A n c] 37)).alloc (.cells #[.bool false, .int .i64 0, .int .i64 0, .slice none 0 0] 37)).alloc (.cells #[.int .i64 x1, .int .i64 x2] 32)).alloc (.cells #[.int .i64 y1, .int .i64 y2] 32) := ⟨_, rfl⟩
  have R5 : Rv w w.heap.size (x1, x2) (y1, y2) W5 := by rw [hW5]; exact five_new w _ _ x1 x2 y1 y2
  have E5 : EVar W5 w.heap.size (y1, y2) := by rw [hW5]; exact (((EVar.alloc (EVar.new w y1 y2 rfl) _).alloc _).alloc _).alloc _
  have Q5 : QVar W5 (w.heap.size + 1) (x1, x2) A n c true := by rw [hW5]; exact ((QVar.alloc (QVar.new _ x1 x2 A n c true (by simp)) _).alloc _).alloc _
  obtain ⟨kk, hkk⟩ : ∃ k, k = o.insC + o.insM := ⟨_, rfl⟩
  have HKK := Lib.hid (show kk = o.insC + o.insM ∧ kk ≤ 4 from ⟨hkk, by have := Go.Proofs.YtaeainnkhjnlaaaGreatDoor.insC_le o; have := Go.Proofs.YtaeainnkhjnlaaaGreatDoor.insM_le o; omega⟩)
  rw [← hkk]
  have wn : IntKind.i64.wrap ((kk : Int) + 2) = ((kk + 2 : Nat) : Int) := by have := HKK.out; rw [IntKind.wrap_i64]; omega
  have wn2 : wrap64 ((kk : Int) + 2) = ((kk + 2 : Nat) : Int) := by have := HKK.out; unfold wrap64; omega
  have HN := Lib.hid (And.intro hF (And.intro hs (And.intro h hlt)))
  have HW := Lib.hid hW5
  clear hF hs h hlt hW5 hkk
  go_enter Tryz.func9, Tryz.ntmps9
  go_wp2_with fail
  rw [← HW.out]
  ((with_reducible refine (refLessW (y1, y2) (x1, x2) _).mono ?_); rintro e w6 ⟨rfl, hb6⟩)
  rw [HN.out.2.2.2]
  have R6 := Lib.hid (R5.stay hb6)
  have E6 := Lib.hid (E5.stay hb6)
  have Q6 := Lib.hid (Q5.stay hb6)
  clear R5 E5 Q5 HW hb6
  obtain ⟨a, ha⟩ : ∃ a, a = w.heap.size := ⟨_, rfl⟩
  rw [← ha] at R6 E6 Q6 ⊢
  have HA := Lib.hid ha
  clear ha
  have f0 := E6.out.c0
  have f1 := E6.out.c1
  have f2 := Q6.out.qd.c1
  have f3 := Q6.out.qd.c2
  have f4 := R6.out.u.z0
  have f5 := R6.out.u.z1
  have f6 := R6.out.v.z0
  have f7 := R6.out.v.z1
  have f8 := R6.out.u.c0
  have f9 := R6.out.u.c1
  have g0 := R6.out.v.c0
  have g1 := R6.out.v.c1
  have g2 := Q6.out.qd.c3
  have m1 : a + 1 ≠ a + 1 + 1 + 1 := by omega
  have m2 : a + 1 ≠ a + 1 + 1 + 1 + 1 := by omega
  have m3 : a ≠ a + 1 + 1 + 1 := by omega
  have m4 : a ≠ a + 1 + 1 + 1 + 1 := by omega
  have n1 : ¬ a + 1 + 1 + 1 = a + 1 := by omega
  have n2 : ¬ a + 1 = a + 1 + 1 + 1 := by omega
  have n3 : ¬ a + 1 + 1 + 1 + 1 = a + 1 := by omega
  have n4 : ¬ a + 1 = a + 1 + 1 + 1 + 1 := by omega
  have n5 : ¬ a + 1 + 1 + 1 + 1 = a + 1 + 1 + 1 := by omega
  have n6 : ¬ a + 1 + 1 + 1 = a + 1 + 1 + 1 + 1 := by omega
  have n7 : ¬ a + 1 + 1 + 1 = a := by omega
  have n8 : ¬ a = a + 1 + 1 + 1 := by omega
  have n9 : ¬ a + 1 + 1 + 1 + 1 = a := by omega
  have n0 : ¬ a = a + 1 + 1 + 1 + 1 := by omega
  have R7 := Lib.hid (R6.out.swap y1 y2 x1 x2)
  have d0 := R7.out.v.c0
  have d1 := R7.out.v.c1
  have Q7 := Lib.hid (show QVar _ (a + 1) (x1, x2) A n c true from (heap_other 1 (.int .i64 x2) m2).trans ((heap_other 0 (.int .i64 x1) m2).trans ((heap_other 1 (.int .i64 y2) m1).trans ((heap_other 0 (.int .i64 y1) m1).trans Q6.out))))
  have d2 := Q7.out.qd.c3
  go_wp2_with fail
  generalize (((w6.setCell ⟨a + 1 + 1 + 1, 0, none⟩ (.int .i64 y1)).setCell ⟨a + 1 + 1 + 1, 1, none⟩ (.int .i64 y2)).setCell ⟨a + 1 + 1 + 1 + 1, 0, none⟩ (.int .i64 x1)).setCell ⟨a + 1 + 1 + 1 + 1, 1, none⟩ (.int .i64 x2) = w7 at *
  clear f0 f1 f2 f3 f4 f5 f6 f7 f8 f9 g0 g1 g2 m1 m2 m3 m4 n1 n2 n3 n4 n5 n6 n7 n8 n9 n0 d0 d1 d2 Q7
  ((with_reducible refine (skInsert (F := fun k => F k ∧ k ≠ a + 1 + 1) x1 x2 (fun k hk => ⟨HN.out.1 k (by have := R7.out.be.size; have := HA.out; omega), by have := (R7.out.r).lt; omega⟩) HN.out.2.1 (HAt.stay (HAt.weak HN.out.2.2.1 (fun k hk hf => ⟨hf, by have := HA.out; omega⟩)) R7.out.below)).mono ?_); rintro e w8 ⟨A8, n8, c8, rfl, ht8, hb8⟩)
  rw [← HKK.out.1]
  have hal := (Below.refl w8.heap.size w8).alloc (Nat.le_refl _) (.cells #[.slice A8 n8 c8] 35)
  have R8 := Lib.hid ((R7.out.stay hb8).stay hal)
  have T8 := Lib.hid (HAt.stay ht8 hal)
  have e8 : Hp.HV7 (w8.alloc (.cells #[.slice A8 n8 c8] 35)) w8.heap.size A8 n8 c8 := new_at rfl
  have k0 := R8.out.u.c0
  have k1 := R8.out.u.c1
  have k2 : (w8.alloc (.cells #[.slice A8 n8 c8] 35)).cell? ⟨w8.heap.size, 0, none⟩ = some (.slice A8 n8 c8) := e8.c0
  have k3 := R8.out.r.qd
  clear ht8 hb8 hal e8
  go_wp2_with (refine wpList_store_qd rfl _ _ rfl _ rfl rfl k3 ⟨rfl, rfl, rfl, rfl⟩ ?_; intro w10 Y2 hk10 hb10 hs10)
  refine bodyPost_ret (v := .tuple #[.agg #[.bool true, .int .i64 y1, .int .i64 y2, .slice A8 n8 c8], .int .i64 ((kk + 2 : Nat) : Int)]) (by simp [results, Tryz.results9, go_sem, Y2.c0, Y2.c1, Y2.c2, Y2.c3]) rfl ?_
  have hbe := hb10 a _ R8.out.be (by omega)
  refine ⟨y1, y2, A8, n8, c8, true, rfl, ⟨rfl, rfl, HAt.far T8.out ⟨fun k _ hf => hk10 k hf.2, fun _ _ hf => hf.1⟩⟩, HA.out ▸ hbe⟩


set_option maxRecDepth 100000 in
set_option maxHeartbeats 8000000 in
theorem refInsert_ge (F : Nat → Prop) (o : Sk) (y1 y2 x1 x2 : Int) (A : Option Addr) (n c : Nat) (w : World) (hlt : ltE (y1, y2) (x1, x2) = false) (hF : ∀ k, w.heap.size ≤ k → F k) (hs : o.size < 134217728) (h : HAt F w o.ts A n c) :
    Calls Tryz.prog 9 #[.agg #[.int .i64 y1, .int .i64 y2], .agg #[.bool true, .int .i64 x1, .int .i64 x2, .slice A n c]] w (GaveP F (.node (x1, x2) (o.insert (y1, y2))) (o.insC + o.insM + 2) w) := by
  obtain ⟨W5, hW5⟩ : ∃ u, u = ((((w.alloc (.cells #[.int .i64 y1, .int .i64 y2] 32)).alloc (.cells #[.bool true, .int .i64 x1, .int .i64 x2, .slice A n c] 37)).alloc (.cells #[.bool false, .int .i64 0, .int .i64 0, .slice none 0 0] 37)).alloc (.cells #[.int .i64 x1, .int .i64 x2] 32)).alloc (.cells #[.int .i64 y1, .int .i64 y2] 32) := ⟨_, rfl⟩
  have R5 : Rv w w.heap.size (x1, x2) (y1, y2) W5 := by rw [hW5]; exact five_new w _ _ x1 x2 y1 y2
  have E5 : EVar W5 w.heap.size (y1, y2) := by rw [hW5]; exact (((EVar.alloc (EVar.new w y1 y2 rfl) _).alloc _).alloc _).alloc _
  have Q5 : QVar W5 (w.heap.size + 1) (x1, x2) A n c true := by rw [hW5]; exact ((QVar.alloc (QVar.new _ x1 x2 A n c true (by simp)) _).alloc _).alloc _
  obtain ⟨kk, hkk⟩ : ∃ k, k = o.insC + o.insM := ⟨_, rfl⟩
  have HKK := Lib.hid (show kk = o.insC + o.insM ∧ kk ≤ 4 from ⟨hkk, by have := Go.Proofs.YtaeainnkhjnlaaaGreatDoor.insC_le o; have := Go.Proofs.YtaeainnkhjnlaaaGreatDoor.insM_le o; omega⟩)
  rw [← hkk]
  have wn : IntKind.i64.wrap ((kk : Int) + 2) = ((kk + 2 : Nat) : Int) := by have := HKK.out; rw [IntKind.wrap_i64]; omega
  have wn2 : wrap64 ((kk : Int) + 2) = ((kk + 2 : Nat) : Int) := by have := HKK.out; unfold wrap64; omega
  have HN := Lib.hid (And.intro hF (And.intro hs (And.intro h hlt)))
  have HW := Lib.hid hW5
  clear hF hs h hlt hW5 hkk
  go_enter Tryz.func9, Tryz.ntmps9
  go_wp2_with fail
  rw [← HW.out]
  ((with_reducible refine (refLessW (y1, y2) (x1, x2) _).mono ?_); rintro e w6 ⟨rfl, hb6⟩)
  rw [HN.out.2.2.2]
  have R6 := Lib.hid (R5.stay hb6)
  have E6 := Lib.hid (E5.stay hb6)
  have Q6 := Lib.hid (Q5.stay hb6)
  clear R5 E5 Q5 HW hb6
  obtain ⟨a, ha⟩ : ∃ a, a = w.heap.size := ⟨_, rfl⟩
  rw [← ha] at R6 E6 Q6 ⊢
  have HA := Lib.hid ha
  clear ha
  have f0 := E6.out.c0
  have f1 := E6.out.c1
  have f2 := Q6.out.qd.c1
  have f3 := Q6.out.qd.c2
  have f4 := R6.out.u.z0
  have f5 := R6.out.u.z1
  have f6 := R6.out.v.z0
  have f7 := R6.out.v.z1
  have f8 := R6.out.u.c0
  have f9 := R6.out.u.c1
  have g0 := R6.out.v.c0
  have g1 := R6.out.v.c1
  have g2 := Q6.out.qd.c3
  have m1 : a + 1 ≠ a + 1 + 1 + 1 := by omega
  have m2 : a + 1 ≠ a + 1 + 1 + 1 + 1 := by omega
  have m3 : a ≠ a + 1 + 1 + 1 := by omega
  have m4 : a ≠ a + 1 + 1 + 1 + 1 := by omega
  have n1 : ¬ a + 1 + 1 + 1 = a + 1 := by omega
  have n2 : ¬ a + 1 = a + 1 + 1 + 1 := by omega
  have n3 : ¬ a + 1 + 1 + 1 + 1 = a + 1 := by omega
  have n4 : ¬ a + 1 = a + 1 + 1 + 1 + 1 := by omega
  have n5 : ¬ a + 1 + 1 + 1 + 1 = a + 1 + 1 + 1 := by omega
  have n6 : ¬ a + 1 + 1 + 1 = a + 1 + 1 + 1 + 1 := by omega
  have n7 : ¬ a + 1 + 1 + 1 = a := by omega
  have n8 : ¬ a = a + 1 + 1 + 1 := by omega
  have n9 : ¬ a + 1 + 1 + 1 + 1 = a := by omega
  have n0 : ¬ a = a + 1 + 1 + 1 + 1 := by omega
  have R7 := R6
  go_wp2_with fail
  clear f0 f1 f2 f3 f4 f5 f6 f7 f8 f9 g0 g1 g2 m1 m2 m3 m4 n1 n2 n3 n4 n5 n6 n7 n8 n9 n0
  ((with_reducible refine (skInsert (F := fun k => F k ∧ k ≠ a + 1 + 1) y1 y2 (fun k hk => ⟨HN.out.1 k (by have := R7.out.be.size; have := HA.out; omega), by have := (R7.out.r).lt; omega⟩) HN.out.2.1 (HAt.stay (HAt.weak HN.out.2.2.1 (fun k hk hf => ⟨hf, by have := HA.out; omega⟩)) R7.out.below)).mono ?_); rintro e w8 ⟨A8, n8, c8, rfl, ht8, hb8⟩)
  rw [← HKK.out.1]
  have hal := (Below.refl w8.heap.size w8).alloc (Nat.le_refl _) (.cells #[.slice A8 n8 c8] 35)
  have R8 := Lib.hid ((R7.out.stay hb8).stay hal)
  have T8 := Lib.hid (HAt.stay ht8 hal)
  have e8 : Hp.HV7 (w8.alloc (.cells #[.slice A8 n8 c8] 35)) w8.heap.size A8 n8 c8 := new_at rfl
  have k0 := R8.out.u.c0
  have k1 := R8.out.u.c1
  have k2 : (w8.alloc (.cells #[.slice A8 n8 c8] 35)).cell? ⟨w8.heap.size, 0, none⟩ = some (.slice A8 n8 c8) := e8.c0
  have k3 := R8.out.r.qd
  clear ht8 hb8 hal e8
  go_wp2_with (refine wpList_store_qd rfl _ _ rfl _ rfl rfl k3 ⟨rfl, rfl, rfl, rfl⟩ ?_; intro w10 Y2 hk10 hb10 hs10)
  refine bodyPost_ret (v := .tuple #[.agg #[.bool true, .int .i64 x1, .int .i64 x2, .slice A8 n8 c8], .int .i64 ((kk + 2 : Nat) : Int)]) (by simp [results, Tryz.results9, go_sem, Y2.c0, Y2.c1, Y2.c2, Y2.c3]) rfl ?_
  have hbe := hb10 a _ R8.out.be (by omega)
  refine ⟨x1, x2, A8, n8, c8, true, rfl, ⟨rfl, rfl, HAt.far T8.out ⟨fun k _ hf => hk10 k hf.2, fun _ _ hf => hf.1⟩⟩, HA.out ▸ hbe⟩


set_option maxRecDepth 100000 in
set_option maxHeartbeats 8000000 in
theorem refMeld_lt (F : Nat → Prop) (o p : Sk) (x1 x2 y1 y2 : Int) (A B : Option Addr) (n c m d : Nat) (w : World) (hlt : ltE (y1, y2) (x1, x2) = true) (hF : ∀ k, w.heap.size ≤ k → F k) (hs : o.size + p.size < 134217728) (ha0 : HAt F w o.ts A n c) (hb0 : HAt F w p.ts B m d) :
    Calls Tryz.prog 11 #[.agg #[.bool true, .int .i64 x1, .int .i64 x2, .slice A n c], .agg #[.bool true, .int .i64 y1, .int .i64 y2, .slice B m d]] w (GaveP F (.node (y1, y2) ((Go.Proofs.YtaeainnkhjnlaaaGreatDoor.meld o p).insert (x1, x2))) (2 * meldN o p + ((Go.Proofs.YtaeainnkhjnlaaaGreatDoor.meld o p).insC + (Go.Proofs.YtaeainnkhjnlaaaGreatDoor.meld o p).insM) + 2) w) := by
  obtain ⟨W5, hW5⟩ : ∃ u, u = ((((w.alloc (.cells #[.bool true, .int .i64 x1, .int .i64 x2, .slice A n c] 37)).alloc (.cells #[.bool true, .int .i64 y1, .int .i64 y2, .slice B m d] 37)).alloc (.cells #[.bool false, .int .i64 0, .int .i64 0, .slice none 0 0] 37)).alloc (.cells #[.int .i64 x1, .int .i64 x2] 32)).alloc (.cells #[.int .i64 y1, .int .i64 y2] 32) := ⟨_, rfl⟩
  have R5 : Rv w w.heap.size (x1, x2) (y1, y2) W5 := by rw [hW5]; exact five_new w _ _ x1 x2 y1 y2
  have P5 : QVar W5 w.heap.size (x1, x2) A n c true := by rw [hW5]; exact (((QVar.alloc (QVar.new w x1 x2 A n c true rfl) _).alloc _).alloc _).alloc _
  have Q5 : QVar W5 (w.heap.size + 1) (y1, y2) B m d true := by rw [hW5]; exact ((QVar.alloc (QVar.new _ y1 y2 B m d true (by simp)) _).alloc _).alloc _
  obtain ⟨g, hg⟩ : ∃ g, g = Go.Proofs.YtaeainnkhjnlaaaGreatDoor.meld o p := ⟨_, rfl⟩
  obtain ⟨kk, hkk⟩ : ∃ k, k = g.insC + g.insM := ⟨_, rfl⟩
  obtain ⟨jj, hjj⟩ : ∃ k, k = 2 * meldN o p := ⟨_, rfl⟩
  have HKK := Lib.hid (show kk = g.insC + g.insM ∧ kk ≤ 4 ∧ jj = 2 * meldN o p ∧ jj < 1073741824 ∧ g = Go.Proofs.YtaeainnkhjnlaaaGreatDoor.meld o p ∧ g.size < 134217728 from ⟨hkk, by have := Go.Proofs.YtaeainnkhjnlaaaGreatDoor.insC_le g; have := Go.Proofs.YtaeainnkhjnlaaaGreatDoor.insM_le g; omega, hjj, by have := meldN_size o p; omega, hg, by rw [hg, Go.Proofs.YtaeainnkhjnlaaaGreatDoor.meld_size]; exact hs⟩)
  rw [← hg, ← hkk, ← hjj]
  have wn : IntKind.i64.wrap ((jj : Int) + (kk : Int)) = (jj : Int) + (kk : Int) := by have := HKK.out; rw [IntKind.wrap_i64]; omega
  have wn1 : IntKind.i64.wrap ((jj : Int) + (kk : Int) + 2) = ((jj + kk + 2 : Nat) : Int) := by have := HKK.out; rw [IntKind.wrap_i64]; omega
  have wn2 : wrap64 ((jj : Int) + (kk : Int)) = (jj : Int) + (kk : Int) := by have := HKK.out; unfold wrap64; omega
  have wn3 : wrap64 ((jj : Int) + (kk : Int) + 2) = ((jj + kk + 2 : Nat) : Int) := by have := HKK.out; unfold wrap64; omega
  have HN := Lib.hid (And.intro hF (And.intro hs (And.intro ha0 (And.intro hb0 hlt))))
  have HW := Lib.hid hW5
  clear hF hs ha0 hb0 hlt hW5 hkk hjj hg
  go_enter Tryz.func11, Tryz.ntmps11
  go_wp2_with fail
  rw [← HW.out]
  ((with_reducible refine (refLessW (y1, y2) (x1, x2) _).mono ?_); rintro e w6 ⟨rfl, hb6⟩)
  rw [HN.out.2.2.2.2]
  have R6 := Lib.hid (R5.stay hb6)
  have P6 := Lib.hid (P5.stay hb6)
  have Q6 := Lib.hid (Q5.stay hb6)
  clear R5 P5 Q5 HW hb6
  obtain ⟨a, ha⟩ : ∃ a, a = w.heap.size := ⟨_, rfl⟩
  rw [← ha] at R6 P6 Q6 ⊢
  have HA := Lib.hid ha
  clear ha
  have f0 := P6.out.qd.c1
  have f1 := P6.out.qd.c2
  have f2 := Q6.out.qd.c1
  have f3 := Q6.out.qd.c2
  have f4 := R6.out.u.z0
  have f5 := R6.out.u.z1
  have f6 := R6.out.v.z0
  have f7 := R6.out.v.z1
  have f8 := R6.out.u.c0
  have f9 := R6.out.u.c1
  have g0 := R6.out.v.c0
  have g1 := R6.out.v.c1
  have g2 := Q6.out.qd.c3
  have g3 := P6.out.qd.c3
  have m1 : a + 1 ≠ a + 1 + 1 + 1 := by omega
  have m2 : a + 1 ≠ a + 1 + 1 + 1 + 1 := by omega
  have m3 : a ≠ a + 1 + 1 + 1 := by omega
  have m4 : a ≠ a + 1 + 1 + 1 + 1 := by omega
  have n1 : ¬ a + 1 + 1 + 1 = a + 1 := by omega
  have n2 : ¬ a + 1 = a + 1 + 1 + 1 := by omega
  have n3 : ¬ a + 1 + 1 + 1 + 1 = a + 1 := by omega
  have n4 : ¬ a + 1 = a + 1 + 1 + 1 + 1 := by omega
  have n5 : ¬ a + 1 + 1 + 1 + 1 = a + 1 + 1 + 1 := by omega
  have n6 : ¬ a + 1 + 1 + 1 = a + 1 + 1 + 1 + 1 := by omega
  have n7 : ¬ a + 1 + 1 + 1 = a := by omega
  have n8 : ¬ a = a + 1 + 1 + 1 := by omega
  have n9 : ¬ a + 1 + 1 + 1 + 1 = a := by omega
  have n0 : ¬ a = a + 1 + 1 + 1 + 1 := by omega
  have R7 := Lib.hid (R6.out.swap y1 y2 x1 x2)
  have Q7 := Lib.hid (show QVar _ (a + 1) (y1, y2) B m d true from (heap_other 1 (.int .i64 x2) m2).trans ((heap_other 0 (.int .i64 x1) m2).trans ((heap_other 1 (.int .i64 y2) m1).trans ((heap_other 0 (.int .i64 y1) m1).trans Q6.out))))
  have P7 := Lib.hid (show QVar _ a (x1, x2) A n c true from (heap_other 1 (.int .i64 x2) m4).trans ((heap_other 0 (.int .i64 x1) m4).trans ((heap_other 1 (.int .i64 y2) m3).trans ((heap_other 0 (.int .i64 y1) m3).trans P6.out))))
  have d0 := Q7.out.qd.c3
  have d1 := P7.out.qd.c3
  go_wp2_with fail
  generalize (((w6.setCell ⟨a + 1 + 1 + 1, 0, none⟩ (.int .i64 y1)).setCell ⟨a + 1 + 1 + 1, 1, none⟩ (.int .i64 y2)).setCell ⟨a + 1 + 1 + 1 + 1, 0, none⟩ (.int .i64 x1)).setCell ⟨a + 1 + 1 + 1 + 1, 1, none⟩ (.int .i64 x2) = w7 at *
  clear f0 f1 f2 f3 f4 f5 f6 f7 f8 f9 g0 g1 g2 g3 m1 m2 m3 m4 n1 n2 n3 n4 n5 n6 n7 n8 n9 n0 d0 d1 Q7 P7
  ((with_reducible refine (skMeld (F := fun k => F k ∧ k ≠ a + 1 + 1) (fun k hk => ⟨HN.out.1 k (by have := R7.out.be.size; have := HA.out; omega), by have := R7.out.r.lt; omega⟩) (by have := HN.out.2.1; omega) (HAt.stay (HAt.weak HN.out.2.2.1 (fun k hk hf => ⟨hf, by have := HA.out; omega⟩)) R7.out.below) (HAt.stay (HAt.weak HN.out.2.2.2.1 (fun k hk hf => ⟨hf, by have := HA.out; omega⟩)) R7.out.below)).mono ?_); rintro e w9 ⟨A9, n9, c9, rfl, ht9, hb9⟩)
  rw [← HKK.out.2.2.1]
  rw [← HKK.out.2.2.2.2.1] at ht9
  have hal9 := (Below.refl w9.heap.size w9).alloc (Nat.le_refl _) (.cells #[.slice A9 n9 c9] 35)
  have R9 := Lib.hid ((R7.out.stay hb9).stay hal9)
  have T9 := Lib.hid (HAt.stay ht9 hal9)
  have e9 : Hp.HV7 (w9.alloc (.cells #[.slice A9 n9 c9] 35)) w9.heap.size A9 n9 c9 := new_at rfl
  have j0 := R9.out.v.c0
  have j1 := R9.out.v.c1
  have j2 : (w9.alloc (.cells #[.slice A9 n9 c9] 35)).cell? ⟨w9.heap.size, 0, none⟩ = some (.slice A9 n9 c9) := e9.c0
  clear ht9 hb9 hal9 e9
  go_wp2_with fail
  generalize w9.alloc (.cells #[.slice A9 n9 c9] 35) = wa at *
  clear j0 j1 j2
  ((with_reducible refine (skInsert (F := fun k => F k ∧ k ≠ a + 1 + 1) x1 x2 (fun k hk => ⟨HN.out.1 k (by have := R9.out.be.size; have := HA.out; omega), by have := R9.out.r.lt; omega⟩) HKK.out.2.2.2.2.2 T9.out).mono ?_); rintro e w8 ⟨A8, n8, c8, rfl, ht8, hb8⟩)
  rw [← HKK.out.1]
  have hal := (Below.refl w8.heap.size w8).alloc (Nat.le_refl _) (.cells #[.slice A8 n8 c8] 35)
  have R8 := Lib.hid ((R9.out.stay hb8).stay hal)
  have T8 := Lib.hid (HAt.stay ht8 hal)
  have e8 : Hp.HV7 (w8.alloc (.cells #[.slice A8 n8 c8] 35)) w8.heap.size A8 n8 c8 := new_at rfl
  have k0 := R8.out.u.c0
  have k1 := R8.out.u.c1
  have k2 : (w8.alloc (.cells #[.slice A8 n8 c8] 35)).cell? ⟨w8.heap.size, 0, none⟩ = some (.slice A8 n8 c8) := e8.c0
  have k3 := R8.out.r.qd
  clear ht8 hb8 hal e8
  go_wp2_with (refine wpList_store_qd rfl _ _ rfl _ rfl rfl k3 ⟨rfl, rfl, rfl, rfl⟩ ?_; intro w10 Y2 hk10 hb10 hs10)
  refine bodyPost_ret (v := .tuple #[.agg #[.bool true, .int .i64 y1, .int .i64 y2, .slice A8 n8 c8], .int .i64 ((jj + kk + 2 : Nat) : Int)]) (by simp [results, Tryz.results11, go_sem, Y2.c0, Y2.c1, Y2.c2, Y2.c3]) rfl ?_
  have hbe := hb10 a _ R8.out.be (by omega)
  refine ⟨y1, y2, A8, n8, c8, true, rfl, ⟨rfl, rfl, HAt.far T8.out ⟨fun k _ hf => hk10 k hf.2, fun _ _ hf => hf.1⟩⟩, HA.out ▸ hbe⟩


set_option maxRecDepth 100000 in
set_option maxHeartbeats 8000000 in
theorem refMeld_ge (F : Nat → Prop) (o p : Sk) (x1 x2 y1 y2 : Int) (A B : Option Addr) (n c m d : Nat) (w : World) (hlt : ltE (y1, y2) (x1, x2) = false) (hF : ∀ k, w.heap.size ≤ k → F k) (hs : o.size + p.size < 134217728) (ha0 : HAt F w o.ts A n c) (hb0 : HAt F w p.ts B m d) :
    Calls Tryz.prog 11 #[.agg #[.bool true, .int .i64 x1, .int .i64 x2, .slice A n c], .agg #[.bool true, .int .i64 y1, .int .i64 y2, .slice B m d]] w (GaveP F (.node (x1, x2) ((Go.Proofs.YtaeainnkhjnlaaaGreatDoor.meld o p).insert (y1, y2))) (2 * meldN o p + ((Go.Proofs.YtaeainnkhjnlaaaGreatDoor.meld o p).insC + (Go.Proofs.YtaeainnkhjnlaaaGreatDoor.meld o p).insM) + 2) w) := by
  obtain ⟨W5, hW5⟩ : ∃ u, u = ((((w.alloc (.cells #[.bool true, .int .i64 x1, .int .i64 x2, .slice A n c] 37)).alloc (.cells #[.bool true, .int .i64 y1, .int .i64 y2, .slice B m d] 37)).alloc (.cells #[.bool false, .int .i64 0, .int .i64 0, .slice none 0 0] 37)).alloc (.cells #[.int .i64 x1, .int .i64 x2] 32)).alloc (.cells #[.int .i64 y1, .int .i64 y2] 32) := ⟨_, rfl⟩
  have R5 : Rv w w.heap.size (x1, x2) (y1, y2) W5 := by rw [hW5]; exact five_new w _ _ x1 x2 y1 y2
  have P5 : QVar W5 w.heap.size (x1, x2) A n c true := by rw [hW5]; exact (((QVar.alloc (QVar.new w x1 x2 A n c true rfl) _).alloc _).alloc _).alloc _
  have Q5 : QVar W5 (w.heap.size + 1) (y1, y2) B m d true := by rw [hW5]; exact ((QVar.alloc (QVar.new _ y1 y2 B m d true (by simp)) _).alloc _).alloc _
  obtain ⟨g, hg⟩ : ∃ g, g = Go.Proofs.YtaeainnkhjnlaaaGreatDoor.meld o p := ⟨_, rfl⟩
  obtain ⟨kk, hkk⟩ : ∃ k, k = g.insC + g.insM := ⟨_, rfl⟩
  obtain ⟨jj, hjj⟩ : ∃ k, k = 2 * meldN o p := ⟨_, rfl⟩
  have HKK := Lib.hid (show kk = g.insC + g.insM ∧ kk ≤ 4 ∧ jj = 2 * meldN o p ∧ jj < 1073741824 ∧ g = Go.Proofs.YtaeainnkhjnlaaaGreatDoor.meld o p ∧ g.size < 134217728 from ⟨hkk, by have := Go.Proofs.YtaeainnkhjnlaaaGreatDoor.insC_le g; have := Go.Proofs.YtaeainnkhjnlaaaGreatDoor.insM_le g; omega, hjj, by have := meldN_size o p; omega, hg, by rw [hg, Go.Proofs.YtaeainnkhjnlaaaGreatDoor.meld_size]; exact hs⟩)
  rw [← hg, ← hkk, ← hjj]
  have wn : IntKind.i64.wrap ((jj : Int) + (kk : Int)) = (jj : Int) + (kk : Int) := by have := HKK.out; rw [IntKind.wrap_i64]; omega
  have wn1 : IntKind.i64.wrap ((jj : Int) + (kk : Int) + 2) = ((jj + kk + 2 : Nat) : Int) := by have := HKK.out; rw [IntKind.wrap_i64]; omega
  have wn2 : wrap64 ((jj : Int) + (kk : Int)) = (jj : Int) + (kk : Int) := by have := HKK.out; unfold wrap64; omega
  have wn3 : wrap64 ((jj : Int) + (kk : Int) + 2) = ((jj + kk + 2 : Nat) : Int) := by have := HKK.out; unfold wrap64; omega
  have HN := Lib.hid (And.intro hF (And.intro hs (And.intro ha0 (And.intro hb0 hlt))))
  have HW := Lib.hid hW5
  clear hF hs ha0 hb0 hlt hW5 hkk hjj hg
  go_enter Tryz.func11, Tryz.ntmps11
  go_wp2_with fail
  rw [← HW.out]
  ((with_reducible refine (refLessW (y1, y2) (x1, x2) _).mono ?_); rintro e w6 ⟨rfl, hb6⟩)
  rw [HN.out.2.2.2.2]
  have R6 := Lib.hid (R5.stay hb6)
  have P6 := Lib.hid (P5.stay hb6)
  have Q6 := Lib.hid (Q5.stay hb6)
  clear R5 P5 Q5 HW hb6
  obtain ⟨a, ha⟩ : ∃ a, a = w.heap.size := ⟨_, rfl⟩
  rw [← ha] at R6 P6 Q6 ⊢
  have HA := Lib.hid ha
  clear ha
  have f0 := P6.out.qd.c1
  have f1 := P6.out.qd.c2
  have f2 := Q6.out.qd.c1
  have f3 := Q6.out.qd.c2
  have f4 := R6.out.u.z0
  have f5 := R6.out.u.z1
  have f6 := R6.out.v.z0
  have f7 := R6.out.v.z1
  have f8 := R6.out.u.c0
  have f9 := R6.out.u.c1
  have g0 := R6.out.v.c0
  have g1 := R6.out.v.c1
  have g2 := Q6.out.qd.c3
  have g3 := P6.out.qd.c3
  have m1 : a + 1 ≠ a + 1 + 1 + 1 := by omega
  have m2 : a + 1 ≠ a + 1 + 1 + 1 + 1 := by omega
  have m3 : a ≠ a + 1 + 1 + 1 := by omega
  have m4 : a ≠ a + 1 + 1 + 1 + 1 := by omega
  have n1 : ¬ a + 1 + 1 + 1 = a + 1 := by omega
  have n2 : ¬ a + 1 = a + 1 + 1 + 1 := by omega
  have n3 : ¬ a + 1 + 1 + 1 + 1 = a + 1 := by omega
  have n4 : ¬ a + 1 = a + 1 + 1 + 1 + 1 := by omega
  have n5 : ¬ a + 1 + 1 + 1 + 1 = a + 1 + 1 + 1 := by omega
  have n6 : ¬ a + 1 + 1 + 1 = a + 1 + 1 + 1 + 1 := by omega
  have n7 : ¬ a + 1 + 1 + 1 = a := by omega
  have n8 : ¬ a = a + 1 + 1 + 1 := by omega
  have n9 : ¬ a + 1 + 1 + 1 + 1 = a := by omega
  have n0 : ¬ a = a + 1 + 1 + 1 + 1 := by omega
  have R7 := R6
  go_wp2_with fail
  clear f0 f1 f2 f3 f4 f5 f6 f7 f8 f9 g0 g1 g2 g3 m1 m2 m3 m4 n1 n2 n3 n4 n5 n6 n7 n8 n9 n0
  ((with_reducible refine (skMeld (F := fun k => F k ∧ k ≠ a + 1 + 1) (fun k hk => ⟨HN.out.1 k (by have := R7.out.be.size; have := HA.out; omega), by have := R7.out.r.lt; omega⟩) (by have := HN.out.2.1; omega) (HAt.stay (HAt.weak HN.out.2.2.1 (fun k hk hf => ⟨hf, by have := HA.out; omega⟩)) R7.out.below) (HAt.stay (HAt.weak HN.out.2.2.2.1 (fun k hk hf => ⟨hf, by have := HA.out; omega⟩)) R7.out.below)).mono ?_); rintro e w9 ⟨A9, n9, c9, rfl, ht9, hb9⟩)
  rw [← HKK.out.2.2.1]
  rw [← HKK.out.2.2.2.2.1] at ht9
  have hal9 := (Below.refl w9.heap.size w9).alloc (Nat.le_refl _) (.cells #[.slice A9 n9 c9] 35)
  have R9 := Lib.hid ((R7.out.stay hb9).stay hal9)
  have T9 := Lib.hid (HAt.stay ht9 hal9)
  have e9 : Hp.HV7 (w9.alloc (.cells #[.slice A9 n9 c9] 35)) w9.heap.size A9 n9 c9 := new_at rfl
  have j0 := R9.out.v.c0
  have j1 := R9.out.v.c1
  have j2 : (w9.alloc (.cells #[.slice A9 n9 c9] 35)).cell? ⟨w9.heap.size, 0, none⟩ = some (.slice A9 n9 c9) := e9.c0
  clear ht9 hb9 hal9 e9
  go_wp2_with fail
  generalize w9.alloc (.cells #[.slice A9 n9 c9] 35) = wa at *
  clear j0 j1 j2
  ((with_reducible refine (skInsert (F := fun k => F k ∧ k ≠ a + 1 + 1) y1 y2 (fun k hk => ⟨HN.out.1 k (by have := R9.out.be.size; have := HA.out; omega), by have := R9.out.r.lt; omega⟩) HKK.out.2.2.2.2.2 T9.out).mono ?_); rintro e w8 ⟨A8, n8, c8, rfl, ht8, hb8⟩)
  rw [← HKK.out.1]
  have hal := (Below.refl w8.heap.size w8).alloc (Nat.le_refl _) (.cells #[.slice A8 n8 c8] 35)
  have R8 := Lib.hid ((R9.out.stay hb8).stay hal)
  have T8 := Lib.hid (HAt.stay ht8 hal)
  have e8 : Hp.HV7 (w8.alloc (.cells #[.slice A8 n8 c8] 35)) w8.heap.size A8 n8 c8 := new_at rfl
  have k0 := R8.out.u.c0
  have k1 := R8.out.u.c1
  have k2 : (w8.alloc (.cells #[.slice A8 n8 c8] 35)).cell? ⟨w8.heap.size, 0, none⟩ = some (.slice A8 n8 c8) := e8.c0
  have k3 := R8.out.r.qd
  clear ht8 hb8 hal e8
  go_wp2_with (refine wpList_store_qd rfl _ _ rfl _ rfl rfl k3 ⟨rfl, rfl, rfl, rfl⟩ ?_; intro w10 Y2 hk10 hb10 hs10)
  refine bodyPost_ret (v := .tuple #[.agg #[.bool true, .int .i64 x1, .int .i64 x2, .slice A8 n8 c8], .int .i64 ((jj + kk + 2 : Nat) : Int)]) (by simp [results, Tryz.results11, go_sem, Y2.c0, Y2.c1, Y2.c2, Y2.c3]) rfl ?_
  have hbe := hb10 a _ R8.out.be (by omega)
  refine ⟨x1, x2, A8, n8, c8, true, rfl, ⟨rfl, rfl, HAt.far T8.out ⟨fun k _ hf => hk10 k hf.2, fun _ _ hf => hf.1⟩⟩, HA.out ▸ hbe⟩


set_option maxRecDepth 100000 in
set_option maxHeartbeats 2000000 in
theorem refInsert_none (F : Nat → Prop) (y1 y2 : Int) (w : World) : Calls Tryz.prog 9 #[.agg #[.int .i64 y1, .int .i64 y2], .agg #[.bool false, .int .i64 0, .int .i64 0, .slice none 0 0]] w (GaveP F (.one (y1, y2)) 1 w) := by
  go_enter Tryz.func9, Tryz.ntmps9
  go_wp2_with fail
  refine bodyPost_ret (v := .tuple #[.agg #[.bool true, .int .i64 y1, .int .i64 y2, .slice none 0 0], .int .i64 1]) (by simp [results, Tryz.results9, go_sem]) rfl ?_
  have hbe := (((Below.refl w.heap.size w).alloc (Nat.le_refl _) (.cells #[.int .i64 y1, .int .i64 y2] 32)).alloc (by simp) (.cells #[.bool false, .int .i64 0, .int .i64 0, .slice none 0 0] 37)).alloc (by simp; omega) (.cells #[.bool true, .int .i64 y1, .int .i64 y2, .slice none 0 0] 37)
  exact ⟨y1, y2, none, 0, 0, true, rfl, ⟨rfl, rfl, HAt.nil _ _ _⟩, hbe⟩
theorem refInsert_any (F : Nat → Prop) (t : Lh) (y1 y2 x1 x2 : Int) (A : Option Addr) (n c : Nat) (N : Bool) (w : World) (hF : ∀ k, w.heap.size ≤ k → F k) (hs : t.size < 134217728) (h : RAt F w t (x1, x2) A n c N) :
    Calls Tryz.prog 9 #[.agg #[.int .i64 y1, .int .i64 y2], .agg #[.bool N, .int .i64 x1, .int .i64 x2, .slice A n c]] w (GaveP F (t.insert (y1, y2)) (t.insC + t.insM) w) := by
  cases t with
  | nil =>
    obtain ⟨hx, rfl, rfl, rfl, rfl⟩ := h
    cases hx
    exact refInsert_none F y1 y2 w
  | node x o =>
    obtain ⟨rfl, rfl, ho⟩ := h
    have hso : o.size < 134217728 := by simp only [Lh.size] at hs; omega
    rw [show (Lh.node (x1, x2) o).insC + (Lh.node (x1, x2) o).insM = o.insC + o.insM + 2 from by show o.insC + 1 + (o.insM + 1) = _; omega]
    by_cases hlt : ltE (y1, y2) (x1, x2) = true
    · rw [insert_lt hlt]
      exact refInsert_lt F o y1 y2 x1 x2 A n c w hlt hF hso ho
    · have hlt' : ltE (y1, y2) (x1, x2) = false := by simpa using hlt
      rw [insert_ge hlt']
      exact refInsert_ge F o y1 y2 x1 x2 A n c w hlt' hF hso ho
set_option maxRecDepth 100000 in
set_option maxHeartbeats 2000000 in
theorem refMeld_first (F : Nat → Prop) (t : Lh) (y1 y2 : Int) (B : Option Addr) (m d : Nat) (M : Bool) (w : World) (h : RAt F w t (y1, y2) B m d M) :
    Calls Tryz.prog 11 #[.agg #[.bool false, .int .i64 0, .int .i64 0, .slice none 0 0], .agg #[.bool M, .int .i64 y1, .int .i64 y2, .slice B m d]] w (GaveP F t 0 w) := by
  have HH := Lib.hid h
  clear h
  go_enter Tryz.func11, Tryz.ntmps11
  go_wp2_with fail
  refine bodyPost_ret (v := .tuple #[.agg #[.bool M, .int .i64 y1, .int .i64 y2, .slice B m d], .int .i64 0]) (by simp [results, Tryz.results11, go_sem]) rfl ?_
  have hbe := (((Below.refl w.heap.size w).alloc (Nat.le_refl _) (.cells #[.bool false, .int .i64 0, .int .i64 0, .slice none 0 0] 37)).alloc (by simp) (.cells #[.bool M, .int .i64 y1, .int .i64 y2, .slice B m d] 37)).alloc (by simp; omega) (.cells #[.bool M, .int .i64 y1, .int .i64 y2, .slice B m d] 37)
  exact ⟨y1, y2, B, m, d, M, rfl, HH.out.stay hbe, hbe⟩
set_option maxRecDepth 100000 in
set_option maxHeartbeats 2000000 in
theorem refMeld_second (F : Nat → Prop) (t : Lh) (x1 x2 : Int) (A : Option Addr) (n c : Nat) (w : World) (h : RAt F w t (x1, x2) A n c true) :
    Calls Tryz.prog 11 #[.agg #[.bool true, .int .i64 x1, .int .i64 x2, .slice A n c], .agg #[.bool false, .int .i64 0, .int .i64 0, .slice none 0 0]] w (GaveP F t 0 w) := by
  have HH := Lib.hid h
  clear h
  go_enter Tryz.func11, Tryz.ntmps11
  go_wp2_with fail
  refine bodyPost_ret (v := .tuple #[.agg #[.bool true, .int .i64 x1, .int .i64 x2, .slice A n c], .int .i64 0]) (by simp [results, Tryz.results11, go_sem]) rfl ?_
  have hbe := (((Below.refl w.heap.size w).alloc (Nat.le_refl _) (.cells #[.bool true, .int .i64 x1, .int .i64 x2, .slice A n c] 37)).alloc (by simp) (.cells #[.bool false, .int .i64 0, .int .i64 0, .slice none 0 0] 37)).alloc (by simp; omega) (.cells #[.bool true, .int .i64 x1, .int .i64 x2, .slice A n c] 37)
  exact ⟨x1, x2, A, n, c, true, rfl, HH.out.stay hbe, hbe⟩
theorem refMeld_any (F : Nat → Prop) (ta tb : Lh) (x1 x2 : Int) (A : Option Addr) (n c : Nat) (N : Bool) (y1 y2 : Int) (B : Option Addr) (m d : Nat) (M : Bool) (w : World) (hF : ∀ k, w.heap.size ≤ k → F k) (hs : ta.size + tb.size < 134217728) (ha : RAt F w ta (x1, x2) A n c N) (hb : RAt F w tb (y1, y2) B m d M) :
    Calls Tryz.prog 11 #[.agg #[.bool N, .int .i64 x1, .int .i64 x2, .slice A n c], .agg #[.bool M, .int .i64 y1, .int .i64 y2, .slice B m d]] w (GaveP F (meld ta tb) (meldC ta tb + meldM ta tb) w) := by
  cases ta with
  | nil =>
    obtain ⟨hx, rfl, rfl, rfl, rfl⟩ := ha
    cases hx
    exact refMeld_first F tb y1 y2 B m d M w hb
  | node x o =>
    cases tb with
    | nil =>
      have ha' := ha
      obtain ⟨-, rfl, -⟩ := ha'
      obtain ⟨hx, rfl, rfl, rfl, rfl⟩ := hb
      cases hx
      exact refMeld_second F (.node x o) x1 x2 A n c w ha
    | node y p =>
      obtain ⟨rfl, rfl, ho⟩ := ha
      obtain ⟨rfl, rfl, hp⟩ := hb
      have hsz : o.size + p.size < 134217728 := by simp only [Lh.size] at hs; omega
      rw [show meldC (.node (x1, x2) o) (.node (y1, y2) p) + meldM (.node (x1, x2) o) (.node (y1, y2) p) = 2 * meldN o p + ((Go.Proofs.YtaeainnkhjnlaaaGreatDoor.meld o p).insC + (Go.Proofs.YtaeainnkhjnlaaaGreatDoor.meld o p).insM) + 2 from by show meldN o p + (Go.Proofs.YtaeainnkhjnlaaaGreatDoor.meld o p).insC + 1 + (meldN o p + (Go.Proofs.YtaeainnkhjnlaaaGreatDoor.meld o p).insM + 1) = _; omega]
      by_cases hlt : ltE (y1, y2) (x1, x2) = true
      · rw [meld_lt hlt]
        exact refMeld_lt F o p x1 x2 y1 y2 A B n c m d w hlt hF hsz ho hp
      · have hlt' : ltE (y1, y2) (x1, x2) = false := by simpa using hlt
        rw [meld_ge hlt']
        exact refMeld_ge F o p x1 x2 y1 y2 A B n c m d w hlt' hF hsz ho hp

theorem two_q (w : World) (x1 x2 : Int) (A : Option Addr) (n c : Nat) (N : Bool) : let W := (w.alloc (.cells #[.bool N, .int .i64 x1, .int .i64 x2, .slice A n c] 37)).alloc (.cells #[.bool false, .int .i64 0, .int .i64 0, .slice none 0 0] 37)
    QVar W w.heap.size (x1, x2) A n c N ∧ QVar W (w.heap.size + 1) (0, 0) none 0 0 false ∧ Below w.heap.size w W :=
  ⟨QVar.alloc (QVar.new _ _ _ _ _ _ _ rfl) _, QVar.new _ _ _ _ _ _ _ (by simp), ((Below.refl w.heap.size w).alloc (Nat.le_refl _) _).alloc (by simp) _⟩
set_option maxRecDepth 100000 in
set_option maxHeartbeats 4000000 in
theorem refPop_none (F : Nat → Prop) (x1 x2 : Int) (A : Option Addr) (n c : Nat) (N : Bool) (w : World) (h : HAt F w Go.Proofs.YtaeainnkhjnlaaaGreatDoor.Lh.nil.ts A n c) :
    Calls Tryz.prog 13 #[.agg #[.bool N, .int .i64 x1, .int .i64 x2, .slice A n c]] w (GaveP F .nil 0 w) := by
  obtain ⟨W1, hW⟩ : ∃ u, u = (w.alloc (.cells #[.bool N, .int .i64 x1, .int .i64 x2, .slice A n c] 37)).alloc (.cells #[.bool false, .int .i64 0, .int .i64 0, .slice none 0 0] 37) := ⟨_, rfl⟩
  have h2 := two_q w x1 x2 A n c N
  simp only at h2
  rw [← hW] at h2
  have H := Lib.hid (And.intro h (And.intro h2.1 (And.intro h2.2.1 h2.2.2)))
  have HW := Lib.hid hW
  clear h h2 hW
  go_enter Tryz.func13, Tryz.ntmps13
  go_wp2_with fail
  rw [← HW.out]
  ((with_reducible refine (skSize (o := .nil) (by decide) (HAt.stay H.out.1 H.out.2.2.2)).mono ?_); rintro e w2 ⟨rfl, hb2⟩)
  rw [show ((Go.Proofs.YtaeainnkhjnlaaaGreatDoor.Lh.nil.size : Nat) : Int) = 0 from rfl]
  have Z2 := (H.out.2.2.1.stay hb2).qd
  have B2 := Lib.hid (H.out.2.2.2.trans (hb2.mono H.out.2.2.2.size))
  clear HW hb2
  go_wp2_with (refine wpList_store_qd rfl _ _ rfl _ rfl rfl Z2 ⟨rfl, rfl, rfl, rfl⟩ ?_; intro w10 Y2 hk10 hb10 hs10)
  refine bodyPost_ret (v := .tuple #[.agg #[.bool false, .int .i64 0, .int .i64 0, .slice none 0 0], .int .i64 0]) (by simp [results, Tryz.results13, go_sem, Y2.c0, Y2.c1, Y2.c2, Y2.c3]) rfl ?_
  exact ⟨0, 0, none, 0, 0, false, rfl, RAt.zero _ _, hb10 _ _ B2.out (by omega)⟩
set_option maxRecDepth 100000 in
set_option maxHeartbeats 8000000 in
theorem refPop_some (F : Nat → Prop) (o : Sk) (x1 x2 : Int) (A : Option Addr) (n c : Nat) (w : World) (hs : o.size < 134217728) (hF : ∀ k, w.heap.size ≤ k → F k) (h : HAt F w o.ts A n c) (hne : o.some = true) :
    Calls Tryz.prog 13 #[.agg #[.bool true, .int .i64 x1, .int .i64 x2, .slice A n c]] w (GaveP F (.node o.min.1 o.pop) (o.tellN + (o.popC + o.popM + o.tellN) + 1) w) := by
  obtain ⟨W1, hW⟩ : ∃ u, u = (w.alloc (.cells #[.bool true, .int .i64 x1, .int .i64 x2, .slice A n c] 37)).alloc (.cells #[.bool false, .int .i64 0, .int .i64 0, .slice none 0 0] 37) := ⟨_, rfl⟩
  have h2 := two_q w x1 x2 A n c true
  simp only at h2
  rw [← hW] at h2
  obtain ⟨⟨m1, m2⟩, hm⟩ : ∃ v, v = o.min.1 := ⟨_, rfl⟩
  obtain ⟨s, hsz⟩ : ∃ s, s = o.size := ⟨_, rfl⟩
  obtain ⟨T, hT⟩ : ∃ s, s = o.tellN := ⟨_, rfl⟩
  obtain ⟨K, hK⟩ : ∃ s, s = o.popC + o.popM + T := ⟨_, rfl⟩
  have hpos : 0 < s := by rw [Go.Proofs.YtaeainnkhjnlaaaGreatDoor.some_pos] at hne; rw [hsz]; simpa using hne
  rw [← hm, ← hT, ← hK]
  have HX := Lib.hid (show (m1, m2) = o.min.1 ∧ s = o.size ∧ 0 < s ∧ s < 134217728 ∧ T = o.tellN ∧ K = o.popC + o.popM + T ∧ T < 134217728 ∧ K < 1342177280 from ⟨hm, hsz, hpos, by omega, hT, hK, by have := tellN_size o; omega, by have := tellN_size o; have := Go.Proofs.YtaeainnkhjnlaaaGreatDoor.pop_counts o; omega⟩)
  have g1 : ((s : Int) == 0) = false := by simp; omega
  have g2 : ¬ (s : Int) = 0 := by omega
  have g3 : ¬ s = 0 := by omega
  have wn : IntKind.i64.wrap ((T : Int) + (K : Int)) = (T : Int) + (K : Int) := by have := HX.out; rw [IntKind.wrap_i64]; omega
  have wn1 : IntKind.i64.wrap ((T : Int) + (K : Int) + 1) = ((T + K + 1 : Nat) : Int) := by have := HX.out; rw [IntKind.wrap_i64]; omega
  have wn2 : wrap64 ((T : Int) + (K : Int)) = (T : Int) + (K : Int) := by have := HX.out; unfold wrap64; omega
  have wn3 : wrap64 ((T : Int) + (K : Int) + 1) = ((T + K + 1 : Nat) : Int) := by have := HX.out; unfold wrap64; omega
  have H := Lib.hid (And.intro h (And.intro h2.1 (And.intro h2.2.1 (And.intro h2.2.2 hF))))
  have HW := Lib.hid hW
  have HSM := Lib.hid hs
  clear h h2 hW hm hsz hT hK hpos hs hF hne
  go_enter Tryz.func13, Tryz.ntmps13
  go_wp2_with fail
  rw [← HW.out]
  obtain ⟨a, ha⟩ : ∃ a, a = w.heap.size := ⟨_, rfl⟩
  have HA := Lib.hid ha
  rw [← ha] at H ⊢
  clear ha HW
  ((with_reducible refine (skSize (o := o) (by have := HSM.out; omega) (HAt.stay H.out.1 (HA.out ▸ H.out.2.2.2.1))).mono ?_); rintro e w2 ⟨rfl, hb2⟩)
  rw [← HX.out.2.1]
  have Q2 := Lib.hid (H.out.2.1.stay hb2)
  have Z2 := Lib.hid (H.out.2.2.1.stay hb2)
  have B2 := Lib.hid (H.out.2.2.2.1.trans (hb2.mono (by have := H.out.2.2.2.1.size; have := HA.out; omega)))
  have q0 := Q2.out.qd.c3
  clear hb2
  go_wp2_with fail
  clear g1 g2 g3
  ((with_reducible refine (skMin (o := o) (by have := HSM.out; omega) (HAt.stay H.out.1 (HA.out ▸ B2.out)) m1 m2 HX.out.1).mono ?_); rintro e w3 ⟨rfl, hb3⟩)
  rw [← HX.out.2.2.2.2.1]
  have hal := (Below.refl w3.heap.size w3).alloc (Nat.le_refl _) (.cells #[.int .i64 m1, .int .i64 m2] 32)
  have Q3 := Lib.hid ((Q2.out.stay hb3).stay hal)
  have Z3 := Lib.hid ((Z2.out.stay hb3).stay hal)
  have E3 := Lib.hid (EVar.new w3 m1 m2 rfl)
  have B3 := Lib.hid ((B2.out.trans (hb3.mono (by have := B2.out.size; have := HA.out; omega))).alloc (by have := hb3.size; have := B2.out.size; have := HA.out; omega) (.cells #[.int .i64 m1, .int .i64 m2] 32))
  have q1 := Q3.out.qd.c3
  clear hb3 hal q0
  go_wp2_with fail
  generalize w3.alloc (.cells #[.int .i64 m1, .int .i64 m2] 32) = w4 at *
  obtain ⟨b, hb⟩ : ∃ b, b = w3.heap.size := ⟨_, rfl⟩
  rw [← hb] at E3 ⊢
  clear hb q1
  ((with_reducible refine (skPop (F := fun k => F k ∧ k ≠ a + 1) (o := o) (fun k hk => ⟨H.out.2.2.2.2 k (by have := B3.out.size; have := HA.out; omega), by have := Z3.out.lt; omega⟩) HSM.out (HAt.stay (HAt.weak H.out.1 (fun k hk hf => ⟨hf, by have := HA.out; omega⟩)) (HA.out ▸ B3.out))).mono ?_); rintro e w5 ⟨A5, n5, c5, rfl, ht5, hb5⟩)
  rw [← HX.out.2.2.2.2.1, ← HX.out.2.2.2.2.2.1]
  have hal := (Below.refl w5.heap.size w5).alloc (Nat.le_refl _) (.cells #[.slice A5 n5 c5] 35)
  have T5 := Lib.hid (HAt.stay ht5 hal)
  have B5 := Lib.hid ((B3.out.trans (hb5.mono (by have := B3.out.size; have := HA.out; omega))).alloc (by have := hb5.size; have := B3.out.size; have := HA.out; omega) (.cells #[.slice A5 n5 c5] 35))
  have e5 : Hp.HV7 (w5.alloc (.cells #[.slice A5 n5 c5] 35)) w5.heap.size A5 n5 c5 := new_at rfl
  have k0 := (EVar.stay (E3.out.stay hb5) hal).c0
  have k1 := (EVar.stay (E3.out.stay hb5) hal).c1
  have k2 : (w5.alloc (.cells #[.slice A5 n5 c5] 35)).cell? ⟨w5.heap.size, 0, none⟩ = some (.slice A5 n5 c5) := e5.c0
  have k3 := ((Z3.out.stay hb5).stay hal).qd
  clear ht5 hb5 hal e5
  go_wp2_with (refine wpList_store_qd rfl _ _ rfl _ rfl rfl k3 ⟨rfl, rfl, rfl, rfl⟩ ?_; intro w10 Y2 hk10 hb10 hs10)
  refine bodyPost_ret (v := .tuple #[.agg #[.bool true, .int .i64 m1, .int .i64 m2, .slice A5 n5 c5], .int .i64 ((T + K + 1 : Nat) : Int)]) (by simp [results, Tryz.results13, go_sem, Y2.c0, Y2.c1, Y2.c2, Y2.c3]) rfl ?_
  have hbe := hb10 a _ B5.out (by omega)
  exact ⟨m1, m2, A5, n5, c5, true, rfl, ⟨rfl, rfl, HAt.far T5.out ⟨fun k _ hf => hk10 k hf.2, fun _ _ hf => hf.1⟩⟩, HA.out ▸ hbe⟩
theorem refPop_any (F : Nat → Prop) (t : Lh) (x1 x2 : Int) (A : Option Addr) (n c : Nat) (N : Bool) (w : World) (hs : t.size < 134217728) (hF : ∀ k, w.heap.size ≤ k → F k) (h : RAt F w t (x1, x2) A n c N) :
    Calls Tryz.prog 13 #[.agg #[.bool N, .int .i64 x1, .int .i64 x2, .slice A n c]] w (GaveP F t.pop (t.popC + t.popM) w) := by
  cases t with
  | nil =>
    obtain ⟨-, rfl, rfl, rfl, rfl⟩ := h
    exact refPop_none F x1 x2 none 0 0 false w (HAt.nil _ _ _)
  | node x o =>
    obtain ⟨rfl, rfl, ho⟩ := h
    have hso : o.size < 134217728 := by simp only [Lh.size] at hs; omega
    by_cases hne : o.some = true
    · rw [pop_some hne, show (Lh.node (x1, x2) o).popC + (Lh.node (x1, x2) o).popM = o.tellN + (o.popC + o.popM + o.tellN) + 1 from by simp only [Lh.popC, Lh.popM]; rw [if_pos hne, if_pos hne]; omega]
      exact refPop_some F o x1 x2 A n c w hso hF ho hne
    · have hne' : o.some = false := by simpa using hne
      have hnil := sk_none hne'
      rw [pop_none hne', show (Lh.node (x1, x2) o).popC + (Lh.node (x1, x2) o).popM = 0 from by simp only [Lh.popC, Lh.popM]; rw [if_neg hne, if_neg hne]]
      subst hnil
      exact refPop_none F x1 x2 A n c true w ho

end Go.Proofs.YtaeainnkhjnlaaaGreatDoor.Ro
