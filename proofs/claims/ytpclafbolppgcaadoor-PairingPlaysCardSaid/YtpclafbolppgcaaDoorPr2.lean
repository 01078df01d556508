/-
  Contracts of the reference's Size, Min, Meld and Insert (slagheapref08): the heap, and how many steps there were. Condition: heaps of fewer than 2 to the 28th elements, both together.
-/
import Derived.Test.YtpclafbolppgcaaDoorPr1
import Derived.Test.YtpclafbolppgcaaDoorPd2
import Derived.Deep.RegionHeld3
import Derived.Deep.DrawnRows
namespace Go.Proofs.YtpclafbolppgcaaDoor
open Go.Sort Go.RowKit

theorem refLessW (x y : Int × Int) (w : World) : Calls Tryd.prog 37 #[.agg #[.int .i64 x.1, .int .i64 x.2], .agg #[.int .i64 y.1, .int .i64 y.2]] w fun e w' => e = .returned (.bool (ltE x y)) ∧ Below w.heap.size w w' := refLess_below x.1 x.2 y.1 y.2 w
theorem refSize_any (x1 x2 : Int) (A : Option Addr) (n c N : Nat) (w : World) : Calls Tryd.prog 17 #[.agg #[.int .i64 x1, .int .i64 x2, .slice A n c, .int .i64 (N : Int)]] w fun e w' => e = .returned (.int .i64 (N : Int)) ∧ Below w.heap.size w w' := by
  go_enter Tryd.func17, Tryd.ntmps17
  go_wp2_with fail
  go_ret
  exact ⟨rfl, (Below.refl _ _).alloc (Nat.le_refl _) _⟩
theorem refMin_any (x1 x2 : Int) (A : Option Addr) (n c N : Nat) (w : World) : Calls Tryd.prog 27 #[.agg #[.int .i64 x1, .int .i64 x2, .slice A n c, .int .i64 (N : Int)]] w fun e w' => e = .returned (.tuple #[.agg #[.int .i64 x1, .int .i64 x2], .int .i64 0]) ∧ Below w.heap.size w w' := by
  go_enter Tryd.func27, Tryd.ntmps27
  go_wp2_with fail
  refine bodyPost_ret (v := .tuple #[.agg #[.int .i64 x1, .int .i64 x2], .int .i64 0]) (by simp [results, Tryd.results27, go_sem]) rfl ⟨rfl, ?_⟩
  exact ((Below.refl w.heap.size w).alloc (Nat.le_refl _) (.cells #[.int .i64 x1, .int .i64 x2, .slice A n c, .int .i64 (N : Int)] 35)).alloc (by simp) (.cells #[.int .i64 x1, .int .i64 x2] 32)
theorem RAt.min {F : Nat → Prop} {W : World} {t : Lh} {x : Int × Int} {A : Option Addr} {n c N : Nat} (h : RAt F W t x A n c N) : t.min.1 = x := by
  cases t with
  | nil => exact h.1.symm
  | node y ks => exact h.1.symm

/-- A variable that holds a heap of the reference's. -/
def QVar (W : World) (b : Nat) (x : Int × Int) (A : Option Addr) (n c N : Nat) : Prop := W.heap[b]? = some (.cells #[.int .i64 x.1, .int .i64 x.2, .slice A n c, .int .i64 (N : Int)] 35 (0, 0))
section
variable {W W' : World} {b : Nat} {x : Int × Int} {A : Option Addr} {n c N : Nat}
theorem QVar.qd (h : QVar W b x A n c N) : Qd W b (.int .i64 x.1) (.int .i64 x.2) (.slice A n c) (.int .i64 (N : Int)) := qd_at h
theorem QVar.stay (h : QVar W b x A n c N) (hb : Below W.heap.size W W') : QVar W' b x A n c N := (hb.block b (lt_of_heap h)).trans h
theorem QVar.lt (h : QVar W b x A n c N) : b < W.heap.size := lt_of_heap h
theorem QVar.keep (h : QVar W b x A n c N) (e : W'.heap[b]? = W.heap[b]?) : QVar W' b x A n c N := e.trans h
theorem QVar.new (W : World) (x1 x2 : Int) (A : Option Addr) (n c N : Nat) {k : Nat} (h : k = W.heap.size) : QVar (W.alloc (.cells #[.int .i64 x1, .int .i64 x2, .slice A n c, .int .i64 (N : Int)] 35)) k (x1, x2) A n c N := new_at h
theorem QVar.alloc (h : QVar W b x A n c N) (o : Obj) : QVar (W.alloc o) b x A n c N := (alloc_old o (lt_of_heap h)).trans h
end
/-- Five variables, one behind the other. -/
theorem five_q (w : World) (x1 x2 y1 y2 : Int) (A B : Option Addr) (n c N m d M : Nat) : let W := ((((w.alloc (.cells #[.int .i64 x1, .int .i64 x2, .slice A n c, .int .i64 (N : Int)] 35)).alloc (.cells #[.int .i64 y1, .int .i64 y2, .slice B m d, .int .i64 (M : Int)] 35)).alloc (.cells #[.int .i64 0, .int .i64 0, .slice none 0 0, .int .i64 0] 35)).alloc (.cells #[.int .i64 x1, .int .i64 x2, .slice A n c, .int .i64 (N : Int)] 35)).alloc (.cells #[.int .i64 y1, .int .i64 y2, .slice B m d, .int .i64 (M : Int)] 35)
    QVar W w.heap.size (x1, x2) A n c N ∧ QVar W (w.heap.size + 1) (y1, y2) B m d M ∧ QVar W (w.heap.size + 1 + 1) (0, 0) none 0 0 0 ∧ QVar W (w.heap.size + 1 + 1 + 1) (x1, x2) A n c N ∧ QVar W (w.heap.size + 1 + 1 + 1 + 1) (y1, y2) B m d M ∧ W.heap.size = w.heap.size + 5 ∧ Below w.heap.size w W := by
  refine ⟨(((QVar.alloc (QVar.new _ _ _ _ _ _ _ rfl) _).alloc _).alloc _).alloc _, ((QVar.alloc (QVar.new _ _ _ _ _ _ _ (by simp)) _).alloc _).alloc _, (QVar.alloc (QVar.new _ _ _ _ _ _ 0 (by simp)) _).alloc _, QVar.alloc (QVar.new _ _ _ _ _ _ _ (by simp)) _, QVar.new _ _ _ _ _ _ _ (by simp), by simp, ?_⟩
  exact (((((Below.refl w.heap.size w).alloc (Nat.le_refl _) _).alloc (by simp) _).alloc (by simp; omega) _).alloc (by simp; omega) _).alloc (by simp; omega) _

set_option maxRecDepth 100000 in
theorem refMeld_first (F : Nat → Prop) (t : Lh) (y1 y2 : Int) (B : Option Addr) (m d M : Nat) (w : World) (h : RAt F w t (y1, y2) B m d M) :
    Calls Tryd.prog 21 #[.agg #[.int .i64 0, .int .i64 0, .slice none 0 0, .int .i64 0], .agg #[.int .i64 y1, .int .i64 y2, .slice B m d, .int .i64 (M : Int)]] w (GaveP F t 0 w) := by
  have HH := Lib.hid h
  clear h
  go_enter Tryd.func21, Tryd.ntmps21
  go_wp2_with fail
  refine bodyPost_ret (v := .tuple #[.agg #[.int .i64 y1, .int .i64 y2, .slice B m d, .int .i64 (M : Int)], .int .i64 0]) (by simp [results, Tryd.results21, go_sem]) rfl ?_
  have hbe := (((Below.refl w.heap.size w).alloc (Nat.le_refl _) (.cells #[.int .i64 0, .int .i64 0, .slice none 0 0, .int .i64 0] 35)).alloc (by simp) (.cells #[.int .i64 y1, .int .i64 y2, .slice B m d, .int .i64 (M : Int)] 35)).alloc (by simp; omega) (.cells #[.int .i64 y1, .int .i64 y2, .slice B m d, .int .i64 (M : Int)] 35)
  exact ⟨y1, y2, B, m, d, M, rfl, HH.out.stay hbe, hbe⟩
set_option maxRecDepth 100000 in
theorem refMeld_second (F : Nat → Prop) (t : Lh) (x1 x2 : Int) (A : Option Addr) (n c N : Nat) (w : World) (h : RAt F w t (x1, x2) A n c N) (hN : 0 < N) :
    Calls Tryd.prog 21 #[.agg #[.int .i64 x1, .int .i64 x2, .slice A n c, .int .i64 (N : Int)], .agg #[.int .i64 0, .int .i64 0, .slice none 0 0, .int .i64 0]] w (GaveP F t 0 w) := by
  have HH := Lib.hid h
  have q1 : ((N : Int) == 0) = false := by simp; omega
  have q2 : ¬ N = 0 := by omega
  clear h
  go_enter Tryd.func21, Tryd.ntmps21
  go_wp2_with fail
  refine bodyPost_ret (v := .tuple #[.agg #[.int .i64 x1, .int .i64 x2, .slice A n c, .int .i64 (N : Int)], .int .i64 0]) (by simp [results, Tryd.results21, go_sem]) rfl ?_
  have hbe := (((Below.refl w.heap.size w).alloc (Nat.le_refl _) (.cells #[.int .i64 x1, .int .i64 x2, .slice A n c, .int .i64 (N : Int)] 35)).alloc (by simp) (.cells #[.int .i64 0, .int .i64 0, .slice none 0 0, .int .i64 0] 35)).alloc (by simp; omega) (.cells #[.int .i64 x1, .int .i64 x2, .slice A n c, .int .i64 (N : Int)] 35)
  exact ⟨x1, x2, A, n, c, N, rfl, HH.out.stay hbe, hbe⟩

theorem append_kn (F : Nat → Prop) (w : World) (hF : ∀ b, w.heap.size ≤ b → F b) (y1 y2 : Int) (Ak : Option Addr) (k ck K : Nat) (ls ks : Kd) (A : Option Addr) (n c : Nat) (hl : KRow F w ls Ak k ck) (hK : K = 1 + ls.size) (hk : KRow F w ks A n c) (hn : n < 1000000000) :
    ∃ A' c' n' w', (Builtin.append_ #[33, 33] 33 #[.slice (some ⟨w.heap.size, 0, none⟩) 1 1, .slice A n c]).run Tryd.prog (w.alloc (.cells #[.int .i64 y1, .int .i64 y2, .slice Ak k ck, .int .i64 (K : Int)] 35)) = .ok (.slice A' n' c') w' ∧
      KRow F w' (.cons (y1, y2) ls ks) A' n' c' ∧ Below w.heap.size w w' := by
  have e1 : k = ls.len := hl.1
  subst e1
  subst hK
  obtain ⟨A', c', w', h1, h2, h3⟩ := append_kids F w hF (y1, y2) Ak ck ls ks A n c hl hk hn
  exact ⟨A', c', n + 1, w', h1, h2, h3⟩


set_option maxRecDepth 100000 in
set_option maxHeartbeats 4000000 in
theorem refMeld_ge (F : Nat → Prop) (x1 x2 y1 y2 : Int) (ks ls : Kd) (hs : (Lh.node (x1, x2) ks).size + (Lh.node (y1, y2) ls).size < 268435456) (hv : ltE (y1, y2) (x1, x2) = false) (A B : Option Addr) (n c N m d M : Nat) (w : World) (hF : ∀ k, w.heap.size ≤ k → F k)
    (ha : RAt F w (.node (x1, x2) ks) (x1, x2) A n c N) (hb : RAt F w (.node (y1, y2) ls) (y1, y2) B m d M) :
    Calls Tryd.prog 21 #[.agg #[.int .i64 x1, .int .i64 x2, .slice A n c, .int .i64 (N : Int)], .agg #[.int .i64 y1, .int .i64 y2, .slice B m d, .int .i64 (M : Int)]] w (GaveP F (meld (.node (x1, x2) ks) (.node (y1, y2) ls)) 2 w) := by
  rw [meld_ge hv]
  obtain ⟨-, hN, hka⟩ := ha
  obtain ⟨-, hM, hkb⟩ := hb
  have hsz : N + M < 268435456 := by simp only [Lh.size] at hs; omega
  have q1 : ((N : Int) == 0) = false := by simp; omega
  have q2 : ¬ N = 0 := by omega
  have q3 : ((M : Int) == 0) = false := by simp; omega
  have q4 : ¬ M = 0 := by omega
  have HN := Lib.hid (show N = 1 + ks.size ∧ M = 1 + ls.size ∧ N + M < 268435456 ∧ n < 268435456 ∧ m < 268435456 from ⟨hN, hM, hsz, by have := hka.1; have := ks.len_le; omega, by have := hkb.1; have := ls.len_le; omega⟩)
  have HK := Lib.hid (And.intro hka hkb)
  have HF := Lib.hid hF
  obtain ⟨S, hS⟩ : ∃ S, S = N + M := ⟨_, rfl⟩
  have HS := Lib.hid hS
  have ew : IntKind.i64.wrap ((N : Int) + (M : Int)) = (S : Int) := by rw [IntKind.wrap_i64]; omega
  clear hN hM hka hkb hs hsz hF hS
  go_enter Tryd.func21, Tryd.ntmps21
  go_wp2_with fail
  have h5 := five_q w x1 x2 y1 y2 A B n c N m d M
  ((with_reducible refine (refLessW (y1, y2) (x1, x2) _).mono ?_); rintro e w6 ⟨rfl, hb6⟩)
  rw [hv]
  clear hv
  generalize ((((w.alloc (.cells #[.int .i64 x1, .int .i64 x2, .slice A n c, .int .i64 (N : Int)] 35)).alloc _).alloc _).alloc _).alloc _ = W5 at *
  obtain ⟨e0, e1, e2, e3, e4, e5, e6⟩ := h5
  have X0 := (e0.stay hb6).qd
  have X1 := (e1.stay hb6).qd
  have X2 := (e2.stay hb6).qd
  have X3 := (e3.stay hb6).qd
  have X4 := (e4.stay hb6).qd
  have B6 := Lib.hid (show Below w.heap.size w w6 ∧ w.heap.size + 5 ≤ w6.heap.size from ⟨e6.trans (hb6.mono e6.size), by have := hb6.size; omega⟩)
  clear e0 e1 e2 e3 e4 e5 e6 hb6
  obtain ⟨b0, hb0⟩ : ∃ b, b = w.heap.size := ⟨_, rfl⟩
  rw [← hb0] at X0 X1 X2 X3 X4 ⊢
  obtain ⟨b1, hb1⟩ : ∃ b, b = b0 + 1 := ⟨_, rfl⟩
  rw [← hb1] at X1 X2 X3 X4 ⊢
  obtain ⟨b2, hb2⟩ : ∃ b, b = b1 + 1 := ⟨_, rfl⟩
  rw [← hb2] at X2 X3 X4 ⊢
  obtain ⟨b3, hb3⟩ : ∃ b, b = b2 + 1 := ⟨_, rfl⟩
  rw [← hb3] at X3 X4 ⊢
  obtain ⟨b4, hb4⟩ : ∃ b, b = b3 + 1 := ⟨_, rfl⟩
  rw [← hb4] at X4 ⊢
  have HO := Lib.hid (show b0 = w.heap.size ∧ b1 = b0 + 1 ∧ b2 = b1 + 1 ∧ b3 = b2 + 1 ∧ b4 = b3 + 1 from ⟨hb0, hb1, hb2, hb3, hb4⟩)
  clear hb0 hb1 hb2 hb3 hb4
  have X3b := X3
  have X4b := X4
  have hf8 : Far F (fun k => F k ∧ k ≠ b2) w w6 := ⟨fun k hk _ => B6.out.1.block k hk, fun k hk h => ⟨h, by have := HO.out; omega⟩⟩
  obtain ⟨A9, c9, n9, w9, hrun, hK9, hb9⟩ := append_kn (fun k => F k ∧ k ≠ b2) w6 (fun k hk => ⟨HF.out k (by have := B6.out; omega), by have := B6.out; have := HO.out; omega⟩) y1 y2 B m d M ls ks A n c (HK.out.2.far hf8) (by have := HN.out; omega) (HK.out.1.far hf8) (by have := HN.out; omega)
  have P9 := Lib.hid (And.intro hK9 hb9)
  have Z0 := X0.keep (hb9.block _ X0.lt)
  have Z1 := X1.keep (hb9.block _ X1.lt)
  have Z2 := X2.keep (hb9.block _ X2.lt)
  have Z3 := X3.keep (hb9.block _ X3.lt)
  have fc2 : (w6.alloc (.cells #[.int .i64 y1, .int .i64 y2, .slice B m d, .int .i64 (M : Int)] 35)).cell? ⟨b3, 2, none⟩ = some (.slice A n c) := cell_old8 X3.c2 _
  have z0 := Z3.c0
  have z1 := Z3.c1
  have z2 := Z0.c3
  have z3 := Z1.c3
  clear hf8 hK9 hb9 X0 X1 X2
  clear X3b X4b
  go_wp2_with (first
    | (refine wpList_load_qd rfl _ rfl b4 rfl X4 ?_)
    | (at_builtin; refine wpList_append_run rfl _ _ _ rfl _ _ _ _ rfl rfl hrun ?_)
    | (refine wpList_store_qd rfl _ _ rfl b2 rfl rfl Z2 ⟨rfl, rfl, rfl, rfl⟩ ?_; intro w10 Y2 hk10 hb10 hs10))
  refine bodyPost_ret (v := .tuple #[.agg #[.int .i64 x1, .int .i64 x2, .slice A9 n9 c9, .int .i64 (S : Int)], .int .i64 2]) (by simp [results, Tryd.results21, go_sem, Y2.c0, Y2.c1, Y2.c2, Y2.c3]) rfl ?_
  refine ⟨x1, x2, A9, n9, c9, S, rfl, ⟨rfl, by have := HN.out; have := HS.out; simp only [Kd.size]; omega, P9.out.1.far ⟨fun k _ hk => hk10 k hk.2, fun _ _ hk => hk.1⟩⟩, ?_⟩
  exact hb10 _ _ (B6.out.1.trans (P9.out.2.mono B6.out.1.size)) (by have := HO.out; omega)

set_option maxRecDepth 100000 in
set_option maxHeartbeats 4000000 in
theorem refMeld_lt (F : Nat → Prop) (x1 x2 y1 y2 : Int) (ks ls : Kd) (hs : (Lh.node (x1, x2) ks).size + (Lh.node (y1, y2) ls).size < 268435456) (hv : ltE (y1, y2) (x1, x2) = true) (A B : Option Addr) (n c N m d M : Nat) (w : World) (hF : ∀ k, w.heap.size ≤ k → F k)
    (ha : RAt F w (.node (x1, x2) ks) (x1, x2) A n c N) (hb : RAt F w (.node (y1, y2) ls) (y1, y2) B m d M) :
    Calls Tryd.prog 21 #[.agg #[.int .i64 x1, .int .i64 x2, .slice A n c, .int .i64 (N : Int)], .agg #[.int .i64 y1, .int .i64 y2, .slice B m d, .int .i64 (M : Int)]] w (GaveP F (meld (.node (x1, x2) ks) (.node (y1, y2) ls)) 2 w) := by
  rw [meld_lt hv]
  obtain ⟨-, hN, hka⟩ := ha
  obtain ⟨-, hM, hkb⟩ := hb
  have hsz : N + M < 268435456 := by simp only [Lh.size] at hs; omega
  have q1 : ((N : Int) == 0) = false := by simp; omega
  have q2 : ¬ N = 0 := by omega
  have q3 : ((M : Int) == 0) = false := by simp; omega
  have q4 : ¬ M = 0 := by omega
  have HN := Lib.hid (show N = 1 + ks.size ∧ M = 1 + ls.size ∧ N + M < 268435456 ∧ n < 268435456 ∧ m < 268435456 from ⟨hN, hM, hsz, by have := hka.1; have := ks.len_le; omega, by have := hkb.1; have := ls.len_le; omega⟩)
  have HK := Lib.hid (And.intro hka hkb)
  have HF := Lib.hid hF
  obtain ⟨S, hS⟩ : ∃ S, S = N + M := ⟨_, rfl⟩
  have HS := Lib.hid hS
  have ew : IntKind.i64.wrap ((N : Int) + (M : Int)) = (S : Int) := by rw [IntKind.wrap_i64]; omega
  clear hN hM hka hkb hs hsz hF hS
  go_enter Tryd.func21, Tryd.ntmps21
  go_wp2_with fail
  have h5 := five_q w x1 x2 y1 y2 A B n c N m d M
  ((with_reducible refine (refLessW (y1, y2) (x1, x2) _).mono ?_); rintro e w6 ⟨rfl, hb6⟩)
  rw [hv]
  clear hv
  generalize ((((w.alloc (.cells #[.int .i64 x1, .int .i64 x2, .slice A n c, .int .i64 (N : Int)] 35)).alloc _).alloc _).alloc _).alloc _ = W5 at *
  obtain ⟨e0, e1, e2, e3, e4, e5, e6⟩ := h5
  have X0 := (e0.stay hb6).qd
  have X1 := (e1.stay hb6).qd
  have X2 := (e2.stay hb6).qd
  have X3 := (e3.stay hb6).qd
  have X4 := (e4.stay hb6).qd
  have B6 := Lib.hid (show Below w.heap.size w w6 ∧ w.heap.size + 5 ≤ w6.heap.size from ⟨e6.trans (hb6.mono e6.size), by have := hb6.size; omega⟩)
  clear e0 e1 e2 e3 e4 e5 e6 hb6
  obtain ⟨b0, hb0⟩ : ∃ b, b = w.heap.size := ⟨_, rfl⟩
  rw [← hb0] at X0 X1 X2 X3 X4 ⊢
  obtain ⟨b1, hb1⟩ : ∃ b, b = b0 + 1 := ⟨_, rfl⟩
  rw [← hb1] at X1 X2 X3 X4 ⊢
  obtain ⟨b2, hb2⟩ : ∃ b, b = b1 + 1 := ⟨_, rfl⟩
  rw [← hb2] at X2 X3 X4 ⊢
  obtain ⟨b3, hb3⟩ : ∃ b, b = b2 + 1 := ⟨_, rfl⟩
  rw [← hb3] at X3 X4 ⊢
  obtain ⟨b4, hb4⟩ : ∃ b, b = b3 + 1 := ⟨_, rfl⟩
  rw [← hb4] at X4 ⊢
  have HO := Lib.hid (show b0 = w.heap.size ∧ b1 = b0 + 1 ∧ b2 = b1 + 1 ∧ b3 = b2 + 1 ∧ b4 = b3 + 1 from ⟨hb0, hb1, hb2, hb3, hb4⟩)
  clear hb0 hb1 hb2 hb3 hb4
  have z3 := X3.c0
  clear z3
  go_wp2_with (first
    | (refine wpList_load_qd rfl _ rfl b1 rfl X1 ?_)
    | (refine wpList_store_qd rfl _ _ rfl b3 rfl rfl X3 ⟨rfl, rfl, rfl, rfl⟩ ?_; intro w7 Y3 hk7 hb7 hs7; replace X0 := X0.keep (hk7 _ (by have := HO.out; omega)); replace X1 := X1.keep (hk7 _ (by have := HO.out; omega)); replace X2 := X2.keep (hk7 _ (by have := HO.out; omega)); replace X4 := X4.keep (hk7 _ (by have := HO.out; omega)); have B7 := Lib.hid (show Below w.heap.size w w7 ∧ w.heap.size + 5 ≤ w7.heap.size from ⟨hb7 _ _ B6.out.1 (by have := HO.out; omega), by rw [hs7]; exact B6.out.2⟩); clear X3 hk7 hb7 hs7 B6)
    | (refine wpList_load_qd rfl _ rfl b0 rfl X0 ?_)
    | (refine wpList_store_qd rfl _ _ rfl b4 rfl rfl X4 ⟨rfl, rfl, rfl, rfl⟩ ?_; intro w8 Y4 hk8 hb8 hs8; replace X0 := X0.keep (hk8 _ (by have := HO.out; omega)); replace X1 := X1.keep (hk8 _ (by have := HO.out; omega)); replace X2 := X2.keep (hk8 _ (by have := HO.out; omega)); replace Y3 := Y3.keep (hk8 _ (by have := HO.out; omega)); have B8 := Lib.hid (show Below w.heap.size w w8 ∧ w.heap.size + 5 ≤ w8.heap.size from ⟨hb8 _ _ B7.out.1 (by have := HO.out; omega), by rw [hs8]; exact B7.out.2⟩); have hf8 : Far F (fun k => F k ∧ k ≠ b2) w w8 := ⟨fun k hk _ => B8.out.1.block k hk, fun k hk h => ⟨h, by have := HO.out; omega⟩⟩; obtain ⟨A9, c9, n9, w9, hrun, hK9, hb9⟩ := append_kn (fun k => F k ∧ k ≠ b2) w8 (fun k hk => ⟨HF.out k (by have := B8.out; omega), by have := B8.out; have := HO.out; omega⟩) x1 x2 A n c N ks ls B m d (HK.out.1.far hf8) (by have := HN.out; omega) (HK.out.2.far hf8) (by have := HN.out; omega); have P9 := Lib.hid (And.intro hK9 hb9); have Z0 := X0.keep (hb9.block _ X0.lt); have Z1 := X1.keep (hb9.block _ X1.lt); have Z2 := X2.keep (hb9.block _ X2.lt); have Z3 := Y3.keep (hb9.block _ Y3.lt); have fc2 : (w8.alloc (.cells #[.int .i64 x1, .int .i64 x2, .slice A n c, .int .i64 (N : Int)] 35)).cell? ⟨b3, 2, none⟩ = some (.slice B m d) := cell_old8 Y3.c2 _; have z0 := Z3.c0; have z1 := Z3.c1; have z2 := Z0.c3; have z3 := Z1.c3; clear hf8 hK9 hb9 X0 X1 X2; clear X4 hk8 hb8 hs8 B7)
    | (refine wpList_load_qd rfl _ rfl b4 rfl Y4 ?_)
    | (at_builtin; refine wpList_append_run rfl _ _ _ rfl _ _ _ _ rfl rfl hrun ?_)
    | (refine wpList_store_qd rfl _ _ rfl b2 rfl rfl Z2 ⟨rfl, rfl, rfl, rfl⟩ ?_; intro w10 Y2 hk10 hb10 hs10))
  refine bodyPost_ret (v := .tuple #[.agg #[.int .i64 y1, .int .i64 y2, .slice A9 n9 c9, .int .i64 (S : Int)], .int .i64 2]) (by simp [results, Tryd.results21, go_sem, Y2.c0, Y2.c1, Y2.c2, Y2.c3]) rfl ?_
  refine ⟨y1, y2, A9, n9, c9, S, rfl, ⟨rfl, by have := HN.out; have := HS.out; simp only [Kd.size]; omega, P9.out.1.far ⟨fun k _ hk => hk10 k hk.2, fun _ _ hk => hk.1⟩⟩, ?_⟩
  exact hb10 _ _ (B8.out.1.trans (P9.out.2.mono B8.out.1.size)) (by have := HO.out; omega)

/-- Meld, of any two heaps. -/
theorem refMeld_any (F : Nat → Prop) (a b : Lh) (x1 x2 : Int) (A : Option Addr) (n c N : Nat) (y1 y2 : Int) (B : Option Addr) (m d M : Nat) (w : World) (hF : ∀ k, w.heap.size ≤ k → F k) (hs : a.size + b.size < 268435456) (ha : RAt F w a (x1, x2) A n c N) (hb : RAt F w b (y1, y2) B m d M) :
    Calls Tryd.prog 21 #[.agg #[.int .i64 x1, .int .i64 x2, .slice A n c, .int .i64 (N : Int)], .agg #[.int .i64 y1, .int .i64 y2, .slice B m d, .int .i64 (M : Int)]] w (GaveP F (meld a b) (2 * meldN a b) w) := by
  cases a with
  | nil =>
    obtain ⟨e, rfl, rfl, rfl, rfl⟩ := ha
    cases e
    rw [meld_nil, meldN_nil]
    exact refMeld_first F b y1 y2 B m d M w hb
  | node x ks =>
    have ex : x = (x1, x2) := ha.1.symm
    subst ex
    cases b with
    | nil =>
      obtain ⟨e, rfl, rfl, rfl, rfl⟩ := hb
      cases e
      rw [meld_right, meldN_right]
      exact refMeld_second F _ x1 x2 A n c N w ha (by have := ha.2.1; omega)
    | node y ls =>
      have ey : y = (y1, y2) := hb.1.symm
      subst ey
      rw [meldN_two]
      cases hv : ltE (y1, y2) (x1, x2) with
      | true => exact refMeld_lt F x1 x2 y1 y2 ks ls hs hv A B n c N m d M w hF ha hb
      | false => exact refMeld_ge F x1 x2 y1 y2 ks ls hs hv A B n c N m d M w hF ha hb

end Go.Proofs.YtpclafbolppgcaaDoor
