/-
  Contracts of the reference's Size, Min, Show, level and Meld (slagheapref09): which number, element, text, trees and heap, how many steps there were. Conditions: fewer than 2 to the 28th things, all together.
-/
import Derived.Test.YtaeainnkhjnlaaaGreatDoorSr0
import Derived.Test.YtaeainnkhjnlaaaGreatDoorBh
import Derived.Test.YtaeainnkhjnlaaaGreatDoorTgh
import Derived.Test.YtaeainnkhjnlaaaGreatDoorTk
import Derived.Test.YtaeainnkhjnlaaaGreatDoorTj
import Derived.Test.YtaeainnkhjnlaaaGreatDoorSb3
namespace Go.Proofs.YtaeainnkhjnlaaaGreatDoor.Hp
open Go.Sort Go.RowKit

/-- A variable that holds a heap of the reference's. -/
def HV7 (W : World) (b : Nat) (A : Option Addr) (n c : Nat) : Prop := W.heap[b]? = some (.cells #[.slice A n c] 35 (0, 0))
theorem HV7.stay {W W' : World} {b : Nat} {A : Option Addr} {n c : Nat} (h : HV7 W b A n c) (hb : Below W.heap.size W W') : HV7 W' b A n c := (hb.block b (lt_of_heap h)).trans h
theorem HV7.c0 {W : World} {b : Nat} {A : Option Addr} {n c : Nat} (h : HV7 W b A n c) : W.cell? ⟨b, 0, none⟩ = some (.slice A n c) := cell_one h
theorem HV7.z0 {W : World} {b : Nat} {A : Option Addr} {n c : Nat} (h : HV7 W b A n c) : W.frozen? ⟨b, 0, none⟩ = false := by unfold HV7 at h; simp [World.frozen?, h]
theorem HV7.put {W : World} {b : Nat} {A : Option Addr} {n c : Nat} (h : HV7 W b A n c) (B : Option Addr) (m d : Nat) : HV7 (W.setCell ⟨b, 0, none⟩ (.slice B m d)) b B m d := heap_put (j := 0) h _
theorem wpList_store_h7 {ops : Array Oper} {rest : List Oper} {op : Oper} {a : Act} {w : World} {Q : Exit → Act → World → Prop} (hgd : op.guard = none) (x y : Operand) (ho : op.op = .store 35 x y)
    (b : Nat) (hx : a.eval x = .pointer (some ⟨b, 0, none⟩)) {A B : Option Addr} {n c m d : Nat} (hy : a.eval y = .agg #[.slice B m d]) (H : HV7 w b A n c)
    (h : ∀ w', w' = w.setCell ⟨b, 0, none⟩ (.slice B m d) → wpList Tryz.prog ops Q rest (a.put op.dst undef) w') : wpList Tryz.prog ops Q (op :: rest) a w := by
  have hi : (Tryz.prog.info? 35).map (·.size) = some 1 := by kernel_rfl
  refine wpList_store_mid hgd _ x y ho b 0 _ hx hy (fun j hj => ?_) hi (all_oneCell_toArray (cs := [.slice B m d]) (by intro v hv; simp only [List.mem_cons, List.not_mem_nil, or_false] at hv; subst hv; rfl)) (h _ rfl)
  have e : j = 0 := by simp at hj; omega
  subst e
  exact ⟨by rw [show (0 + 0 : Nat) = 0 from rfl, H.c0]; rfl, by rw [show (0 + 0 : Nat) = 0 from rfl]; exact H.z0⟩

set_option maxRecDepth 100000 in
theorem refSize9 (F : Nat → Prop) (l : List Tre) (A : Option Addr) (n c : Nat) (w : World) (hs : bSize l < 268435456) (h : HAt F w l A n c) :
    Calls Tryz.prog 22 #[.agg #[.slice A n c]] w fun e w' => e = .returned (.int .i64 (bSize l : Nat)) ∧ Below w.heap.size w w' := by
  have hb0 := (Below.refl w.heap.size w).alloc (Nat.le_refl _) (.cells #[.slice A n c] 35)
  have H := Lib.hid (And.intro hs (And.intro (h.stay hb0) hb0))
  clear hs h hb0
  go_enter Tryz.func22, Tryz.ntmps22
  go_wp2_with fail
  ((with_reducible refine (refSize7 F l A n c _ H.out.1 H.out.2.1).mono ?_); rintro e w2 ⟨rfl, hb⟩)
  have HB := Lib.hid (H.out.2.2.trans (hb.mono H.out.2.2.size))
  clear hb
  go_wp2_with fail
  go_ret
  exact ⟨rfl, HB.out⟩
set_option maxRecDepth 100000 in
theorem refShow9_nil (F : Nat → Prop) (A : Option Addr) (n c : Nat) (w : World) (h : HAt F w [] A n c) :
    Calls Tryz.prog 38 #[.agg #[.slice A n c]] w fun e w' => e = .returned (.string ⟨#[46]⟩) ∧ Below w.heap.size w w' := by
  have hb0 := (Below.refl w.heap.size w).alloc (Nat.le_refl _) (.cells #[.slice A n c] 35)
  have H := Lib.hid (And.intro (h.stay hb0) hb0)
  clear h hb0
  go_enter Tryz.func38, Tryz.ntmps38
  go_wp2_with fail
  ((with_reducible refine (refShow7_nil F A n c _ H.out.1).mono ?_); rintro e w2 ⟨rfl, hb⟩)
  have HB := Lib.hid (H.out.2.trans (hb.mono H.out.2.size))
  clear hb
  go_wp2_with fail
  go_ret
  exact ⟨rfl, HB.out⟩
set_option maxRecDepth 100000 in
theorem refShow9_some (F : Nat → Prop) (l : List Tre) (A : Option Addr) (n c : Nat) (w : World) (hs : bSize l < 268435456) (hf : fits (bAll l)) (hn1 : 0 < n) (h : HAt F w l A n c) :
    Calls Tryz.prog 38 #[.agg #[.slice A n c]] w fun e w' => e = .returned (.string ⟨(bShow l).toArray⟩) ∧ Below w.heap.size w w' := by
  have hb0 := (Below.refl w.heap.size w).alloc (Nat.le_refl _) (.cells #[.slice A n c] 35)
  have H := Lib.hid (And.intro hs (And.intro hf (And.intro hn1 (And.intro (h.stay hb0) hb0))))
  clear hs hf hn1 h hb0
  go_enter Tryz.func38, Tryz.ntmps38
  go_wp2_with fail
  ((with_reducible refine (refShow7_some F l A n c _ H.out.1 H.out.2.1 H.out.2.2.1 H.out.2.2.2.1).mono ?_); rintro e w2 ⟨rfl, hb⟩)
  have HB := Lib.hid (H.out.2.2.2.2.trans (hb.mono H.out.2.2.2.2.size))
  clear hb
  go_wp2_with fail
  go_ret
  exact ⟨rfl, HB.out⟩
set_option maxRecDepth 100000 in
theorem refMin9_nil (F : Nat → Prop) (A : Option Addr) (n c : Nat) (w : World) (h : HAt F w [] A n c) :
    Calls Tryz.prog 32 #[.agg #[.slice A n c]] w fun e w' => e = .returned (.tuple #[.agg #[.int .i64 0, .int .i64 0], .int .i64 0]) ∧ Below w.heap.size w w' := by
  have hb0 := new2_below w (.cells #[.slice A n c] 35) (.cells #[.int .i64 0, .int .i64 0] 32)
  have bE := Box2.new (w.alloc (.cells #[.slice A n c] 35)) 32 (.int .i64 0) (.int .i64 0)
  simp only [World.size_alloc] at bE
  have H := Lib.hid (And.intro (h.stay hb0) (And.intro hb0 bE))
  clear h hb0 bE
  go_enter Tryz.func32, Tryz.ntmps32
  go_wp2_with fail
  ((with_reducible refine (refMin7_nil F A n c _ H.out.1).mono ?_); rintro e w2 ⟨rfl, hb⟩)
  have B2 := Lib.hid (H.out.2.2.stay hb)
  have HB := Lib.hid (below_set2 (H.out.2.1.trans (hb.mono H.out.2.1.size)) (show w.heap.size ≤ w.heap.size + 1 by omega) (.int .i64 0) (.int .i64 0))
  have z0 := B2.out.z0
  have z1 := B2.out.z1
  have y0 := B2.out.c0
  have y1 := B2.out.c1
  have s0 := (B2.out.set (.int .i64 0) (.int .i64 0)).c0
  have s1 := (B2.out.set (.int .i64 0) (.int .i64 0)).c1
  clear hb
  go_wp2_with fail
  exact bodyPost_ret (v := .tuple #[.agg #[.int .i64 0, .int .i64 0], .int .i64 0]) (by simp [results, Tryz.results32, go_sem, s0, s1]) rfl ⟨rfl, HB.out⟩
set_option maxRecDepth 100000 in
theorem refMin9_some (F : Nat → Prop) (l : List Tre) (A : Option Addr) (n c : Nat) (w : World) (hs : bSize l < 268435456) (hn1 : 0 < n) (h : HAt F w l A n c) (x1 x2 : Int) (hx : (x1, x2) = rootAt l (leastI l)) :
    Calls Tryz.prog 32 #[.agg #[.slice A n c]] w fun e w' => e = .returned (.tuple #[.agg #[.int .i64 x1, .int .i64 x2], .int .i64 ((n - 1 : Nat) : Int)]) ∧ Below w.heap.size w w' := by
  have hb0 := new2_below w (.cells #[.slice A n c] 35) (.cells #[.int .i64 0, .int .i64 0] 32)
  have bE := Box2.new (w.alloc (.cells #[.slice A n c] 35)) 32 (.int .i64 0) (.int .i64 0)
  simp only [World.size_alloc] at bE
  have H := Lib.hid (And.intro (h.stay hb0) (And.intro hb0 (And.intro bE (And.intro hs (And.intro hn1 hx)))))
  clear h hb0 bE hs hn1 hx
  go_enter Tryz.func32, Tryz.ntmps32
  go_wp2_with fail
  ((with_reducible refine (refMin7_some F l A n c _ H.out.2.2.2.1 H.out.2.2.2.2.1 H.out.1 x1 x2 H.out.2.2.2.2.2).mono ?_); rintro e w2 ⟨rfl, hb⟩)
  have B2 := Lib.hid (H.out.2.2.1.stay hb)
  have HB := Lib.hid (below_set2 (H.out.2.1.trans (hb.mono H.out.2.1.size)) (show w.heap.size ≤ w.heap.size + 1 by omega) (.int .i64 x1) (.int .i64 x2))
  have z0 := B2.out.z0
  have z1 := B2.out.z1
  have y0 := B2.out.c0
  have y1 := B2.out.c1
  have s0 := (B2.out.set (.int .i64 x1) (.int .i64 x2)).c0
  have s1 := (B2.out.set (.int .i64 x1) (.int .i64 x2)).c1
  clear hb
  obtain ⟨k, hk⟩ : ∃ k, k = n - 1 := ⟨_, rfl⟩
  rw [← hk]
  have HK := Lib.hid hk
  clear hk
  go_wp2_with fail
  exact bodyPost_ret (v := .tuple #[.agg #[.int .i64 x1, .int .i64 x2], .int .i64 (k : Int)]) (by simp [results, Tryz.results32, go_sem, s0, s1]) rfl ⟨by rw [HK.out], HB.out⟩

set_option maxRecDepth 100000 in
set_option maxHeartbeats 2000000 in
theorem refLevel_nil (F : Nat → Prop) (A : Option Addr) (n c : Nat) (w : World) (h : HAt F w [] A n c) :
    Calls Tryz.prog 54 #[.slice A n c] w (GaveLN F [] 0 w) := by
  obtain rfl : n = 0 := h.1
  have H := Lib.hid h
  clear h
  go_enter Tryz.func54, Tryz.ntmps54
  go_wp2_with fail
  refine bodyPost_ret (v := .tuple #[.slice A 0 c, .int .i64 0]) (by simp [results, Tryz.results54, go_sem]) rfl ?_
  exact ⟨A, 0, c, rfl, H.out, Below.refl _ _⟩
set_option maxRecDepth 100000 in
set_option maxHeartbeats 4000000 in
theorem refLevel_cons (F : Nat → Prop) (f : Tre) (r : List Tre) (A : Option Addr) (n c : Nat) (w : World) (hF : ∀ k, w.heap.size ≤ k → F k) (hs : bSize (f :: r) < 268435456) (h : HAt F w (f :: r) A n c) :
    Calls Tryz.prog 54 #[.slice A n c] w (GaveLN F (putT r f) (2 * putTN r f) w) := by
  obtain ⟨b, o, kl, x1, x2, Ab, bl, cb, Ak, ck, sz, rfl, -, ⟨p0, p1, p2, p3, p4, p5⟩, hf⟩ := h.firstT
  have hn := h.1
  have hcn := h.2.1
  have hcm := h.2.2.1
  simp only [List.length_cons] at hn
  have hlr := bSize_len r
  have hs2 : f.size + bSize r < 268435456 := by simp only [bSize] at hs; omega
  have hs3 := bSize_len (f :: r)
  simp only [List.length_cons] at hs3
  have hP := refPuts r
  unfold PutsR at hP
  obtain ⟨kk, hkk⟩ : ∃ q, q = 2 * putTN r f := ⟨_, rfl⟩
  have HKK := Lib.hid hkk
  have HRA := Lib.hid h.rest
  have H := Lib.hid (And.intro hF (And.intro hs2 (And.intro hf (And.intro hP (show n < 268435456 ∧ n ≤ c ∧ c ≤ 9223372036854775807 ∧ 0 < n from ⟨by omega, hcn, hcm, by omega⟩)))))
  have z1 : ((n : Int) == 0) = false := by simp; omega
  have z2 : ¬ n = 0 := by omega
  have z3 : (0 : Int) < (n : Int) := by omega
  have z4 : 0 < n := by omega
  have n1c := hn
  clear hF hs h hcn hcm hlr hs2 hf hP hkk hn hs3
  have hd0 : Below w.heap.size w w.drew := (Below.refl _ _).drew
  by_cases hc1 : c = 1
  · subst hc1
    have hn1 : n = 1 := by have := H.out; omega
    subst hn1
    have HL := Lib.hid (HRA.out.1 rfl)
    clear HRA n1c
    go_enter Tryz.func54, Tryz.ntmps54
    go_wp2_with fail
    go_region_with (go_at_call 83; ((with_reducible refine (H.out.2.2.2.1 F f kl x1 x2 Ab bl cb Ak ck sz _ _ _ _ (fun k hk => H.out.1 k (Nat.le_trans hd0.size hk)) H.out.2.1 (H.out.2.2.1.stay hd0) (HL.out.stay hd0)).mono ?_); rintro e w3 ⟨A3, n3, c3, rfl, hh, hb3⟩); rw [← HKK.out]; have H3 := Lib.hid (And.intro hh (hd0.trans (hb3.mono hd0.size))); clear hh hb3)
    all_goals
      go_wp2_with fail
      refine bodyPost_ret (v := .tuple #[.slice A3 n3 c3, .int .i64 kk]) (by simp [results, Tryz.results54, go_sem]) rfl ?_
      exact ⟨A3, n3, c3, by rw [← HKK.out], H3.out.1, H3.out.2⟩
  · have HL := Lib.hid HRA.out.2
    have hcn := H.out.2.2.2.2
    have mn0 : ¬ n < 1 := by omega
    have mn1 : 1 ≤ n := by omega
    have mn2 : (1 : Int) ≤ (n : Int) := by omega
    have mn3 : ¬ (n : Int) < 1 := by omega
    have mn4 : ¬ 1 = c := by omega
    have mn5 : 0 < c := by omega
    have mn6 : (n : Int) ≤ (c : Int) := by omega
    have mn7 : (1 : Int) ≤ (c : Int) := by omega
    have mn8 : ¬ c - 1 = 0 := by omega
    have mn9 : ¬ c ≤ 1 := by omega
    have mn10 : 1 < c := by omega
    have mn11 : 1 ≤ c := by omega
    clear HRA n1c hcn
    go_enter Tryz.func54, Tryz.ntmps54
    go_wp2_with fail
    go_region_with (go_at_call 83; ((with_reducible refine (H.out.2.2.2.1 F f kl x1 x2 Ab bl cb Ak ck sz _ _ _ _ (fun k hk => H.out.1 k (Nat.le_trans hd0.size hk)) H.out.2.1 (H.out.2.2.1.stay hd0) (HL.out.stay hd0)).mono ?_); rintro e w3 ⟨A3, n3, c3, rfl, hh, hb3⟩); rw [← HKK.out]; have H3 := Lib.hid (And.intro hh (hd0.trans (hb3.mono hd0.size))); clear hh hb3)
    all_goals
      go_wp2_with fail
      refine bodyPost_ret (v := .tuple #[.slice A3 n3 c3, .int .i64 kk]) (by simp [results, Tryz.results54, go_sem]) rfl ?_
      exact ⟨A3, n3, c3, by rw [← HKK.out], H3.out.1, H3.out.2⟩
theorem refLevel (F : Nat → Prop) (l : List Tre) (A : Option Addr) (n c : Nat) (w : World) (hF : ∀ k, w.heap.size ≤ k → F k) (hs : bSize l < 268435456) (h : HAt F w l A n c) :
    Calls Tryz.prog 54 #[.slice A n c] w (GaveLN F (levT l) (2 * levN l) w) := by
  cases l with
  | nil => exact refLevel_nil F A n c w h
  | cons f r => exact refLevel_cons F f r A n c w hF hs h

set_option maxRecDepth 100000 in
set_option maxHeartbeats 4000000 in
theorem refMeld9 (F : Nat → Prop) (la lb : List Tre) (A : Option Addr) (n c : Nat) (B : Option Addr) (m d : Nat) (w : World) (hF : ∀ k, w.heap.size ≤ k → F k) (hs : bSize la + bSize lb < 268435456) (ha : HAt F w la A n c) (hb : HAt F w lb B m d) :
    Calls Tryz.prog 29 #[.agg #[.slice A n c], .agg #[.slice B m d]] w (GaveH F (smeld la lb) (2 * smeldN la lb) w) := by
  have hb0 := (((Below.refl w.heap.size w).alloc (Nat.le_refl _) (.cells #[.slice A n c] 35)).alloc (by simp) (.cells #[.slice B m d] 35)).alloc (by simp; omega) (.cells #[.slice none 0 0] 35)
  have st : ∀ (u : World) (k : Nat) (o o' : Obj), u.heap[k]? = some o → (u.alloc o').heap[k]? = some o := fun u k o o' h => (((Below.refl u.heap.size u).alloc (Nat.le_refl _) o').block k (lt_of_heap h)).trans h
  have hv1 : HV7 (((w.alloc (.cells #[.slice A n c] 35)).alloc (.cells #[.slice B m d] 35)).alloc (.cells #[.slice none 0 0] 35)) (w.heap.size + 1) B m d := st _ _ _ _ (new_at (by simp))
  have hz2 : HV7 (((w.alloc (.cells #[.slice A n c] 35)).alloc (.cells #[.slice B m d] 35)).alloc (.cells #[.slice none 0 0] 35)) (w.heap.size + 1 + 1) none 0 0 := new_at (by simp)
  have hsz : (((w.alloc (.cells #[.slice A n c] 35)).alloc (.cells #[.slice B m d] 35)).alloc (.cells #[.slice none 0 0] 35)).heap.size = w.heap.size + 3 := by simp
  obtain ⟨q1, hq1⟩ : ∃ q, q = 2 * levN la := ⟨_, rfl⟩
  obtain ⟨q2, hq2⟩ : ∃ q, q = 2 * levN lb := ⟨_, rfl⟩
  obtain ⟨q3, hq3⟩ : ∃ q, q = 2 * bmeldN (levT la) (levT lb) := ⟨_, rfl⟩
  have hl1 := levT_len la
  have hl2 := levT_len lb
  have hl3 := bmeld_len (levT la) (levT lb)
  have hl4 := bSize_len la
  have hl5 := bSize_len lb
  have HQ := Lib.hid (show (q1 = 2 * levN la ∧ q2 = 2 * levN lb ∧ q3 = 2 * bmeldN (levT la) (levT lb)) ∧ q1 + q2 + q3 < 4000000000 from ⟨⟨hq1, hq2, hq3⟩, by omega⟩)
  have hT := refTrees (levT la) (levT lb)
  unfold TreesR at hT
  have HT := Lib.hid hT
  have HV := Lib.hid (And.intro hv1 hz2)
  have H := Lib.hid (And.intro hF (And.intro hs (And.intro ha (And.intro hb (And.intro hb0 hsz)))))
  have w12 : IntKind.i64.wrap ((q1 : Int) + (q2 : Int)) = (q1 : Int) + (q2 : Int) := by have := HQ.out; rw [IntKind.wrap_i64]; omega
  have w123 : IntKind.i64.wrap ((q1 : Int) + (q2 : Int) + (q3 : Int)) = (q1 : Int) + (q2 : Int) + (q3 : Int) := by have := HQ.out; rw [IntKind.wrap_i64]; omega
  clear hF hs ha hb hb0 hT hsz hq1 hq2 hq3 hl1 hl2 hl3 hl4 hl5 st hv1 hz2
  go_enter Tryz.func29, Tryz.ntmps29
  go_wp2_with fail
  generalize ((w.alloc (.cells #[.slice A n c] 35)).alloc (.cells #[.slice B m d] 35)).alloc (.cells #[.slice none 0 0] 35) = w1 at *
  obtain ⟨b2, hb2⟩ : ∃ b, b = w.heap.size + 1 + 1 := ⟨_, rfl⟩
  rw [← hb2] at HV ⊢
  have HO := Lib.hid (show b2 = w.heap.size + 2 ∧ w1.heap.size = w.heap.size + 3 from ⟨by omega, H.out.2.2.2.2.2⟩)
  clear hb2
  have HFA := Lib.hid (show Far F (Fb F b2) w w1 from ⟨fun k hk _ => H.out.2.2.2.2.1.block k hk, fun k hk hf => Fb.of hf (by have := HO.out; omega)⟩)
  have HFB := Lib.hid (show ∀ k, w1.heap.size ≤ k → Fb F b2 k from fun k hk => Fb.of (H.out.1 k (by have := HO.out; omega)) (by have := HO.out; omega))
  ((with_reducible refine (refLevel (Fb F b2) la _ _ _ _ HFB.out (by have := H.out; omega) (H.out.2.2.1.far HFA.out)).mono ?_); rintro e w2 ⟨A2, n2, c2, rfl, hh, hbb⟩)
  rw [← HQ.out.1.1]
  have H2 := Lib.hid (And.intro hh hbb)
  have V2 := Lib.hid (HV.out.1.stay hbb)
  have v0 := V2.out.c0
  clear hh hbb
  go_wp2_with fail
  ((with_reducible refine (refLevel (Fb F b2) lb _ _ _ _ (fun k hk => HFB.out k (Nat.le_trans H2.out.2.size hk)) (by have := H.out; omega) ((H.out.2.2.2.1.far HFA.out).stay H2.out.2)).mono ?_); rintro e w3 ⟨A3, n3, c3, rfl, hh, hbb⟩)
  rw [← HQ.out.1.2.1]
  have H3 := Lib.hid (And.intro hh (And.intro (H2.out.1.stay hbb) (H2.out.2.trans (hbb.mono H2.out.2.size))))
  clear hh hbb v0
  go_wp2_with fail
  ((with_reducible refine (HT.out (Fb F b2) _ _ _ _ _ _ _ (fun k hk => HFB.out k (Nat.le_trans H3.out.2.2.size hk)) (by rw [levT_size, levT_size]; exact H.out.2.1) H3.out.2.1 H3.out.1).mono ?_); rintro e w5 ⟨A5, n5, c5, rfl, hh5, hb5⟩)
  rw [← HQ.out.1.2.2]
  have hz5 := HV.out.2.stay (H3.out.2.2.trans (hb5.mono H3.out.2.2.size))
  have H5 := Lib.hid (And.intro hh5 (H.out.2.2.2.2.1.trans ((H3.out.2.2.trans (hb5.mono H3.out.2.2.size)).mono H.out.2.2.2.2.1.size)))
  clear hh5 hb5
  go_wp2_with (refine wpList_store_h7 rfl _ _ rfl _ rfl rfl hz5 ?_; intro w7 ew7; have EW := Lib.hid ew7; clear ew7)
  have hz7 := hz5.put A5 n5 c5
  rw [← EW.out] at hz7
  have t0 := hz7.c0
  refine bodyPost_ret (v := .tuple #[.agg #[.slice A5 n5 c5], .int .i64 ((q1 : Int) + (q2 : Int) + (q3 : Int))]) (by simp [results, Tryz.results29, go_sem, t0]) rfl ?_
  refine ⟨A5, n5, c5, by rw [show ((2 * smeldN la lb : Nat) : Int) = (q1 : Int) + (q2 : Int) + (q3 : Int) from by have := HQ.out.1; unfold smeldN; omega], by rw [EW.out]; exact H5.out.1.set _, ?_⟩
  rw [EW.out]
  exact H5.out.2.setCell (p := ⟨b2, 0, none⟩) (by have := HO.out; show _ ≤ b2; omega) _

end Go.Proofs.YtaeainnkhjnlaaaGreatDoor.Hp
