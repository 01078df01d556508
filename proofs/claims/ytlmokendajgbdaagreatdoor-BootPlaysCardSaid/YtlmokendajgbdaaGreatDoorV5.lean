/-
  Contracts of a skew binomial heap's list (Drop, Rest, Of, Join, All), of the closure that seeks the least root, and of the place of the least one: which heap, which place, how many comparisons the meter counts, that what was there stays but for the meter's block. Conditions: counts below 2 to the 60th.
-/
import Derived.Test.YtlmokendajgbdaaGreatDoorV4b
import Derived.Defers
import Derived.Recover
import Derived.Deep.LoopGhost
namespace Go.Proofs.YtlmokendajgbdaaGreatDoor.Hp
open Go.Sort Go.RowKit Go.Proofs.YtlmokendajgbdaaGreatDoor.Gn

theorem bSize_app : ∀ a b : List Tre, bSize (a ++ b) = bSize a + bSize b
  | [], b => by simp [bSize]
  | t :: r, b => by simp only [List.cons_append, bSize, bSize_app r b]; omega
theorem bSize_drop_le (l : List Tre) (i : Nat) : bSize (l.drop i) ≤ bSize l := by
  conv => rhs; rw [← List.take_append_drop i l]
  rw [bSize_app]; omega

section
variable {w : World} {ts us : List Tre} {p q : HP}
theorem drop_h (h : LAt w ⟨ts⟩ p) (k : Nat) (hk : k < 2147483648) : Calls Tryz.prog 64 #[hp p, .int .i64 (k : Int)] w fun e w' => ∃ p' : HP, e = .returned (.agg #[.pointer p'.q, .int .i64 p'.n]) ∧ LAt w' ⟨ts.drop k⟩ p' ∧ Below w.heap.size w w' := by
  have hs := h.small
  have hok : sOk ts := h.right
  obtain ⟨ps, n, hn, hnl, hl, ht⟩ := h.list
  obtain ⟨q0, pn⟩ := p
  change pn = (n : Int) at hn
  subst hn
  refine (Lt.drop_l (k : Int) hl (by omega) (by omega)).mono fun e w' ⟨q', n', he, hl', hb⟩ => ⟨⟨q', (n' : Int)⟩, he, ?_, hb⟩
  rw [show (k : Int).toNat = k from rfl] at hl'
  exact LAt.of hl' ((ht.drop k).kp (Kpt.below hb)) (Nat.lt_of_le_of_lt (bSize_drop_le ts k) hs) (sub_ok hok (List.drop_sublist k ts))
theorem restL_h (h : LAt w ⟨ts⟩ p) : Calls Tryz.prog 62 #[hp p] w fun e w' => ∃ p' : HP, e = .returned (.agg #[.pointer p'.q, .int .i64 p'.n]) ∧ LAt w' ⟨ts.tail⟩ p' ∧ Below w.heap.size w w' := by
  have hs := h.small
  have hok : sOk ts := h.right
  obtain ⟨ps, n, hn, hnl, hl, ht⟩ := h.list
  obtain ⟨q0, pn⟩ := p
  change pn = (n : Int) at hn
  subst hn
  refine (Lt.rest_l hl).mono fun e w' ⟨q', n', he, hl', hb⟩ => ⟨⟨q', (n' : Int)⟩, he, ?_, hb⟩
  refine LAt.of hl' (ht.tail.kp (Kpt.below hb)) ?_ (sub_ok hok (List.tail_sublist ts))
  rw [← List.drop_one]
  exact Nat.lt_of_le_of_lt (bSize_drop_le ts 1) hs
theorem of_h {A : Option Addr} {n c : Nat} {ps : List (Option Addr)} (hr : Row1 Lt.one w A ps) (ht : TsAt w ts ps) (hn : n = ts.length) (hs : bSize ts < 268435456) (hok : sOk ts) : Calls Tryz.prog 71 #[.slice A n c] w fun e w' => ∃ p' : HP, e = .returned (.agg #[.pointer p'.q, .int .i64 p'.n]) ∧ LAt w' ⟨ts⟩ p' ∧ Below w.heap.size w w' := by
  have hl := len_bSize ts
  refine (Lt.of_l (hn.trans ht.length.symm) hr (by omega)).mono fun e w' ⟨q', n', he, hl', hb⟩ => ⟨⟨q', (n' : Int)⟩, he, ?_, hb⟩
  exact LAt.of hl' (ht.kp (Kpt.below hb)) hs hok
theorem join_h (h : LAt w ⟨ts⟩ p) (h' : LAt w ⟨us⟩ q) (hs : bSize (ts ++ us) < 268435456) (hok : sOk (ts ++ us)) : Calls Tryz.prog 73 #[hp p, hp q] w fun e w' => ∃ p' : HP, e = .returned (.agg #[.pointer p'.q, .int .i64 p'.n]) ∧ LAt w' ⟨ts ++ us⟩ p' ∧ Below w.heap.size w w' := by
  have g1 := h.len
  have g2 := h'.len
  change ts.length < _ at g1
  change us.length < _ at g2
  obtain ⟨ps, n, hn, hnl, hl, ht⟩ := h.list
  obtain ⟨ps', n', hn', hnl', hl', ht'⟩ := h'.list
  obtain ⟨q0, pn⟩ := p
  obtain ⟨q1, pn'⟩ := q
  change pn = (n : Int) at hn
  change pn' = (n' : Int) at hn'
  change n = ts.length at hnl
  change n' = us.length at hnl'
  subst hn
  subst hn'
  refine (Lt.join_l hl hl' (by omega)).mono fun e w' ⟨q', m', he, hl2, hb⟩ => ⟨⟨q', (m' : Int)⟩, he, ?_, hb⟩
  exact LAt.of hl2 ((ht.append ht').kp (Kpt.below hb)) hs hok
end

/-- Addresses of trees in a slice of the call's own, wherever only a meter's block turns. -/
structure TRow (mo : Option Nat) (W : World) (ts : List Tre) (A : Option Addr) (n c : Nat) : Prop where
  ex : ∃ ps, Row1 Lt.one W A ps ∧ TsAt W ts ps
  len : n = ts.length
  cap : n ≤ c
  apart : ∀ b, mo = some b → ∀ a, A = some a → a.block ≠ b
section
variable {mo : Option Nat} {cc m : Int} {W W' : World} {ts : List Tre} {A : Option Addr} {n c : Nat}
theorem TRow.bt (h : TRow mo W ts A n c) (hb : Bt mo W W') (hm : MAt W mo cc m) : TRow mo W' ts A n c := by
  obtain ⟨ps, hr, ht⟩ := h.ex
  exact ⟨⟨ps, fun h0 => (hr h0).imp fun b hb1 => hb1.imp fun o ho => ⟨ho.1, fun j hj => hb.cell (ho.2 j hj) (fun mb e => h.apart mb e ⟨b, o, none⟩ ho.1)⟩, ht.bt hb hm⟩, h.len, h.cap, h.apart⟩
theorem TRow.stay (h : TRow mo W ts A n c) (hb : Below W.heap.size W W') : TRow mo W' ts A n c := by
  obtain ⟨ps, hr, ht⟩ := h.ex
  exact ⟨⟨ps, hr.stay hb, ht.kp (Kpt.below hb)⟩, h.len, h.cap, h.apart⟩
theorem TRow.set2 (h : TRow mo W ts A n c) {b : Nat} {t : TypeId} {x y : Value} (hne : ∀ a, A = some a → a.block ≠ b) (hx : Box2 W b t x y) (ht : ¬ NodeT t) (u v : Value) : TRow mo ((W.setCell ⟨b, 0, Option.none⟩ u).setCell ⟨b, 1, Option.none⟩ v) ts A n c := by
  obtain ⟨ps, hr, hts⟩ := h.ex
  exact ⟨⟨ps, fun h0 => (hr h0).imp fun b' hb1 => hb1.imp fun o ho => ⟨ho.1, fun j hj => cell_aside (hne ⟨b', o, none⟩ ho.1) (ho.2 j hj) u v⟩, hts.set2 hx ht u v⟩, h.len, h.cap, h.apart⟩
/-- The j-th one. -/
theorem TRow.at (h : TRow mo W ts A n c) {j : Nat} (hj : j < n) : ∃ b o p, A = some ⟨b, o, none⟩ ∧ W.cell? ⟨b, o + j, none⟩ = some (.pointer p) ∧ TAt W p (some (ts[j]'(h.len ▸ hj))) := by
  obtain ⟨ps, hr, ht⟩ := h.ex
  have hl := ht.length
  obtain ⟨p, hp, hta⟩ := ht.at (List.getElem?_eq_getElem (h.len ▸ hj))
  obtain ⟨b, o, rfl⟩ := row_some hr (by have := h.len; omega)
  exact ⟨b, o, p, rfl, row_ptr hr hp, hta⟩
/-- The first ones. -/
theorem TRow.take (h : TRow mo W ts A n c) (k : Nat) : ∃ ps, Row1 Lt.one W A ps ∧ TsAt W (ts.take k) ps := by
  obtain ⟨ps, hr, ht⟩ := h.ex
  refine ⟨ps.take k, fun h0 => ?_, ht.take k⟩
  rw [List.length_take] at h0
  obtain ⟨b, o, e, hc⟩ := hr (by omega)
  refine ⟨b, o, e, fun j hj => ?_⟩
  rw [List.length_take] at hj
  rw [List.getElem_take]
  exact hc j (by omega)
end
theorem all_h {mo : Option Nat} {cc m : Int} {ts : List Tre} {p : HP} {w : World} (h : LAt w ⟨ts⟩ p) (hm : MAt w mo cc m) : Calls Tryz.prog 72 #[hp p] w fun e w' => ∃ (A : Option Addr) (n c : Nat), e = .returned (.slice A n c) ∧ TRow mo w' ts A n c ∧ (∀ a, A = some a → w.heap.size ≤ a.block) ∧ Below w.heap.size w w' := by
  obtain ⟨ps, n, hn, hnl, hl, ht⟩ := h.list
  obtain ⟨q0, pn⟩ := p
  change pn = (n : Int) at hn
  subst hn
  refine (Lt.all_l hl).mono fun e w' ⟨A, c, he, hmi, hr, hc, hb⟩ => ⟨A, n, c, he, ⟨⟨ps, hr, ht.kp (Kpt.below hb)⟩, hnl, hc, fun b e a ea => ?_⟩, fun a ea => by subst ea; exact Mine.block hmi a.block rfl, hb⟩
  subst e
  subst ea
  have h1 := Mine.block hmi a.block rfl
  have h2 := hm.lt
  omega

theorem leastK_step (l : List Tre) {i : Nat} (h : 0 < i) : leastK l i = if ltE (rootAt l i).key (rootAt l (leastK l (i - 1))).key = true then i else leastK l (i - 1) := by
  obtain ⟨j, rfl⟩ : ∃ j, i = j + 1 := ⟨i - 1, by omega⟩
  rfl

theorem idleS (w : World) : CallsD Tryz.prog 124 #[] .returning w fun e u' w' => e = .returned (.tuple #[]) ∧ u' = .returning ∧ w' = w := by
  refine callsD_of_wpS Tryz.func124 rfl fun c₀ cs hu => ?_
  apply wpS_region
  cases c₀
  simp_all [wpOpsS, go_sem, recoverD, bodyPostS, results, Tryz.ntmps124, Tryz.results124]

set_option maxRecDepth 100000 in
set_option maxHeartbeats 400000 in
theorem keyS_any (x : Thing) (w : World) (hx : KeyC w x) : Calls Tryz.prog 117 #[hv x] w fun e w' => e = .returned (el x.key) ∧ Below w.heap.size w w' := by
  have hm : ∀ (n : Nat) (w : World), (method (n + 1) 27 (.pointer (some ⟨x.a, 0, none⟩)) "Key").run Tryz.prog w = .ok (148, .pointer (some ⟨x.a, 0, none⟩)) w := fun _ _ => by kernel_rfl
  have hb0 : Below w.heap.size w (w.alloc (.cells #[.int .i64 0, .int .i64 0] 32)) := (Below.refl w.heap.size w).alloc (Nat.le_refl _) _
  have HX := Lib.hid (hx.stay hb0)
  have HB := Lib.hid hb0
  obtain ⟨p, q, hk⟩ : ∃ p q, x.key = (p, q) := ⟨_, _, rfl⟩
  have HK := Lib.hid hk
  clear hx hk hb0
  go_enter_defers Tryz.func117, Tryz.ntmps117
  go_wp2_with fail
  ((with_reducible refine (heapKey_any x _ HX.out).mono ?_); rintro e w1 ⟨rfl, hb1⟩)
  rw [HK.out]
  have hp := (PairAt.new w 0 0 32).below hb1 (by simp)
  have hb := HB.out.trans (hb1.mono HB.out.size)
  have hs := hp.set p q
  obtain ⟨e0, e1, f0, f1, -⟩ := hp
  clear hb1
  clear HB HX
  go_wp2_with fail
  refine leaves_cons (f := 124) (args := #[]) (by simp) (by simp [go_sem]) ?_
  refine (idleS _).mono ?_
  rintro e u' w'' ⟨rfl, rfl, rfl⟩
  obtain ⟨k0, k1, -⟩ := hs
  have hv : Below w.heap.size w ((w1.setCell ⟨w.heap.size, 0, none⟩ (.int .i64 p)).setCell ⟨w.heap.size, 1, none⟩ (.int .i64 q)) := (hb.setCell (Nat.le_refl _) _).setCell (Nat.le_refl _) _
  simp [Leaves, settle, results, Tryz.results117, go_sem, k0, k1, hv, HK.out]

/-- A block of one cell. -/
abbrev Box1 (W : World) (b : Nat) (t : TypeId) (v : Value) : Prop := W.heap[b]? = some (.cells #[v] t (0, 0))
theorem box1_cell {W : World} {b : Nat} {t : TypeId} {v : Value} (h : Box1 W b t v) : W.cell? ⟨b, 0, none⟩ = some v := by simp [World.cell?, h]
theorem box1_free {W : World} {b : Nat} {t : TypeId} {v : Value} (h : Box1 W b t v) : W.frozen? ⟨b, 0, none⟩ = false := by simp [World.frozen?, h]
theorem ptrT_ne : ¬ NodeT 25 := by unfold NodeT TreeT; decide
theorem boolT_ne : ¬ NodeT 4 := by unfold NodeT TreeT; decide
/-- The variables of the closure that seeks the least root: the meter, the least Key so far, whether there is one. -/
structure Sk (mo : Option Nat) (W : World) (bm bl bs : Nat) (x : Int × Int) (is : Bool) : Prop where
  m : Box1 W bm 25 (mAddr mo)
  l : Box2 W bl 32 (.int .i64 x.1) (.int .i64 x.2)
  s : Box1 W bs 4 (.bool is)
section
variable {W W' : World} {mo : Option Nat} {c m : Int} {bm bl bs : Nat} {x : Int × Int} {is : Bool}
theorem Sk.bt (h : Sk mo W bm bl bs x is) (hb : Bt mo W W') (hm : MAt W mo c m) : Sk mo W' bm bl bs x is := ⟨hb.row hm h.m (by decide), h.l.bt hb hm (by decide), hb.row hm h.s (by decide)⟩
theorem Sk.stay (h : Sk mo W bm bl bs x is) (hb : Below W.heap.size W W') : Sk mo W' bm bl bs x is := ⟨(hb.block _ (lt_of_heap h.m)).trans h.m, h.l.stay hb, (hb.block _ (lt_of_heap h.s)).trans h.s⟩
end
/-- The closure's function value. -/
abbrev askV (bm bl bs : Nat) : Value := .func (.func 116) #[] #[.pointer (some ⟨bs, 0, none⟩), .pointer (some ⟨bm, 0, none⟩), .pointer (some ⟨bl, 0, none⟩)]

set_option maxRecDepth 100000 in
set_option maxHeartbeats 2000000 in
theorem seeker_any (mo : Option Nat) (w : World) : Calls Tryz.prog 96 #[mAddr mo] w fun e w' => ∃ bm bl bs, e = .returned (askV bm bl bs) ∧ Sk mo w' bm bl bs (0, 0) false ∧ (w.heap.size ≤ bm ∧ w.heap.size ≤ bl ∧ w.heap.size ≤ bs) ∧ Below w.heap.size w w' := by
  have hmf : ∀ (fn : Fn) (first cap : Array Value) (w : World), (Instr.makeFunc fn first cap).run Tryz.prog w = .ok (.func fn first cap) w := fun _ _ _ _ => rfl
  have e1 : (w.alloc (.cells #[mAddr mo] 25)).heap.size = w.heap.size + 1 := by simp
  have e2 : ((w.alloc (.cells #[mAddr mo] 25)).alloc (.cells #[.int .i64 0, .int .i64 0] 32)).heap.size = w.heap.size + 1 + 1 := by simp
  have hb1 : Below w.heap.size w ((w.alloc (.cells #[mAddr mo] 25)).alloc (.cells #[.int .i64 0, .int .i64 0] 32)) := ((Below.refl _ w).alloc (Nat.le_refl _) _).alloc (by simp) _
  have hb2 : Below w.heap.size w (((w.alloc (.cells #[mAddr mo] 25)).alloc (.cells #[.int .i64 0, .int .i64 0] 32)).alloc (.cells #[.bool false] 4)) := hb1.alloc (by omega) _
  have b1 : Box1 (((w.alloc (.cells #[mAddr mo] 25)).alloc (.cells #[.int .i64 0, .int .i64 0] 32)).alloc (.cells #[.bool false] 4)) w.heap.size 25 (mAddr mo) := by
    have h := new_at (W := w) (o := .cells #[mAddr mo] 25) rfl
    have h2 := (((Below.refl _ (w.alloc (.cells #[mAddr mo] 25))).alloc (Nat.le_refl _) (.cells #[.int .i64 0, .int .i64 0] 32)).alloc (by simp) (.cells #[.bool false] 4)).block w.heap.size (by simp)
    exact h2.trans h
  have b2 : Box2 (((w.alloc (.cells #[mAddr mo] 25)).alloc (.cells #[.int .i64 0, .int .i64 0] 32)).alloc (.cells #[.bool false] 4)) (w.heap.size + 1) 32 (.int .i64 0) (.int .i64 0) := by
    have := (Box2.new (w.alloc (.cells #[mAddr mo] 25)) 32 (.int .i64 0) (.int .i64 0)).alloc (.cells #[.bool false] 4)
    simpa only [e1] using this
  have b3 : Box1 (((w.alloc (.cells #[mAddr mo] 25)).alloc (.cells #[.int .i64 0, .int .i64 0] 32)).alloc (.cells #[.bool false] 4)) (w.heap.size + 1 + 1) 4 (.bool false) := new_at (by omega)
  have H := Lib.hid (And.intro (show Sk mo _ w.heap.size (w.heap.size + 1) (w.heap.size + 1 + 1) (0, 0) false from ⟨b1, b2, b3⟩) hb2)
  clear b1 b2 b3 hb1 hb2
  go_enter Tryz.func96, Tryz.ntmps96
  go_wp2_with fail
  go_ret
  exact ⟨_, _, _, rfl, H.out.1, ⟨Nat.le_refl _, by omega, by omega⟩, H.out.2⟩

/-- Where the closure was called: beside the meter's block its two variables may have turned. -/
structure Tn (mo : Option Nat) (b1 b2 : Nat) (W W' : World) : Prop where
  os : W'.os = W.os
  tape : W'.tape = W.tape
  output : W'.output = W.output
  size : W.heap.size ≤ W'.heap.size
  block : ∀ k, k < W.heap.size → mo ≠ some k → k ≠ b1 → k ≠ b2 → W'.heap[k]? = W.heap[k]?
section
variable {W W' W'' : World} {mo : Option Nat} {c m : Int} {b1 b2 : Nat} {w : World}
theorem Tn.ofBt (h : Bt mo W W') : Tn mo b1 b2 W W' := ⟨h.os, h.tape, h.output, h.size, fun k hk h1 _ _ => h.block k hk h1⟩
theorem Tn.trans (h : Tn mo b1 b2 W W') (k : Tn mo b1 b2 W' W'') : Tn mo b1 b2 W W'' :=
  ⟨k.os.trans h.os, k.tape.trans h.tape, k.output.trans h.output, Nat.le_trans h.size k.size, fun i hi h1 h2 h3 => (k.block i (Nat.lt_of_lt_of_le hi h.size) h1 h2 h3).trans (h.block i hi h1 h2 h3)⟩
theorem Tn.bt (h : Tn mo b1 b2 W W') (hb : Bt mo w W) (h1 : w.heap.size ≤ b1) (h2 : w.heap.size ≤ b2) : Bt mo w W' :=
  ⟨h.os.trans hb.os, h.tape.trans hb.tape, h.output.trans hb.output, Nat.le_trans hb.size h.size, fun k hk hm => (h.block k (Nat.lt_of_lt_of_le hk hb.size) hm (by omega) (by omega)).trans (hb.block k hk hm)⟩
theorem Tn.set {b : Nat} (h : Tn mo b1 b2 W W') (hb : b = b1 ∨ b = b2) (j : Nat) (v : Value) : Tn mo b1 b2 W (W'.setCell ⟨b, j, none⟩ v) :=
  ⟨h.os, h.tape, h.output, by simpa [World.setCell] using h.size, fun k hk hm h1 h2 => (Below.heap_setCell W' ⟨b, j, none⟩ v k (by show k ≠ b; rcases hb with rfl | rfl <;> assumption)).trans (h.block k hk hm h1 h2)⟩
theorem Tn.kpt {cs1 cs2 : Array Value} {t1 t2 : TypeId} (h : Tn mo b1 b2 W W') (hm : MAt W mo c m) (h1 : W.heap[b1]? = some (.cells cs1 t1 (0, 0))) (h2 : W.heap[b2]? = some (.cells cs2 t2 (0, 0))) (n1 : ¬ NodeT t1) (n2 : ¬ NodeT t2) : Kp W W' := fun k cs t ht e => by
  refine (h.block k (lt_of_heap e) (fun em => ?_) (fun ek => ?_) (fun ek => ?_)).trans e
  · subst em
    have hm' : W.heap[k]? = _ := hm
    rw [hm'] at e
    cases e
    exact node_ne ht
  · subst ek; rw [h1] at e; cases e; exact n1 ht
  · subst ek; rw [h2] at e; cases e; exact n2 ht
theorem TRow.tn {cs1 cs2 : Array Value} {t1 t2 : TypeId} {ts : List Tre} {A : Option Addr} {n k : Nat} (r : TRow mo W ts A n k) (h : Tn mo b1 b2 W W') (hm : MAt W mo c m) (h1 : W.heap[b1]? = some (.cells cs1 t1 (0, 0))) (h2 : W.heap[b2]? = some (.cells cs2 t2 (0, 0))) (n1 : ¬ NodeT t1) (n2 : ¬ NodeT t2) (ha : ∀ a, A = some a → a.block ≠ b1 ∧ a.block ≠ b2) : TRow mo W' ts A n k := by
  obtain ⟨ps, hr, hts⟩ := r.ex
  refine ⟨⟨ps, fun h0 => (hr h0).imp fun b' hb1 => hb1.imp fun o ho => ⟨ho.1, fun j hj => ?_⟩, hts.kp (h.kpt hm h1 h2 n1 n2)⟩, r.len, r.cap, r.apart⟩
  have hc := ho.2 j hj
  exact (World.cell?_of_block (h.block b' (block_lt_of_cell hc) (fun e => r.apart b' e ⟨b', o, none⟩ ho.1 rfl) (ha ⟨b', o, none⟩ ho.1).1 (ha ⟨b', o, none⟩ ho.1).2)).trans hc
end

/-- The closure takes a root. -/
theorem Sk.took {W w : World} {mo : Option Nat} {c m : Int} {bm bl bs : Nat} {x : Int × Int} {is : Bool} (h : Sk mo W bm bl bs x is) (hm : MAt W mo c m) (ht : Tn mo bl bs w W) (hne : bs ≠ bl) (u1 u2 : Int) :
    Sk mo (((W.setCell ⟨bl, 0, none⟩ (.int .i64 u1)).setCell ⟨bl, 1, none⟩ (.int .i64 u2)).setCell ⟨bs, 0, none⟩ (.bool true)) bm bl bs (u1, u2) true ∧ MAt (((W.setCell ⟨bl, 0, none⟩ (.int .i64 u1)).setCell ⟨bl, 1, none⟩ (.int .i64 u2)).setCell ⟨bs, 0, none⟩ (.bool true)) mo c m ∧ Tn mo bl bs w (((W.setCell ⟨bl, 0, none⟩ (.int .i64 u1)).setCell ⟨bl, 1, none⟩ (.int .i64 u2)).setCell ⟨bs, 0, none⟩ (.bool true)) := by
  have hm1 : W.heap[bm]? = some (.cells #[mAddr mo] 25 (0, 0)) := h.m
  have hl1 : W.heap[bl]? = some (.cells #[.int .i64 x.1, .int .i64 x.2] 32 (0, 0)) := h.l
  have hs1 : W.heap[bs]? = some (.cells #[.bool is] 4 (0, 0)) := h.s
  have nml : bm ≠ bl := fun e => by rw [e, hl1] at hm1; cases hm1
  have nms : bm ≠ bs := fun e => by rw [e, hs1] at hm1; cases hm1
  have hsv : ((W.setCell ⟨bl, 0, none⟩ (.int .i64 u1)).setCell ⟨bl, 1, none⟩ (.int .i64 u2)).heap[bs]? = some (.cells #[.bool is] 4 (0, 0)) := (Below.heap_setCell _ ⟨bl, 1, none⟩ _ bs hne).trans ((Below.heap_setCell _ ⟨bl, 0, none⟩ _ bs hne).trans hs1)
  refine ⟨⟨?_, ?_, ?_⟩, ?_, ((ht.set (.inl rfl) 0 _).set (.inl rfl) 1 _).set (.inr rfl) 0 _⟩
  · exact (Below.heap_setCell _ ⟨bs, 0, none⟩ _ bm nms).trans ((Below.heap_setCell _ ⟨bl, 1, none⟩ _ bm nml).trans ((Below.heap_setCell _ ⟨bl, 0, none⟩ _ bm nml).trans hm1))
  · exact (Below.heap_setCell _ ⟨bs, 0, none⟩ _ bl (fun e => hne e.symm)).trans (h.l.set (.int .i64 u1) (.int .i64 u2))
  · exact heap_put (j := 0) hsv (.bool true)
  · exact (((hm.other h.l (by decide) 0 _).other (h.l.set0 _) (by decide) 1 _).other hsv (by decide) 0 _)
/-- The closure: is a tree's root less than all roots so far? -/
theorem ask_all (mo : Option Nat) (c m : Int) (bm bl bs : Nat) (x : Int × Int) (is : Bool) (u : Tre) (pa : Option Addr) (w : World) (hm : MAt w mo c m) (h0 : 0 ≤ c) (h1 : c < 4611686018427387904) (h : Sk mo w bm bl bs x is) (ht : TAt w pa (some u)) :
    Calls Tryz.prog 116 #[.pointer pa, .pointer (some ⟨bs, 0, none⟩), .pointer (some ⟨bm, 0, none⟩), .pointer (some ⟨bl, 0, none⟩)] w fun e w' =>
      e = .returned (.bool (!is || ltE u.x.key x)) ∧ Sk mo w' bm bl bs (if (!is || ltE u.x.key x) = true then u.x.key else x) true ∧ MAt w' mo (c + if is = true then 1 else 0) m ∧ Tn mo bl bs w w' := by
  obtain ⟨ux, ubs, uks⟩ := u
  have hkx : KeyC w ux := by obtain ⟨b, rfl, hn⟩ := ht; exact hn.key
  obtain ⟨u1, u2, hu⟩ : ∃ u1 u2, ux.key = (u1, u2) := ⟨_, _, rfl⟩
  simp only [hu]
  obtain ⟨x1, x2⟩ := x
  have H := Lib.hid (And.intro hm (And.intro h0 (And.intro h1 (And.intro h ht))))
  have HU := Lib.hid hu
  have HKX := Lib.hid hkx
  clear hm h0 h1 h ht hu hkx
  go_enter Tryz.func116, Tryz.ntmps116
  go_wp2_with fail
  ((with_reducible refine (Go.Proofs.YtlmokendajgbdaaGreatDoor.root_any pa (some ⟨ux, ubs, uks⟩) _ H.out.2.2.2.2).mono ?_); rintro e w2 ⟨rfl, hb2⟩)
  rw [show rootV (some ⟨ux, ubs, uks⟩) = .tuple #[hv ux, .bool true] from rfl]
  have hb3 := hb2
  have S3 := Lib.hid (H.out.2.2.2.1.stay hb3)
  have M3 := Lib.hid (H.out.1.stay hb3)
  have T3 := Lib.hid (Tn.ofBt (b1 := bl) (b2 := bs) (Bt.ofBelow (mo := mo) hb3))
  have HCC := Lib.hid (And.intro H.out.2.1 H.out.2.2.1)
  have HK3 := Lib.hid (HKX.out.stay hb3)
  clear hb2 hb3 H HKX
  go_wp2_with fail
  ((with_reducible refine (keyS_any ux _ HK3.out).mono ?_); rintro e w4 ⟨rfl, hb4⟩)
  rw [HU.out]
  have hb5 := hb4.alloc hb4.size (.cells #[.int .i64 u1, .int .i64 u2] 32)
  have S5 := Lib.hid (S3.out.stay hb5)
  have M5 := Lib.hid (M3.out.stay hb5)
  have T5 := Lib.hid (T3.out.trans (Tn.ofBt (Bt.ofBelow (mo := mo) hb5)))
  have B5 := Lib.hid (Box2.new w4 32 (.int .i64 u1) (.int .i64 u2))
  have HLT := Lib.hid (show bl < w4.heap.size ∧ bs < w4.heap.size from ⟨Nat.lt_of_lt_of_le S3.out.l.lt hb4.size, Nat.lt_of_lt_of_le (lt_of_heap S3.out.s) hb4.size⟩)
  have HNE := Lib.hid (show bs ≠ bl from fun e => by have h1 : w2.heap[bs]? = _ := S3.out.s; have h2 : w2.heap[bl]? = _ := S3.out.l; rw [e, h2] at h1; cases h1)
  clear hb4 hb5 S3 M3 T3
  have b0 := B5.out.c0
  have b1 := B5.out.c1
  have s0 := box1_cell S5.out.s
  have z0 := S5.out.l.z0
  have z1 := S5.out.l.z1
  have y0 := S5.out.l.c0
  have y1 := S5.out.l.c1
  have sz := box1_free S5.out.s
  have n1 : ¬ bs = bl := HNE.out
  have n2 : ¬ bl = bs := fun e => HNE.out e.symm
  have n3 : ¬ w4.heap.size = bl := by have := HLT.out; omega
  have n4 : ¬ bl = w4.heap.size := by have := HLT.out; omega
  have m0 := box1_cell S5.out.m
  cases is with
  | false =>
    go_wp2_with fail
    go_ret
    obtain ⟨k1, k2, k3⟩ := S5.out.took M5.out T5.out HNE.out u1 u2
    exact ⟨rfl, k1, by simpa using k2, k3⟩
  | true =>
    go_wp2_with fail
    ((with_reducible refine (mLess mo c m (u1, u2) (x1, x2) _ M5.out HCC.out.1 HCC.out.2).mono ?_); rintro e w6 ⟨rfl, hm6, hb6⟩)
    have S6 := Lib.hid (S5.out.bt hb6 M5.out)
    have M6 := Lib.hid hm6
    have T6 := Lib.hid (T5.out.trans (Tn.ofBt hb6))
    have B6 := Lib.hid (B5.out.bt hb6 M5.out (by decide))
    clear hm6 hb6 b0 b1 s0 z0 z1 y0 y1 sz m0 B5 S5 M5 T5
    have b0 := B6.out.c0
    have b1 := B6.out.c1
    have z0 := S6.out.l.z0
    have z1 := S6.out.l.z1
    have y0 := S6.out.l.c0
    have y1 := S6.out.l.c1
    have s0 := box1_cell S6.out.s
    have sz := box1_free S6.out.s
    cases hv : ltE (u1, u2) (x1, x2) with
    | true =>
      go_wp2_with fail
      go_ret
      obtain ⟨k1, k2, k3⟩ := S6.out.took M6.out T6.out HNE.out u1 u2
      exact ⟨rfl, k1, k2, k3⟩
    | false =>
      go_wp2_with fail
      go_ret
      exact ⟨rfl, S6.out, M6.out, T6.out⟩

end Go.Proofs.YtlmokendajgbdaaGreatDoor.Hp
