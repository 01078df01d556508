/-
  Contract of pairing.paired, told that two heaps are melded by Meld: the heap of kids, each two melded, then what came of them from the last one on; how many comparisons and nodes the meter counts; what was there stays, but for the meter's block. Conditions: fewer than 2 to the 27th elements, counts below 2 to the 59th.
-/
import Derived.Test.YtpclafbolppgcaaDoorPd2b
import Derived.Deep.LoopGhost
namespace Go.Proofs.YtpclafbolppgcaaDoor
open Go.Sort Go.RowKit

/-- Each two kids, melded; a last one alone as it is. -/
def Kd.twos : Kd → List Lh
  | .nil => []
  | .cons x ks .nil => [.node x ks]
  | .cons x ks (.cons y ls r) => meld (.node x ks) (.node y ls) :: r.twos
def Kd.twosN : Kd → Nat
  | .nil => 0
  | .cons _ _ .nil => 0
  | .cons x ks (.cons y ls r) => meldN (.node x ks) (.node y ls) + r.twosN
def foldH : List Lh → Lh
  | [] => .nil
  | t :: ts => meld t (foldH ts)
def foldHN : List Lh → Nat
  | [] => 0
  | t :: ts => foldHN ts + meldN t (foldH ts)
def sizes : List Lh → Nat
  | [] => 0
  | t :: ts => t.size + sizes ts
theorem sizes_append : ∀ a b : List Lh, sizes (a ++ b) = sizes a + sizes b
  | [], b => by simp [sizes]
  | t :: a, b => by simp only [List.cons_append, sizes, sizes_append a b]; omega
theorem sizes_reverse : ∀ a : List Lh, sizes a.reverse = sizes a
  | [] => rfl
  | t :: a => by rw [List.reverse_cons, sizes_append, sizes_reverse a]; simp only [sizes]; omega
theorem sizes_take (a : List Lh) (j : Nat) : sizes (a.take j) ≤ sizes a := by
  conv => rhs; rw [← List.take_append_drop j a]
  rw [sizes_append]; omega
theorem size_le_sizes {a : List Lh} {t : Lh} (h : t ∈ a) : t.size ≤ sizes a := by
  induction a with
  | nil => cases h
  | cons u a ih =>
    simp only [sizes]
    rcases List.mem_cons.1 h with rfl | h
    · omega
    · have := ih h; omega
theorem foldH_size : ∀ l : List Lh, (foldH l).size = sizes l
  | [] => rfl
  | t :: ts => by simp only [foldH, sizes, meld_size, foldH_size ts]
theorem foldHN_le : ∀ l : List Lh, foldHN l ≤ l.length
  | [] => Nat.le_refl _
  | t :: ts => by simp only [foldHN, List.length_cons]; have := foldHN_le ts; have := meldN_le t (foldH ts); omega
theorem Kd.twos_sizes : ∀ ks : Kd, sizes ks.twos = ks.size
  | .nil => rfl
  | .cons x ks .nil => by simp only [Kd.twos, sizes, Lh.size, Kd.size]
  | .cons x ks (.cons y ls r) => by simp only [Kd.twos, sizes, Kd.size, r.twos_sizes]; rw [meld_size]; simp only [Lh.size]; omega
theorem Kd.twosN_le : ∀ ks : Kd, ks.twosN ≤ ks.size
  | .nil => Nat.le_refl _
  | .cons x ks .nil => Nat.zero_le _
  | .cons x ks (.cons y ls r) => by simp only [Kd.twosN, meldN_two, Kd.size]; have := r.twosN_le; omega
theorem Kd.twos_length : ∀ ks : Kd, ks.twos.length ≤ ks.size
  | .nil => Nat.le_refl _
  | .cons x ks .nil => by simp only [Kd.twos, List.length_cons, List.length_nil, Kd.size]; omega
  | .cons x ks (.cons y ls r) => by simp only [Kd.twos, List.length_cons, Kd.size]; have := r.twos_length; omega
theorem Kd.pair_fold : ∀ ks : Kd, ks.pair = foldH ks.twos
  | .nil => rfl
  | .cons x ks .nil => rfl
  | .cons x ks (.cons y ls r) => by rw [pair_two, Kd.twos, foldH, r.pair_fold]
theorem Kd.pairN_fold : ∀ ks : Kd, ks.pairN = ks.twosN + foldHN ks.twos
  | .nil => rfl
  | .cons x ks .nil => rfl
  | .cons x ks (.cons y ls r) => by simp only [Kd.pairN, Kd.twosN, Kd.twos, foldHN, r.pairN_fold, r.pair_fold]; omega
theorem Kd.twos_step {r : Kd} (h : r.is = true) : r.twos = meld r.head r.tail.head :: r.tail.tail.twos := by
  match r, h with
  | .cons x ks .nil, _ => rfl
  | .cons x ks (.cons y ls r), _ => rfl
theorem Kd.twosN_step {r : Kd} (h : r.is = true) : r.twosN = meldN r.head r.tail.head + r.tail.tail.twosN := by
  match r, h with
  | .cons x ks .nil, _ => rfl
  | .cons x ks (.cons y ls r), _ => rfl
theorem Kd.size_step {r : Kd} (h : r.is = true) : r.size = r.head.size + r.tail.head.size + r.tail.tail.size := by
  match r, h with
  | .cons x ks .nil, _ => simp only [Kd.size, Kd.head, Kd.tail, Lh.size]
  | .cons x ks (.cons y ls r), _ => simp only [Kd.size, Kd.head, Kd.tail, Lh.size]; omega
theorem Kd.len_pos {r : Kd} (h : 0 < r.len) : r.is = true := by cases r with
  | nil => simp [Kd.len] at h
  | cons => rfl
theorem Kd.len_zero {r : Kd} (h : r.len = 0) : r = .nil := by cases r with
  | nil => rfl
  | cons => simp [Kd.len] at h
theorem Kd.tail_len {r : Kd} (h : r.is = true) : r.tail.tail.len < r.len := by
  match r, h with
  | .cons x ks .nil, _ => simp only [Kd.len, Kd.tail]; omega
  | .cons x ks (.cons y ls r), _ => simp only [Kd.len, Kd.tail]; omega

section
variable {mo : Option Nat} {c m : Int} {W W' : World}
theorem LAt.bt {t : Lh} {p : Option Addr} (h : LAt W t p) (hb : Bt mo W W') (hm : MAt W mo c m) : LAt W' t p := h.kp (hb.kpt hm node_ne)
theorem KAt.bt {t : Kd} {p : Option Addr} (h : KAt W t p) (hb : Bt mo W W') (hm : MAt W mo c m) : KAt W' t p := h.kp (hb.kpt hm node_ne)
theorem LsAt.bt {ts : List Lh} {p : Option Addr} {n : Nat} (h : LsAt W ts p n) (hb : Bt mo W W') (hm : MAt W mo c m) : LsAt W' ts p n := h.kp (hb.kpt hm node_ne) hb.size
theorem HVar.stay {b : Nat} {p : Option Addr} (h : HVar W b p) (hb : Below W.heap.size W W') : HVar W' b p := (hb.block b (lt_of_heap h)).trans h
theorem HVar.bt {b : Nat} {p : Option Addr} (h : HVar W b p) (hb : Bt mo W W') (hm : MAt W mo c m) : HVar W' b p := hb.row hm h (by decide)
theorem Box2.bt {b : Nat} {t : TypeId} {x y : Value} (h : Box2 W b t x y) (hb : Bt mo W W') (hm : MAt W mo c m) (ht : t ≠ 78) : Box2 W' b t x y := hb.row hm h ht
theorem Kp.set2 {b : Nat} {t : TypeId} {x y : Value} (h : Box2 W b t x y) (ht : ¬ NodeT t) (u v : Value) : Kp W ((W.setCell ⟨b, 0, none⟩ u).setCell ⟨b, 1, none⟩ v) := (Kpt.set h ht 0 u).trans (Kpt.set (h.set0 u) ht 1 v)
theorem size_set2 (W : World) (b : Nat) (u v : Value) : ((W.setCell ⟨b, 0, none⟩ u).setCell ⟨b, 1, none⟩ v).heap.size = W.heap.size := by simp [World.setCell]
theorem HVar.set2 {b b' : Nat} {p : Option Addr} (h : HVar W b p) (hne : b ≠ b') (u v : Value) : HVar ((W.setCell ⟨b', 0, none⟩ u).setCell ⟨b', 1, none⟩ v) b p := (heap_other _ _ hne).trans ((heap_other _ _ hne).trans h)
theorem Trk.put2 {w : World} {b : Nat} {t : TypeId} {x y : Value} (k : Trk NodeT mo w c m W) (h : Box2 W b t x y) (ht : ¬ NodeT t) (hmt : t ≠ 78) (hw : w.heap.size ≤ b) (u v : Value) : Trk NodeT mo w c m ((W.setCell ⟨b, 0, none⟩ u).setCell ⟨b, 1, none⟩ v) :=
  (k.put h ht hmt hw 0 u).put (h.set0 u) ht hmt hw 1 v
end

/-- How far paired has come in its first loop: its variables, the kids that are left, what came of the others. -/
structure Pst (mo : Option Nat) (w : World) (a : Nat) (r : Kd) (acc : List Lh) (p q : Option Addr) (n l : Nat) (c m : Int) (W : World) : Prop where
  k : Box2 W a 82 (.pointer p) (.int .i64 (n : Int))
  rs : HVar W (a + 1) none
  t : Box2 W (a + 1 + 1) 82 (.pointer q) (.int .i64 (l : Int))
  ka : KAt W r p
  ta : LsAt W acc q l
  tr : Trk NodeT mo w c m W
  own : w.heap.size ≤ a
  len : n = r.len
/-- .. with two of the kids at hand. -/
structure Pq (mo : Option Nat) (w : World) (a bf bs : Nat) (r : Kd) (acc : List Lh) (hf hs : Lh) (p q pf ps : Option Addr) (n l : Nat) (c m : Int) (W : World) : Prop where
  st : Pst mo w a r acc p q n l c m W
  f : HVar W bf pf
  s : HVar W bs ps
  lf : LAt W hf pf
  ls : LAt W hs ps
  nf : a + 1 + 1 < bf
  ns : a + 1 + 1 < bs
section
variable {mo : Option Nat} {w W W' : World} {a bf bs : Nat} {r : Kd} {acc : List Lh} {hf hs : Lh} {p q pf ps : Option Addr} {n l : Nat} {c m c' m' : Int}
theorem Pst.turn (h : Pst mo w a r acc p q n l c m W) (hm : MAt W' mo c' m') (hb : Bt mo W W') : Pst mo w a r acc p q n l c' m' W' :=
  ⟨h.k.bt hb h.tr.mt (by decide), h.rs.bt hb h.tr.mt, h.t.bt hb h.tr.mt (by decide), h.ka.bt hb h.tr.mt, h.ta.bt hb h.tr.mt, h.tr.turn hm hb node_ne, h.own, h.len⟩
theorem Pst.stay (h : Pst mo w a r acc p q n l c m W) (hb : Below W.heap.size W W') : Pst mo w a r acc p q n l c m W' := h.turn (h.tr.mt.stay hb) (Bt.ofBelow hb)
theorem Pq.turn (h : Pq mo w a bf bs r acc hf hs p q pf ps n l c m W) (hm : MAt W' mo c' m') (hb : Bt mo W W') : Pq mo w a bf bs r acc hf hs p q pf ps n l c' m' W' :=
  ⟨h.st.turn hm hb, h.f.bt hb h.st.tr.mt, h.s.bt hb h.st.tr.mt, h.lf.bt hb h.st.tr.mt, h.ls.bt hb h.st.tr.mt, h.nf, h.ns⟩
theorem Pq.stay (h : Pq mo w a bf bs r acc hf hs p q pf ps n l c m W) (hb : Below W.heap.size W W') : Pq mo w a bf bs r acc hf hs p q pf ps n l c m W' := h.turn (h.st.tr.mt.stay hb) (Bt.ofBelow hb)
/-- The two stores at the round's end. -/
theorem Pst.next {r' : Kd} {acc' : List Lh} {p' q' : Option Addr} {n' l' : Nat} (h : Pst mo w a r acc p q n l c m W) (hk : KAt W r' p') (hn : n' = r'.len) (ht : LsAt W acc' q' l') :
    Pst mo w a r' acc' p' q' n' l' c m ((((W.setCell ⟨a + 1 + 1, 0, none⟩ (.pointer q')).setCell ⟨a + 1 + 1, 1, none⟩ (.int .i64 (l' : Int))).setCell ⟨a, 0, none⟩ (.pointer p')).setCell ⟨a, 1, none⟩ (.int .i64 (n' : Int))) := by
  have k1 : Kp W ((W.setCell ⟨a + 1 + 1, 0, none⟩ (.pointer q')).setCell ⟨a + 1 + 1, 1, none⟩ (.int .i64 (l' : Int))) := Kp.set2 h.t listT_ne _ _
  have b1 : Box2 ((W.setCell ⟨a + 1 + 1, 0, none⟩ (.pointer q')).setCell ⟨a + 1 + 1, 1, none⟩ (.int .i64 (l' : Int))) a 82 (.pointer p) (.int .i64 (n : Int)) := h.k.aside (by omega) _ _
  have k2 := k1.trans (Kp.set2 b1 listT_ne (.pointer p') (.int .i64 (n' : Int)))
  have t1 := h.tr.put2 h.t listT_ne (by decide) (by have := h.own; omega) (.pointer q') (.int .i64 (l' : Int))
  refine ⟨b1.set _ _, (h.rs.set2 (by omega) _ _).set2 (by omega) _ _, (h.t.set _ _).aside (by omega) _ _, hk.kp k2, ht.kp k2 (by rw [size_set2, size_set2]; exact Nat.le_refl _), t1.put2 b1 listT_ne (by decide) h.own _ _, h.own, hn⟩
end

section
variable {w : World} {ks : Kd} {p : Option Addr} {n : Nat}
theorem drop_kn (h : KAt w ks p) (hn : n = ks.len) (hs : n < 2147483648) : Calls Tryd.prog 54 #[Lt.lst p n, .int .i64 2] w fun e w' => ∃ (q : Option Addr) (n' : Nat), e = .returned (Lt.lst q n') ∧ KAt w' ks.tail.tail q ∧ n' = ks.tail.tail.len ∧ Below w.heap.size w w' := by
  subst hn; exact (drop_k h hs).mono fun _ _ ⟨q, he, hk, hb⟩ => ⟨q, _, he, hk, rfl, hb⟩
theorem rest_kn (h : KAt w ks p) (hn : n = ks.len) (hs : n < 2147483648) : Calls Tryd.prog 47 #[Lt.lst p n] w fun e w' => ∃ (q : Option Addr) (n' : Nat), e = .returned (Lt.lst q n') ∧ KAt w' ks.tail q ∧ n' = ks.tail.len ∧ Below w.heap.size w w' := by
  subst hn; exact (rest_k h hs).mono fun _ _ ⟨q, he, hk, hb⟩ => ⟨q, _, he, hk, rfl, hb⟩
theorem push_hn {ts : List Lh} {t : Lh} {q : Option Addr} (h : LsAt w ts p n) (hq : LAt w t q) (hs : n + 1 < 2147483648) : Calls Tryd.prog 40 #[Lt.lst p n, hp q] w fun e w' => ∃ (q' : Option Addr) (n' : Nat), e = .returned (Lt.lst q' n') ∧ LsAt w' (t :: ts) q' n' ∧ Below w.heap.size w w' :=
  (push_h h hq hs).mono fun _ _ ⟨q', he, hk, hb⟩ => ⟨q', _, he, hk, hb⟩
theorem first_kn {m : Int} (h : KAt w ks p) : Calls Tryd.prog 46 #[Lt.lst p m] w fun e w' => ∃ (q : Option Addr) (b : Bool), e = .returned (.tuple #[hp q, .bool b]) ∧ LAt w' ks.head q ∧ Below w.heap.size w w' := by
  obtain ⟨ps, h1, h2⟩ := h.list
  cases ks with
  | nil =>
    obtain rfl := h2
    obtain rfl := h1.nil
    exact (Lt.first_nil m w).mono fun e w' ⟨he, hb⟩ => ⟨none, false, he, rfl, hb⟩
  | cons x ks r =>
    obtain ⟨q, ps', rfl, hq, -⟩ := h2
    exact (Lt.first_cons p q ps' m w h1).mono fun e w' ⟨he, hb⟩ => ⟨q, true, he, LAt.stay hq hb, hb⟩
end

/-- A slice of the call's own of heaps' addresses. -/
def RowAt (W : World) (base : Nat) (A : Option Addr) (L : Nat) (ps : List (Option Addr)) : Prop :=
  L = ps.length ∧ ∀ j, j < L → ∃ (g : Nat) (x : Option Addr) (cur : Array Value), A = some ⟨g, 0, none⟩ ∧ base ≤ g ∧ W.heap[g]? = some (.cells cur 29 (0, 0)) ∧ ps[j]? = some x ∧ cur[j]? = some (.pointer x)
theorem rowAt_mine {W : World} {base : Nat} {A : Option Addr} {L k : Nat} {ps : List (Option Addr)} (h : Mine Lt.one 29 W base (.slice A L k) ps) : RowAt W base A L ps := by
  have h0 := h
  rcases h.2 with ⟨e, hn⟩ | ⟨g, cap, cur, e, hb, hg, hc, hm, hs, ht⟩
  · cases e
    exact ⟨hn.symm, fun j hj => absurd hj (by omega)⟩
  · cases e
    refine ⟨rfl, fun j hj => ⟨g, ps[j], cur, rfl, hb, hg, List.getElem?_eq_getElem hj, ?_⟩⟩
    have hz := h0.cells (g := g) rfl j (.pointer ps[j]) (by simp [hj])
    rw [add_flat, Nat.zero_add] at hz
    simpa [World.cell?, hg] using hz
theorem RowAt.bt {mo : Option Nat} {c m : Int} {W W' : World} {base : Nat} {A : Option Addr} {L : Nat} {ps : List (Option Addr)} (h : RowAt W base A L ps) (hb : Bt mo W W') (hm : MAt W mo c m) : RowAt W' base A L ps :=
  ⟨h.1, fun j hj => by obtain ⟨g, x, cur, h1, h2, h3, h4, h5⟩ := h.2 j hj; exact ⟨g, x, cur, h1, h2, hb.row hm h3 (by decide), h4, h5⟩⟩
theorem RowAt.set {W : World} {base : Nat} {A : Option Addr} {L : Nat} {ps : List (Option Addr)} (h : RowAt W base A L ps) {b : Nat} (hb : b < base) (u : Value) : RowAt (W.setCell ⟨b, 0, none⟩ u) base A L ps :=
  ⟨h.1, fun j hj => by obtain ⟨g, x, cur, h1, h2, h3, h4, h5⟩ := h.2 j hj; exact ⟨g, x, cur, h1, h2, (heap_other _ _ (by omega)).trans h3, h4, h5⟩⟩
theorem HsAt.bt {mo : Option Nat} {c m : Int} {W W' : World} {ts : List Lh} {ps : List (Option Addr)} (h : HsAt W ts ps) (hb : Bt mo W W') (hm : MAt W mo c m) : HsAt W' ts ps := h.kp (hb.kpt hm node_ne)
theorem HVar.put {W : World} {b : Nat} {p : Option Addr} (h : HVar W b p) (q : Option Addr) : HVar (W.setCell ⟨b, 0, none⟩ (.pointer q)) b q := heap_put (j := 0) h _
theorem HVar.set {W : World} {b' : Nat} {p : Option Addr} (h : HVar W b' p) {b : Nat} (hne : b' ≠ b) (off : Nat) (u : Value) : HVar (W.setCell ⟨b, off, none⟩ u) b' p := (heap_other _ _ hne).trans h

/-- How far paired has come in its second loop. -/
structure Pl (mo : Option Nat) (w : World) (a ba base : Nat) (acc : List Lh) (ps : List (Option Addr)) (A : Option Addr) (L j : Nat) (pa : Option Addr) (c m : Int) (W : World) : Prop where
  v : HVar W ba pa
  r : HVar W (a + 1) none
  row : RowAt W base A L ps
  hs : HsAt W acc ps
  at_ : LAt W (foldH (acc.take j).reverse) pa
  tr : Trk NodeT mo w (c + (foldHN (acc.take j).reverse : Nat)) (m + (foldHN (acc.take j).reverse : Nat)) W
  own : w.heap.size ≤ a
  ga : a + 1 < ba
  gb : ba < base
theorem Pl.bt {mo : Option Nat} {w W W' : World} {a ba base : Nat} {acc : List Lh} {ps : List (Option Addr)} {A : Option Addr} {L j : Nat} {pa : Option Addr} {c m : Int} (h : Pl mo w a ba base acc ps A L j pa c m W) (hb : Below W.heap.size W W') : Pl mo w a ba base acc ps A L j pa c m W' :=
  have hz : Bt mo W W' := Bt.ofBelow hb
  ⟨h.v.bt hz h.tr.mt, h.r.bt hz h.tr.mt, h.row.bt hz h.tr.mt, h.hs.bt hz h.tr.mt, h.at_.bt hz h.tr.mt, h.tr.stay hb, h.own, h.ga, h.gb⟩
theorem fold_step (acc : List Lh) (j : Nat) (h : j < acc.length) : (acc.take (j + 1)).reverse = acc[j] :: (acc.take j).reverse := by
  rw [List.take_succ_eq_append_getElem h, List.reverse_append]; rfl


set_option maxRecDepth 100000 in
set_option maxHeartbeats 8000000 in
theorem paired_any (mo : Option Nat) (c m : Int) (ks : Kd) (p : Option Addr) (n : Nat) (w : World) (hm : MAt w mo c m) (h0 : 0 ≤ c) (h1 : c < 576460752303423488) (h2 : 0 ≤ m) (h3 : m < 576460752303423488) (hk : KAt w ks p) (hn : n = ks.len) (hs : ks.size < 134217728) :
    Calls Tryd.prog 41 #[mAddr mo, Lt.lst p n, .func (.func 20) #[] #[]] w (Gave mo (c + ks.pairN) (m + ks.pairN) ks.pair w) := by
  have hb1 : Below w.heap.size w (((w.alloc (.cells #[.pointer p, .int .i64 (n : Int)] 82)).alloc (.cells #[.pointer none] 29)).alloc (.cells #[.pointer none, .int .i64 0] 82)) := (((Below.refl _ _).alloc (Nat.le_refl _) _).alloc (by simp) _).alloc (by simp only [World.size_alloc]; omega) _
  have P1 : Pst mo w w.heap.size ks [] p none n 0 c m (((w.alloc (.cells #[.pointer p, .int .i64 (n : Int)] 82)).alloc (.cells #[.pointer none] 29)).alloc (.cells #[.pointer none, .int .i64 0] 82)) :=
    ⟨((Box2.new w _ _ _).alloc _).alloc _, HVar.alloc (HVar.at (by simp)) _, by have := Box2.new ((w.alloc (.cells #[.pointer p, .int .i64 (n : Int)] 82)).alloc (.cells #[.pointer none] 29)) 82 (.pointer none) (.int .i64 ((0 : Nat) : Int)); simpa using this, hk.stay hb1, LsAt.none _, Trk.below hm hb1, Nat.le_refl _, hn⟩
  have X := Lib.hid P1
  have HN := Lib.hid (show 0 ≤ c ∧ c < 576460752303423488 ∧ 0 ≤ m ∧ m < 576460752303423488 ∧ ks.size < 134217728 from ⟨h0, h1, h2, h3, hs⟩)
  clear P1 hb1 hm h0 h1 h2 h3 hk hn hs
  go_enter Tryd.func41, Tryd.ntmps41
  go_wp2_with fail
  generalize ((w.alloc (.cells #[.pointer p, .int .i64 (n : Int)] 82)).alloc (.cells #[.pointer none] 29)).alloc (.cells #[.pointer none, .int .i64 0] 82) = w1 at *
  obtain ⟨a, ha⟩ : ∃ a, a = w.heap.size := ⟨_, rfl⟩
  rw [← ha] at X ⊢
  clear ha
  go_loopg [9] ks.len (fun k v wr => ∃ (r : Kd) (acc : List Lh) (p q : Option Addr) (n l k1 : Nat), k = r.len ∧ acc.reverse ++ r.twos = ks.twos ∧ k1 + r.twosN = ks.twosN ∧ sizes acc + r.size = ks.size ∧ l ≤ ks.size ∧ Pst mo w a r acc p q n l (c + (k1 : Int)) (m + (k1 : Int)) wr)
  case atStart => exact ⟨ks, [], p, none, n, 0, 0, rfl, rfl, by omega, by simp [sizes], Nat.zero_le _, by simpa using X.out⟩
  case round =>
    obtain ⟨r, acc, p, q, n, l, k1, hgk, hac, hk1, hsz, hll, P⟩ := hrel
    have hl1 := P.ta.len
    have hrl := r.len_le
    have Q := Lib.hid (And.intro hgk (And.intro hac (And.intro hk1 (And.intro hsz (And.intro hll (And.intro P.len (And.intro hrl ks.twosN_le)))))))
    have P0 := Lib.hid P
    have k0 := P.k.c0
    have k1' := P.k.c1
    clear hgk hac hk1 hsz hll P hl1 hrl X
    by_cases hpos : 0 < n
    · have his : r.is = true := Kd.len_pos (by have := Q.out; omega)
      have HIS := Lib.hid his
      clear his
      have q1 : (0 : Int) < (n : Int) := by omega
      have q2 : decide ((0 : Int) < (n : Int)) = true := by simpa using hpos
      have q3 : decide (0 < n) = true := by simpa using hpos
      go_wp2_with fail
      ((with_reducible refine (Lt.len_l).mono ?_); rintro e w2 ⟨rfl, hb2⟩)
      have P2 := Lib.hid (P0.out.stay hb2)
      clear hb2 P0 k0 k1'
      have k0 := P2.out.k.c0
      have k1' := P2.out.k.c1
      go_wp2_with fail
      ((with_reducible refine (first_kn P2.out.ka).mono ?_); rintro e w3 ⟨pf, b1, rfl, hf, hb3⟩)
      have P3 := Lib.hid (P2.out.stay hb3)
      have V3 := Lib.hid (And.intro (hf.stay ((Below.refl _ _).alloc (Nat.le_refl _) (.cells #[.pointer pf] 29))) (HVar.at (W := w3) (p := pf) rfl))
      have P4 := Lib.hid (P3.out.stay ((Below.refl _ _).alloc (Nat.le_refl _) (.cells #[.pointer pf] 29)))
      clear hf hb3 P2 k0 k1'
      have k0 := P4.out.k.c0
      have k1' := P4.out.k.c1
      go_wp2_with fail
      generalize w3.alloc (.cells #[.pointer pf] 29) = w4 at *
      obtain ⟨bf, hbf⟩ : ∃ b, b = w3.heap.size := ⟨_, rfl⟩
      rw [← hbf] at V3 ⊢
      have HBF := Lib.hid (show a + 1 + 1 < bf by rw [hbf]; exact P3.out.t.lt)
      clear hbf P3
      ((with_reducible refine (rest_kn P4.out.ka P4.out.len (by have := Q.out; have := HN.out; omega)).mono ?_); rintro e w5 ⟨p5, n5, rfl, hk5, hn5, hb5⟩)
      have P5 := Lib.hid (P4.out.stay hb5)
      have V5 := Lib.hid (And.intro (V3.out.1.stay hb5) (V3.out.2.stay hb5))
      have K5 := Lib.hid hk5
      clear hk5 hn5 hb5 P4 V3 k0 k1'
      go_wp2_with fail
      ((with_reducible refine (first_kn K5.out).mono ?_); rintro e w6 ⟨ps, b2, rfl, hf, hb6⟩)
      have P6 := Lib.hid (P5.out.stay hb6)
      have V6 := Lib.hid (And.intro (V5.out.1.stay hb6) (V5.out.2.stay hb6))
      have hz := (Below.refl w6.heap.size w6).alloc (Nat.le_refl _) (.cells #[.pointer ps] 29)
      have V7 := Lib.hid (And.intro (hf.stay hz) (HVar.at (W := w6) (p := ps) rfl))
      have X7 := Lib.hid (show Pq mo w a bf w6.heap.size r acc r.head r.tail.head p q pf ps n l (c + (k1 : Int)) (m + (k1 : Int)) (w6.alloc (.cells #[.pointer ps] 29)).drew from
        (Pq.mk (P6.out.stay hz) (V6.out.2.stay hz) V7.out.2 (V6.out.1.stay hz) V7.out.1 HBF.out P6.out.t.lt).stay ((Below.refl _ _).drew))
      clear hf hb6 P5 V5 K5 P6 V6 V7 hz
      go_wp2_with fail
      obtain ⟨bs, hbs⟩ : ∃ b, b = w6.heap.size := ⟨_, rfl⟩
      rw [← hbs] at X7 ⊢
      clear hbs
      refine wp_region_noPanic ?_
      refine wp_region_held_drew (S := fun w' => w'.cell? ⟨bf, 0, none⟩ = some (.pointer pf) ∧ w'.cell? ⟨bs, 0, none⟩ = some (.pointer ps)) (by kernel_rfl) ⟨X7.out.f.c0, X7.out.s.c0⟩ (fun hH => ?_)
      generalize (w6.alloc (.cells #[.pointer ps] 29)).drew = W0 at *
      refine wpAnyH_take (i := 1) (oi := { dst := some 30, op := Go.Op.move (Go.Operand.tmp 2), type := 87, pos := "pairing.go:118", after := #[], guard := none }) (v := ?v1) rfl (by as_aux_lemma => kernel_rfl) (by as_aux_lemma => kernel_rfl) (by as_aux_lemma => kernel_rfl) (fun _ _ _ h => h) (Or.inl ⟨(by as_aux_lemma => kernel_rfl), ?hy1⟩) hH ?rest1
      case hy1 => (intro w hSw; (try dsimp only at hSw); go_simp; try with_reducible rfl)
      try simp only [Act.put, List.setIfInBounds_toArray, List.set_cons_zero, List.set_cons_succ]
      refine wpAnyH_take (i := 2) (oi := { dst := some 31, op := Go.Op.load 29 (Go.Operand.tmp 8), type := 29, pos := "pairing.go:118", after := #[], guard := none }) (v := ?v2) rfl (by as_aux_lemma => kernel_rfl) (by as_aux_lemma => kernel_rfl) (by as_aux_lemma => kernel_rfl) (fun _ _ _ h => h) (Or.inl ⟨(by as_aux_lemma => kernel_rfl), ?hy2⟩) hH ?rest2
      case hy2 => (intro w hSw; (try dsimp only at hSw); go_simp; try with_reducible rfl)
      try simp only [Act.put, List.setIfInBounds_toArray, List.set_cons_zero, List.set_cons_succ]
      refine wpAnyH_take (i := 3) (oi := { dst := some 32, op := Go.Op.move (Go.Operand.tmp 0), type := 25, pos := "pairing.go:118", after := #[], guard := none }) (v := ?v3) rfl (by as_aux_lemma => kernel_rfl) (by as_aux_lemma => kernel_rfl) (by as_aux_lemma => kernel_rfl) (fun _ _ _ h => h) (Or.inl ⟨(by as_aux_lemma => kernel_rfl), ?hy3⟩) hH ?rest3
      case hy3 => (intro w hSw; (try dsimp only at hSw); go_simp; try with_reducible rfl)
      try simp only [Act.put, List.setIfInBounds_toArray, List.set_cons_zero, List.set_cons_succ]
      refine wpAnyH_take (i := 4) (oi := { dst := some 33, op := Go.Op.load 29 (Go.Operand.tmp 10), type := 29, pos := "pairing.go:118", after := #[], guard := none }) (v := ?v4) rfl (by as_aux_lemma => kernel_rfl) (by as_aux_lemma => kernel_rfl) (by as_aux_lemma => kernel_rfl) (fun _ _ _ h => h) (Or.inl ⟨(by as_aux_lemma => kernel_rfl), ?hy4⟩) hH ?rest4
      case hy4 => (intro w hSw; (try dsimp only at hSw); go_simp; try with_reducible rfl)
      try simp only [Act.put, List.setIfInBounds_toArray, List.set_cons_zero, List.set_cons_succ]
      refine wpAnyH_ready (rs := [0, 5, 7]) (by as_aux_lemma => kernel_rfl) (by simp) ?_
      refine AllReadyH.cons (o := { dst := some 29, op := Go.Op.load 82 (Go.Operand.tmp 7), type := 82, pos := "pairing.go:118", after := #[], guard := none }) rfl (fun K hK => ?_) (AllReadyH.cons (o := { dst := some 34, op := Go.Op.call { callee := Go.Callee.value (Go.Operand.tmp 30), args := #[Go.Operand.tmp 31, Go.Operand.tmp 32, Go.Operand.tmp 33], argTypes := #[29, 25, 29] }, type := 29, pos := "pairing.go:118", after := #[{ on := 1, ground := Go.Ground.data }, { on := 2, ground := Go.Ground.data }, { on := 3, ground := Go.Ground.data }, { on := 4, ground := Go.Ground.data }], guard := none }) rfl (fun K hK => ?_) (AllReadyH.cons (o := { dst := some 36, op := Go.Op.load 82 (Go.Operand.tmp 4), type := 82, pos := "pairing.go:118", after := #[], guard := none }) rfl (fun K hK => ?_) AllReadyH.nil))
      · have y0 := X7.out.st.t.c0
        have y1 := X7.out.st.t.c1
        go_simp
        clear y0 y1
        refine hK.out _ _ ?_ (fun hH2 => ?_)
        · exact ⟨X7.out.f.c0, X7.out.s.c0⟩
        clear hK K hH
        have hH := hH2
        clear hH2
        try simp only [Act.put, List.setIfInBounds_toArray, List.set_cons_zero, List.set_cons_succ]
        refine wpAnyH_ready (rs := [5, 7]) (by as_aux_lemma => kernel_rfl) (by simp) ?_
        refine AllReadyH.cons (o := { dst := some 34, op := Go.Op.call { callee := Go.Callee.value (Go.Operand.tmp 30), args := #[Go.Operand.tmp 31, Go.Operand.tmp 32, Go.Operand.tmp 33], argTypes := #[29, 25, 29] }, type := 29, pos := "pairing.go:118", after := #[{ on := 1, ground := Go.Ground.data }, { on := 2, ground := Go.Ground.data }, { on := 3, ground := Go.Ground.data }, { on := 4, ground := Go.Ground.data }], guard := none }) rfl (fun K hK => ?_) (AllReadyH.cons (o := { dst := some 36, op := Go.Op.load 82 (Go.Operand.tmp 4), type := 82, pos := "pairing.go:118", after := #[], guard := none }) rfl (fun K hK => ?_) AllReadyH.nil)
        · go_simp
          (with_reducible refine (meld_any mo r.head r.tail.head (c + (k1 : Int)) (m + (k1 : Int)) pf ps _ (by have h5 := Kd.size_step HIS.out; have := Q.out; have := HN.out; omega) X7.out.st.tr.mt (by have := HN.out; omega) (by have := HN.out; have := Q.out; omega) (by have := HN.out; omega) (by have := HN.out; have := Q.out; omega) X7.out.lf X7.out.ls).mono ?_)
          rintro e WA ⟨pm, rfl, ht, hm, hb⟩
          have XA := Lib.hid (X7.out.turn hm hb)
          have TA := Lib.hid ht
          clear ht hm hb X7
          refine hK.out _ _ ?_ (fun hH2 => ?_)
          · exact ⟨XA.out.f.c0, XA.out.s.c0⟩
          clear hK K hH
          have hH := hH2
          clear hH2
          try simp only [Act.put, List.setIfInBounds_toArray, List.set_cons_zero, List.set_cons_succ]
          refine wpAnyH_ready (rs := [6, 7]) (by as_aux_lemma => kernel_rfl) (by simp) ?_
          refine AllReadyH.cons (o := { dst := some 35, op := Go.Op.call { callee := Go.Callee.value (Go.Operand.func 40), args := #[Go.Operand.tmp 29, Go.Operand.tmp 34], argTypes := #[82, 29] }, type := 82, pos := "pairing.go:118", after := #[{ on := 0, ground := Go.Ground.data }, { on := 5, ground := Go.Ground.data }, { on := 5, ground := Go.Ground.chain }], guard := none }) rfl (fun K hK => ?_) (AllReadyH.cons (o := { dst := some 36, op := Go.Op.load 82 (Go.Operand.tmp 4), type := 82, pos := "pairing.go:118", after := #[], guard := none }) rfl (fun K hK => ?_) AllReadyH.nil)
          · go_simp
            (with_reducible refine (push_hn XA.out.st.ta TA.out (by have := Q.out; have := HN.out; omega)).mono ?_)
            rintro e WB ⟨q6, l6, rfl, ht, hb⟩
            have HL6 := Lib.hid (show l6 ≤ ks.size by have h5 := ht.len; have h6 := XA.out.st.ta.len; have h7 := ks.twos_length; have h8 := congrArg List.length Q.out.2.1; rw [Kd.twos_step HIS.out] at h8; simp only [List.length_append, List.length_reverse, List.length_cons] at h8 h5; omega)
            have XB := Lib.hid (XA.out.stay hb)
            have T6 := Lib.hid ht
            clear ht hb XA TA
            refine hK.out _ _ ?_ (fun hH2 => ?_)
            · exact ⟨XB.out.f.c0, XB.out.s.c0⟩
            clear hK K hH
            have hH := hH2
            clear hH2
            try simp only [Act.put, List.setIfInBounds_toArray, List.set_cons_zero, List.set_cons_succ]
            refine wpAnyH_ready (rs := [7]) (by as_aux_lemma => kernel_rfl) (by simp) ?_
            refine AllReadyH.cons (o := { dst := some 36, op := Go.Op.load 82 (Go.Operand.tmp 4), type := 82, pos := "pairing.go:118", after := #[], guard := none }) rfl (fun K hK => ?_) AllReadyH.nil
            have y0 := XB.out.st.k.c0
            have y1 := XB.out.st.k.c1
            go_simp
            clear y0 y1
            refine hK.out _ _ ?_ (fun hH2 => ?_)
            · exact ⟨XB.out.f.c0, XB.out.s.c0⟩
            clear hK K hH
            have hH := hH2
            clear hH2
            try simp only [Act.put, List.setIfInBounds_toArray, List.set_cons_zero, List.set_cons_succ]
            refine wpAnyH_ready (rs := [8]) (by as_aux_lemma => kernel_rfl) (by simp) ?_
            refine AllReadyH.cons (o := { dst := some 37, op := Go.Op.call { callee := Go.Callee.value (Go.Operand.func 54), args := #[Go.Operand.tmp 36, Go.Operand.const (Go.Value.int Go.IntKind.i64 2)], argTypes := #[82, 3] }, type := 82, pos := "pairing.go:118", after := #[{ on := 7, ground := Go.Ground.data }, { on := 6, ground := Go.Ground.chain }], guard := none }) rfl (fun K hK => ?_) AllReadyH.nil
            go_simp
            (with_reducible refine (drop_kn XB.out.st.ka XB.out.st.len (by have := Q.out; have := HN.out; omega)).mono ?_)
            rintro e WC ⟨p8, n8, rfl, hk, hn, hb⟩
            have XC := Lib.hid (XB.out.stay hb)
            have T6b := Lib.hid (T6.out.stay hb)
            have K8 := Lib.hid hk
            have HN8 := Lib.hid hn
            clear hk hn hb XB T6
            have T6 := T6b
            clear T6b
            refine hK.out _ _ ?_ (fun hH2 => ?_)
            · exact ⟨XC.out.f.c0, XC.out.s.c0⟩
            clear hK K hH
            have hH := hH2
            clear hH2
            try simp only [Act.put, List.setIfInBounds_toArray, List.set_cons_zero, List.set_cons_succ]
            refine wpAnyH_ready (rs := [9]) (by as_aux_lemma => kernel_rfl) (by simp) ?_
            refine AllReadyH.cons (o := { dst := none, op := Go.Op.store 82 (Go.Operand.tmp 7) (Go.Operand.tmp 35), type := 0, pos := "pairing.go:118", after := #[{ on := 6, ground := Go.Ground.data }, { on := 8, ground := Go.Ground.chain }, { on := 0, ground := Go.Ground.phase }, { on := 1, ground := Go.Ground.phase }, { on := 2, ground := Go.Ground.phase }, { on := 3, ground := Go.Ground.phase }, { on := 4, ground := Go.Ground.phase }, { on := 5, ground := Go.Ground.phase }, { on := 6, ground := Go.Ground.phase }, { on := 7, ground := Go.Ground.textOnly Go.Departure.lateStores }, { on := 8, ground := Go.Ground.textOnly Go.Departure.lateStoresUnsure }], guard := none }) rfl (fun K hK => ?_) AllReadyH.nil
            have XS := Lib.hid XC.out.st
            have HS9 := Lib.hid (And.intro (XC.out.f.set2 (b' := a + 1 + 1) (by have := XC.out.nf; omega) (.pointer q6) (.int .i64 (l6 : Int))) (XC.out.s.set2 (b' := a + 1 + 1) (by have := XC.out.ns; omega) (.pointer q6) (.int .i64 (l6 : Int))))
            have HB9 := Lib.hid (And.intro XC.out.nf XC.out.ns)
            have y0 := XS.out.t.c0
            have y1 := XS.out.t.c1
            have y2 := XS.out.t.z0
            have y3 := XS.out.t.z1
            go_simp
            clear y0 y1 y2 y3
            refine hK.out _ _ ?_ (fun hH2 => ?_)
            · exact ⟨HS9.out.1.c0, HS9.out.2.c0⟩
            clear hK K hH
            have hH := hH2
            clear hH2
            try simp only [Act.put, List.setIfInBounds_toArray, List.set_cons_zero, List.set_cons_succ]
            refine wpAnyH_ready (rs := [10]) (by as_aux_lemma => kernel_rfl) (by simp) ?_
            refine AllReadyH.cons (o := { dst := none, op := Go.Op.store 82 (Go.Operand.tmp 4) (Go.Operand.tmp 37), type := 0, pos := "pairing.go:118", after := #[{ on := 8, ground := Go.Ground.data }, { on := 9, ground := Go.Ground.chain }, { on := 0, ground := Go.Ground.phase }, { on := 1, ground := Go.Ground.phase }, { on := 2, ground := Go.Ground.phase }, { on := 3, ground := Go.Ground.phase }, { on := 4, ground := Go.Ground.phase }, { on := 5, ground := Go.Ground.phase }, { on := 6, ground := Go.Ground.phase }, { on := 7, ground := Go.Ground.phase }, { on := 8, ground := Go.Ground.phase }, { on := 9, ground := Go.Ground.phase }], guard := none }) rfl (fun K hK => ?_) AllReadyH.nil
            have B9 := XS.out.k.aside (g := a + 1 + 1) (by omega) (.pointer q6) (.int .i64 (l6 : Int))
            have y0 := B9.c0
            have y1 := B9.c1
            have y2 := B9.z0
            have y3 := B9.z1
            have HS10 := Lib.hid (And.intro (HS9.out.1.set2 (b' := a) (by have := HB9.out; omega) (.pointer p8) (.int .i64 (n8 : Int))) (HS9.out.2.set2 (b' := a) (by have := HB9.out; omega) (.pointer p8) (.int .i64 (n8 : Int))))
            clear B9
            go_simp
            clear y0 y1 y2 y3
            refine hK.out _ _ ?_ (fun hH2 => ?_)
            · exact ⟨HS10.out.1.c0, HS10.out.2.c0⟩
            clear hK K hH
            have hH := hH2
            clear hH2
            try simp only [Act.put, List.setIfInBounds_toArray, List.set_cons_zero, List.set_cons_succ]
            refine wpAnyH_done (by as_aux_lemma => kernel_rfl) ?_ _
            refine NoPanic.normal ?_
            clear hH
            go_wp2_with fail
            go_roundg (r.tail.tail.len)
            case measure => have h5 := Kd.tail_len HIS.out; have := Q.out; omega
            case rel => exact ⟨r.tail.tail, meld r.head r.tail.head :: acc, p8, q6, n8, l6, k1 + meldN r.head r.tail.head, rfl, by have h5 := Q.out.2.1; rw [Kd.twos_step HIS.out] at h5; rw [List.reverse_cons, List.append_assoc]; exact h5, by have h5 := Kd.twosN_step HIS.out; have := Q.out; omega, by have h5 := Kd.size_step HIS.out; have := Q.out.2.2.2.1; simp only [sizes, meld_size]; omega, by have h5 := HL6.out; omega, by have h5 := Pst.next XS.out K8.out HN8.out T6.out; have e1 : c + ((k1 + meldN r.head r.tail.head : Nat) : Int) = c + (k1 : Int) + (meldN r.head r.tail.head : Nat) := (by omega); have e2 : m + ((k1 + meldN r.head r.tail.head : Nat) : Int) = m + (k1 : Int) + (meldN r.head r.tail.head : Nat) := (by omega); rw [e1, e2]; exact h5⟩
          · have y0 := XA.out.st.k.c0
            have y1 := XA.out.st.k.c1
            go_simp
            clear y0 y1
            refine hK.out _ _ ?_ (fun hH2 => ?_)
            · exact ⟨XA.out.f.c0, XA.out.s.c0⟩
            clear hK K hH
            have hH := hH2
            clear hH2
            try simp only [Act.put, List.setIfInBounds_toArray, List.set_cons_zero, List.set_cons_succ]
            refine wpAnyH_ready (rs := [6]) (by as_aux_lemma => kernel_rfl) (by simp) ?_
            refine AllReadyH.cons (o := { dst := some 35, op := Go.Op.call { callee := Go.Callee.value (Go.Operand.func 40), args := #[Go.Operand.tmp 29, Go.Operand.tmp 34], argTypes := #[82, 29] }, type := 82, pos := "pairing.go:118", after := #[{ on := 0, ground := Go.Ground.data }, { on := 5, ground := Go.Ground.data }, { on := 5, ground := Go.Ground.chain }], guard := none }) rfl (fun K hK => ?_) AllReadyH.nil
            go_simp
            (with_reducible refine (push_hn XA.out.st.ta TA.out (by have := Q.out; have := HN.out; omega)).mono ?_)
            rintro e WB ⟨q6, l6, rfl, ht, hb⟩
            have HL6 := Lib.hid (show l6 ≤ ks.size by have h5 := ht.len; have h6 := XA.out.st.ta.len; have h7 := ks.twos_length; have h8 := congrArg List.length Q.out.2.1; rw [Kd.twos_step HIS.out] at h8; simp only [List.length_append, List.length_reverse, List.length_cons] at h8 h5; omega)
            have XB := Lib.hid (XA.out.stay hb)
            have T6 := Lib.hid ht
            clear ht hb XA TA
            refine hK.out _ _ ?_ (fun hH2 => ?_)
            · exact ⟨XB.out.f.c0, XB.out.s.c0⟩
            clear hK K hH
            have hH := hH2
            clear hH2
            try simp only [Act.put, List.setIfInBounds_toArray, List.set_cons_zero, List.set_cons_succ]
            refine wpAnyH_ready (rs := [8]) (by as_aux_lemma => kernel_rfl) (by simp) ?_
            refine AllReadyH.cons (o := { dst := some 37, op := Go.Op.call { callee := Go.Callee.value (Go.Operand.func 54), args := #[Go.Operand.tmp 36, Go.Operand.const (Go.Value.int Go.IntKind.i64 2)], argTypes := #[82, 3] }, type := 82, pos := "pairing.go:118", after := #[{ on := 7, ground := Go.Ground.data }, { on := 6, ground := Go.Ground.chain }], guard := none }) rfl (fun K hK => ?_) AllReadyH.nil
            go_simp
            (with_reducible refine (drop_kn XB.out.st.ka XB.out.st.len (by have := Q.out; have := HN.out; omega)).mono ?_)
            rintro e WC ⟨p8, n8, rfl, hk, hn, hb⟩
            have XC := Lib.hid (XB.out.stay hb)
            have T6b := Lib.hid (T6.out.stay hb)
            have K8 := Lib.hid hk
            have HN8 := Lib.hid hn
            clear hk hn hb XB T6
            have T6 := T6b
            clear T6b
            refine hK.out _ _ ?_ (fun hH2 => ?_)
            · exact ⟨XC.out.f.c0, XC.out.s.c0⟩
            clear hK K hH
            have hH := hH2
            clear hH2
            try simp only [Act.put, List.setIfInBounds_toArray, List.set_cons_zero, List.set_cons_succ]
            refine wpAnyH_ready (rs := [9]) (by as_aux_lemma => kernel_rfl) (by simp) ?_
            refine AllReadyH.cons (o := { dst := none, op := Go.Op.store 82 (Go.Operand.tmp 7) (Go.Operand.tmp 35), type := 0, pos := "pairing.go:118", after := #[{ on := 6, ground := Go.Ground.data }, { on := 8, ground := Go.Ground.chain }, { on := 0, ground := Go.Ground.phase }, { on := 1, ground := Go.Ground.phase }, { on := 2, ground := Go.Ground.phase }, { on := 3, ground := Go.Ground.phase }, { on := 4, ground := Go.Ground.phase }, { on := 5, ground := Go.Ground.phase }, { on := 6, ground := Go.Ground.phase }, { on := 7, ground := Go.Ground.textOnly Go.Departure.lateStores }, { on := 8, ground := Go.Ground.textOnly Go.Departure.lateStoresUnsure }], guard := none }) rfl (fun K hK => ?_) AllReadyH.nil
            have XS := Lib.hid XC.out.st
            have HS9 := Lib.hid (And.intro (XC.out.f.set2 (b' := a + 1 + 1) (by have := XC.out.nf; omega) (.pointer q6) (.int .i64 (l6 : Int))) (XC.out.s.set2 (b' := a + 1 + 1) (by have := XC.out.ns; omega) (.pointer q6) (.int .i64 (l6 : Int))))
            have HB9 := Lib.hid (And.intro XC.out.nf XC.out.ns)
            have y0 := XS.out.t.c0
            have y1 := XS.out.t.c1
            have y2 := XS.out.t.z0
            have y3 := XS.out.t.z1
            go_simp
            clear y0 y1 y2 y3
            refine hK.out _ _ ?_ (fun hH2 => ?_)
            · exact ⟨HS9.out.1.c0, HS9.out.2.c0⟩
            clear hK K hH
            have hH := hH2
            clear hH2
            try simp only [Act.put, List.setIfInBounds_toArray, List.set_cons_zero, List.set_cons_succ]
            refine wpAnyH_ready (rs := [10]) (by as_aux_lemma => kernel_rfl) (by simp) ?_
            refine AllReadyH.cons (o := { dst := none, op := Go.Op.store 82 (Go.Operand.tmp 4) (Go.Operand.tmp 37), type := 0, pos := "pairing.go:118", after := #[{ on := 8, ground := Go.Ground.data }, { on := 9, ground := Go.Ground.chain }, { on := 0, ground := Go.Ground.phase }, { on := 1, ground := Go.Ground.phase }, { on := 2, ground := Go.Ground.phase }, { on := 3, ground := Go.Ground.phase }, { on := 4, ground := Go.Ground.phase }, { on := 5, ground := Go.Ground.phase }, { on := 6, ground := Go.Ground.phase }, { on := 7, ground := Go.Ground.phase }, { on := 8, ground := Go.Ground.phase }, { on := 9, ground := Go.Ground.phase }], guard := none }) rfl (fun K hK => ?_) AllReadyH.nil
            have B9 := XS.out.k.aside (g := a + 1 + 1) (by omega) (.pointer q6) (.int .i64 (l6 : Int))
            have y0 := B9.c0
            have y1 := B9.c1
            have y2 := B9.z0
            have y3 := B9.z1
            have HS10 := Lib.hid (And.intro (HS9.out.1.set2 (b' := a) (by have := HB9.out; omega) (.pointer p8) (.int .i64 (n8 : Int))) (HS9.out.2.set2 (b' := a) (by have := HB9.out; omega) (.pointer p8) (.int .i64 (n8 : Int))))
            clear B9
            go_simp
            clear y0 y1 y2 y3
            refine hK.out _ _ ?_ (fun hH2 => ?_)
            · exact ⟨HS10.out.1.c0, HS10.out.2.c0⟩
            clear hK K hH
            have hH := hH2
            clear hH2
            try simp only [Act.put, List.setIfInBounds_toArray, List.set_cons_zero, List.set_cons_succ]
            refine wpAnyH_done (by as_aux_lemma => kernel_rfl) ?_ _
            refine NoPanic.normal ?_
            clear hH
            go_wp2_with fail
            go_roundg (r.tail.tail.len)
            case measure => have h5 := Kd.tail_len HIS.out; have := Q.out; omega
            case rel => exact ⟨r.tail.tail, meld r.head r.tail.head :: acc, p8, q6, n8, l6, k1 + meldN r.head r.tail.head, rfl, by have h5 := Q.out.2.1; rw [Kd.twos_step HIS.out] at h5; rw [List.reverse_cons, List.append_assoc]; exact h5, by have h5 := Kd.twosN_step HIS.out; have := Q.out; omega, by have h5 := Kd.size_step HIS.out; have := Q.out.2.2.2.1; simp only [sizes, meld_size]; omega, by have h5 := HL6.out; omega, by have h5 := Pst.next XS.out K8.out HN8.out T6.out; have e1 : c + ((k1 + meldN r.head r.tail.head : Nat) : Int) = c + (k1 : Int) + (meldN r.head r.tail.head : Nat) := (by omega); have e2 : m + ((k1 + meldN r.head r.tail.head : Nat) : Int) = m + (k1 : Int) + (meldN r.head r.tail.head : Nat) := (by omega); rw [e1, e2]; exact h5⟩
        · have y0 := X7.out.st.k.c0
          have y1 := X7.out.st.k.c1
          go_simp
          clear y0 y1
          refine hK.out _ _ ?_ (fun hH2 => ?_)
          · exact ⟨X7.out.f.c0, X7.out.s.c0⟩
          clear hK K hH
          have hH := hH2
          clear hH2
          try simp only [Act.put, List.setIfInBounds_toArray, List.set_cons_zero, List.set_cons_succ]
          refine wpAnyH_ready (rs := [5]) (by as_aux_lemma => kernel_rfl) (by simp) ?_
          refine AllReadyH.cons (o := { dst := some 34, op := Go.Op.call { callee := Go.Callee.value (Go.Operand.tmp 30), args := #[Go.Operand.tmp 31, Go.Operand.tmp 32, Go.Operand.tmp 33], argTypes := #[29, 25, 29] }, type := 29, pos := "pairing.go:118", after := #[{ on := 1, ground := Go.Ground.data }, { on := 2, ground := Go.Ground.data }, { on := 3, ground := Go.Ground.data }, { on := 4, ground := Go.Ground.data }], guard := none }) rfl (fun K hK => ?_) AllReadyH.nil
          go_simp
          (with_reducible refine (meld_any mo r.head r.tail.head (c + (k1 : Int)) (m + (k1 : Int)) pf ps _ (by have h5 := Kd.size_step HIS.out; have := Q.out; have := HN.out; omega) X7.out.st.tr.mt (by have := HN.out; omega) (by have := HN.out; have := Q.out; omega) (by have := HN.out; omega) (by have := HN.out; have := Q.out; omega) X7.out.lf X7.out.ls).mono ?_)
          rintro e WA ⟨pm, rfl, ht, hm, hb⟩
          have XA := Lib.hid (X7.out.turn hm hb)
          have TA := Lib.hid ht
          clear ht hm hb X7
          refine hK.out _ _ ?_ (fun hH2 => ?_)
          · exact ⟨XA.out.f.c0, XA.out.s.c0⟩
          clear hK K hH
          have hH := hH2
          clear hH2
          try simp only [Act.put, List.setIfInBounds_toArray, List.set_cons_zero, List.set_cons_succ]
          refine wpAnyH_ready (rs := [6]) (by as_aux_lemma => kernel_rfl) (by simp) ?_
          refine AllReadyH.cons (o := { dst := some 35, op := Go.Op.call { callee := Go.Callee.value (Go.Operand.func 40), args := #[Go.Operand.tmp 29, Go.Operand.tmp 34], argTypes := #[82, 29] }, type := 82, pos := "pairing.go:118", after := #[{ on := 0, ground := Go.Ground.data }, { on := 5, ground := Go.Ground.data }, { on := 5, ground := Go.Ground.chain }], guard := none }) rfl (fun K hK => ?_) AllReadyH.nil
          go_simp
          (with_reducible refine (push_hn XA.out.st.ta TA.out (by have := Q.out; have := HN.out; omega)).mono ?_)
          rintro e WB ⟨q6, l6, rfl, ht, hb⟩
          have HL6 := Lib.hid (show l6 ≤ ks.size by have h5 := ht.len; have h6 := XA.out.st.ta.len; have h7 := ks.twos_length; have h8 := congrArg List.length Q.out.2.1; rw [Kd.twos_step HIS.out] at h8; simp only [List.length_append, List.length_reverse, List.length_cons] at h8 h5; omega)
          have XB := Lib.hid (XA.out.stay hb)
          have T6 := Lib.hid ht
          clear ht hb XA TA
          refine hK.out _ _ ?_ (fun hH2 => ?_)
          · exact ⟨XB.out.f.c0, XB.out.s.c0⟩
          clear hK K hH
          have hH := hH2
          clear hH2
          try simp only [Act.put, List.setIfInBounds_toArray, List.set_cons_zero, List.set_cons_succ]
          refine wpAnyH_ready (rs := [8]) (by as_aux_lemma => kernel_rfl) (by simp) ?_
          refine AllReadyH.cons (o := { dst := some 37, op := Go.Op.call { callee := Go.Callee.value (Go.Operand.func 54), args := #[Go.Operand.tmp 36, Go.Operand.const (Go.Value.int Go.IntKind.i64 2)], argTypes := #[82, 3] }, type := 82, pos := "pairing.go:118", after := #[{ on := 7, ground := Go.Ground.data }, { on := 6, ground := Go.Ground.chain }], guard := none }) rfl (fun K hK => ?_) AllReadyH.nil
          go_simp
          (with_reducible refine (drop_kn XB.out.st.ka XB.out.st.len (by have := Q.out; have := HN.out; omega)).mono ?_)
          rintro e WC ⟨p8, n8, rfl, hk, hn, hb⟩
          have XC := Lib.hid (XB.out.stay hb)
          have T6b := Lib.hid (T6.out.stay hb)
          have K8 := Lib.hid hk
          have HN8 := Lib.hid hn
          clear hk hn hb XB T6
          have T6 := T6b
          clear T6b
          refine hK.out _ _ ?_ (fun hH2 => ?_)
          · exact ⟨XC.out.f.c0, XC.out.s.c0⟩
          clear hK K hH
          have hH := hH2
          clear hH2
          try simp only [Act.put, List.setIfInBounds_toArray, List.set_cons_zero, List.set_cons_succ]
          refine wpAnyH_ready (rs := [9]) (by as_aux_lemma => kernel_rfl) (by simp) ?_
          refine AllReadyH.cons (o := { dst := none, op := Go.Op.store 82 (Go.Operand.tmp 7) (Go.Operand.tmp 35), type := 0, pos := "pairing.go:118", after := #[{ on := 6, ground := Go.Ground.data }, { on := 8, ground := Go.Ground.chain }, { on := 0, ground := Go.Ground.phase }, { on := 1, ground := Go.Ground.phase }, { on := 2, ground := Go.Ground.phase }, { on := 3, ground := Go.Ground.phase }, { on := 4, ground := Go.Ground.phase }, { on := 5, ground := Go.Ground.phase }, { on := 6, ground := Go.Ground.phase }, { on := 7, ground := Go.Ground.textOnly Go.Departure.lateStores }, { on := 8, ground := Go.Ground.textOnly Go.Departure.lateStoresUnsure }], guard := none }) rfl (fun K hK => ?_) AllReadyH.nil
          have XS := Lib.hid XC.out.st
          have HS9 := Lib.hid (And.intro (XC.out.f.set2 (b' := a + 1 + 1) (by have := XC.out.nf; omega) (.pointer q6) (.int .i64 (l6 : Int))) (XC.out.s.set2 (b' := a + 1 + 1) (by have := XC.out.ns; omega) (.pointer q6) (.int .i64 (l6 : Int))))
          have HB9 := Lib.hid (And.intro XC.out.nf XC.out.ns)
          have y0 := XS.out.t.c0
          have y1 := XS.out.t.c1
          have y2 := XS.out.t.z0
          have y3 := XS.out.t.z1
          go_simp
          clear y0 y1 y2 y3
          refine hK.out _ _ ?_ (fun hH2 => ?_)
          · exact ⟨HS9.out.1.c0, HS9.out.2.c0⟩
          clear hK K hH
          have hH := hH2
          clear hH2
          try simp only [Act.put, List.setIfInBounds_toArray, List.set_cons_zero, List.set_cons_succ]
          refine wpAnyH_ready (rs := [10]) (by as_aux_lemma => kernel_rfl) (by simp) ?_
          refine AllReadyH.cons (o := { dst := none, op := Go.Op.store 82 (Go.Operand.tmp 4) (Go.Operand.tmp 37), type := 0, pos := "pairing.go:118", after := #[{ on := 8, ground := Go.Ground.data }, { on := 9, ground := Go.Ground.chain }, { on := 0, ground := Go.Ground.phase }, { on := 1, ground := Go.Ground.phase }, { on := 2, ground := Go.Ground.phase }, { on := 3, ground := Go.Ground.phase }, { on := 4, ground := Go.Ground.phase }, { on := 5, ground := Go.Ground.phase }, { on := 6, ground := Go.Ground.phase }, { on := 7, ground := Go.Ground.phase }, { on := 8, ground := Go.Ground.phase }, { on := 9, ground := Go.Ground.phase }], guard := none }) rfl (fun K hK => ?_) AllReadyH.nil
          have B9 := XS.out.k.aside (g := a + 1 + 1) (by omega) (.pointer q6) (.int .i64 (l6 : Int))
          have y0 := B9.c0
          have y1 := B9.c1
          have y2 := B9.z0
          have y3 := B9.z1
          have HS10 := Lib.hid (And.intro (HS9.out.1.set2 (b' := a) (by have := HB9.out; omega) (.pointer p8) (.int .i64 (n8 : Int))) (HS9.out.2.set2 (b' := a) (by have := HB9.out; omega) (.pointer p8) (.int .i64 (n8 : Int))))
          clear B9
          go_simp
          clear y0 y1 y2 y3
          refine hK.out _ _ ?_ (fun hH2 => ?_)
          · exact ⟨HS10.out.1.c0, HS10.out.2.c0⟩
          clear hK K hH
          have hH := hH2
          clear hH2
          try simp only [Act.put, List.setIfInBounds_toArray, List.set_cons_zero, List.set_cons_succ]
          refine wpAnyH_done (by as_aux_lemma => kernel_rfl) ?_ _
          refine NoPanic.normal ?_
          clear hH
          go_wp2_with fail
          go_roundg (r.tail.tail.len)
          case measure => have h5 := Kd.tail_len HIS.out; have := Q.out; omega
          case rel => exact ⟨r.tail.tail, meld r.head r.tail.head :: acc, p8, q6, n8, l6, k1 + meldN r.head r.tail.head, rfl, by have h5 := Q.out.2.1; rw [Kd.twos_step HIS.out] at h5; rw [List.reverse_cons, List.append_assoc]; exact h5, by have h5 := Kd.twosN_step HIS.out; have := Q.out; omega, by have h5 := Kd.size_step HIS.out; have := Q.out.2.2.2.1; simp only [sizes, meld_size]; omega, by have h5 := HL6.out; omega, by have h5 := Pst.next XS.out K8.out HN8.out T6.out; have e1 : c + ((k1 + meldN r.head r.tail.head : Nat) : Int) = c + (k1 : Int) + (meldN r.head r.tail.head : Nat) := (by omega); have e2 : m + ((k1 + meldN r.head r.tail.head : Nat) : Int) = m + (k1 : Int) + (meldN r.head r.tail.head : Nat) := (by omega); rw [e1, e2]; exact h5⟩
      · go_simp
        (with_reducible refine (meld_any mo r.head r.tail.head (c + (k1 : Int)) (m + (k1 : Int)) pf ps _ (by have h5 := Kd.size_step HIS.out; have := Q.out; have := HN.out; omega) X7.out.st.tr.mt (by have := HN.out; omega) (by have := HN.out; have := Q.out; omega) (by have := HN.out; omega) (by have := HN.out; have := Q.out; omega) X7.out.lf X7.out.ls).mono ?_)
        rintro e WA ⟨pm, rfl, ht, hm, hb⟩
        have XA := Lib.hid (X7.out.turn hm hb)
        have TA := Lib.hid ht
        clear ht hm hb X7
        refine hK.out _ _ ?_ (fun hH2 => ?_)
        · exact ⟨XA.out.f.c0, XA.out.s.c0⟩
        clear hK K hH
        have hH := hH2
        clear hH2
        try simp only [Act.put, List.setIfInBounds_toArray, List.set_cons_zero, List.set_cons_succ]
        refine wpAnyH_ready (rs := [0, 7]) (by as_aux_lemma => kernel_rfl) (by simp) ?_
        refine AllReadyH.cons (o := { dst := some 29, op := Go.Op.load 82 (Go.Operand.tmp 7), type := 82, pos := "pairing.go:118", after := #[], guard := none }) rfl (fun K hK => ?_) (AllReadyH.cons (o := { dst := some 36, op := Go.Op.load 82 (Go.Operand.tmp 4), type := 82, pos := "pairing.go:118", after := #[], guard := none }) rfl (fun K hK => ?_) AllReadyH.nil)
        · have y0 := XA.out.st.t.c0
          have y1 := XA.out.st.t.c1
          go_simp
          clear y0 y1
          refine hK.out _ _ ?_ (fun hH2 => ?_)
          · exact ⟨XA.out.f.c0, XA.out.s.c0⟩
          clear hK K hH
          have hH := hH2
          clear hH2
          try simp only [Act.put, List.setIfInBounds_toArray, List.set_cons_zero, List.set_cons_succ]
          refine wpAnyH_ready (rs := [6, 7]) (by as_aux_lemma => kernel_rfl) (by simp) ?_
          refine AllReadyH.cons (o := { dst := some 35, op := Go.Op.call { callee := Go.Callee.value (Go.Operand.func 40), args := #[Go.Operand.tmp 29, Go.Operand.tmp 34], argTypes := #[82, 29] }, type := 82, pos := "pairing.go:118", after := #[{ on := 0, ground := Go.Ground.data }, { on := 5, ground := Go.Ground.data }, { on := 5, ground := Go.Ground.chain }], guard := none }) rfl (fun K hK => ?_) (AllReadyH.cons (o := { dst := some 36, op := Go.Op.load 82 (Go.Operand.tmp 4), type := 82, pos := "pairing.go:118", after := #[], guard := none }) rfl (fun K hK => ?_) AllReadyH.nil)
          · go_simp
            (with_reducible refine (push_hn XA.out.st.ta TA.out (by have := Q.out; have := HN.out; omega)).mono ?_)
            rintro e WB ⟨q6, l6, rfl, ht, hb⟩
            have HL6 := Lib.hid (show l6 ≤ ks.size by have h5 := ht.len; have h6 := XA.out.st.ta.len; have h7 := ks.twos_length; have h8 := congrArg List.length Q.out.2.1; rw [Kd.twos_step HIS.out] at h8; simp only [List.length_append, List.length_reverse, List.length_cons] at h8 h5; omega)
            have XB := Lib.hid (XA.out.stay hb)
            have T6 := Lib.hid ht
            clear ht hb XA TA
            refine hK.out _ _ ?_ (fun hH2 => ?_)
            · exact ⟨XB.out.f.c0, XB.out.s.c0⟩
            clear hK K hH
            have hH := hH2
            clear hH2
            try simp only [Act.put, List.setIfInBounds_toArray, List.set_cons_zero, List.set_cons_succ]
            refine wpAnyH_ready (rs := [7]) (by as_aux_lemma => kernel_rfl) (by simp) ?_
            refine AllReadyH.cons (o := { dst := some 36, op := Go.Op.load 82 (Go.Operand.tmp 4), type := 82, pos := "pairing.go:118", after := #[], guard := none }) rfl (fun K hK => ?_) AllReadyH.nil
            have y0 := XB.out.st.k.c0
            have y1 := XB.out.st.k.c1
            go_simp
            clear y0 y1
            refine hK.out _ _ ?_ (fun hH2 => ?_)
            · exact ⟨XB.out.f.c0, XB.out.s.c0⟩
            clear hK K hH
            have hH := hH2
            clear hH2
            try simp only [Act.put, List.setIfInBounds_toArray, List.set_cons_zero, List.set_cons_succ]
            refine wpAnyH_ready (rs := [8]) (by as_aux_lemma => kernel_rfl) (by simp) ?_
            refine AllReadyH.cons (o := { dst := some 37, op := Go.Op.call { callee := Go.Callee.value (Go.Operand.func 54), args := #[Go.Operand.tmp 36, Go.Operand.const (Go.Value.int Go.IntKind.i64 2)], argTypes := #[82, 3] }, type := 82, pos := "pairing.go:118", after := #[{ on := 7, ground := Go.Ground.data }, { on := 6, ground := Go.Ground.chain }], guard := none }) rfl (fun K hK => ?_) AllReadyH.nil
            go_simp
            (with_reducible refine (drop_kn XB.out.st.ka XB.out.st.len (by have := Q.out; have := HN.out; omega)).mono ?_)
            rintro e WC ⟨p8, n8, rfl, hk, hn, hb⟩
            have XC := Lib.hid (XB.out.stay hb)
            have T6b := Lib.hid (T6.out.stay hb)
            have K8 := Lib.hid hk
            have HN8 := Lib.hid hn
            clear hk hn hb XB T6
            have T6 := T6b
            clear T6b
            refine hK.out _ _ ?_ (fun hH2 => ?_)
            · exact ⟨XC.out.f.c0, XC.out.s.c0⟩
            clear hK K hH
            have hH := hH2
            clear hH2
            try simp only [Act.put, List.setIfInBounds_toArray, List.set_cons_zero, List.set_cons_succ]
            refine wpAnyH_ready (rs := [9]) (by as_aux_lemma => kernel_rfl) (by simp) ?_
            refine AllReadyH.cons (o := { dst := none, op := Go.Op.store 82 (Go.Operand.tmp 7) (Go.Operand.tmp 35), type := 0, pos := "pairing.go:118", after := #[{ on := 6, ground := Go.Ground.data }, { on := 8, ground := Go.Ground.chain }, { on := 0, ground := Go.Ground.phase }, { on := 1, ground := Go.Ground.phase }, { on := 2, ground := Go.Ground.phase }, { on := 3, ground := Go.Ground.phase }, { on := 4, ground := Go.Ground.phase }, { on := 5, ground := Go.Ground.phase }, { on := 6, ground := Go.Ground.phase }, { on := 7, ground := Go.Ground.textOnly Go.Departure.lateStores }, { on := 8, ground := Go.Ground.textOnly Go.Departure.lateStoresUnsure }], guard := none }) rfl (fun K hK => ?_) AllReadyH.nil
            have XS := Lib.hid XC.out.st
            have HS9 := Lib.hid (And.intro (XC.out.f.set2 (b' := a + 1 + 1) (by have := XC.out.nf; omega) (.pointer q6) (.int .i64 (l6 : Int))) (XC.out.s.set2 (b' := a + 1 + 1) (by have := XC.out.ns; omega) (.pointer q6) (.int .i64 (l6 : Int))))
            have HB9 := Lib.hid (And.intro XC.out.nf XC.out.ns)
            have y0 := XS.out.t.c0
            have y1 := XS.out.t.c1
            have y2 := XS.out.t.z0
            have y3 := XS.out.t.z1
            go_simp
            clear y0 y1 y2 y3
            refine hK.out _ _ ?_ (fun hH2 => ?_)
            · exact ⟨HS9.out.1.c0, HS9.out.2.c0⟩
            clear hK K hH
            have hH := hH2
            clear hH2
            try simp only [Act.put, List.setIfInBounds_toArray, List.set_cons_zero, List.set_cons_succ]
            refine wpAnyH_ready (rs := [10]) (by as_aux_lemma => kernel_rfl) (by simp) ?_
            refine AllReadyH.cons (o := { dst := none, op := Go.Op.store 82 (Go.Operand.tmp 4) (Go.Operand.tmp 37), type := 0, pos := "pairing.go:118", after := #[{ on := 8, ground := Go.Ground.data }, { on := 9, ground := Go.Ground.chain }, { on := 0, ground := Go.Ground.phase }, { on := 1, ground := Go.Ground.phase }, { on := 2, ground := Go.Ground.phase }, { on := 3, ground := Go.Ground.phase }, { on := 4, ground := Go.Ground.phase }, { on := 5, ground := Go.Ground.phase }, { on := 6, ground := Go.Ground.phase }, { on := 7, ground := Go.Ground.phase }, { on := 8, ground := Go.Ground.phase }, { on := 9, ground := Go.Ground.phase }], guard := none }) rfl (fun K hK => ?_) AllReadyH.nil
            have B9 := XS.out.k.aside (g := a + 1 + 1) (by omega) (.pointer q6) (.int .i64 (l6 : Int))
            have y0 := B9.c0
            have y1 := B9.c1
            have y2 := B9.z0
            have y3 := B9.z1
            have HS10 := Lib.hid (And.intro (HS9.out.1.set2 (b' := a) (by have := HB9.out; omega) (.pointer p8) (.int .i64 (n8 : Int))) (HS9.out.2.set2 (b' := a) (by have := HB9.out; omega) (.pointer p8) (.int .i64 (n8 : Int))))
            clear B9
            go_simp
            clear y0 y1 y2 y3
            refine hK.out _ _ ?_ (fun hH2 => ?_)
            · exact ⟨HS10.out.1.c0, HS10.out.2.c0⟩
            clear hK K hH
            have hH := hH2
            clear hH2
            try simp only [Act.put, List.setIfInBounds_toArray, List.set_cons_zero, List.set_cons_succ]
            refine wpAnyH_done (by as_aux_lemma => kernel_rfl) ?_ _
            refine NoPanic.normal ?_
            clear hH
            go_wp2_with fail
            go_roundg (r.tail.tail.len)
            case measure => have h5 := Kd.tail_len HIS.out; have := Q.out; omega
            case rel => exact ⟨r.tail.tail, meld r.head r.tail.head :: acc, p8, q6, n8, l6, k1 + meldN r.head r.tail.head, rfl, by have h5 := Q.out.2.1; rw [Kd.twos_step HIS.out] at h5; rw [List.reverse_cons, List.append_assoc]; exact h5, by have h5 := Kd.twosN_step HIS.out; have := Q.out; omega, by have h5 := Kd.size_step HIS.out; have := Q.out.2.2.2.1; simp only [sizes, meld_size]; omega, by have h5 := HL6.out; omega, by have h5 := Pst.next XS.out K8.out HN8.out T6.out; have e1 : c + ((k1 + meldN r.head r.tail.head : Nat) : Int) = c + (k1 : Int) + (meldN r.head r.tail.head : Nat) := (by omega); have e2 : m + ((k1 + meldN r.head r.tail.head : Nat) : Int) = m + (k1 : Int) + (meldN r.head r.tail.head : Nat) := (by omega); rw [e1, e2]; exact h5⟩
          · have y0 := XA.out.st.k.c0
            have y1 := XA.out.st.k.c1
            go_simp
            clear y0 y1
            refine hK.out _ _ ?_ (fun hH2 => ?_)
            · exact ⟨XA.out.f.c0, XA.out.s.c0⟩
            clear hK K hH
            have hH := hH2
            clear hH2
            try simp only [Act.put, List.setIfInBounds_toArray, List.set_cons_zero, List.set_cons_succ]
            refine wpAnyH_ready (rs := [6]) (by as_aux_lemma => kernel_rfl) (by simp) ?_
            refine AllReadyH.cons (o := { dst := some 35, op := Go.Op.call { callee := Go.Callee.value (Go.Operand.func 40), args := #[Go.Operand.tmp 29, Go.Operand.tmp 34], argTypes := #[82, 29] }, type := 82, pos := "pairing.go:118", after := #[{ on := 0, ground := Go.Ground.data }, { on := 5, ground := Go.Ground.data }, { on := 5, ground := Go.Ground.chain }], guard := none }) rfl (fun K hK => ?_) AllReadyH.nil
            go_simp
            (with_reducible refine (push_hn XA.out.st.ta TA.out (by have := Q.out; have := HN.out; omega)).mono ?_)
            rintro e WB ⟨q6, l6, rfl, ht, hb⟩
            have HL6 := Lib.hid (show l6 ≤ ks.size by have h5 := ht.len; have h6 := XA.out.st.ta.len; have h7 := ks.twos_length; have h8 := congrArg List.length Q.out.2.1; rw [Kd.twos_step HIS.out] at h8; simp only [List.length_append, List.length_reverse, List.length_cons] at h8 h5; omega)
            have XB := Lib.hid (XA.out.stay hb)
            have T6 := Lib.hid ht
            clear ht hb XA TA
            refine hK.out _ _ ?_ (fun hH2 => ?_)
            · exact ⟨XB.out.f.c0, XB.out.s.c0⟩
            clear hK K hH
            have hH := hH2
            clear hH2
            try simp only [Act.put, List.setIfInBounds_toArray, List.set_cons_zero, List.set_cons_succ]
            refine wpAnyH_ready (rs := [8]) (by as_aux_lemma => kernel_rfl) (by simp) ?_
            refine AllReadyH.cons (o := { dst := some 37, op := Go.Op.call { callee := Go.Callee.value (Go.Operand.func 54), args := #[Go.Operand.tmp 36, Go.Operand.const (Go.Value.int Go.IntKind.i64 2)], argTypes := #[82, 3] }, type := 82, pos := "pairing.go:118", after := #[{ on := 7, ground := Go.Ground.data }, { on := 6, ground := Go.Ground.chain }], guard := none }) rfl (fun K hK => ?_) AllReadyH.nil
            go_simp
            (with_reducible refine (drop_kn XB.out.st.ka XB.out.st.len (by have := Q.out; have := HN.out; omega)).mono ?_)
            rintro e WC ⟨p8, n8, rfl, hk, hn, hb⟩
            have XC := Lib.hid (XB.out.stay hb)
            have T6b := Lib.hid (T6.out.stay hb)
            have K8 := Lib.hid hk
            have HN8 := Lib.hid hn
            clear hk hn hb XB T6
            have T6 := T6b
            clear T6b
            refine hK.out _ _ ?_ (fun hH2 => ?_)
            · exact ⟨XC.out.f.c0, XC.out.s.c0⟩
            clear hK K hH
            have hH := hH2
            clear hH2
            try simp only [Act.put, List.setIfInBounds_toArray, List.set_cons_zero, List.set_cons_succ]
            refine wpAnyH_ready (rs := [9]) (by as_aux_lemma => kernel_rfl) (by simp) ?_
            refine AllReadyH.cons (o := { dst := none, op := Go.Op.store 82 (Go.Operand.tmp 7) (Go.Operand.tmp 35), type := 0, pos := "pairing.go:118", after := #[{ on := 6, ground := Go.Ground.data }, { on := 8, ground := Go.Ground.chain }, { on := 0, ground := Go.Ground.phase }, { on := 1, ground := Go.Ground.phase }, { on := 2, ground := Go.Ground.phase }, { on := 3, ground := Go.Ground.phase }, { on := 4, ground := Go.Ground.phase }, { on := 5, ground := Go.Ground.phase }, { on := 6, ground := Go.Ground.phase }, { on := 7, ground := Go.Ground.textOnly Go.Departure.lateStores }, { on := 8, ground := Go.Ground.textOnly Go.Departure.lateStoresUnsure }], guard := none }) rfl (fun K hK => ?_) AllReadyH.nil
            have XS := Lib.hid XC.out.st
            have HS9 := Lib.hid (And.intro (XC.out.f.set2 (b' := a + 1 + 1) (by have := XC.out.nf; omega) (.pointer q6) (.int .i64 (l6 : Int))) (XC.out.s.set2 (b' := a + 1 + 1) (by have := XC.out.ns; omega) (.pointer q6) (.int .i64 (l6 : Int))))
            have HB9 := Lib.hid (And.intro XC.out.nf XC.out.ns)
            have y0 := XS.out.t.c0
            have y1 := XS.out.t.c1
            have y2 := XS.out.t.z0
            have y3 := XS.out.t.z1
            go_simp
            clear y0 y1 y2 y3
            refine hK.out _ _ ?_ (fun hH2 => ?_)
            · exact ⟨HS9.out.1.c0, HS9.out.2.c0⟩
            clear hK K hH
            have hH := hH2
            clear hH2
            try simp only [Act.put, List.setIfInBounds_toArray, List.set_cons_zero, List.set_cons_succ]
            refine wpAnyH_ready (rs := [10]) (by as_aux_lemma => kernel_rfl) (by simp) ?_
            refine AllReadyH.cons (o := { dst := none, op := Go.Op.store 82 (Go.Operand.tmp 4) (Go.Operand.tmp 37), type := 0, pos := "pairing.go:118", after := #[{ on := 8, ground := Go.Ground.data }, { on := 9, ground := Go.Ground.chain }, { on := 0, ground := Go.Ground.phase }, { on := 1, ground := Go.Ground.phase }, { on := 2, ground := Go.Ground.phase }, { on := 3, ground := Go.Ground.phase }, { on := 4, ground := Go.Ground.phase }, { on := 5, ground := Go.Ground.phase }, { on := 6, ground := Go.Ground.phase }, { on := 7, ground := Go.Ground.phase }, { on := 8, ground := Go.Ground.phase }, { on := 9, ground := Go.Ground.phase }], guard := none }) rfl (fun K hK => ?_) AllReadyH.nil
            have B9 := XS.out.k.aside (g := a + 1 + 1) (by omega) (.pointer q6) (.int .i64 (l6 : Int))
            have y0 := B9.c0
            have y1 := B9.c1
            have y2 := B9.z0
            have y3 := B9.z1
            have HS10 := Lib.hid (And.intro (HS9.out.1.set2 (b' := a) (by have := HB9.out; omega) (.pointer p8) (.int .i64 (n8 : Int))) (HS9.out.2.set2 (b' := a) (by have := HB9.out; omega) (.pointer p8) (.int .i64 (n8 : Int))))
            clear B9
            go_simp
            clear y0 y1 y2 y3
            refine hK.out _ _ ?_ (fun hH2 => ?_)
            · exact ⟨HS10.out.1.c0, HS10.out.2.c0⟩
            clear hK K hH
            have hH := hH2
            clear hH2
            try simp only [Act.put, List.setIfInBounds_toArray, List.set_cons_zero, List.set_cons_succ]
            refine wpAnyH_done (by as_aux_lemma => kernel_rfl) ?_ _
            refine NoPanic.normal ?_
            clear hH
            go_wp2_with fail
            go_roundg (r.tail.tail.len)
            case measure => have h5 := Kd.tail_len HIS.out; have := Q.out; omega
            case rel => exact ⟨r.tail.tail, meld r.head r.tail.head :: acc, p8, q6, n8, l6, k1 + meldN r.head r.tail.head, rfl, by have h5 := Q.out.2.1; rw [Kd.twos_step HIS.out] at h5; rw [List.reverse_cons, List.append_assoc]; exact h5, by have h5 := Kd.twosN_step HIS.out; have := Q.out; omega, by have h5 := Kd.size_step HIS.out; have := Q.out.2.2.2.1; simp only [sizes, meld_size]; omega, by have h5 := HL6.out; omega, by have h5 := Pst.next XS.out K8.out HN8.out T6.out; have e1 : c + ((k1 + meldN r.head r.tail.head : Nat) : Int) = c + (k1 : Int) + (meldN r.head r.tail.head : Nat) := (by omega); have e2 : m + ((k1 + meldN r.head r.tail.head : Nat) : Int) = m + (k1 : Int) + (meldN r.head r.tail.head : Nat) := (by omega); rw [e1, e2]; exact h5⟩
        · have y0 := XA.out.st.k.c0
          have y1 := XA.out.st.k.c1
          go_simp
          clear y0 y1
          refine hK.out _ _ ?_ (fun hH2 => ?_)
          · exact ⟨XA.out.f.c0, XA.out.s.c0⟩
          clear hK K hH
          have hH := hH2
          clear hH2
          try simp only [Act.put, List.setIfInBounds_toArray, List.set_cons_zero, List.set_cons_succ]
          refine wpAnyH_ready (rs := [0]) (by as_aux_lemma => kernel_rfl) (by simp) ?_
          refine AllReadyH.cons (o := { dst := some 29, op := Go.Op.load 82 (Go.Operand.tmp 7), type := 82, pos := "pairing.go:118", after := #[], guard := none }) rfl (fun K hK => ?_) AllReadyH.nil
          have y0 := XA.out.st.t.c0
          have y1 := XA.out.st.t.c1
          go_simp
          clear y0 y1
          refine hK.out _ _ ?_ (fun hH2 => ?_)
          · exact ⟨XA.out.f.c0, XA.out.s.c0⟩
          clear hK K hH
          have hH := hH2
          clear hH2
          try simp only [Act.put, List.setIfInBounds_toArray, List.set_cons_zero, List.set_cons_succ]
          refine wpAnyH_ready (rs := [6]) (by as_aux_lemma => kernel_rfl) (by simp) ?_
          refine AllReadyH.cons (o := { dst := some 35, op := Go.Op.call { callee := Go.Callee.value (Go.Operand.func 40), args := #[Go.Operand.tmp 29, Go.Operand.tmp 34], argTypes := #[82, 29] }, type := 82, pos := "pairing.go:118", after := #[{ on := 0, ground := Go.Ground.data }, { on := 5, ground := Go.Ground.data }, { on := 5, ground := Go.Ground.chain }], guard := none }) rfl (fun K hK => ?_) AllReadyH.nil
          go_simp
          (with_reducible refine (push_hn XA.out.st.ta TA.out (by have := Q.out; have := HN.out; omega)).mono ?_)
          rintro e WB ⟨q6, l6, rfl, ht, hb⟩
          have HL6 := Lib.hid (show l6 ≤ ks.size by have h5 := ht.len; have h6 := XA.out.st.ta.len; have h7 := ks.twos_length; have h8 := congrArg List.length Q.out.2.1; rw [Kd.twos_step HIS.out] at h8; simp only [List.length_append, List.length_reverse, List.length_cons] at h8 h5; omega)
          have XB := Lib.hid (XA.out.stay hb)
          have T6 := Lib.hid ht
          clear ht hb XA TA
          refine hK.out _ _ ?_ (fun hH2 => ?_)
          · exact ⟨XB.out.f.c0, XB.out.s.c0⟩
          clear hK K hH
          have hH := hH2
          clear hH2
          try simp only [Act.put, List.setIfInBounds_toArray, List.set_cons_zero, List.set_cons_succ]
          refine wpAnyH_ready (rs := [8]) (by as_aux_lemma => kernel_rfl) (by simp) ?_
          refine AllReadyH.cons (o := { dst := some 37, op := Go.Op.call { callee := Go.Callee.value (Go.Operand.func 54), args := #[Go.Operand.tmp 36, Go.Operand.const (Go.Value.int Go.IntKind.i64 2)], argTypes := #[82, 3] }, type := 82, pos := "pairing.go:118", after := #[{ on := 7, ground := Go.Ground.data }, { on := 6, ground := Go.Ground.chain }], guard := none }) rfl (fun K hK => ?_) AllReadyH.nil
          go_simp
          (with_reducible refine (drop_kn XB.out.st.ka XB.out.st.len (by have := Q.out; have := HN.out; omega)).mono ?_)
          rintro e WC ⟨p8, n8, rfl, hk, hn, hb⟩
          have XC := Lib.hid (XB.out.stay hb)
          have T6b := Lib.hid (T6.out.stay hb)
          have K8 := Lib.hid hk
          have HN8 := Lib.hid hn
          clear hk hn hb XB T6
          have T6 := T6b
          clear T6b
          refine hK.out _ _ ?_ (fun hH2 => ?_)
          · exact ⟨XC.out.f.c0, XC.out.s.c0⟩
          clear hK K hH
          have hH := hH2
          clear hH2
          try simp only [Act.put, List.setIfInBounds_toArray, List.set_cons_zero, List.set_cons_succ]
          refine wpAnyH_ready (rs := [9]) (by as_aux_lemma => kernel_rfl) (by simp) ?_
          refine AllReadyH.cons (o := { dst := none, op := Go.Op.store 82 (Go.Operand.tmp 7) (Go.Operand.tmp 35), type := 0, pos := "pairing.go:118", after := #[{ on := 6, ground := Go.Ground.data }, { on := 8, ground := Go.Ground.chain }, { on := 0, ground := Go.Ground.phase }, { on := 1, ground := Go.Ground.phase }, { on := 2, ground := Go.Ground.phase }, { on := 3, ground := Go.Ground.phase }, { on := 4, ground := Go.Ground.phase }, { on := 5, ground := Go.Ground.phase }, { on := 6, ground := Go.Ground.phase }, { on := 7, ground := Go.Ground.textOnly Go.Departure.lateStores }, { on := 8, ground := Go.Ground.textOnly Go.Departure.lateStoresUnsure }], guard := none }) rfl (fun K hK => ?_) AllReadyH.nil
          have XS := Lib.hid XC.out.st
          have HS9 := Lib.hid (And.intro (XC.out.f.set2 (b' := a + 1 + 1) (by have := XC.out.nf; omega) (.pointer q6) (.int .i64 (l6 : Int))) (XC.out.s.set2 (b' := a + 1 + 1) (by have := XC.out.ns; omega) (.pointer q6) (.int .i64 (l6 : Int))))
          have HB9 := Lib.hid (And.intro XC.out.nf XC.out.ns)
          have y0 := XS.out.t.c0
          have y1 := XS.out.t.c1
          have y2 := XS.out.t.z0
          have y3 := XS.out.t.z1
          go_simp
          clear y0 y1 y2 y3
          refine hK.out _ _ ?_ (fun hH2 => ?_)
          · exact ⟨HS9.out.1.c0, HS9.out.2.c0⟩
          clear hK K hH
          have hH := hH2
          clear hH2
          try simp only [Act.put, List.setIfInBounds_toArray, List.set_cons_zero, List.set_cons_succ]
          refine wpAnyH_ready (rs := [10]) (by as_aux_lemma => kernel_rfl) (by simp) ?_
          refine AllReadyH.cons (o := { dst := none, op := Go.Op.store 82 (Go.Operand.tmp 4) (Go.Operand.tmp 37), type := 0, pos := "pairing.go:118", after := #[{ on := 8, ground := Go.Ground.data }, { on := 9, ground := Go.Ground.chain }, { on := 0, ground := Go.Ground.phase }, { on := 1, ground := Go.Ground.phase }, { on := 2, ground := Go.Ground.phase }, { on := 3, ground := Go.Ground.phase }, { on := 4, ground := Go.Ground.phase }, { on := 5, ground := Go.Ground.phase }, { on := 6, ground := Go.Ground.phase }, { on := 7, ground := Go.Ground.phase }, { on := 8, ground := Go.Ground.phase }, { on := 9, ground := Go.Ground.phase }], guard := none }) rfl (fun K hK => ?_) AllReadyH.nil
          have B9 := XS.out.k.aside (g := a + 1 + 1) (by omega) (.pointer q6) (.int .i64 (l6 : Int))
          have y0 := B9.c0
          have y1 := B9.c1
          have y2 := B9.z0
          have y3 := B9.z1
          have HS10 := Lib.hid (And.intro (HS9.out.1.set2 (b' := a) (by have := HB9.out; omega) (.pointer p8) (.int .i64 (n8 : Int))) (HS9.out.2.set2 (b' := a) (by have := HB9.out; omega) (.pointer p8) (.int .i64 (n8 : Int))))
          clear B9
          go_simp
          clear y0 y1 y2 y3
          refine hK.out _ _ ?_ (fun hH2 => ?_)
          · exact ⟨HS10.out.1.c0, HS10.out.2.c0⟩
          clear hK K hH
          have hH := hH2
          clear hH2
          try simp only [Act.put, List.setIfInBounds_toArray, List.set_cons_zero, List.set_cons_succ]
          refine wpAnyH_done (by as_aux_lemma => kernel_rfl) ?_ _
          refine NoPanic.normal ?_
          clear hH
          go_wp2_with fail
          go_roundg (r.tail.tail.len)
          case measure => have h5 := Kd.tail_len HIS.out; have := Q.out; omega
          case rel => exact ⟨r.tail.tail, meld r.head r.tail.head :: acc, p8, q6, n8, l6, k1 + meldN r.head r.tail.head, rfl, by have h5 := Q.out.2.1; rw [Kd.twos_step HIS.out] at h5; rw [List.reverse_cons, List.append_assoc]; exact h5, by have h5 := Kd.twosN_step HIS.out; have := Q.out; omega, by have h5 := Kd.size_step HIS.out; have := Q.out.2.2.2.1; simp only [sizes, meld_size]; omega, by have h5 := HL6.out; omega, by have h5 := Pst.next XS.out K8.out HN8.out T6.out; have e1 : c + ((k1 + meldN r.head r.tail.head : Nat) : Int) = c + (k1 : Int) + (meldN r.head r.tail.head : Nat) := (by omega); have e2 : m + ((k1 + meldN r.head r.tail.head : Nat) : Int) = m + (k1 : Int) + (meldN r.head r.tail.head : Nat) := (by omega); rw [e1, e2]; exact h5⟩
      · have y0 := X7.out.st.k.c0
        have y1 := X7.out.st.k.c1
        go_simp
        clear y0 y1
        refine hK.out _ _ ?_ (fun hH2 => ?_)
        · exact ⟨X7.out.f.c0, X7.out.s.c0⟩
        clear hK K hH
        have hH := hH2
        clear hH2
        try simp only [Act.put, List.setIfInBounds_toArray, List.set_cons_zero, List.set_cons_succ]
        refine wpAnyH_ready (rs := [0, 5]) (by as_aux_lemma => kernel_rfl) (by simp) ?_
        refine AllReadyH.cons (o := { dst := some 29, op := Go.Op.load 82 (Go.Operand.tmp 7), type := 82, pos := "pairing.go:118", after := #[], guard := none }) rfl (fun K hK => ?_) (AllReadyH.cons (o := { dst := some 34, op := Go.Op.call { callee := Go.Callee.value (Go.Operand.tmp 30), args := #[Go.Operand.tmp 31, Go.Operand.tmp 32, Go.Operand.tmp 33], argTypes := #[29, 25, 29] }, type := 29, pos := "pairing.go:118", after := #[{ on := 1, ground := Go.Ground.data }, { on := 2, ground := Go.Ground.data }, { on := 3, ground := Go.Ground.data }, { on := 4, ground := Go.Ground.data }], guard := none }) rfl (fun K hK => ?_) AllReadyH.nil)
        · have y0 := X7.out.st.t.c0
          have y1 := X7.out.st.t.c1
          go_simp
          clear y0 y1
          refine hK.out _ _ ?_ (fun hH2 => ?_)
          · exact ⟨X7.out.f.c0, X7.out.s.c0⟩
          clear hK K hH
          have hH := hH2
          clear hH2
          try simp only [Act.put, List.setIfInBounds_toArray, List.set_cons_zero, List.set_cons_succ]
          refine wpAnyH_ready (rs := [5]) (by as_aux_lemma => kernel_rfl) (by simp) ?_
          refine AllReadyH.cons (o := { dst := some 34, op := Go.Op.call { callee := Go.Callee.value (Go.Operand.tmp 30), args := #[Go.Operand.tmp 31, Go.Operand.tmp 32, Go.Operand.tmp 33], argTypes := #[29, 25, 29] }, type := 29, pos := "pairing.go:118", after := #[{ on := 1, ground := Go.Ground.data }, { on := 2, ground := Go.Ground.data }, { on := 3, ground := Go.Ground.data }, { on := 4, ground := Go.Ground.data }], guard := none }) rfl (fun K hK => ?_) AllReadyH.nil
          go_simp
          (with_reducible refine (meld_any mo r.head r.tail.head (c + (k1 : Int)) (m + (k1 : Int)) pf ps _ (by have h5 := Kd.size_step HIS.out; have := Q.out; have := HN.out; omega) X7.out.st.tr.mt (by have := HN.out; omega) (by have := HN.out; have := Q.out; omega) (by have := HN.out; omega) (by have := HN.out; have := Q.out; omega) X7.out.lf X7.out.ls).mono ?_)
          rintro e WA ⟨pm, rfl, ht, hm, hb⟩
          have XA := Lib.hid (X7.out.turn hm hb)
          have TA := Lib.hid ht
          clear ht hm hb X7
          refine hK.out _ _ ?_ (fun hH2 => ?_)
          · exact ⟨XA.out.f.c0, XA.out.s.c0⟩
          clear hK K hH
          have hH := hH2
          clear hH2
          try simp only [Act.put, List.setIfInBounds_toArray, List.set_cons_zero, List.set_cons_succ]
          refine wpAnyH_ready (rs := [6]) (by as_aux_lemma => kernel_rfl) (by simp) ?_
          refine AllReadyH.cons (o := { dst := some 35, op := Go.Op.call { callee := Go.Callee.value (Go.Operand.func 40), args := #[Go.Operand.tmp 29, Go.Operand.tmp 34], argTypes := #[82, 29] }, type := 82, pos := "pairing.go:118", after := #[{ on := 0, ground := Go.Ground.data }, { on := 5, ground := Go.Ground.data }, { on := 5, ground := Go.Ground.chain }], guard := none }) rfl (fun K hK => ?_) AllReadyH.nil
          go_simp
          (with_reducible refine (push_hn XA.out.st.ta TA.out (by have := Q.out; have := HN.out; omega)).mono ?_)
          rintro e WB ⟨q6, l6, rfl, ht, hb⟩
          have HL6 := Lib.hid (show l6 ≤ ks.size by have h5 := ht.len; have h6 := XA.out.st.ta.len; have h7 := ks.twos_length; have h8 := congrArg List.length Q.out.2.1; rw [Kd.twos_step HIS.out] at h8; simp only [List.length_append, List.length_reverse, List.length_cons] at h8 h5; omega)
          have XB := Lib.hid (XA.out.stay hb)
          have T6 := Lib.hid ht
          clear ht hb XA TA
          refine hK.out _ _ ?_ (fun hH2 => ?_)
          · exact ⟨XB.out.f.c0, XB.out.s.c0⟩
          clear hK K hH
          have hH := hH2
          clear hH2
          try simp only [Act.put, List.setIfInBounds_toArray, List.set_cons_zero, List.set_cons_succ]
          refine wpAnyH_ready (rs := [8]) (by as_aux_lemma => kernel_rfl) (by simp) ?_
          refine AllReadyH.cons (o := { dst := some 37, op := Go.Op.call { callee := Go.Callee.value (Go.Operand.func 54), args := #[Go.Operand.tmp 36, Go.Operand.const (Go.Value.int Go.IntKind.i64 2)], argTypes := #[82, 3] }, type := 82, pos := "pairing.go:118", after := #[{ on := 7, ground := Go.Ground.data }, { on := 6, ground := Go.Ground.chain }], guard := none }) rfl (fun K hK => ?_) AllReadyH.nil
          go_simp
          (with_reducible refine (drop_kn XB.out.st.ka XB.out.st.len (by have := Q.out; have := HN.out; omega)).mono ?_)
          rintro e WC ⟨p8, n8, rfl, hk, hn, hb⟩
          have XC := Lib.hid (XB.out.stay hb)
          have T6b := Lib.hid (T6.out.stay hb)
          have K8 := Lib.hid hk
          have HN8 := Lib.hid hn
          clear hk hn hb XB T6
          have T6 := T6b
          clear T6b
          refine hK.out _ _ ?_ (fun hH2 => ?_)
          · exact ⟨XC.out.f.c0, XC.out.s.c0⟩
          clear hK K hH
          have hH := hH2
          clear hH2
          try simp only [Act.put, List.setIfInBounds_toArray, List.set_cons_zero, List.set_cons_succ]
          refine wpAnyH_ready (rs := [9]) (by as_aux_lemma => kernel_rfl) (by simp) ?_
          refine AllReadyH.cons (o := { dst := none, op := Go.Op.store 82 (Go.Operand.tmp 7) (Go.Operand.tmp 35), type := 0, pos := "pairing.go:118", after := #[{ on := 6, ground := Go.Ground.data }, { on := 8, ground := Go.Ground.chain }, { on := 0, ground := Go.Ground.phase }, { on := 1, ground := Go.Ground.phase }, { on := 2, ground := Go.Ground.phase }, { on := 3, ground := Go.Ground.phase }, { on := 4, ground := Go.Ground.phase }, { on := 5, ground := Go.Ground.phase }, { on := 6, ground := Go.Ground.phase }, { on := 7, ground := Go.Ground.textOnly Go.Departure.lateStores }, { on := 8, ground := Go.Ground.textOnly Go.Departure.lateStoresUnsure }], guard := none }) rfl (fun K hK => ?_) AllReadyH.nil
          have XS := Lib.hid XC.out.st
          have HS9 := Lib.hid (And.intro (XC.out.f.set2 (b' := a + 1 + 1) (by have := XC.out.nf; omega) (.pointer q6) (.int .i64 (l6 : Int))) (XC.out.s.set2 (b' := a + 1 + 1) (by have := XC.out.ns; omega) (.pointer q6) (.int .i64 (l6 : Int))))
          have HB9 := Lib.hid (And.intro XC.out.nf XC.out.ns)
          have y0 := XS.out.t.c0
          have y1 := XS.out.t.c1
          have y2 := XS.out.t.z0
          have y3 := XS.out.t.z1
          go_simp
          clear y0 y1 y2 y3
          refine hK.out _ _ ?_ (fun hH2 => ?_)
          · exact ⟨HS9.out.1.c0, HS9.out.2.c0⟩
          clear hK K hH
          have hH := hH2
          clear hH2
          try simp only [Act.put, List.setIfInBounds_toArray, List.set_cons_zero, List.set_cons_succ]
          refine wpAnyH_ready (rs := [10]) (by as_aux_lemma => kernel_rfl) (by simp) ?_
          refine AllReadyH.cons (o := { dst := none, op := Go.Op.store 82 (Go.Operand.tmp 4) (Go.Operand.tmp 37), type := 0, pos := "pairing.go:118", after := #[{ on := 8, ground := Go.Ground.data }, { on := 9, ground := Go.Ground.chain }, { on := 0, ground := Go.Ground.phase }, { on := 1, ground := Go.Ground.phase }, { on := 2, ground := Go.Ground.phase }, { on := 3, ground := Go.Ground.phase }, { on := 4, ground := Go.Ground.phase }, { on := 5, ground := Go.Ground.phase }, { on := 6, ground := Go.Ground.phase }, { on := 7, ground := Go.Ground.phase }, { on := 8, ground := Go.Ground.phase }, { on := 9, ground := Go.Ground.phase }], guard := none }) rfl (fun K hK => ?_) AllReadyH.nil
          have B9 := XS.out.k.aside (g := a + 1 + 1) (by omega) (.pointer q6) (.int .i64 (l6 : Int))
          have y0 := B9.c0
          have y1 := B9.c1
          have y2 := B9.z0
          have y3 := B9.z1
          have HS10 := Lib.hid (And.intro (HS9.out.1.set2 (b' := a) (by have := HB9.out; omega) (.pointer p8) (.int .i64 (n8 : Int))) (HS9.out.2.set2 (b' := a) (by have := HB9.out; omega) (.pointer p8) (.int .i64 (n8 : Int))))
          clear B9
          go_simp
          clear y0 y1 y2 y3
          refine hK.out _ _ ?_ (fun hH2 => ?_)
          · exact ⟨HS10.out.1.c0, HS10.out.2.c0⟩
          clear hK K hH
          have hH := hH2
          clear hH2
          try simp only [Act.put, List.setIfInBounds_toArray, List.set_cons_zero, List.set_cons_succ]
          refine wpAnyH_done (by as_aux_lemma => kernel_rfl) ?_ _
          refine NoPanic.normal ?_
          clear hH
          go_wp2_with fail
          go_roundg (r.tail.tail.len)
          case measure => have h5 := Kd.tail_len HIS.out; have := Q.out; omega
          case rel => exact ⟨r.tail.tail, meld r.head r.tail.head :: acc, p8, q6, n8, l6, k1 + meldN r.head r.tail.head, rfl, by have h5 := Q.out.2.1; rw [Kd.twos_step HIS.out] at h5; rw [List.reverse_cons, List.append_assoc]; exact h5, by have h5 := Kd.twosN_step HIS.out; have := Q.out; omega, by have h5 := Kd.size_step HIS.out; have := Q.out.2.2.2.1; simp only [sizes, meld_size]; omega, by have h5 := HL6.out; omega, by have h5 := Pst.next XS.out K8.out HN8.out T6.out; have e1 : c + ((k1 + meldN r.head r.tail.head : Nat) : Int) = c + (k1 : Int) + (meldN r.head r.tail.head : Nat) := (by omega); have e2 : m + ((k1 + meldN r.head r.tail.head : Nat) : Int) = m + (k1 : Int) + (meldN r.head r.tail.head : Nat) := (by omega); rw [e1, e2]; exact h5⟩
        · go_simp
          (with_reducible refine (meld_any mo r.head r.tail.head (c + (k1 : Int)) (m + (k1 : Int)) pf ps _ (by have h5 := Kd.size_step HIS.out; have := Q.out; have := HN.out; omega) X7.out.st.tr.mt (by have := HN.out; omega) (by have := HN.out; have := Q.out; omega) (by have := HN.out; omega) (by have := HN.out; have := Q.out; omega) X7.out.lf X7.out.ls).mono ?_)
          rintro e WA ⟨pm, rfl, ht, hm, hb⟩
          have XA := Lib.hid (X7.out.turn hm hb)
          have TA := Lib.hid ht
          clear ht hm hb X7
          refine hK.out _ _ ?_ (fun hH2 => ?_)
          · exact ⟨XA.out.f.c0, XA.out.s.c0⟩
          clear hK K hH
          have hH := hH2
          clear hH2
          try simp only [Act.put, List.setIfInBounds_toArray, List.set_cons_zero, List.set_cons_succ]
          refine wpAnyH_ready (rs := [0]) (by as_aux_lemma => kernel_rfl) (by simp) ?_
          refine AllReadyH.cons (o := { dst := some 29, op := Go.Op.load 82 (Go.Operand.tmp 7), type := 82, pos := "pairing.go:118", after := #[], guard := none }) rfl (fun K hK => ?_) AllReadyH.nil
          have y0 := XA.out.st.t.c0
          have y1 := XA.out.st.t.c1
          go_simp
          clear y0 y1
          refine hK.out _ _ ?_ (fun hH2 => ?_)
          · exact ⟨XA.out.f.c0, XA.out.s.c0⟩
          clear hK K hH
          have hH := hH2
          clear hH2
          try simp only [Act.put, List.setIfInBounds_toArray, List.set_cons_zero, List.set_cons_succ]
          refine wpAnyH_ready (rs := [6]) (by as_aux_lemma => kernel_rfl) (by simp) ?_
          refine AllReadyH.cons (o := { dst := some 35, op := Go.Op.call { callee := Go.Callee.value (Go.Operand.func 40), args := #[Go.Operand.tmp 29, Go.Operand.tmp 34], argTypes := #[82, 29] }, type := 82, pos := "pairing.go:118", after := #[{ on := 0, ground := Go.Ground.data }, { on := 5, ground := Go.Ground.data }, { on := 5, ground := Go.Ground.chain }], guard := none }) rfl (fun K hK => ?_) AllReadyH.nil
          go_simp
          (with_reducible refine (push_hn XA.out.st.ta TA.out (by have := Q.out; have := HN.out; omega)).mono ?_)
          rintro e WB ⟨q6, l6, rfl, ht, hb⟩
          have HL6 := Lib.hid (show l6 ≤ ks.size by have h5 := ht.len; have h6 := XA.out.st.ta.len; have h7 := ks.twos_length; have h8 := congrArg List.length Q.out.2.1; rw [Kd.twos_step HIS.out] at h8; simp only [List.length_append, List.length_reverse, List.length_cons] at h8 h5; omega)
          have XB := Lib.hid (XA.out.stay hb)
          have T6 := Lib.hid ht
          clear ht hb XA TA
          refine hK.out _ _ ?_ (fun hH2 => ?_)
          · exact ⟨XB.out.f.c0, XB.out.s.c0⟩
          clear hK K hH
          have hH := hH2
          clear hH2
          try simp only [Act.put, List.setIfInBounds_toArray, List.set_cons_zero, List.set_cons_succ]
          refine wpAnyH_ready (rs := [8]) (by as_aux_lemma => kernel_rfl) (by simp) ?_
          refine AllReadyH.cons (o := { dst := some 37, op := Go.Op.call { callee := Go.Callee.value (Go.Operand.func 54), args := #[Go.Operand.tmp 36, Go.Operand.const (Go.Value.int Go.IntKind.i64 2)], argTypes := #[82, 3] }, type := 82, pos := "pairing.go:118", after := #[{ on := 7, ground := Go.Ground.data }, { on := 6, ground := Go.Ground.chain }], guard := none }) rfl (fun K hK => ?_) AllReadyH.nil
          go_simp
          (with_reducible refine (drop_kn XB.out.st.ka XB.out.st.len (by have := Q.out; have := HN.out; omega)).mono ?_)
          rintro e WC ⟨p8, n8, rfl, hk, hn, hb⟩
          have XC := Lib.hid (XB.out.stay hb)
          have T6b := Lib.hid (T6.out.stay hb)
          have K8 := Lib.hid hk
          have HN8 := Lib.hid hn
          clear hk hn hb XB T6
          have T6 := T6b
          clear T6b
          refine hK.out _ _ ?_ (fun hH2 => ?_)
          · exact ⟨XC.out.f.c0, XC.out.s.c0⟩
          clear hK K hH
          have hH := hH2
          clear hH2
          try simp only [Act.put, List.setIfInBounds_toArray, List.set_cons_zero, List.set_cons_succ]
          refine wpAnyH_ready (rs := [9]) (by as_aux_lemma => kernel_rfl) (by simp) ?_
          refine AllReadyH.cons (o := { dst := none, op := Go.Op.store 82 (Go.Operand.tmp 7) (Go.Operand.tmp 35), type := 0, pos := "pairing.go:118", after := #[{ on := 6, ground := Go.Ground.data }, { on := 8, ground := Go.Ground.chain }, { on := 0, ground := Go.Ground.phase }, { on := 1, ground := Go.Ground.phase }, { on := 2, ground := Go.Ground.phase }, { on := 3, ground := Go.Ground.phase }, { on := 4, ground := Go.Ground.phase }, { on := 5, ground := Go.Ground.phase }, { on := 6, ground := Go.Ground.phase }, { on := 7, ground := Go.Ground.textOnly Go.Departure.lateStores }, { on := 8, ground := Go.Ground.textOnly Go.Departure.lateStoresUnsure }], guard := none }) rfl (fun K hK => ?_) AllReadyH.nil
          have XS := Lib.hid XC.out.st
          have HS9 := Lib.hid (And.intro (XC.out.f.set2 (b' := a + 1 + 1) (by have := XC.out.nf; omega) (.pointer q6) (.int .i64 (l6 : Int))) (XC.out.s.set2 (b' := a + 1 + 1) (by have := XC.out.ns; omega) (.pointer q6) (.int .i64 (l6 : Int))))
          have HB9 := Lib.hid (And.intro XC.out.nf XC.out.ns)
          have y0 := XS.out.t.c0
          have y1 := XS.out.t.c1
          have y2 := XS.out.t.z0
          have y3 := XS.out.t.z1
          go_simp
          clear y0 y1 y2 y3
          refine hK.out _ _ ?_ (fun hH2 => ?_)
          · exact ⟨HS9.out.1.c0, HS9.out.2.c0⟩
          clear hK K hH
          have hH := hH2
          clear hH2
          try simp only [Act.put, List.setIfInBounds_toArray, List.set_cons_zero, List.set_cons_succ]
          refine wpAnyH_ready (rs := [10]) (by as_aux_lemma => kernel_rfl) (by simp) ?_
          refine AllReadyH.cons (o := { dst := none, op := Go.Op.store 82 (Go.Operand.tmp 4) (Go.Operand.tmp 37), type := 0, pos := "pairing.go:118", after := #[{ on := 8, ground := Go.Ground.data }, { on := 9, ground := Go.Ground.chain }, { on := 0, ground := Go.Ground.phase }, { on := 1, ground := Go.Ground.phase }, { on := 2, ground := Go.Ground.phase }, { on := 3, ground := Go.Ground.phase }, { on := 4, ground := Go.Ground.phase }, { on := 5, ground := Go.Ground.phase }, { on := 6, ground := Go.Ground.phase }, { on := 7, ground := Go.Ground.phase }, { on := 8, ground := Go.Ground.phase }, { on := 9, ground := Go.Ground.phase }], guard := none }) rfl (fun K hK => ?_) AllReadyH.nil
          have B9 := XS.out.k.aside (g := a + 1 + 1) (by omega) (.pointer q6) (.int .i64 (l6 : Int))
          have y0 := B9.c0
          have y1 := B9.c1
          have y2 := B9.z0
          have y3 := B9.z1
          have HS10 := Lib.hid (And.intro (HS9.out.1.set2 (b' := a) (by have := HB9.out; omega) (.pointer p8) (.int .i64 (n8 : Int))) (HS9.out.2.set2 (b' := a) (by have := HB9.out; omega) (.pointer p8) (.int .i64 (n8 : Int))))
          clear B9
          go_simp
          clear y0 y1 y2 y3
          refine hK.out _ _ ?_ (fun hH2 => ?_)
          · exact ⟨HS10.out.1.c0, HS10.out.2.c0⟩
          clear hK K hH
          have hH := hH2
          clear hH2
          try simp only [Act.put, List.setIfInBounds_toArray, List.set_cons_zero, List.set_cons_succ]
          refine wpAnyH_done (by as_aux_lemma => kernel_rfl) ?_ _
          refine NoPanic.normal ?_
          clear hH
          go_wp2_with fail
          go_roundg (r.tail.tail.len)
          case measure => have h5 := Kd.tail_len HIS.out; have := Q.out; omega
          case rel => exact ⟨r.tail.tail, meld r.head r.tail.head :: acc, p8, q6, n8, l6, k1 + meldN r.head r.tail.head, rfl, by have h5 := Q.out.2.1; rw [Kd.twos_step HIS.out] at h5; rw [List.reverse_cons, List.append_assoc]; exact h5, by have h5 := Kd.twosN_step HIS.out; have := Q.out; omega, by have h5 := Kd.size_step HIS.out; have := Q.out.2.2.2.1; simp only [sizes, meld_size]; omega, by have h5 := HL6.out; omega, by have h5 := Pst.next XS.out K8.out HN8.out T6.out; have e1 : c + ((k1 + meldN r.head r.tail.head : Nat) : Int) = c + (k1 : Int) + (meldN r.head r.tail.head : Nat) := (by omega); have e2 : m + ((k1 + meldN r.head r.tail.head : Nat) : Int) = m + (k1 : Int) + (meldN r.head r.tail.head : Nat) := (by omega); rw [e1, e2]; exact h5⟩
    · have hz : n = 0 := by omega
      have hr0 : r = .nil := Kd.len_zero (by have := Q.out; omega)
      subst hr0
      have hacc : acc.reverse = ks.twos := by have h5 := Q.out.2.1; simpa [Kd.twos] using h5
      have hkk : k1 = ks.twosN := by have h5 := Q.out.2.2.1; simpa [Kd.twosN] using h5
      have Q2 := Lib.hid (show acc.reverse = ks.twos ∧ k1 = ks.twosN ∧ sizes acc = ks.size ∧ acc.length ≤ ks.size ∧ k1 ≤ ks.size from ⟨hacc, hkk, by rw [← sizes_reverse, hacc, ks.twos_sizes], by rw [← List.length_reverse, hacc]; exact ks.twos_length, by rw [hkk]; exact ks.twosN_le⟩)
      clear hacc hkk hpos Q
      have q1 : ¬ (0 : Int) < (n : Int) := by omega
      have q2 : decide ((0 : Int) < (n : Int)) = false := by simp; omega
      have q3 : decide (0 < n) = false := by simp; omega
      clear hz
      go_wp2_with fail
      ((with_reducible refine (Lt.len_l).mono ?_); rintro e w2 ⟨rfl, hb2⟩)
      have P2 := Lib.hid (P0.out.stay hb2)
      clear hb2 P0 k0 k1'
      have P3 := Lib.hid (P2.out.stay ((Below.refl _ _).alloc (Nat.le_refl _) (.cells #[.pointer none] 29)))
      have V3 := Lib.hid (HVar.at (W := w2) (p := none) rfl)
      have t0 := P3.out.t.c0
      have t1 := P3.out.t.c1
      go_wp2_with fail
      generalize w2.alloc (.cells #[.pointer none] 29) = w3 at *
      obtain ⟨ba, hba⟩ : ∃ b, b = w2.heap.size := ⟨_, rfl⟩
      rw [← hba] at V3 ⊢
      have HBA := Lib.hid (show a + 1 < ba by have := P2.out.t.lt; omega)
      clear hba P2 t0 t1
      ((with_reducible refine (all_h P3.out.ta).mono ?_); rintro e w4 ⟨A, cap, pp, rfl, hmi, -, hhs, hcap, hb4⟩)
      have hrow := rowAt_mine hmi
      have hlen : l = acc.length := P3.out.ta.len
      have PL := Lib.hid (show Pl mo w a ba w3.heap.size acc pp A l 0 none (c + (k1 : Int)) (m + (k1 : Int)) w4 from ⟨V3.out.stay hb4, P3.out.rs.stay hb4, hrow, hhs, by simpa [foldH] using LAt.none _, by simpa [foldHN] using P3.out.tr.stay hb4, P3.out.own, HBA.out, lt_of_heap V3.out⟩)
      have HL := Lib.hid hlen
      clear hmi hhs hcap hb4 hrow hlen V3 P3
      generalize w3.heap.size = base at *
      go_wp2_with fail
      go_loopg [41] l (fun k i wr => ∃ (j : Nat) (pa : Option Addr), i = .int .i64 (j : Int) ∧ j + k = l ∧ Pl mo w a ba base acc pp A l j pa (c + (k1 : Int)) (m + (k1 : Int)) wr)
      case atStart => exact ⟨0, none, rfl, by omega, PL.out⟩
      case round =>
        clear PL
        obtain ⟨j, pa, rfl, hj, P⟩ := hrel
        have P0 := Lib.hid P
        clear P
        by_cases hlt : j < l
        · obtain ⟨g, x, cur, rfl, hgb, hgg, hpx, hcx⟩ := P0.out.row.2 j hlt
          have hja : j < acc.length := by rw [← HL.out]; exact hlt
          obtain ⟨x', hx', hat⟩ := P0.out.hs.at (List.getElem?_eq_getElem hja)
          have hxx : x' = x := by rw [hpx] at hx'; cases hx'; rfl
          subst hxx
          have hcell : wr.cell? ⟨g, j, none⟩ = some (.pointer x') := by simp [World.cell?, hgg, hcx]
          have hmem : acc[j] ∈ acc := List.getElem_mem hja
          have Z := Lib.hid (show LAt wr acc[j] x' ∧ acc[j].size + sizes (acc.take j) ≤ sizes acc ∧ j + gk = l ∧ foldHN (acc.take j).reverse ≤ acc.length from ⟨hat, by
            have h5 := sizes_take acc (j + 1)
            rw [List.take_succ_eq_append_getElem hja, sizes_append] at h5
            simp only [sizes] at h5
            omega, hj, by have h5 := foldHN_le (acc.take j).reverse; rw [List.length_reverse, List.length_take] at h5; omega⟩)
          have HJ := Lib.hid hja
          have q1 : (j : Int) < (l : Int) := by omega
          have q2 : decide ((j : Int) < (l : Int)) = true := by simpa using hlt
          have q3 : decide (j < l) = true := by simpa using hlt
          have q4 : (0 : Int) ≤ (j : Int) := by omega
          have P1 := Lib.hid (P0.out.bt ((Below.refl _ _).alloc (Nat.le_refl _) (.cells #[.pointer x'] 29)))
          have v1 := P1.out.v.c0
          have hnew : (wr.alloc (.cells #[.pointer x'] 29)).cell? ⟨wr.heap.size, 0, none⟩ = some (.pointer x') := (HVar.at (W := wr) (p := x') rfl).c0
          have LA := Lib.hid (Z.out.1.stay ((Below.refl _ _).alloc (Nat.le_refl _) (.cells #[.pointer x'] 29)))
          clear hgb hgg hpx hcx hx' hat hmem hj P0
          go_wp2_with fail
          generalize wr.alloc (.cells #[.pointer x'] 29) = w5 at *
          ((with_reducible refine (meld_any mo (acc[j]'HJ.out) (foldH (acc.take j).reverse) _ _ x' pa _ (by rw [foldH_size, sizes_reverse]; have := Z.out; have := Q2.out; have := HN.out; omega) P1.out.tr.mt (by have := HN.out; omega) (by have := HN.out; have := Q2.out; have := Z.out; omega) (by have := HN.out; omega) (by have := HN.out; have := Q2.out; have := Z.out; omega) LA.out P1.out.at_).mono ?_); rintro e w6 ⟨pm, rfl, ht, hm, hb⟩)
          have tr6 := P1.out.tr.turn hm hb node_ne
          have v6 := P1.out.v.bt hb P1.out.tr.mt
          have z6 := v6.z0
          have y6 := v6.c0
          have ef : foldHN (acc.take (j + 1)).reverse = foldHN (acc.take j).reverse + meldN (acc[j]'HJ.out) (foldH (acc.take j).reverse) := by rw [fold_step acc j HJ.out]; rfl
          have eh : foldH (acc.take (j + 1)).reverse = meld (acc[j]'HJ.out) (foldH (acc.take j).reverse) := by rw [fold_step acc j HJ.out]; rfl
          have PN := Lib.hid (show Pl mo w a ba base acc pp (some ⟨g, 0, none⟩) l (j + 1) pm (c + (k1 : Int)) (m + (k1 : Int)) (w6.setCell ⟨ba, 0, none⟩ (.pointer pm)) from
            ⟨v6.put pm, (P1.out.r.bt hb P1.out.tr.mt).set (by have := P1.out.ga; omega) 0 _, (P1.out.row.bt hb P1.out.tr.mt).set P1.out.gb _, (P1.out.hs.bt hb P1.out.tr.mt).kp (Kpt.set v6 heapT_ne 0 _), by rw [eh]; exact ht.kp (Kpt.set v6 heapT_ne 0 _),
              by rw [ef]; have h5 := tr6.put v6 heapT_ne (by decide) (by have := P1.out.own; have := P1.out.ga; omega) 0 (.pointer pm); rw [show c + (k1 : Int) + ((foldHN (acc.take j).reverse + meldN (acc[j]'HJ.out) (foldH (acc.take j).reverse) : Nat) : Int) = c + (k1 : Int) + (foldHN (acc.take j).reverse : Nat) + (meldN (acc[j]'HJ.out) (foldH (acc.take j).reverse) : Nat) by omega, show m + (k1 : Int) + ((foldHN (acc.take j).reverse + meldN (acc[j]'HJ.out) (foldH (acc.take j).reverse) : Nat) : Int) = m + (k1 : Int) + (foldHN (acc.take j).reverse : Nat) + (meldN (acc[j]'HJ.out) (foldH (acc.take j).reverse) : Nat) by omega]; exact h5,
              P1.out.own, P1.out.ga, P1.out.gb⟩)
          clear ht hm hb tr6 v6 ef eh v1 hnew P1 LA
          have w1' : IntKind.i64.wrap ((j : Int) + 1) = (j : Int) + 1 := by rw [IntKind.wrap_i64]; have := HL.out; have := Q2.out; have := HN.out; have := Z.out; omega
          go_wp2_with fail
          go_roundg (l - 1 - j)
          case measure => have := Z.out; omega
          case rel => exact ⟨j + 1, pm, by first | rfl | (congr 1; unfold wrap64; have := HL.out; have := Q2.out; have := HN.out; have := Z.out; omega), by have := Z.out; omega, PN.out⟩
        · have hjl : j = l := by omega
          subst hjl
          have q1 : ¬ (j : Int) < (j : Int) := by omega
          have v0 := P0.out.v.c0
          have r0 := P0.out.r.c0
          have z0 := P0.out.r.z0
          clear hj hlt
          go_wp2_with fail
          have h4 := HL.out
          have h5 := P0.out.at_
          have h6 := P0.out.tr
          rw [h4, List.take_length, Q2.out.1] at h5 h6
          rw [← Kd.pair_fold] at h5
          have hk := h6.put P0.out.r heapT_ne (by decide) (by have := P0.out.own; omega) 0 (.pointer pa)
          refine bodyPost_ret (v := hp pa) (by simp [results, Tryd.results41, go_sem, r0]) rfl ⟨_, rfl, h5.kp (Kpt.set P0.out.r heapT_ne 0 _), ?_, hk.bt⟩
          have e1 : c + ((ks.pairN : Nat) : Int) = c + (k1 : Int) + (foldHN ks.twos : Nat) := by rw [ks.pairN_fold, Q2.out.2.1]; omega
          have e2 : m + ((ks.pairN : Nat) : Int) = m + (k1 : Int) + (foldHN ks.twos : Nat) := by rw [ks.pairN_fold, Q2.out.2.1]; omega
          rw [e1, e2]
          exact hk.mt

end Go.Proofs.YtpclafbolppgcaaDoor
