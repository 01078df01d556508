/-
  Pairing heaps in memory: a node's block of five cells, its kids' list of heaps' addresses; they stay where no block of these two types turns. No conditions beyond what each theorem says.
-/
import Derived.Test.YtpclafbolppgcaaDoorPd0
import Derived.Test.YtpclafbolppgcaaDoorLq
import Derived.Test.YtpclafbolppgcaaDoorMb
namespace Go.Proofs.YtpclafbolppgcaaDoor
open Go.Sort Go.RowKit

/-- The types of a heap's blocks. -/
def NodeT (t : TypeId) : Prop := t = 84 ∨ t = 106
/-- Nodes stay. -/
abbrev Kp (W W' : World) : Prop := Kpt NodeT W W'
theorem node_ne : ¬ NodeT 78 := by unfold NodeT; decide
theorem elemT_ne : ¬ NodeT 32 := by unfold NodeT; decide
theorem heapT_ne : ¬ NodeT 29 := by unfold NodeT; decide
theorem listT_ne : ¬ NodeT 82 := by unfold NodeT; decide

/-- A node's block. -/
def nodeObj (x : Int × Int) (kp : Option Addr) (kn s : Nat) : Obj :=
  .cells #[.int .i64 x.1, .int .i64 x.2, .pointer kp, .int .i64 (kn : Int), .int .i64 (s : Int)] 84 (0, 0)
/-- A list of kids from an address on. -/
def KAt (W : World) : Kd → Option Addr → Prop
  | .nil, q => q = none
  | .cons x ks r, q => ∃ (b nb : Nat) (kp q' : Option Addr), q = some ⟨b, 0, none⟩ ∧ W.heap[b]? = some (.cells #[.pointer (some ⟨nb, 0, none⟩), .pointer q'] 106 (0, 0)) ∧ W.heap[nb]? = some (nodeObj x kp ks.len (1 + ks.size)) ∧ KAt W ks kp ∧ KAt W r q'
/-- A heap at an address. -/
def LAt (W : World) : Lh → Option Addr → Prop
  | .nil, p => p = none
  | .node x ks, p => ∃ (b : Nat) (kp : Option Addr), p = some ⟨b, 0, none⟩ ∧ W.heap[b]? = some (nodeObj x kp ks.len (1 + ks.size)) ∧ KAt W ks kp
/-- A heap's value. -/
abbrev hp (p : Option Addr) : Value := .agg #[.pointer p]

section
variable {W W' : World}
theorem KAt.kp (h : Kp W W') : ∀ {t : Kd} {p : Option Addr}, KAt W t p → KAt W' t p
  | .nil, _, hp => hp
  | .cons _ _ _, _, ⟨b, nb, kp, q', e, hb, hn, h1, h2⟩ => ⟨b, nb, kp, q', e, h _ _ _ (.inr rfl) hb, h _ _ _ (.inl rfl) hn, KAt.kp h h1, KAt.kp h h2⟩
theorem KAt.stay {t : Kd} {p : Option Addr} (hn : KAt W t p) (h : Below W.heap.size W W') : KAt W' t p := hn.kp (Kpt.below h)
theorem LAt.kp (h : Kp W W') {t : Lh} {p : Option Addr} (hn : LAt W t p) : LAt W' t p := by
  cases t with
  | nil => exact hn
  | node x ks => obtain ⟨b, kp, e, hb, hk⟩ := hn; exact ⟨b, kp, e, h _ _ _ (.inl rfl) hb, hk.kp h⟩
theorem LAt.stay {t : Lh} {p : Option Addr} (hn : LAt W t p) (h : Below W.heap.size W W') : LAt W' t p := hn.kp (Kpt.below h)
theorem LAt.none (w : World) : LAt w .nil Option.none := rfl

/-- The five cells of a node's block. -/
structure Five (W : World) (b : Nat) (x : Int × Int) (kp : Option Addr) (kn s : Nat) : Prop where
  c0 : W.cell? ⟨b, 0, none⟩ = some (.int .i64 x.1)
  c1 : W.cell? ⟨b, 1, none⟩ = some (.int .i64 x.2)
  c2 : W.cell? ⟨b, 2, none⟩ = some (.pointer kp)
  c3 : W.cell? ⟨b, 3, none⟩ = some (.int .i64 (kn : Int))
  c4 : W.cell? ⟨b, 4, none⟩ = some (.int .i64 (s : Int))
theorem five {b : Nat} {x : Int × Int} {kp : Option Addr} {kn s : Nat} (h : W.heap[b]? = some (nodeObj x kp kn s)) : Five W b x kp kn s := by
  constructor <;> simp [World.cell?, h, nodeObj]
theorem five_kp {b : Nat} {x : Int × Int} {kp : Option Addr} {kn s : Nat} (h : W.heap[b]? = some (nodeObj x kp kn s)) (hk : Kp W W') : Five W' b x kp kn s := five (hk b _ _ (.inl rfl) h)

/-- Heaps at these addresses. -/
def HsAt (W : World) : List Lh → List (Option Addr) → Prop
  | [], ps => ps = []
  | t :: ts, ps => ∃ p ps', ps = p :: ps' ∧ LAt W t p ∧ HsAt W ts ps'
theorem HsAt.kp (h : Kp W W') : ∀ {ts : List Lh} {ps : List (Option Addr)}, HsAt W ts ps → HsAt W' ts ps
  | [], _, hp => hp
  | _ :: _, _, ⟨p, ps', e, h1, h2⟩ => ⟨p, ps', e, h1.kp h, HsAt.kp h h2⟩
theorem HsAt.length : ∀ {ts : List Lh} {ps : List (Option Addr)}, HsAt W ts ps → ps.length = ts.length
  | [], _, h => by rw [h]; rfl
  | _ :: _, _, ⟨_, _, e, _, h⟩ => by rw [e, List.length_cons, h.length, List.length_cons]
theorem HsAt.at : ∀ {ts : List Lh} {ps : List (Option Addr)} {j : Nat} {t : Lh}, HsAt W ts ps → ts[j]? = some t → ∃ p, ps[j]? = some p ∧ LAt W t p
  | [], _, _, _, _, h => by simp at h
  | u :: _, _, 0, t, ⟨p, ps', e, h1, _⟩, h => by
    have : u = t := by simpa using h
    subst this; subst e
    exact ⟨p, rfl, h1⟩
  | _ :: _, _, j + 1, t, ⟨p, ps', e, _, h2⟩, h => by
    subst e
    obtain ⟨q, hq, ht⟩ := HsAt.at (j := j) h2 (by simpa using h)
    exact ⟨q, by simpa using hq, ht⟩
/-- Kids as heaps. -/
def _root_.Go.Proofs.YtpclafbolppgcaaDoor.Kd.list : Kd → List Lh
  | .nil => []
  | .cons x ks r => .node x ks :: r.list
/-- The first kid, or none. -/
def _root_.Go.Proofs.YtpclafbolppgcaaDoor.Kd.head : Kd → Lh
  | .nil => .nil
  | .cons x ks _ => .node x ks
def _root_.Go.Proofs.YtpclafbolppgcaaDoor.Kd.tail : Kd → Kd
  | .nil => .nil
  | .cons _ _ r => r
def _root_.Go.Proofs.YtpclafbolppgcaaDoor.Kd.is : Kd → Bool
  | .nil => false
  | .cons _ _ _ => true
theorem Kd.list_length : ∀ ks : Kd, ks.list.length = ks.len
  | .nil => rfl
  | .cons _ _ r => by simp only [Kd.list, List.length_cons, Kd.len, r.list_length]
/-- Kids as package cons knows them. -/
theorem KAt.list : ∀ {ks : Kd} {q : Option Addr}, KAt W ks q → ∃ ps, Ch Lt.one 106 W q ps ∧ HsAt W ks.list ps
  | .nil, _, h => ⟨[], h, rfl⟩
  | .cons _ _ _, _, ⟨b, nb, kp, q', e, hb, hn, h1, h2⟩ => by
    obtain ⟨ps, hc, hh⟩ := KAt.list h2
    exact ⟨some ⟨nb, 0, Option.none⟩ :: ps, ⟨b, q', e, lt_of_heap hb, hb, hc⟩, _, ps, rfl, ⟨nb, kp, rfl, hn, h1⟩, hh⟩
theorem KAt.of_chain {m : Nat} : ∀ {ks : Kd} {q : Option Addr} {ps : List (Option Addr)}, Chain Lt.one 106 m W q ps → HsAt W ks.list ps → KAt W ks q
  | .nil, _, _, hc, hh => by
    obtain rfl := hh
    exact hc
  | .cons x ks r, _, _, hc, ⟨p, ps', e, ⟨nb, kp, ep, hn, hk⟩, hh⟩ => by
    subst e
    subst ep
    obtain ⟨b, q', eq, _, hb, hr⟩ := hc
    exact ⟨b, nb, kp, q', eq, hb, hn, hk, KAt.of_chain hr hh⟩
theorem KAt.of {ks : Kd} {q : Option Addr} {ps : List (Option Addr)} (hc : Ch Lt.one 106 W q ps) (hh : HsAt W ks.list ps) : KAt W ks q := KAt.of_chain hc hh

/-- A list of heaps: its first cell's address, how many there are. -/
def LsAt (W : World) (ts : List Lh) (p : Option Addr) (n : Nat) : Prop := ∃ ps, Lt.LL W p n ps ∧ HsAt W ts ps
theorem ch_kp (h : Kp W W') : ∀ {m m' : Nat} {p : Option Addr} {xs : List (Option Addr)}, W.heap.size ≤ W'.heap.size → m ≤ W.heap.size → m' = W'.heap.size → Chain Lt.one 106 m W p xs → Chain Lt.one 106 m' W' p xs
  | _, _, _, [], _, _, _, hl => hl
  | _, _, _, _ :: _, hs, hm, he, ⟨b, q, hp, hb, hv, hr⟩ => ⟨b, q, hp, by omega, h _ _ _ (.inr rfl) hv, ch_kp h hs hm he hr⟩
theorem LsAt.kp {ts : List Lh} {p : Option Addr} {n : Nat} (hl : LsAt W ts p n) (h : Kp W W') (hs : W.heap.size ≤ W'.heap.size) : LsAt W' ts p n := by
  obtain ⟨ps, h1, h2⟩ := hl
  exact ⟨ps, ⟨ch_kp h hs (Nat.le_refl _) rfl h1.1, h1.2⟩, h2.kp h⟩
theorem LsAt.stay {ts : List Lh} {p : Option Addr} {n : Nat} (hl : LsAt W ts p n) (h : Below W.heap.size W W') : LsAt W' ts p n := hl.kp (Kpt.below h) h.size
theorem LsAt.none (W : World) : LsAt W [] Option.none 0 := ⟨[], Lt.LL.none W, rfl⟩
theorem LsAt.len {ts : List Lh} {p : Option Addr} {n : Nat} (hl : LsAt W ts p n) : n = ts.length := by
  obtain ⟨ps, h1, h2⟩ := hl
  rw [h1.len, h2.length]
end

section
variable {w : World} {ks : Kd} {p : Option Addr} {n : Nat}
theorem KAt.ll (h : KAt w ks p) (hs : ks.len < 2147483648) : ∃ ps, Lt.LL w p ks.len ps ∧ HsAt w ks.list ps := by
  obtain ⟨ps, h1, h2⟩ := h.list
  exact ⟨ps, ⟨h1, by rw [h2.length, Kd.list_length], hs⟩, h2⟩
/-- The first kid, or none. -/
theorem first_k (h : KAt w ks p) : Calls Tryd.prog 46 #[Lt.lst p n] w fun e w' => ∃ q, e = .returned (.tuple #[hp q, .bool ks.is]) ∧ LAt w' ks.head q ∧ Below w.heap.size w w' := by
  obtain ⟨ps, h1, h2⟩ := h.list
  cases ks with
  | nil =>
    obtain rfl := h2
    obtain rfl := h1.nil
    exact (Lt.first_nil n w).mono fun e w' ⟨he, hb⟩ => ⟨none, he, rfl, hb⟩
  | cons x ks r =>
    obtain ⟨q, ps', rfl, hq, -⟩ := h2
    exact (Lt.first_cons p q ps' n w h1).mono fun e w' ⟨he, hb⟩ => ⟨q, he, LAt.stay hq hb, hb⟩
/-- The others. -/
theorem rest_k (h : KAt w ks p) (hs : ks.len < 2147483648) : Calls Tryd.prog 47 #[Lt.lst p ks.len] w fun e w' => ∃ q, e = .returned (Lt.lst q ks.tail.len) ∧ KAt w' ks.tail q ∧ Below w.heap.size w w' := by
  obtain ⟨ps, h1, h2⟩ := h.ll hs
  refine (Lt.rest_l h1).mono fun e w' ⟨q, m, he, hl, hb⟩ => ?_
  have h3 := h2.kp (Kpt.below hb)
  cases ks with
  | nil =>
    obtain rfl := h3
    have hm : m = 0 := hl.len
    subst hm
    exact ⟨q, he, hl.ch, hb⟩
  | cons x ks r =>
    obtain ⟨q', ps', rfl, -, h4⟩ := h3
    have hm : m = r.len := by have h5 := hl.len; rw [List.tail_cons, h4.length, Kd.list_length] at h5; exact h5
    subst hm
    exact ⟨q, he, KAt.of hl.ch h4, hb⟩
/-- A heap ahead of kids. -/
theorem push_k {x : Int × Int} {ls : Kd} {q : Option Addr} (h : KAt w ks p) (hq : LAt w (.node x ls) q) (hs : ks.len + 1 < 2147483648) : Calls Tryd.prog 40 #[Lt.lst p ks.len, hp q] w fun e w' => ∃ q', e = .returned (Lt.lst q' (ks.len + 1 : Nat)) ∧ KAt w' (.cons x ls ks) q' ∧ Below w.heap.size w w' := by
  obtain ⟨ps, h1, h2⟩ := h.ll (by omega)
  refine (Lt.push_l q h1 hs).mono fun e w' ⟨q', m, he, hl, hb⟩ => ?_
  have hm : m = ks.len + 1 := by have h5 := hl.len; rw [List.length_cons, h2.length, Kd.list_length] at h5; exact h5
  subst hm
  exact ⟨q', he, KAt.of hl.ch ⟨q, ps, rfl, LAt.stay hq hb, h2.kp (Kpt.below hb)⟩, hb⟩
/-- A heap ahead of heaps. -/
theorem push_h {ts : List Lh} {t : Lh} {q : Option Addr} (h : LsAt w ts p n) (hq : LAt w t q) (hs : n + 1 < 2147483648) : Calls Tryd.prog 40 #[Lt.lst p n, hp q] w fun e w' => ∃ q', e = .returned (Lt.lst q' (n + 1 : Nat)) ∧ LsAt w' (t :: ts) q' (n + 1) ∧ Below w.heap.size w w' := by
  obtain ⟨ps, h1, h2⟩ := h
  refine (Lt.push_l q h1 hs).mono fun e w' ⟨q', m, he, hl, hb⟩ => ?_
  have hm : m = n + 1 := by have h5 := hl.len; have h6 := h1.len; rw [List.length_cons] at h5; omega
  subst hm
  exact ⟨q', he, ⟨_, hl, q, ps, rfl, LAt.stay hq hb, h2.kp (Kpt.below hb)⟩, hb⟩
/-- Without its first two. -/
theorem drop_k (h : KAt w ks p) (hs : ks.len < 2147483648) : Calls Tryd.prog 54 #[Lt.lst p ks.len, .int .i64 2] w fun e w' => ∃ q, e = .returned (Lt.lst q ks.tail.tail.len) ∧ KAt w' ks.tail.tail q ∧ Below w.heap.size w w' := by
  obtain ⟨ps, h1, h2⟩ := h.ll hs
  refine (Lt.drop_l 2 h1 (by decide) (by decide)).mono fun e w' ⟨q, m, he, hl, hb⟩ => ?_
  have h3 := h2.kp (Kpt.below hb)
  rw [show (2 : Int).toNat = 2 from rfl] at hl
  cases ks with
  | nil =>
    obtain rfl := h3
    have hm : m = 0 := hl.len
    subst hm
    exact ⟨q, he, hl.ch, hb⟩
  | cons x ks r =>
    obtain ⟨q1, ps1, rfl, -, h4⟩ := h3
    cases r with
    | nil =>
      obtain rfl := h4
      have hm : m = 0 := hl.len
      subst hm
      exact ⟨q, he, hl.ch, hb⟩
    | cons y ls r =>
      obtain ⟨q2, ps2, rfl, -, h5⟩ := h4
      have hm : m = r.len := by have h6 := hl.len; rw [List.drop_succ_cons, List.drop_succ_cons, List.drop_zero, h5.length, Kd.list_length] at h6; exact h6
      subst hm
      exact ⟨q, he, KAt.of hl.ch h5, hb⟩
/-- Heaps as a row of their own. -/
theorem all_h {ts : List Lh} (h : LsAt w ts p n) : Calls Tryd.prog 55 #[Lt.lst p n] w fun e w' => ∃ A c ps, e = .returned (.slice A n c) ∧ Mine Lt.one 29 w' w.heap.size (.slice A n c) ps ∧ Row1 Lt.one w' A ps ∧ HsAt w' ts ps ∧ n ≤ c ∧ Below w.heap.size w w' := by
  obtain ⟨ps, h1, h2⟩ := h
  exact (Lt.all_l h1).mono fun e w' ⟨A, c, he, hm, hr, hc, hb⟩ => ⟨A, c, ps, he, hm, hr, h2.kp (Kpt.below hb), hc, hb⟩
end

/-- What a call hands back that makes a heap: c comparisons, m things made so far. -/
def Gave (mo : Option Nat) (c m : Int) (t : Lh) (w : World) (e : Ending) (w' : World) : Prop := ∃ p, e = .returned (hp p) ∧ LAt w' t p ∧ MAt w' mo c m ∧ Bt mo w w'

end Go.Proofs.YtpclafbolppgcaaDoor
