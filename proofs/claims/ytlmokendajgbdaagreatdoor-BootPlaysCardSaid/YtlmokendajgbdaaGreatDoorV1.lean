/-
  Skew binomial heaps in memory: a list of trees' addresses; they stay where no block of the trees' types nor of the list's turns. No conditions beyond what each theorem says.
-/
import Derived.Test.YtlmokendajgbdaaGreatDoorLt
import Derived.Test.YtlmokendajgbdaaGreatDoorUb8
import Derived.Test.YtlmokendajgbdaaGreatDoorUb5b
namespace Go.Proofs.YtlmokendajgbdaaGreatDoor.Hp
open Go.Sort Go.RowKit Go.Proofs.YtlmokendajgbdaaGreatDoor.Gn

/-- A heap's value in letters: its first cell's address, how many trees there are. -/
structure HP where
  q : Option Addr
  n : Int
/-- A heap's value. -/
abbrev hp (p : HP) : Value := .agg #[.pointer p.q, .int .i64 p.n]
/-- The types of a heap's blocks. -/
def NodeT (t : TypeId) : Prop := TreeT t ∨ t = 152
/-- A heap's blocks stay. -/
abbrev Kp (W W' : World) : Prop := Kpt NodeT W W'
theorem node_ne : ¬ NodeT 78 := by unfold NodeT TreeT; decide
theorem elemT_ne : ¬ NodeT 32 := by unfold NodeT TreeT; decide
theorem heapT_ne : ¬ NodeT 85 := by unfold NodeT TreeT; decide
theorem listT_ne : ¬ NodeT 83 := by unfold NodeT TreeT; decide
theorem addrT_ne : ¬ NodeT 118 := by unfold NodeT TreeT; decide
section
variable {W W' : World}
theorem Kp.tree (h : Kp W W') : Go.Proofs.YtlmokendajgbdaaGreatDoor.Kp W W' := fun k cs t ht e => h k cs t (.inl ht) e
/-- A list of addresses, wherever no block of a heap turns. -/
theorem ch_kp (h : Kp W W') : ∀ {m m' : Nat} {p : Option Addr} {xs : List (Option Addr)}, W.heap.size ≤ W'.heap.size → m ≤ W.heap.size → m' = W'.heap.size → Chain Lt.one 152 m W p xs → Chain Lt.one 152 m' W' p xs
  | _, _, _, [], _, _, _, hl => hl
  | _, _, _, _ :: _, hs, hm, he, ⟨b, q, hp, hb, hv, hr⟩ => ⟨b, q, hp, by omega, h _ _ _ (.inr rfl) hv, ch_kp h hs hm he hr⟩

/-- Trees at these addresses. -/
def TsAt (W : World) : List Tre → List (Option Addr) → Prop
  | [], ps => ps = []
  | t :: ts, ps => ∃ p ps', ps = p :: ps' ∧ TAt W p (some t) ∧ TsAt W ts ps'
theorem TsAt.kp (h : Kp W W') : ∀ {ts : List Tre} {ps : List (Option Addr)}, TsAt W ts ps → TsAt W' ts ps
  | [], _, hp => hp
  | _ :: _, _, ⟨p, ps', e, h1, h2⟩ => ⟨p, ps', e, h1.kp h.tree, TsAt.kp h h2⟩
theorem TsAt.length : ∀ {ts : List Tre} {ps : List (Option Addr)}, TsAt W ts ps → ps.length = ts.length
  | [], _, h => by rw [h]; rfl
  | _ :: _, _, ⟨_, _, e, _, h⟩ => by rw [e, List.length_cons, h.length, List.length_cons]
theorem TsAt.at : ∀ {ts : List Tre} {ps : List (Option Addr)} {j : Nat} {t : Tre}, TsAt W ts ps → ts[j]? = some t → ∃ p, ps[j]? = some p ∧ TAt W p (some t)
  | [], _, _, _, _, h => by simp at h
  | u :: _, _, 0, t, ⟨p, ps', e, h1, _⟩, h => by
    have : u = t := by simpa using h
    subst this; subst e
    exact ⟨p, rfl, h1⟩
  | _ :: _, _, j + 1, t, ⟨p, ps', e, _, h2⟩, h => by
    subst e
    obtain ⟨q, hq, ht⟩ := TsAt.at (j := j) h2 (by simpa using h)
    exact ⟨q, by simpa using hq, ht⟩
theorem TsAt.append : ∀ {ts us : List Tre} {ps qs : List (Option Addr)}, TsAt W ts ps → TsAt W us qs → TsAt W (ts ++ us) (ps ++ qs)
  | [], _, _, _, h, k => by rw [h]; exact k
  | _ :: _, _, _, _, ⟨p, ps', e, h1, h2⟩, k => by rw [e]; exact ⟨p, ps' ++ _, rfl, h1, TsAt.append h2 k⟩
theorem TsAt.one {t : Tre} {p : Option Addr} (h : TAt W p (some t)) : TsAt W [t] [p] := ⟨p, [], rfl, h, rfl⟩
theorem TsAt.reverse : ∀ {ts : List Tre} {ps : List (Option Addr)}, TsAt W ts ps → TsAt W ts.reverse ps.reverse
  | [], _, h => by rw [h]; rfl
  | t :: ts, _, ⟨p, ps', e, h1, h2⟩ => by
    rw [e, List.reverse_cons, List.reverse_cons]
    exact TsAt.append (TsAt.reverse h2) (TsAt.one h1)
theorem TsAt.take : ∀ {ts : List Tre} {ps : List (Option Addr)} (k : Nat), TsAt W ts ps → TsAt W (ts.take k) (ps.take k)
  | [], _, k, h => by rw [h]; simp [TsAt]
  | _ :: _, _, 0, _ => by simp [TsAt]
  | _ :: _, _, k + 1, ⟨p, ps', e, h1, h2⟩ => by rw [e]; exact ⟨p, ps'.take k, rfl, h1, TsAt.take k h2⟩
theorem TsAt.drop : ∀ {ts : List Tre} {ps : List (Option Addr)} (k : Nat), TsAt W ts ps → TsAt W (ts.drop k) (ps.drop k)
  | [], _, k, h => by rw [h]; simp [TsAt]
  | _ :: _, _, 0, h => h
  | _ :: _, _, k + 1, ⟨p, ps', e, h1, h2⟩ => by rw [e]; exact TsAt.drop k h2
theorem TsAt.tail {ts : List Tre} {ps : List (Option Addr)} (h : TsAt W ts ps) : TsAt W ts.tail ps.tail := by
  have := h.drop 1
  rwa [List.drop_one, List.drop_one] at this
theorem KAt.ts : ∀ {ks : Wood} {ps : List (Option Addr)}, KAt W ks ps → TsAt W ks.list ps
  | .nil, _, h => h
  | .cons _ _ _ _, _, ⟨_, ps', e, hn, h⟩ => ⟨_, ps', e, ⟨_, rfl, hn⟩, KAt.ts h⟩

/-- A heap at an address. -/
def LAt (W : World) (t : Lh) (p : HP) : Prop := ∃ ps, Ch Lt.one 152 W p.q ps ∧ TsAt W t.ts ps ∧ p.n = (t.ts.length : Nat) ∧ t.size < 268435456 ∧ t.ok
theorem LAt.kps {t : Lh} {p : HP} (hn : LAt W t p) (h : Kp W W') (hs : W.heap.size ≤ W'.heap.size) : LAt W' t p := by
  obtain ⟨ps, h1, h2, h3⟩ := hn
  exact ⟨ps, ch_kp h hs (Nat.le_refl _) rfl h1, h2.kp h, h3⟩
theorem LAt.stay {t : Lh} {p : HP} (hn : LAt W t p) (h : Below W.heap.size W W') : LAt W' t p := hn.kps (Kpt.below h) h.size
theorem LAt.small {t : Lh} {p : HP} (hn : LAt W t p) : t.size < 268435456 := by obtain ⟨_, _, _, _, h, _⟩ := hn; exact h
theorem LAt.right {t : Lh} {p : HP} (hn : LAt W t p) : t.ok := by obtain ⟨_, _, _, _, _, h⟩ := hn; exact h
theorem LAt.len {t : Lh} {p : HP} (hn : LAt W t p) : t.ts.length < 268435456 := by have := hn.small; have := trees_size t; omega
/-- Its list, as package cons knows it. -/
theorem LAt.list {t : Lh} {p : HP} (hn : LAt W t p) : ∃ (ps : List (Option Addr)) (n : Nat), p.n = (n : Int) ∧ n = t.ts.length ∧ Lt.LL W p.q n ps ∧ TsAt W t.ts ps := by
  have hl := hn.len
  obtain ⟨ps, h1, h2, h3, h4, h5⟩ := hn
  exact ⟨ps, t.ts.length, h3, rfl, ⟨h1, h2.length.symm, by omega⟩, h2⟩
theorem LAt.of {ts : List Tre} {q : Option Addr} {n : Nat} {ps : List (Option Addr)} (hl : Lt.LL W q n ps) (ht : TsAt W ts ps) (hs : bSize ts < 268435456) (hk : sOk ts) : LAt W ⟨ts⟩ ⟨q, (n : Int)⟩ :=
  ⟨ps, hl.1, ht, by show (n : Int) = _; rw [hl.2.1, ht.length], hs, hk⟩
theorem LAt.nil (W : World) : LAt W .nil ⟨none, 0⟩ := ⟨[], Ch.none W, rfl, rfl, by decide, sok_nil⟩
/-- No trees: no address. -/
theorem LAt.no {p : HP} (h : LAt W .nil p) : p = ⟨none, 0⟩ := by
  obtain ⟨q, n⟩ := p
  obtain ⟨ps, h1, h2, h3, -⟩ := h
  obtain rfl : ps = [] := h2
  have h4 : q = none := h1
  have h5 : n = 0 := h3
  rw [h4, h5]
end

/-- What a call hands back that makes a heap: c comparisons, m things made so far. -/
def Gave (mo : Option Nat) (c m : Int) (t : Lh) (w : World) (e : Ending) (w' : World) : Prop := ∃ p : HP, e = .returned (.agg #[.pointer p.q, .int .i64 p.n]) ∧ LAt w' t p ∧ MAt w' mo c m ∧ Bt mo w w'
section
variable {W W' : World} {mo : Option Nat} {c m : Int}
theorem Kp.bt (hb : Bt mo W W') (hm : MAt W mo c m) : Kp W W' := hb.kpt hm node_ne
theorem LAt.bt {t : Lh} {p : HP} (h : LAt W t p) (hb : Bt mo W W') (hm : MAt W mo c m) : LAt W' t p := h.kps (hb.kpt hm node_ne) hb.size
theorem TsAt.bt {ts : List Tre} {ps : List (Option Addr)} (h : TsAt W ts ps) (hb : Bt mo W W') (hm : MAt W mo c m) : TsAt W' ts ps := h.kp (hb.kpt hm node_ne)
theorem ll_bt {q : Option Addr} {n : Nat} {ps : List (Option Addr)} (h : Lt.LL W q n ps) (hb : Bt mo W W') (hm : MAt W mo c m) : Lt.LL W' q n ps := ⟨ch_kp (hb.kpt hm node_ne) hb.size (Nat.le_refl _) rfl h.1, h.2⟩
end

end Go.Proofs.YtlmokendajgbdaaGreatDoor.Hp
