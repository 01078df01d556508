/-
  Contracts of rank.Beside, Kids and All: which lists they tell, as slices of the call's own; nothing that was there has changed. Condition: fewer than 2 to the 29th things.
-/
import Derived.Test.YtlmokendajgbdaaGreatDoorUb6
import Derived.Test.YtlmokendajgbdaaGreatDoorUb4
namespace Go.Proofs.YtlmokendajgbdaaGreatDoor
open Go.Sort Go.RowKit Go.Proofs.YtlmokendajgbdaaGreatDoor.Gn

/-- The built-in append at its operation in a region that draws its order. -/
theorem step_append_run {P : Program} {w : World} {ops : Array Oper} {o : Oper} {a : Act} {K : Act → World → Prop} {Q : Exit → Act → World → Prop} {E : Prop} (hgd : o.guard = none) (s x : Operand) (t : TypeId)
    (ho : o.op = .call { callee := .builtin .append, args := #[s, x], argTypes := #[t, t] }) (v xv v' : Value) (w' : World) (hs : a.eval s = v) (hx : a.eval x = xv)
    (hrun : (Builtin.append_ #[t, t] o.type #[v, xv]).run P w = .ok v' w') (h : K (a.put o.dst v') w') : if Region.wanted o (yielded ops a.tmps) = true then Oper.wp P o a w K Q else E := by
  have hw : Region.wanted o (yielded ops a.tmps) = true := by simp [Region.wanted, hgd]
  rw [if_pos hw]
  unfold Oper.wp
  simp [execOp, ho, resolve, invoke, builtin, hs, hx, hrun, Result.andThen]
  exact h

set_option maxRecDepth 100000 in
set_option maxHeartbeats 4000000 in
theorem onto_step (n : Nat)
    (ih : ∀ (x : Thing) (bs : List Thing) (ks : Wood), 1 + bs.length + ks.size < n → ∀ (w0 : World) (b : Nat), NAt w0 b ⟨x, bs, ks⟩ → ∀ (base : Nat), w0.heap.size ≤ base → ∀ (v : Value) (ys : List Thing) (w : World), Below w0.heap.size w0 w → base ≤ w.heap.size → OwnT w base v ys →
      ys.length + (1 + bs.length + ks.size) < 1073741824 → Calls Tryz.prog 118 #[.pointer (some ⟨b, 0, none⟩), v] w (PutT base (ys ++ (x :: (bs ++ ks.all))) w))
    (x : Thing) (bs : List Thing) (ks : Wood) (hn : 1 + bs.length + ks.size = n) (w0 : World) (b : Nat) (ht : NAt w0 b ⟨x, bs, ks⟩) (base : Nat) (hb0 : w0.heap.size ≤ base) (v : Value) (ys : List Thing) (w : World) (hW : Below w0.heap.size w0 w) (hbw : base ≤ w.heap.size) (hv : OwnT w base v ys)
    (hl : ys.length + (1 + bs.length + ks.size) < 1073741824) :
    Calls Tryz.prog 118 #[.pointer (some ⟨b, 0, none⟩), v] w (PutT base (ys ++ (x :: (bs ++ ks.all))) w) := by
  obtain ⟨bp, kp, hh, hX, hB, hK⟩ := ht
  have hh1 := (hW.block b (lt_of_heap hh)).trans hh
  have s6 := six hh1
  have c0 := s6.c0
  have c2 := s6.c2
  have hlt : b < w0.heap.size := lt_of_heap hh
  obtain ⟨v1, w1, hrun, hown1, hb1⟩ := append_thing w.drew base v ys x (Mine.stay hv ((Below.refl _ _).drew)) (by omega) hbw
  have hb1' : Below base w w1 := (Below.refl _ _).drew.trans hb1
  have hW1 : Below w0.heap.size w0 w1 := hW.trans (hb1'.mono hb0)
  have t6 := six ((hW1.block b hlt).trans hh)
  have d0 := t6.c0
  have d2 := t6.c2
  have H := Lib.hid (And.intro hh (And.intro hB (And.intro hK (And.intro hW (And.intro hlt (And.intro hn hl))))))
  have H1 := Lib.hid (And.intro hown1 (And.intro hb1' hW1))
  have HI := Lib.hid ih
  have HB := Lib.hid hbw
  clear hh hX hB hK hW hlt hn hl hh1 s6 t6 hown1 hb1 hb1' hW1 ih hv
  go_enter Tryz.func118, Tryz.ntmps118
  go_wp2_with fail
  go_region_held3 (fun w' => w'.cell? ⟨b, 0, none⟩ = some (.pointer (some ⟨x.a, 0, none⟩)) ∧ w'.cell? ⟨b, 1, none⟩ = some (.pointer bp)) (go_keep)
    (first | (refine step_append_run rfl _ _ _ rfl _ _ _ _ rfl rfl hrun ?_) | (go_at_call 100; ((with_reducible refine (rowOnto_any w0 bs bp H.out.2.1 base hb0 v1 (ys ++ [x]) w1 H1.out.2.2 (Nat.le_trans HB.out (by have := H1.out.2.1.size; exact this)) H1.out.1 (by have := H.out.2.2.2.2.2.2; simp only [List.length_append, List.length_cons, List.length_nil]; omega)).mono ?_); rintro e w2 ⟨v2, rfl, hown2, hb2⟩; have H2 := Lib.hid (And.intro hown2 (H1.out.2.1.trans hb2)); have hW2 : Below w0.heap.size w0 w2 := H1.out.2.2.trans (hb2.mono hb0); have u6 := six ((hW2.block b H.out.2.2.2.2.1).trans H.out.1); have e0 := u6.c0; have e2 := u6.c2; have e3 := u6.c4; clear hown2 hb2 hW2 u6)))
  clear c0 c2 d0 d2 e0 e2 hrun
  go_wp2_with fail
  clear e3
  have hB2 : Below base w w2 := H2.out.2
  have hO2 : OwnT w2 base v2 ((ys ++ [x] ++ bs) ++ []) := by rw [List.append_nil]; exact H2.out.1
  have HZ := Lib.hid (show ys ++ [x] ++ bs ++ ks.all = ys ++ x :: (bs ++ ks.all) by simp)
  have hzl : (ys ++ [x] ++ bs).length = ys.length + 1 + bs.length := by simp; omega
  have HL := Lib.hid hzl
  clear hzl H1 H2
  generalize ys ++ [x] ++ bs = zs at *
  have H0 := Lib.hid (And.intro hO2 hB2)
  clear hO2 hB2
  go_loopg [1, 5] ks.len (fun k u c wr => ∃ (pre : List Thing) (rest : Wood) (q : Option Addr), c = .pointer q ∧ ks.all = pre ++ rest.all ∧ k = rest.len ∧ rest.size ≤ ks.size ∧ WAt w0 rest q ∧ OwnT wr base u (zs ++ pre) ∧ Below base w wr)
  case atStart => exact ⟨[], ks, kp, rfl, rfl, rfl, Nat.le_refl _, H.out.2.2.1, H0.out.1, H0.out.2⟩
  case round =>
    obtain ⟨pre, rest, q, rfl, hx, hk, hsz, hr, hown, hbe⟩ := hrel
    have hbw2 : base ≤ wr.heap.size := Nat.le_trans HB.out hbe.size
    have hW2 : Below w0.heap.size w0 wr := H.out.2.2.2.1.trans (hbe.mono hb0)
    cases rest with
    | nil =>
      obtain rfl := hr
      have A := Lib.hid (And.intro hx (And.intro hown hbe))
      clear hx hown hbe hk hsz hW2
      go_wp2_with fail
      go_ret
      obtain ⟨hx, hown, hbe⟩ := A.out
      simp only [Gn.Wood.all, List.append_nil] at hx
      exact ⟨_, rfl, by rw [← HZ.out, hx]; exact hown, hbe⟩
    | cons y cs cks rest =>
      obtain ⟨c, bk, q', bp', kp', rfl, hc, hbk, hx1, h1, h2, h3⟩ := hr
      have hc1 := (hW2.block c (lt_of_heap hc)).trans hc
      have c0 : wr.cell? ⟨c, 0, none⟩ = some (.pointer (some ⟨bk, 0, none⟩)) := by simp [World.cell?, hc1]
      have hlen : (zs ++ pre).length + (1 + cs.length + cks.size) < 1073741824 ∧ 1 + cs.length + cks.size < n ∧ rest.size ≤ ks.size := by
        have g1 := congrArg List.length hx
        have g2 := H.out.2.2.2.2.2
        have g3 := HL.out
        simp only [Gn.Wood.all, Gn.Wood.size, List.length_append, List.length_cons, Gn.Wood.all_length] at g1 hsz ⊢
        omega
      have HC := Lib.hid (HI.out y cs cks hlen.2.1 w0 bk ⟨bp', kp', hbk, hx1, h1, h2⟩ base hb0 _ (zs ++ pre) wr hW2 hbw2 hown hlen.1)
      have A := Lib.hid (And.intro hx (And.intro hbe (And.intro hc (And.intro h3 (And.intro hk hlen.2.2)))))
      clear hx hk hsz hown hbe hc hbk hx1 h1 h2 h3 hlen hc1 hbw2 hW2
      go_wp2_with fail
      ((with_reducible refine HC.out.mono ?_); rintro e w3 ⟨u', rfl, hown3, hb3⟩)
      obtain ⟨hx, hbe, hc, h3, hk, hsz⟩ := A.out
      have hW3 : Below w0.heap.size w0 w3 := H.out.2.2.2.1.trans ((hbe.trans hb3).mono hb0)
      have hc3 := (hW3.block c (lt_of_heap hc)).trans hc
      have c1 : w3.cell? ⟨c, 1, none⟩ = some (.pointer q') := by simp [World.cell?, hc3]
      have A2 := Lib.hid (And.intro hx (And.intro hown3 (And.intro (hbe.trans hb3) (And.intro h3 (And.intro hk hsz)))))
      clear hx hbe hc h3 hk hsz hown3 hb3 hW3 hc3 A HC c0
      go_wp2_with fail
      obtain ⟨hx, hown3, hbe, h3, hk, hsz⟩ := A2.out
      go_roundg rest.len
      case measure => rw [hk]; simp [Gn.Wood.len]
      case rel => exact ⟨pre ++ (y :: (cs ++ cks.all)), rest, q', rfl, by rw [hx]; simp [Gn.Wood.all], rfl, hsz, h3, by rw [← List.append_assoc]; exact hown3, hbe⟩

theorem onto_any (n : Nat) : ∀ (x : Thing) (bs : List Thing) (ks : Wood), 1 + bs.length + ks.size = n → ∀ (w0 : World) (b : Nat), NAt w0 b ⟨x, bs, ks⟩ → ∀ (base : Nat), w0.heap.size ≤ base → ∀ (v : Value) (ys : List Thing) (w : World), Below w0.heap.size w0 w → base ≤ w.heap.size → OwnT w base v ys →
      ys.length + (1 + bs.length + ks.size) < 1073741824 → Calls Tryz.prog 118 #[.pointer (some ⟨b, 0, none⟩), v] w (PutT base (ys ++ (x :: (bs ++ ks.all))) w) := by
  induction n using Nat.strongRecOn with
  | ind n ih =>
    intro x bs ks hn w0 b ht base hb0 v ys w hW hbw hv hl
    exact onto_step n (fun x' bs' ks' hlt => ih _ hlt x' bs' ks' rfl) x bs ks hn w0 b ht base hb0 v ys w hW hbw hv hl

set_option maxHeartbeats 1000000 in
theorem onto_nil (v : Value) (w : World) : Calls Tryz.prog 118 #[.pointer none, v] w fun e w' => e = .returned v ∧ w' = w := by
  go_enter Tryz.func118, Tryz.ntmps118
  go_wp2_with fail
  go_ret
  exact ⟨rfl, rfl⟩

set_option maxHeartbeats 1000000 in
/-- All: a slice of the call's own. -/
theorem all_any (p : Option Addr) (t : Option Tre) (w : World) (h : TAt w p t) (h1 : osize t < 1073741824) : Calls Tryz.prog 105 #[.pointer p] w (PutT w.heap.size (oall t) w) := by
  cases t with
  | none =>
    obtain rfl := h
    go_enter Tryz.func105, Tryz.ntmps105
    go_wp2_with fail
    ((with_reducible refine (onto_nil _ _).mono ?_); rintro e w1 ⟨rfl, rfl⟩)
    go_wp2_with fail
    go_ret
    exact ⟨_, rfl, Mine.none _ _ _, Below.refl _ _⟩
  | some t =>
    obtain ⟨b, rfl, ht⟩ := h
    obtain ⟨x, bs, ks⟩ := t
    have H := Lib.hid (onto_any _ x bs ks rfl w b ht w.heap.size (Nat.le_refl _) (.slice none 0 0) [] w (Below.refl _ _) (Nat.le_refl _) (Mine.none _ _ _) (by simpa [osize, Gn.Tre.size] using h1))
    clear ht h1
    go_enter Tryz.func105, Tryz.ntmps105
    go_wp2_with fail
    ((with_reducible refine H.out.mono ?_); rintro e w1 ⟨v, rfl, hown, hb⟩)
    have A := Lib.hid (And.intro hown hb)
    clear hown hb H
    go_wp2_with fail
    go_ret
    exact ⟨_, rfl, A.out.1, A.out.2⟩

/-- What stands beside a root. -/
def obeside : Option Tre → List Thing
  | none => []
  | some t => t.bs

set_option maxHeartbeats 1000000 in
/-- Beside: a slice of the call's own. -/
theorem beside_any (p : Option Addr) (t : Option Tre) (w : World) (h : TAt w p t) (h1 : osize t < 1073741824) : Calls Tryz.prog 77 #[.pointer p] w (PutT w.heap.size (obeside t) w) := by
  cases t with
  | none =>
    obtain rfl := h
    go_enter Tryz.func77, Tryz.ntmps77
    go_wp2_with fail
    go_ret
    exact ⟨_, rfl, Mine.none _ _ _, Below.refl _ _⟩
  | some t =>
    obtain ⟨b, rfl, bp, kp, hb, -, hB, -⟩ := h
    have c2 := (six hb).c2
    have H := Lib.hid (rowOnto_any w t.bs bp hB w.heap.size (Nat.le_refl _) (.slice none 0 0) [] w (Below.refl _ _) (Nat.le_refl _) (Mine.none _ _ _) (by simp only [osize, Gn.Tre.size] at h1; simp only [List.length_nil]; omega))
    clear hb hB h1
    go_enter Tryz.func77, Tryz.ntmps77
    go_wp2_with fail
    ((with_reducible refine H.out.mono ?_); rintro e w1 ⟨v, rfl, hown, hb⟩)
    have A := Lib.hid (And.intro hown hb)
    clear hown hb H
    go_wp2_with fail
    go_ret
    exact ⟨_, rfl, A.out.1, A.out.2⟩

end Go.Proofs.YtlmokendajgbdaaGreatDoor
