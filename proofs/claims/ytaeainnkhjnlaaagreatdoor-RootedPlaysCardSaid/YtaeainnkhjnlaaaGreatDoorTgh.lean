/-
  Rows of the reference's trees that are the call's own: what they say, how they grow by another row. No conditions beyond what each theorem says.
-/
import Derived.Test.YtaeainnkhjnlaaaGreatDoorTge
namespace Go.Proofs.YtaeainnkhjnlaaaGreatDoor
open Go.Sort Go.RowKit

theorem wood_list : ∀ w : Wood, wood w.list = w
  | .nil => rfl
  | .cons x bs ks r => by simp only [Wood.list, wood, wood_list r]
section
variable {F F' : Nat → Prop} {W W' : World}
theorem KL.append : ∀ {a b : List Tre} {ca cb : List Value}, KL F W (wood a) ca → KL F W (wood b) cb → KL F W (wood (a ++ b)) (ca ++ cb)
  | [], _, ca, cb, h, k => by
    have : ca = [] := h
    subst this
    exact k
  | t :: r, b, ca, cb, h, k => by
    obtain ⟨Ab, Ak, cb', ck, kc, cs', e, h1, h2, h3⟩ := h
    subst e
    exact ⟨Ab, Ak, cb', ck, kc, cs' ++ cb, rfl, h1, h2, KL.append h3 k⟩
theorem KL.takeW : ∀ (l : List Tre) (kc : List Value) (j : Nat), KL F W (wood l) kc → KL F W (wood (l.take j)) (kc.take (j * 6))
  | l, kc, 0, _ => by simp [wood, KL]
  | [], kc, j + 1, h => by
    have : kc = [] := h
    subst this
    simp [wood, KL]
  | t :: r, kc, j + 1, h => by
    obtain ⟨Ab, Ak, cb, ck, kc', cs', e, h1, h2, h3⟩ := h
    subst e
    have := KL.takeW r cs' j h3
    rw [Nat.add_mul]
    exact ⟨Ab, Ak, cb, ck, kc', cs'.take (j * 6), by simp, h1, h2, this⟩
/-- The j-th tree of a row, its cells. -/
theorem KL.atJ {l : List Tre} {kc : List Value} {b o : Nat} (hk : KL F W (wood l) kc) (hC : CAt F W (some ⟨b, o, none⟩) kc) {j : Nat} (hj : j < l.length) : ∃ (kl : Nat) (x1 x2 : Int) (Ab : Option Addr) (bl cb : Nat) (Ak : Option Addr) (ck sz : Nat),
    (W.cell? ⟨b, o + j * 6, none⟩ = some (.int .i64 kl) ∧ W.cell? ⟨b, o + j * 6 + 1, none⟩ = some (.int .i64 x1) ∧ W.cell? ⟨b, o + j * 6 + 2, none⟩ = some (.int .i64 x2) ∧ W.cell? ⟨b, o + j * 6 + 3, none⟩ = some (.slice Ab bl cb) ∧ W.cell? ⟨b, o + j * 6 + 4, none⟩ = some (.slice Ak kl ck) ∧ W.cell? ⟨b, o + j * 6 + 5, none⟩ = some (.int .i64 sz)) ∧
    TIs F W l[j] kl x1 x2 Ab bl cb Ak ck sz := by
  have hd := KL.dropW l kc j hk
  rw [List.drop_eq_getElem_cons hj] at hd
  obtain ⟨b', o', Ab, Ak, cb, ck, e, h1, h2, -⟩ := kid_at (i := j) (rest := wood (l.drop (j + 1))) hC (by simpa [wood] using hd)
  cases e
  exact ⟨l[j].ks.len, l[j].x.1, l[j].x.2, Ab, l[j].bs.length, cb, Ak, ck, l[j].size, h1, ⟨rfl, rfl, rfl, rfl⟩, h2⟩
/-- One tree's cells. -/
theorem TIs.cells {t : Tre} {kl : Nat} {x1 x2 : Int} {Ab Ak : Option Addr} {bl cb ck sz : Nat} (h : TIs F W t kl x1 x2 Ab bl cb Ak ck sz) : KL F W (wood [t]) [.int .i64 kl, .int .i64 x1, .int .i64 x2, .slice Ab bl cb, .slice Ak kl ck, .int .i64 sz] := by
  obtain ⟨⟨e1, e2, e3, e4⟩, Ab', Ak', cb', ck', kc', e, h1, h2, h3, h4⟩ := h
  simp only [tV, Value.agg.injEq, Array.mk.injEq, List.cons.injEq, Value.slice.injEq, true_and, and_true] at e
  obtain ⟨⟨rfl, rfl⟩, rfl, rfl⟩ := e
  refine ⟨Ab, Ak, cb, ck, kc', [], ?_, h1, ⟨h2, h3, h4⟩, rfl⟩
  have hs : t.size = t.bs.length + t.ks.size + 1 := by simp only [Tre.size]; omega
  rw [e1, e2, e3, e4, hs]
/-- A tree's kids. -/
theorem TIs.kids {t : Tre} {kl : Nat} {x1 x2 : Int} {Ab Ak : Option Addr} {bl cb ck sz : Nat} (h : TIs F W t kl x1 x2 Ab bl cb Ak ck sz) : kl = t.ks.list.length ∧ ∃ kc, KL F W (wood t.ks.list) kc ∧ CAt F W Ak kc := by
  obtain ⟨⟨e1, -, -, -⟩, Ab', Ak', cb', ck', kc', e, -, h2, h3, -⟩ := h
  simp only [tV, Value.agg.injEq, Array.mk.injEq, List.cons.injEq, Value.slice.injEq, true_and, and_true] at e
  obtain ⟨⟨rfl, rfl⟩, rfl, rfl⟩ := e
  exact ⟨by rw [e1, Wood.list_len], kc', by rw [wood_list]; exact h2, h3⟩
end

/-- A row of the call's own. -/
abbrev OwnT (W : World) (base : Nat) (v : Value) (m : Nat) (cs : List Value) : Prop := W.ownsRow base 104 6 v m cs
theorem OwnT.nil (W : World) (base : Nat) : OwnT W base (.slice none 0 0) 0 [] := ⟨rfl, .inl ⟨rfl, rfl⟩⟩
theorem OwnT.stay {W W' : World} {base : Nat} {v : Value} {m : Nat} {cs : List Value} (h : OwnT W base v m cs) (hb : Below W.heap.size W W') : OwnT W' base v m cs :=
  World.ownsRow.kept h (row := none) ⟨hb.os, hb.tape, hb.output, hb.size, fun k hk _ => hb.block k hk⟩ (by cases v.ownBlock <;> simp)
/-- .. as a row of trees, which lay in a world that has only grown since. -/
theorem OwnT.hat {F F' : Nat → Prop} {w W : World} {base : Nat} {v : Value} {m : Nat} {cs : List Value} {l : List Tre} (h : OwnT W base v m cs) (hk : KL F w (wood l) cs) (hf : Far F F' w W) (hF : ∀ k, base ≤ k → F' k) (hm : m = l.length) : ∃ A n c, v = .slice A n c ∧ n = m ∧ HAt F' W l A n c := by
  have h0 := h
  rcases h.2 with ⟨rfl, hz⟩ | ⟨g, cap, cur, rfl, hbg, hg, hcp, hmx, -⟩
  · subst hz
    have : l = [] := List.eq_nil_of_length_eq_zero hm.symm
    subst this
    exact ⟨none, 0, 0, rfl, rfl, HAt.nil _ _ _⟩
  · refine ⟨some ⟨g, 0, none⟩, m, cap, rfl, rfl, hm, hcp, by unfold maxLen at hmx; omega, (fun e => by cases e), cs, hk.far hf, fun _ => ⟨g, 0, rfl, hF g hbg, fun j u hu => ?_⟩⟩
    have := World.ownsRow.cells h0 (g := g) rfl j u hu
    rwa [add_plain] at this
/-- Another row behind it. -/
theorem append_T (F : Nat → Prop) (w : World) (base : Nat) (v : Value) (m : Nat) (cs : List Value) (hown : OwnT w base v m cs) (A : Option Addr) (n c : Nat) (kc : List Value) (hl : kc.length = n * 6) (h1 : ∀ u ∈ kc, u.oneCell' = true) (hc : CAt F w A kc) (hA : A = none → c = 0) (hb : base ≤ w.heap.size) (hm : m + n < 1000000000) :
    ∃ v' w', (Builtin.append_ #[33, 33] 33 #[v, .slice A n c]).run Tryz.prog w = .ok v' w' ∧ OwnT w' base v' (m + n) (cs ++ kc) ∧ Below base w w' := by
  obtain ⟨i0, hi, hz0, hz1, hz2⟩ := info_parts infoT
  have hblk : ∀ g, v.ownBlock = some g → base ≤ g := fun g hg => (World.ownsRow.lt hown g hg).1
  have step : ∀ a : Addr, (∀ j u, kc[j]? = some u → w.cell? (a.add j) = some u) → ∃ v' w', (Builtin.append_ #[33, 33] 33 #[v, .slice (some a) n c]).run Tryz.prog w = .ok v' w' ∧ OwnT w' base v' (m + n) (cs ++ kc) ∧ Below base w w' := by
    intro a ha
    obtain ⟨v', w', g1, g2, g3, _⟩ := run_append_own_at (P := Tryz.prog) w base 33 33 104 i0 _ 6 80 Tryz.underlying33 hi hz0 hz1 hz2 rfl (by omega) v m cs hown a n c kc hl ha h1 (by unfold maxLen; omega) (by omega) hb
    exact ⟨v', w', g1, g2, below_grown (Below.refl base w) g3 hb hblk⟩
  by_cases h0 : 0 < kc.length
  · obtain ⟨b, o, rfl, -, hcell⟩ := hc h0
    exact step _ (fun j u hu => by rw [add_plain]; exact hcell j u hu)
  · obtain rfl : kc = [] := List.eq_nil_of_length_eq_zero (by omega)
    cases A with
    | some a => exact step a (fun j u hu => by simp at hu)
    | none =>
      obtain rfl := hA rfl
      obtain rfl : n = 0 := by simp at hl; omega
      have hrun := run_append_owned_none (P := Tryz.prog) (w := w) base 33 33 104 i0 6 Tryz.underlying33 hi v m cs hown
      exact ⟨v, w, hrun, by simpa using hown, Below.refl _ _⟩

end Go.Proofs.YtaeainnkhjnlaaaGreatDoor
