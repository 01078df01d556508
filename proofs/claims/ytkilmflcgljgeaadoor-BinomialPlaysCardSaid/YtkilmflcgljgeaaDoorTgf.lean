/-
  Rows of the reference's trees that are the call's own: what they say, how they grow by another row. No conditions beyond what each theorem says.
  Contract of the reference's Pop (slagheapref07): what is left without the least one, and how many steps there were. Condition: fewer than 2 to the 28th things.
-/
import Derived.Test.YtkilmflcgljgeaaDoorTge
namespace Go.Proofs.YtkilmflcgljgeaaDoor
open Go.Sort Go.RowKit

theorem wood_list : ∀ w : Wood, wood w.list = w
  | .nil => rfl
  | .cons x bs ks r => by simp only [Wood.list, wood, wood_list r]
section
variable {F F' : Nat → Prop} {W W' : World}
theorem KL.append : ∀ {a b : List Tre} {ca cb : List Value}, KL F W (wood a) ca → KL F W (wood b) cb → KL F W (wood (a ++ b)) (ca ++ cb)
  | [], _, ca, cb, h, k => by
    have : ca = [] := h
    subst this
    exact k
  | t :: r, b, ca, cb, h, k => by
    obtain ⟨Ab, Ak, cb', ck, kc, cs', e, h1, h2, h3⟩ := h
    subst e
    exact ⟨Ab, Ak, cb', ck, kc, cs' ++ cb, rfl, h1, h2, KL.append h3 k⟩
theorem KL.takeW : ∀ (l : List Tre) (kc : List Value) (j : Nat), KL F W (wood l) kc → KL F W (wood (l.take j)) (kc.take (j * 6))
  | l, kc, 0, _ => by simp [wood, KL]
  | [], kc, j + 1, h => by
    have : kc = [] := h
    subst this
    simp [wood, KL]
  | t :: r, kc, j + 1, h => by
    obtain ⟨Ab, Ak, cb, ck, kc', cs', e, h1, h2, h3⟩ := h
    subst e
    have := KL.takeW r cs' j h3
    rw [Nat.add_mul]
    exact ⟨Ab, Ak, cb, ck, kc', cs'.take (j * 6), by simp, h1, h2, this⟩
/-- The j-th tree of a row, its cells. -/
theorem KL.atJ {l : List Tre} {kc : List Value} {b o : Nat} (hk : KL F W (wood l) kc) (hC : CAt F W (some ⟨b, o, none⟩) kc) {j : Nat} (hj : j < l.length) : ∃ (kl : Nat) (x1 x2 : Int) (Ab : Option Addr) (bl cb : Nat) (Ak : Option Addr) (ck sz : Nat),
    (W.cell? ⟨b, o + j * 6, none⟩ = some (.int .i64 kl) ∧ W.cell? ⟨b, o + j * 6 + 1, none⟩ = some (.int .i64 x1) ∧ W.cell? ⟨b, o + j * 6 + 2, none⟩ = some (.int .i64 x2) ∧ W.cell? ⟨b, o + j * 6 + 3, none⟩ = some (.slice Ab bl cb) ∧ W.cell? ⟨b, o + j * 6 + 4, none⟩ = some (.slice Ak kl ck) ∧ W.cell? ⟨b, o + j * 6 + 5, none⟩ = some (.int .i64 sz)) ∧
    TIs F W l[j] kl x1 x2 Ab bl cb Ak ck sz := by
  have hd := KL.dropW l kc j hk
  rw [List.drop_eq_getElem_cons hj] at hd
  obtain ⟨b', o', Ab, Ak, cb, ck, e, h1, h2, -⟩ := kid_at (i := j) (rest := wood (l.drop (j + 1))) hC (by simpa [wood] using hd)
  cases e
  exact ⟨l[j].ks.len, l[j].x.1, l[j].x.2, Ab, l[j].bs.length, cb, Ak, ck, l[j].size, h1, ⟨rfl, rfl, rfl, rfl⟩, h2⟩
/-- One tree's cells. -/
theorem TIs.cells {t : Tre} {kl : Nat} {x1 x2 : Int} {Ab Ak : Option Addr} {bl cb ck sz : Nat} (h : TIs F W t kl x1 x2 Ab bl cb Ak ck sz) : KL F W (wood [t]) [.int .i64 kl, .int .i64 x1, .int .i64 x2, .slice Ab bl cb, .slice Ak kl ck, .int .i64 sz] := by
  obtain ⟨⟨e1, e2, e3, e4⟩, Ab', Ak', cb', ck', kc', e, h1, h2, h3, h4⟩ := h
  simp only [tV, Value.agg.injEq, Array.mk.injEq, List.cons.injEq, Value.slice.injEq, true_and, and_true] at e
  obtain ⟨⟨rfl, rfl⟩, rfl, rfl⟩ := e
  refine ⟨Ab, Ak, cb, ck, kc', [], ?_, h1, ⟨h2, h3, h4⟩, rfl⟩
  have hs : t.size = t.bs.length + t.ks.size + 1 := by simp only [Tre.size]; omega
  rw [e1, e2, e3, e4, hs]
/-- A tree's kids. -/
theorem TIs.kids {t : Tre} {kl : Nat} {x1 x2 : Int} {Ab Ak : Option Addr} {bl cb ck sz : Nat} (h : TIs F W t kl x1 x2 Ab bl cb Ak ck sz) : kl = t.ks.list.length ∧ ∃ kc, KL F W (wood t.ks.list) kc ∧ CAt F W Ak kc := by
  obtain ⟨⟨e1, -, -, -⟩, Ab', Ak', cb', ck', kc', e, -, h2, h3, -⟩ := h
  simp only [tV, Value.agg.injEq, Array.mk.injEq, List.cons.injEq, Value.slice.injEq, true_and, and_true] at e
  obtain ⟨⟨rfl, rfl⟩, rfl, rfl⟩ := e
  exact ⟨by rw [e1, Wood.list_len], kc', by rw [wood_list]; exact h2, h3⟩
end

/-- A row of the call's own. -/
abbrev OwnT (W : World) (base : Nat) (v : Value) (m : Nat) (cs : List Value) : Prop := W.ownsRow base 82 6 v m cs
theorem OwnT.nil (W : World) (base : Nat) : OwnT W base (.slice none 0 0) 0 [] := ⟨rfl, .inl ⟨rfl, rfl⟩⟩
theorem OwnT.stay {W W' : World} {base : Nat} {v : Value} {m : Nat} {cs : List Value} (h : OwnT W base v m cs) (hb : Below W.heap.size W W') : OwnT W' base v m cs :=
  World.ownsRow.kept h (row := none) ⟨hb.os, hb.tape, hb.output, hb.size, fun k hk _ => hb.block k hk⟩ (by cases v.ownBlock <;> simp)
/-- .. as a row of trees, which lay in a world that has only grown since. -/
theorem OwnT.hat {F F' : Nat → Prop} {w W : World} {base : Nat} {v : Value} {m : Nat} {cs : List Value} {l : List Tre} (h : OwnT W base v m cs) (hk : KL F w (wood l) cs) (hf : Far F F' w W) (hF : ∀ k, base ≤ k → F' k) (hm : m = l.length) : ∃ A n c, v = .slice A n c ∧ n = m ∧ HAt F' W l A n c := by
  have h0 := h
  rcases h.2 with ⟨rfl, hz⟩ | ⟨g, cap, cur, rfl, hbg, hg, hcp, hmx, -⟩
  · subst hz
    have : l = [] := List.eq_nil_of_length_eq_zero hm.symm
    subst this
    exact ⟨none, 0, 0, rfl, rfl, HAt.nil _ _ _⟩
  · refine ⟨some ⟨g, 0, none⟩, m, cap, rfl, rfl, hm, hcp, by unfold maxLen at hmx; omega, (fun e => by cases e), cs, hk.far hf, fun _ => ⟨g, 0, rfl, hF g hbg, fun j u hu => ?_⟩⟩
    have := World.ownsRow.cells h0 (g := g) rfl j u hu
    rwa [add_plain] at this
/-- Another row behind it. -/
theorem append_T (F : Nat → Prop) (w : World) (base : Nat) (v : Value) (m : Nat) (cs : List Value) (hown : OwnT w base v m cs) (A : Option Addr) (n c : Nat) (kc : List Value) (hl : kc.length = n * 6) (h1 : ∀ u ∈ kc, u.oneCell' = true) (hc : CAt F w A kc) (hA : A = none → c = 0) (hb : base ≤ w.heap.size) (hm : m + n < 1000000000) :
    ∃ v' w', (Builtin.append_ #[33, 33] 33 #[v, .slice A n c]).run Tryd.prog w = .ok v' w' ∧ OwnT w' base v' (m + n) (cs ++ kc) ∧ Below base w w' := by
  obtain ⟨i0, hi, hz0, hz1, hz2⟩ := info_parts infoT
  have hblk : ∀ g, v.ownBlock = some g → base ≤ g := fun g hg => (World.ownsRow.lt hown g hg).1
  have step : ∀ a : Addr, (∀ j u, kc[j]? = some u → w.cell? (a.add j) = some u) → ∃ v' w', (Builtin.append_ #[33, 33] 33 #[v, .slice (some a) n c]).run Tryd.prog w = .ok v' w' ∧ OwnT w' base v' (m + n) (cs ++ kc) ∧ Below base w w' := by
    intro a ha
    obtain ⟨v', w', g1, g2, g3, _⟩ := run_append_own_at (P := Tryd.prog) w base 33 33 82 i0 _ 6 80 Tryd.underlying33 hi hz0 hz1 hz2 rfl (by omega) v m cs hown a n c kc hl ha h1 (by unfold maxLen; omega) (by omega) hb
    exact ⟨v', w', g1, g2, below_grown (Below.refl base w) g3 hb hblk⟩
  by_cases h0 : 0 < kc.length
  · obtain ⟨b, o, rfl, -, hcell⟩ := hc h0
    exact step _ (fun j u hu => by rw [add_plain]; exact hcell j u hu)
  · obtain rfl : kc = [] := List.eq_nil_of_length_eq_zero (by omega)
    cases A with
    | some a => exact step a (fun j u hu => by simp at hu)
    | none =>
      obtain rfl := hA rfl
      obtain rfl : n = 0 := by simp at hl; omega
      have hrun := run_append_owned_none (P := Tryd.prog) (w := w) base 33 33 82 i0 6 Tryd.underlying33 hi v m cs hown
      exact ⟨v, w, hrun, by simpa using hown, Below.refl _ _⟩

end Go.Proofs.YtkilmflcgljgeaaDoor
namespace Go.Proofs.YtkilmflcgljgeaaDoor
open Go.Sort Go.RowKit

set_option maxRecDepth 100000 in
theorem refPop7_nil (F : Nat → Prop) (A : Option Addr) (n c : Nat) (w : World) (h : HAt F w [] A n c) :
    Calls Tryd.prog 23 #[.agg #[.slice A n c]] w (GaveH F [] 0 w) := by
  obtain rfl : n = 0 := h.1
  have H := Lib.hid h
  clear h
  go_enter Tryd.func23, Tryd.ntmps23
  go_wp2_with fail
  refine bodyPost_ret (v := .tuple #[.agg #[.slice A 0 c], .int .i64 0]) (by simp [results, Tryd.results23, go_sem]) rfl ?_
  have hbe := ((Below.refl w.heap.size w).alloc (Nat.le_refl _) (.cells #[.slice A 0 c] 35)).alloc (by simp) (.cells #[.slice A 0 c] 35)
  exact ⟨A, 0, c, rfl, H.out.stay hbe, hbe⟩

set_option maxRecDepth 100000 in
set_option maxHeartbeats 8000000 in
theorem refPop7_some (F : Nat → Prop) (l : List Tre) (A : Option Addr) (n c : Nat) (w : World) (hF : ∀ k, w.heap.size ≤ k → F k) (hs : bSize l < 134217728) (hn1 : 0 < n) (h : HAt F w l A n c) :
    Calls Tryd.prog 23 #[.agg #[.slice A n c]] w (GaveH F (bPop l) (2 * bPopN l + (n - 1)) w) := by
  obtain ⟨b, of, rfl⟩ := h.some_at hn1
  have hnl := h.1
  have hll := bSize_len l
  have hln : l ≠ [] := by rintro rfl; simp at hnl; omega
  have hq := leastI_lt hln
  obtain ⟨q, hqe⟩ : ∃ q, q = leastI l := ⟨_, rfl⟩
  rw [← hqe] at hq
  obtain ⟨kc0, hkc0, hC0⟩ := h.2.2.2.2
  obtain ⟨kl, x1, x2, Ab, bl, cb, Ak, ck, sz, ⟨-, -, -, -, c4, -⟩, ht⟩ := h.atJ hq
  have hbw : b < w.heap.size := block_lt_of_cell c4
  obtain ⟨hkl, kc, hkk, hkC⟩ := ht.kids
  have hpop : bPop l = bmeld (l[q].ks.list.reverse) (restAt l q) ∧ bPopN l = bmeldN (l[q].ks.list.reverse) (restAt l q) := by
    have hgt : l[leastI l]? = some (l[q]'hq) := by rw [← hqe]; exact List.getElem?_eq_getElem hq
    have hk : kidsAt l (leastI l) = (l[q]'hq).ks.list.reverse := by unfold kidsAt; rw [hgt]
    cases l with
    | nil => exact absurd rfl hln
    | cons t r => exact ⟨by show bmeld (kidsAt (t :: r) (leastI (t :: r))) (restAt (t :: r) (leastI (t :: r))) = _; rw [hk, ← hqe], by show bmeldN (kidsAt (t :: r) (leastI (t :: r))) (restAt (t :: r) (leastI (t :: r))) = _; rw [hk, ← hqe]⟩
  have hsum : bSize (l[q].ks.list.reverse) + bSize (restAt l q) < 134217728 := by
    have h1 := (restAt_all hq).length_eq
    have h2 := (bAll_reverse (l[q].ks.list)).length_eq
    rw [bAll_length] at h1; rw [List.length_append, bAll_length, Tre.all_length] at h1; rw [bAll_length, bAll_length] at h2
    have h3 : bSize l[q].ks.list = l[q].ks.size := by rw [← bAll_length, Wood.list_all, Wood.all_length]
    simp only [Tre.size] at h1; omega
  have hpl := bmeld_len (l[q].ks.list.reverse) (restAt l q)
  have hkr := bSize_len (l[q].ks.list.reverse)
  have hrl := bSize_len (restAt l q)
  have hklen : kl ≤ bSize (l[q].ks.list.reverse) := by rw [hkl, ← List.length_reverse]; exact hkr
  generalize hks : l[q].ks.list = ks at *
  obtain ⟨N, hN⟩ : ∃ N, N = 2 * bmeldN ks.reverse (restAt l q) := ⟨_, rfl⟩
  have hb0 := ((Below.refl w.heap.size w).alloc (Nat.le_refl _) (.cells #[.slice (some ⟨b, of, none⟩) n c] 35)).alloc (by simp) (.cells #[.slice none 0 0] 35)
  have hh : HV7 ((w.alloc (.cells #[.slice (some ⟨b, of, none⟩) n c] 35)).alloc (.cells #[.slice none 0 0] 35)) w.heap.size (some ⟨b, of, none⟩) n c := (((Below.refl (w.alloc (.cells #[.slice (some ⟨b, of, none⟩) n c] 35)).heap.size (w.alloc (.cells #[.slice (some ⟨b, of, none⟩) n c] 35))).alloc (Nat.le_refl _) _).block _ (by simp)).trans (new_at rfl)
  have hz : HV7 ((w.alloc (.cells #[.slice (some ⟨b, of, none⟩) n c] 35)).alloc (.cells #[.slice none 0 0] 35)) (w.heap.size + 1) none 0 0 := new_at (by simp)
  have hsz : ((w.alloc (.cells #[.slice (some ⟨b, of, none⟩) n c] 35)).alloc (.cells #[.slice none 0 0] 35)).heap.size = w.heap.size + 2 := by simp
  have H := Lib.hid (And.intro hF (And.intro hs (And.intro h (And.intro hb0 (And.intro hkc0 (And.intro hC0 (And.intro hkk hkC)))))))
  have HD := Lib.hid (And.intro hpop (And.intro hsum (And.intro hkl hN)))
  have HQ := Lib.hid (show q = leastI l ∧ q < n ∧ n < 134217728 ∧ q < l.length ∧ n = l.length ∧ n ≤ c ∧ c ≤ 9223372036854775807 from ⟨hqe, by omega, by omega, hq, hnl, h.2.1, h.2.2.1⟩)
  have HNB := Lib.hid (show N < 1000000000 ∧ kl < 134217728 ∧ ks.length = kl from ⟨by omega, by omega, hkl.symm⟩)
  have hqn : q < n := HQ.out.2.1
  have q2 : (0 : Int) ≤ (q : Int) := by omega
  have q5 : (q : Int) < (n : Int) := by omega
  have z1 : ((n : Int) == 0) = false := by simp; omega
  have z2 : ¬ n = 0 := by omega
  have wk1 : IntKind.i64.wrap ((kl : Int) - 1) = (kl : Int) - 1 := by have := HNB.out; rw [IntKind.wrap_i64]; omega
  have HC4 := Lib.hid c4
  have HBW := Lib.hid hbw
  clear hs h hb0 hnl hll hln hqe hkc0 hC0 c4 hkk hkC hpop hsum hpl hkr hrl hklen hkl hN hF
  clear ht
  clear hks
  clear hq
  go_enter Tryd.func23, Tryd.ntmps23
  go_wp2_with fail
  generalize (w.alloc (.cells #[.slice (some ⟨b, of, none⟩) n c] 35)).alloc (.cells #[.slice none 0 0] 35) = w1 at *
  obtain ⟨b0, hb0⟩ : ∃ b, b = w.heap.size := ⟨_, rfl⟩
  obtain ⟨b1, hb1⟩ : ∃ b, b = w.heap.size + 1 := ⟨_, rfl⟩
  rw [← hb1] at hz ⊢
  rw [← hb0] at hh ⊢
  have HO := Lib.hid (show b0 = w.heap.size ∧ b1 = b0 + 1 ∧ w1.heap.size = b1 + 1 from ⟨hb0, by omega, by omega⟩)
  have HH := Lib.hid hh
  have HZ := Lib.hid hz
  clear hb0 hb1 hsz hh hz hbw
  ((with_reducible refine (refLeast F l _ _ _ _ (by have := H.out.2.1; omega) hn1 (H.out.2.2.1.stay H.out.2.2.2.1)).mono ?_); rintro e w3 ⟨rfl, hb3⟩)
  rw [← HQ.out.1]
  have HB3 := Lib.hid (And.intro hb3 (H.out.2.2.2.1.trans (hb3.mono H.out.2.2.2.1.size)))
  have a0 := (HH.out.stay hb3).c0
  have a4 := (HB3.out.2.cell (p := ⟨b, of + q * 6 + 4, none⟩) HBW.out).trans HC4.out
  clear hb3
  go_wp2_with fail
  go_loopg [5, 6] kl (fun k kv iv wr => ∃ (m : Nat) (cs : List Value), iv = .int .i64 ((m : Int) - 1) ∧ m = k ∧ m ≤ kl ∧ OwnT wr w1.heap.size kv (kl - m) cs ∧ KL F w (wood (ks.drop m).reverse) cs ∧ Below w1.heap.size w1 wr)
  case atStart => exact ⟨kl, [], rfl, rfl, Nat.le_refl _, by rw [Nat.sub_self]; exact OwnT.nil _ _, by rw [List.drop_of_length_le (by have := HNB.out; omega)]; rfl, HB3.out.1⟩
  case round =>
    clear a0 a4 wk1
    obtain ⟨m, cs, rfl, hm, hmk, hown, hkl, hbe⟩ := hrel
    have a0 := (HH.out.stay hbe).c0
    have HBE := Lib.hid (And.intro hbe (H.out.2.2.2.1.trans (hbe.mono H.out.2.2.2.1.size)))
    have a4 := (HBE.out.2.cell (p := ⟨b, of + q * 6 + 4, none⟩) HBW.out).trans HC4.out
    cases m with
    | succ j =>
      have hjl : j < ks.length := by have := HNB.out; omega
      obtain ⟨kb, ko, eAk, -, -⟩ := H.out.2.2.2.2.2.2.2 (by rw [H.out.2.2.2.2.2.2.1.length, wood_len]; omega)
      subst eAk
      obtain ⟨ul, y1, y2, Bb, dl, db, Bk, dk, uz, ⟨d0, d1, d2, d3, d4, d5⟩, hu⟩ := H.out.2.2.2.2.2.2.1.atJ H.out.2.2.2.2.2.2.2 hjl
      replace d0 := (HBE.out.2.cell (p := ⟨kb, ko + j * 6, none⟩) (block_lt_of_cell d0)).trans d0
      replace d1 := (HBE.out.2.cell (p := ⟨kb, ko + j * 6 + 1, none⟩) (block_lt_of_cell d1)).trans d1
      replace d2 := (HBE.out.2.cell (p := ⟨kb, ko + j * 6 + 2, none⟩) (block_lt_of_cell d2)).trans d2
      replace d3 := (HBE.out.2.cell (p := ⟨kb, ko + j * 6 + 3, none⟩) (block_lt_of_cell d3)).trans d3
      replace d4 := (HBE.out.2.cell (p := ⟨kb, ko + j * 6 + 4, none⟩) (block_lt_of_cell d4)).trans d4
      replace d5 := (HBE.out.2.cell (p := ⟨kb, ko + j * 6 + 5, none⟩) (block_lt_of_cell d5)).trans d5
      have hdr : (ks.drop j).reverse = (ks.drop (j + 1)).reverse ++ [ks[j]] := by rw [List.drop_eq_getElem_cons hjl, List.reverse_cons]
      have hkl2 : KL F w (wood (ks.drop j).reverse) (cs ++ [.int .i64 ul, .int .i64 y1, .int .i64 y2, .slice Bb dl db, .slice Bk ul dk, .int .i64 uz]) := by rw [hdr]; exact KL.append hkl hu.cells
      have hba := (Below.refl wr.heap.size wr).alloc (Nat.le_refl _) (.cells #[.int .i64 ul, .int .i64 y1, .int .i64 y2, .slice Bb dl db, .slice Bk ul dk, .int .i64 uz] 82)
      have hcat : CAt (fun _ => True) (wr.alloc (.cells #[.int .i64 ul, .int .i64 y1, .int .i64 y2, .slice Bb dl db, .slice Bk ul dk, .int .i64 uz] 82)) (some ⟨wr.heap.size, 0, none⟩) [.int .i64 ul, .int .i64 y1, .int .i64 y2, .slice Bb dl db, .slice Bk ul dk, .int .i64 uz] := fun _ => ⟨wr.heap.size, 0, rfl, trivial, fun i v hv => by
        have h1 : (wr.alloc (.cells #[.int .i64 ul, .int .i64 y1, .int .i64 y2, .slice Bb dl db, .slice Bk ul dk, .int .i64 uz] 82)).heap[wr.heap.size]? = some (.cells #[.int .i64 ul, .int .i64 y1, .int .i64 y2, .slice Bb dl db, .slice Bk ul dk, .int .i64 uz] 82 (0, 0)) := new_at rfl
        unfold World.cell?; simp only [Nat.zero_add]; rw [h1]; simpa using hv⟩
      obtain ⟨v4, w4, hrun, hown4, hb4⟩ := append_T (fun _ => True) (wr.alloc (.cells #[.int .i64 ul, .int .i64 y1, .int .i64 y2, .slice Bb dl db, .slice Bk ul dk, .int .i64 uz] 82)) w1.heap.size _ _ cs (hown.stay hba) (some ⟨wr.heap.size, 0, none⟩) 1 1 _ rfl (by intro u hu; simp only [List.mem_cons, List.not_mem_nil, or_false] at hu; rcases hu with rfl | rfl | rfl | rfl | rfl | rfl <;> rfl) hcat (fun e => by cases e) (Nat.le_trans hbe.size hba.size) (by have := HNB.out; omega)
      have HB4 := Lib.hid ((hbe.trans (hba.mono hbe.size)).trans hb4)
      have HK4 := Lib.hid (show OwnT w4 w1.heap.size v4 (kl - j) (cs ++ [.int .i64 ul, .int .i64 y1, .int .i64 y2, .slice Bb dl db, .slice Bk ul dk, .int .i64 uz]) ∧ KL F w (wood (ks.drop j).reverse) (cs ++ [.int .i64 ul, .int .i64 y1, .int .i64 y2, .slice Bb dl db, .slice Bk ul dk, .int .i64 uz]) ∧ j + 1 = gk ∧ j + 1 ≤ kl from ⟨by rw [show kl - j = kl - (j + 1) + 1 by omega]; exact hown4, hkl2, hm, hmk⟩)
      have i1 : ((j + 1 : Nat) : Int) - 1 = (j : Int) := by omega
      have i2 : (0 : Int) ≤ (j : Int) := by omega
      have i3 : (j : Int) < (kl : Int) := by omega
      have i4 : decide ((0 : Int) ≤ (j : Int)) = true := by simp
      have wj : IntKind.i64.wrap ((j : Int) - 1) = (j : Int) - 1 := by have := HNB.out; rw [IntKind.wrap_i64]; omega
      have i5 : j < kl := by omega
      clear hjl hu hdr hkl2 hba hcat hown4 hb4 hown hkl hbe hm hmk
      rw [i1]
      clear i1
      go_wp2_with (at_builtin; refine wpList_append_run rfl _ _ _ rfl _ _ _ _ rfl rfl hrun ?_)
      go_roundg j
      case measure => have := HK4.out; omega
      case rel => exact ⟨j, cs ++ [.int .i64 ul, .int .i64 y1, .int .i64 y2, .slice Bb dl db, .slice Bk ul dk, .int .i64 uz], by first | rfl | (congr 1), rfl, by have := HK4.out; omega, HK4.out.1, HK4.out.2.1, HB4.out⟩
    | zero =>
      have i1 : ((0 : Nat) : Int) - 1 = -1 := rfl
      rw [i1]
      have i4 : decide ((0 : Int) ≤ (-1 : Int)) = false := rfl
      rw [Nat.sub_zero] at hown
      rw [List.drop_zero] at hkl
      have hOwn := Lib.hid (And.intro hown hkl)
      have hcat1 : CAt F wr (some ⟨b, of, none⟩) (kc0.take (q * 6)) := by
        have hC := (H.out.2.2.2.2.2.1).far (Far.below HBE.out.2)
        intro hpos
        obtain ⟨b', o', e1, hb', hc'⟩ := hC (by rw [List.length_take] at hpos; omega)
        cases e1
        exact ⟨b, of, rfl, hb', fun i v hv => hc' i v (by rw [List.getElem?_take] at hv; split at hv; exact hv; cases hv)⟩
      obtain ⟨v4, w4, hrun1, hown4, hb4⟩ := append_T F wr wr.heap.size (.slice none 0 0) 0 [] (OwnT.nil _ _) (some ⟨b, of, none⟩) q c (kc0.take (q * 6)) (by rw [List.length_take, H.out.2.2.2.2.1.length, wood_len]; have := HQ.out; omega) (fun u hu => H.out.2.2.2.2.1.one u (List.mem_of_mem_take hu)) hcat1 (fun e => by cases e) (Nat.le_refl _) (by have := HQ.out; omega)
      rw [Nat.zero_add, List.nil_append] at hown4
      have H4 := Lib.hid (And.intro hown4 (And.intro hb4 (HBE.out.1.trans (hb4.mono HBE.out.1.size))))
      have a0b := (HH.out.stay H4.out.2.2).c0
      have y1 : (q : Int) ≤ (c : Int) := by have := HQ.out; omega
      have y2 : q ≤ c := by have := HQ.out; omega
      have y3 : ¬ c = 0 := by have := HQ.out; omega
      have y4 : ¬ (c : Int) < (q : Int) := by have := HQ.out; omega
      have y5 : ¬ c < q := by have := HQ.out; omega
      have y6 : (q : Int) ≤ (n : Int) := by omega
      have y7 : q ≤ n := by omega
      have y8 : ¬ c ≤ 0 := by have := HQ.out; omega
      have y9 : 0 < c := by have := HQ.out; omega
      have wq1 : IntKind.i64.wrap ((q : Int) + 1) = (q : Int) + 1 := by have := HQ.out; rw [IntKind.wrap_i64]; omega
      clear hown hkl hbe hm hmk hown4 hb4
      by_cases hc1 : c = q + 1
      · have hn2 : n = q + 1 := by have := HQ.out; omega
        have hcat2 : CAt F w4 (some ⟨b, of, none⟩) (kc0.drop ((q + 1) * 6)) := by
          have hC := (H.out.2.2.2.2.2.1).far (Far.below (H.out.2.2.2.1.trans (H4.out.2.2.mono H.out.2.2.2.1.size)))
          intro hpos
          have hpl : 0 < kc0.length := by rw [List.length_drop] at hpos; omega
          rw [List.length_drop, H.out.2.2.2.2.1.length, wood_len] at hpos
          have := HQ.out; omega
        obtain ⟨v5, w5, hrun2, hown5, hb5⟩ := append_T F w4 wr.heap.size v4 q _ H4.out.1 (some ⟨b, of, none⟩) 0 0 (kc0.drop ((q + 1) * 6)) (by rw [List.length_drop, H.out.2.2.2.2.1.length, wood_len]; have := HQ.out; omega) (fun u hu => H.out.2.2.2.2.1.one u (List.mem_of_mem_drop hu)) hcat2 (fun e => by cases e) H4.out.2.1.size (by have := HQ.out; omega)
        have hrest : KL F w (wood (restAt l q)) (kc0.take (q * 6) ++ kc0.drop ((q + 1) * 6)) := KL.append (KL.takeW l kc0 q H.out.2.2.2.2.1) (KL.dropW l kc0 (q + 1) H.out.2.2.2.2.1)
        have hbz := H4.out.2.2.trans (hb5.mono (Nat.le_trans HBE.out.1.size (Nat.le_refl _)))
        have hbw5 := H.out.2.2.2.1.trans (hbz.mono H.out.2.2.2.1.size)
        have hfar : Far F (Fb F b1) w w5 := ⟨fun k hk _ => hbw5.block k hk, fun k hk hf => Fb.of hf (by have := HO.out; omega)⟩
        have hFb : ∀ k, w1.heap.size ≤ k → Fb F b1 k := fun k hk => Fb.of (H.out.1 k (by have := HO.out; omega)) (by have := HO.out; omega)
        have hown1 := hOwn.out.1.stay (H4.out.2.1.trans hb5)
        obtain ⟨A6, n6, c6, ekv, en6, hat1⟩ := hown1.hat hOwn.out.2 hfar hFb (by rw [List.length_reverse]; exact HNB.out.2.2.symm)
        subst ekv
        obtain ⟨A7, n7, c7, ev5, en7, hat2⟩ := hown5.hat hrest hfar (fun k hk => hFb k (Nat.le_trans HBE.out.1.size hk)) (by unfold restAt; rw [List.length_append, List.length_take, List.length_drop]; have := HQ.out; omega)
        subst ev5
        have H5 := Lib.hid (And.intro hat1 (And.intro hat2 (And.intro hbz (And.intro hbw5 hFb))))
        subst hn2
        subst hc1
        have HR := Lib.hid (And.intro hrun1 hrun2)
        clear hrun1 hrun2 hown5 hb5 hrest hbz hbw5 hfar hFb hown1 hat1 hat2 en7
        subst en6
        go_wp2_with (at_builtin; first | (refine wpList_append_run rfl _ _ _ rfl _ _ _ _ rfl rfl HR.out.1 ?_) | (refine wpList_append_run rfl _ _ _ rfl _ _ _ _ rfl rfl HR.out.2 ?_))
        have hT := refTrees ks.reverse (restAt l q)
        unfold TreesR at hT
        ((with_reducible refine (hT (Fb F b1) _ _ _ _ _ _ w5 (fun k hk => H5.out.2.2.2.2 k (Nat.le_trans H5.out.2.2.1.size hk)) (by have := HD.out.2.1; omega) H5.out.1 H5.out.2.1).mono ?_); rintro e w6 ⟨A8, n8, c8, rfl, hh8, hb8⟩)
        rw [← HD.out.2.2.2]
        have hb9 := H5.out.2.2.1.trans (hb8.mono H5.out.2.2.1.size)
        have H8 := Lib.hid (And.intro hh8 (And.intro hb9 (H.out.2.2.2.1.trans (hb9.mono H.out.2.2.2.1.size))))
        clear hT hh8 hb8 hb9
        go_wp2_with fail
        have wn1 : IntKind.i64.wrap ((N : Int) + ((q + 1 : Nat) : Int)) = (N : Int) + ((q + 1 : Nat) : Int) := by have := HNB.out; have := HQ.out; rw [IntKind.wrap_i64]; omega
        have wn2 : IntKind.i64.wrap ((N : Int) + ((q + 1 : Nat) : Int) - 1) = (N : Int) + ((q + 1 : Nat) : Int) - 1 := by have := HNB.out; have := HQ.out; rw [IntKind.wrap_i64]; omega
        have wn3 : IntKind.i64.wrap ((N : Int) + ((q : Int) + 1)) = (N : Int) + ((q : Int) + 1) := by have := HNB.out; have := HQ.out; rw [IntKind.wrap_i64]; omega
        have wn4 : IntKind.i64.wrap ((N : Int) + ((q : Int) + 1) - 1) = (N : Int) + ((q : Int) + 1) - 1 := by have := HNB.out; have := HQ.out; rw [IntKind.wrap_i64]; omega
        have HS := Lib.hid (fun (w' : World) (hz : ∀ k, k < w6.heap.size → k ≠ b1 → w'.heap[k]? = w6.heap[k]?) => (show w'.cell? ⟨b0, 0, none⟩ = some (.slice (some ⟨b, of, none⟩) (q + 1) (q + 1)) from by
          have hk := HH.out.stay H8.out.2.1
          exact HV7.c0 ((hz b0 (lt_of_heap hk) (by have := HO.out; omega)).trans hk)))
        have hd0 : Below w6.heap.size w6 w6.drew := (Below.refl _ _).drew
        refine wp_region_noPanic ?_
        refine wp_region_held_drew (S := fun w' => w'.cell? ⟨b0, 0, none⟩ = some (.slice (some ⟨b, of, none⟩) (q + 1) (q + 1))) (by kernel_rfl) (HS.out _ (fun k hk _ => hd0.block k hk)) (fun hH => ?_)
        generalize w6.drew = wd at *
        refine wpAnyH_take (i := 0) (oi := { dst := some 61, op := Go.Op.move (Go.Operand.tmp 8), type := 33, pos := "ref.go:97", after := #[], guard := none }) (v := ?v1_0_0) rfl (by as_aux_lemma => kernel_rfl) (by as_aux_lemma => kernel_rfl) (by as_aux_lemma => kernel_rfl) (fun _ _ _ h => h) (Or.inl ⟨(by as_aux_lemma => kernel_rfl), ?hy1_0_0⟩) hH ?rest1_0_0
        case hy1_0_0 => (intro w hSw; (try dsimp only at hSw); go_simp; try with_reducible rfl)
        try simp only [Act.put, List.setIfInBounds_toArray, List.set_cons_zero, List.set_cons_succ]
        refine wpAnyH_take (i := 1) (oi := { dst := some 62, op := Go.Op.build 35 #[(0, Go.Operand.tmp 61)], type := 35, pos := "ref.go:97", after := #[{ on := 0, ground := Go.Ground.data }], guard := none }) (v := ?v1_0_1) rfl (by as_aux_lemma => kernel_rfl) (by as_aux_lemma => kernel_rfl) (by as_aux_lemma => kernel_rfl) (fun _ _ _ h => h) (Or.inl ⟨(by as_aux_lemma => kernel_rfl), ?hy1_0_1⟩) hH ?rest1_0_1
        case hy1_0_1 => (intro w hSw; (try dsimp only at hSw); go_simp; try with_reducible rfl)
        try simp only [Act.put, List.setIfInBounds_toArray, List.set_cons_zero, List.set_cons_succ]
        refine wpAnyH_take (i := 2) (oi := { dst := some 63, op := Go.Op.move (Go.Operand.tmp 9), type := 3, pos := "ref.go:97", after := #[{ on := 8, ground := Go.Ground.gcOnly Go.Departure.lateStores }], guard := none }) (v := ?v1_0_2) rfl (by as_aux_lemma => kernel_rfl) (by as_aux_lemma => kernel_rfl) (by as_aux_lemma => kernel_rfl) (fun _ _ _ h => h) (Or.inl ⟨(by as_aux_lemma => kernel_rfl), ?hy1_0_2⟩) hH ?rest1_0_2
        case hy1_0_2 => (intro w hSw; (try dsimp only at hSw); go_simp; try with_reducible rfl)
        try simp only [Act.put, List.setIfInBounds_toArray, List.set_cons_zero, List.set_cons_succ]
        refine wpAnyH_take (i := 3) (oi := { dst := some 64, op := Go.Op.fieldAddr 35 (Go.Operand.tmp 1) 0, type := 0, pos := "ref.go:97", after := #[], guard := none }) (v := ?v1_0_3) rfl (by as_aux_lemma => kernel_rfl) (by as_aux_lemma => kernel_rfl) (by as_aux_lemma => kernel_rfl) (fun _ _ _ h => h) (Or.inl ⟨(by as_aux_lemma => kernel_rfl), ?hy1_0_3⟩) hH ?rest1_0_3
        case hy1_0_3 => (intro w hSw; (try dsimp only at hSw); go_simp; try with_reducible rfl)
        try simp only [Act.put, List.setIfInBounds_toArray, List.set_cons_zero, List.set_cons_succ]
        refine wpAnyH_take (i := 4) (oi := { dst := some 65, op := Go.Op.load 33 (Go.Operand.tmp 64), type := 33, pos := "ref.go:97", after := #[{ on := 3, ground := Go.Ground.data }], guard := none }) (v := ?v1_0_4) rfl (by as_aux_lemma => kernel_rfl) (by as_aux_lemma => kernel_rfl) (by as_aux_lemma => kernel_rfl) (fun _ _ _ h => h) (Or.inl ⟨(by as_aux_lemma => kernel_rfl), ?hy1_0_4⟩) hH ?rest1_0_4
        case hy1_0_4 => (intro w hSw; (try dsimp only at hSw); go_simp; try with_reducible rfl)
        try simp only [Act.put, List.setIfInBounds_toArray, List.set_cons_zero, List.set_cons_succ]
        refine wpAnyH_take (i := 5) (oi := { dst := some 66, op := Go.Op.call { callee := Go.Callee.builtin Go.Builtin.len, args := #[Go.Operand.tmp 65], argTypes := #[33] }, type := 3, pos := "ref.go:97", after := #[{ on := 4, ground := Go.Ground.data }], guard := none }) (v := ?v1_0_5) rfl (by as_aux_lemma => kernel_rfl) (by as_aux_lemma => kernel_rfl) (by as_aux_lemma => kernel_rfl) (fun _ _ _ h => h) (Or.inl ⟨(by as_aux_lemma => kernel_rfl), ?hy1_0_5⟩) hH ?rest1_0_5
        case hy1_0_5 => (intro w hSw; (try dsimp only at hSw); go_simp; try with_reducible rfl)
        try simp only [Act.put, List.setIfInBounds_toArray, List.set_cons_zero, List.set_cons_succ]
        refine wpAnyH_take (i := 6) (oi := { dst := some 67, op := Go.Op.binOp Go.BinOp.add 3 (Go.Operand.tmp 63) (Go.Operand.tmp 66) 3, type := 3, pos := "ref.go:97", after := #[{ on := 2, ground := Go.Ground.data }, { on := 5, ground := Go.Ground.data }, { on := 8, ground := Go.Ground.gcOnly Go.Departure.lateStores }], guard := none }) (v := ?v1_0_6) rfl (by as_aux_lemma => kernel_rfl) (by as_aux_lemma => kernel_rfl) (by as_aux_lemma => kernel_rfl) (fun _ _ _ h => h) (Or.inl ⟨(by as_aux_lemma => kernel_rfl), ?hy1_0_6⟩) hH ?rest1_0_6
        case hy1_0_6 => (intro w hSw; (try dsimp only at hSw); go_simp; try with_reducible rfl)
        try simp only [Act.put, List.setIfInBounds_toArray, List.set_cons_zero, List.set_cons_succ]
        refine wpAnyH_take (i := 7) (oi := { dst := some 68, op := Go.Op.binOp Go.BinOp.sub 3 (Go.Operand.tmp 67) (Go.Operand.const (Go.Value.int Go.IntKind.i64 1)) 3, type := 3, pos := "ref.go:97", after := #[{ on := 6, ground := Go.Ground.data }, { on := 8, ground := Go.Ground.gcOnly Go.Departure.lateStores }], guard := none }) (v := ?v1_0_7) rfl (by as_aux_lemma => kernel_rfl) (by as_aux_lemma => kernel_rfl) (by as_aux_lemma => kernel_rfl) (fun _ _ _ h => h) (Or.inl ⟨(by as_aux_lemma => kernel_rfl), ?hy1_0_7⟩) hH ?rest1_0_7
        case hy1_0_7 => (intro w hSw; (try dsimp only at hSw); go_simp; try with_reducible rfl)
        try simp only [Act.put, List.setIfInBounds_toArray, List.set_cons_zero, List.set_cons_succ]
        have hz6 := (HZ.out.stay H8.out.2.1).stay hd0
        have v0 := hz6.c0
        have vz0 := hz6.z0
        refine wpAnyH_ready (rs := [8]) (by as_aux_lemma => kernel_rfl) (by simp) ?_
        refine AllReadyH.cons (o := { dst := none, op := Go.Op.store 35 (Go.Operand.tmp 2) (Go.Operand.tmp 62), type := 0, pos := "ref.go:97", after := #[{ on := 1, ground := Go.Ground.data }, { on := 0, ground := Go.Ground.phase }, { on := 1, ground := Go.Ground.phase }, { on := 2, ground := Go.Ground.textOnly Go.Departure.lateStores }, { on := 3, ground := Go.Ground.textOnly Go.Departure.lateStores }, { on := 4, ground := Go.Ground.textOnly Go.Departure.lateStores }, { on := 5, ground := Go.Ground.textOnly Go.Departure.lateStoresUnsure }, { on := 6, ground := Go.Ground.textOnly Go.Departure.lateStores }, { on := 7, ground := Go.Ground.textOnly Go.Departure.lateStores }], guard := none }) rfl (fun K hK => ?_) AllReadyH.nil
        go_simp
        refine hK.out _ _ ?_ (fun hH2 => ?_)
        · exact HS.out _ (fun k hk hne => (Below.heap_setCell _ ⟨b1, 0, none⟩ _ k hne).trans (hd0.block k hk))
        clear hK K hH
        have hH := hH2
        clear hH2
        have hkz : ∀ k, k < w6.heap.size → k ≠ b1 → (wd.setCell ⟨b1, 0, none⟩ (.slice A8 n8 c8)).heap[k]? = w6.heap[k]? := fun k hk hne => (Below.heap_setCell _ ⟨b1, 0, none⟩ _ k hne).trans (hd0.block k hk)
        have hz7 := hz6.put A8 n8 c8
        have hat8 := (H8.out.1.stay hd0).set (.slice A8 n8 c8)
        have hb8 := (H8.out.2.2.trans (hd0.mono H8.out.2.2.size)).setCell (p := ⟨b1, 0, none⟩) (by have := HO.out; show _ ≤ b1; omega) (.slice A8 n8 c8)
        clear v0 vz0
        generalize wd.setCell ⟨b1, 0, none⟩ (.slice A8 n8 c8) = w7 at *
        try simp only [Act.put, List.setIfInBounds_toArray, List.set_cons_zero, List.set_cons_succ]
        refine wpAnyH_ready (rs := [9]) (by as_aux_lemma => kernel_rfl) (by simp) ?_
        refine AllReadyH.cons (o := { dst := some 3, op := Go.Op.assign (Go.Operand.tmp 68), type := 3, pos := "ref.go:97", after := #[{ on := 7, ground := Go.Ground.data }, { on := 8, ground := Go.Ground.chain }, { on := 0, ground := Go.Ground.phase }, { on := 1, ground := Go.Ground.phase }, { on := 2, ground := Go.Ground.phase }, { on := 3, ground := Go.Ground.phase }, { on := 4, ground := Go.Ground.phase }, { on := 5, ground := Go.Ground.phase }, { on := 6, ground := Go.Ground.phase }, { on := 7, ground := Go.Ground.phase }, { on := 8, ground := Go.Ground.phase }], guard := none }) rfl (fun K hK => ?_) AllReadyH.nil
        go_simp
        refine hK.out _ _ ?_ (fun hH2 => ?_)
        · exact HS.out _ hkz
        clear hK K hH
        have hH := hH2
        clear hH2
        try simp only [Act.put, List.setIfInBounds_toArray, List.set_cons_zero, List.set_cons_succ]
        refine wpAnyH_done (by as_aux_lemma => kernel_rfl) ?_ _
        refine NoPanic.normal ?_
        clear hH
        have t0 := hz7.c0
        go_wp2_with fail
        refine bodyPost_ret (v := .tuple #[.agg #[.slice A8 n8 c8], .int .i64 ((N : Int) + ((q + 1 : Nat) : Int) - 1)]) (by simp [results, Tryd.results23, go_sem, t0]) rfl ?_
        refine ⟨A8, n8, c8, ?_, by rw [HD.out.1.1]; exact hat8, hb8⟩
        rw [HD.out.1.2, ← HD.out.2.2.2, show ((N + (q + 1 - 1) : Nat) : Int) = (N : Int) + ((q + 1 : Nat) : Int) - 1 by omega]
      · have hcat2 : CAt F w4 (some ⟨b, of + (q + 1) * 6, none⟩) (kc0.drop ((q + 1) * 6)) := by
          have hC := (H.out.2.2.2.2.2.1).far (Far.below (H.out.2.2.2.1.trans (H4.out.2.2.mono H.out.2.2.2.1.size)))
          intro hpos
          have hpl : 0 < kc0.length := by rw [List.length_drop] at hpos; omega
          obtain ⟨b', o', e1, hb', hc'⟩ := hC hpl
          cases e1
          exact ⟨b, of + (q + 1) * 6, rfl, hb', fun i v hv => by rw [List.getElem?_drop] at hv; have := hc' _ v hv; rwa [show of + ((q + 1) * 6 + i) = of + (q + 1) * 6 + i by omega] at this⟩
        obtain ⟨v5, w5, hrun2, hown5, hb5⟩ := append_T F w4 wr.heap.size v4 q _ H4.out.1 (some ⟨b, of + (q + 1) * 6, none⟩) (n - (q + 1)) (c - (q + 1)) (kc0.drop ((q + 1) * 6)) (by rw [List.length_drop, H.out.2.2.2.2.1.length, wood_len]; have := HQ.out; omega) (fun u hu => H.out.2.2.2.2.1.one u (List.mem_of_mem_drop hu)) hcat2 (fun e => by cases e) H4.out.2.1.size (by have := HQ.out; omega)
        have hrest : KL F w (wood (restAt l q)) (kc0.take (q * 6) ++ kc0.drop ((q + 1) * 6)) := KL.append (KL.takeW l kc0 q H.out.2.2.2.2.1) (KL.dropW l kc0 (q + 1) H.out.2.2.2.2.1)
        have hbz := H4.out.2.2.trans (hb5.mono (Nat.le_trans HBE.out.1.size (Nat.le_refl _)))
        have hbw5 := H.out.2.2.2.1.trans (hbz.mono H.out.2.2.2.1.size)
        have hfar : Far F (Fb F b1) w w5 := ⟨fun k hk _ => hbw5.block k hk, fun k hk hf => Fb.of hf (by have := HO.out; omega)⟩
        have hFb : ∀ k, w1.heap.size ≤ k → Fb F b1 k := fun k hk => Fb.of (H.out.1 k (by have := HO.out; omega)) (by have := HO.out; omega)
        have hown1 := hOwn.out.1.stay (H4.out.2.1.trans hb5)
        obtain ⟨A6, n6, c6, ekv, en6, hat1⟩ := hown1.hat hOwn.out.2 hfar hFb (by rw [List.length_reverse]; exact HNB.out.2.2.symm)
        subst ekv
        obtain ⟨A7, n7, c7, ev5, en7, hat2⟩ := hown5.hat hrest hfar (fun k hk => hFb k (Nat.le_trans HBE.out.1.size hk)) (by unfold restAt; rw [List.length_append, List.length_take, List.length_drop]; have := HQ.out; omega)
        subst ev5
        have H5 := Lib.hid (And.intro hat1 (And.intro hat2 (And.intro hbz (And.intro hbw5 hFb))))
        have x0 : q + 1 ≤ n := by have := HQ.out; omega
        have x1 : (q : Int) + 1 ≤ (n : Int) := by have := HQ.out; omega
        have x2 : ¬ (n : Int) < (q : Int) + 1 := by have := HQ.out; omega
        have x3 : q + 1 ≤ c := by have := HQ.out; omega
        have x4 : (q : Int) + 1 ≤ (c : Int) := by have := HQ.out; omega
        have x5 : ¬ c - (q + 1) = 0 := by have := HQ.out; omega
        have x6 : ¬ c ≤ q + 1 := by have := HQ.out; omega
        have x7 : q + 1 < c := by have := HQ.out; omega
        have x8 : (n : Int) ≤ (c : Int) := by have := HQ.out; omega
        have x9 : (0 : Int) ≤ (q : Int) + 1 := by have := HQ.out; omega
        have x10 : ¬ q + 1 = c := by have := HQ.out; omega
        have x20 : ((q : Int) + 1).toNat = q + 1 := by omega
        have HR := Lib.hid (And.intro hrun1 hrun2)
        clear hrun1 hrun2 hown5 hb5 hrest hbz hbw5 hfar hFb hown1 hat1 hat2 en7
        subst en6
        go_wp2_with (at_builtin; first | (refine wpList_append_run rfl _ _ _ rfl _ _ _ _ rfl rfl HR.out.1 ?_) | (refine wpList_append_run rfl _ _ _ rfl _ _ _ _ rfl rfl HR.out.2 ?_))
        have hT := refTrees ks.reverse (restAt l q)
        unfold TreesR at hT
        ((with_reducible refine (hT (Fb F b1) _ _ _ _ _ _ w5 (fun k hk => H5.out.2.2.2.2 k (Nat.le_trans H5.out.2.2.1.size hk)) (by have := HD.out.2.1; omega) H5.out.1 H5.out.2.1).mono ?_); rintro e w6 ⟨A8, n8, c8, rfl, hh8, hb8⟩)
        rw [← HD.out.2.2.2]
        have hb9 := H5.out.2.2.1.trans (hb8.mono H5.out.2.2.1.size)
        have H8 := Lib.hid (And.intro hh8 (And.intro hb9 (H.out.2.2.2.1.trans (hb9.mono H.out.2.2.2.1.size))))
        clear hT hh8 hb8 hb9
        go_wp2_with fail
        have wn1 : IntKind.i64.wrap ((N : Int) + ((n : Nat) : Int)) = (N : Int) + ((n : Nat) : Int) := by have := HNB.out; have := HQ.out; rw [IntKind.wrap_i64]; omega
        have wn2 : IntKind.i64.wrap ((N : Int) + ((n : Nat) : Int) - 1) = (N : Int) + ((n : Nat) : Int) - 1 := by have := HNB.out; have := HQ.out; rw [IntKind.wrap_i64]; omega
        have HS := Lib.hid (fun (w' : World) (hz : ∀ k, k < w6.heap.size → k ≠ b1 → w'.heap[k]? = w6.heap[k]?) => (show w'.cell? ⟨b0, 0, none⟩ = some (.slice (some ⟨b, of, none⟩) (n) (c)) from by
          have hk := HH.out.stay H8.out.2.1
          exact HV7.c0 ((hz b0 (lt_of_heap hk) (by have := HO.out; omega)).trans hk)))
        have hd0 : Below w6.heap.size w6 w6.drew := (Below.refl _ _).drew
        refine wp_region_noPanic ?_
        refine wp_region_held_drew (S := fun w' => w'.cell? ⟨b0, 0, none⟩ = some (.slice (some ⟨b, of, none⟩) (n) (c))) (by kernel_rfl) (HS.out _ (fun k hk _ => hd0.block k hk)) (fun hH => ?_)
        generalize w6.drew = wd at *
        refine wpAnyH_take (i := 0) (oi := { dst := some 61, op := Go.Op.move (Go.Operand.tmp 8), type := 33, pos := "ref.go:97", after := #[], guard := none }) (v := ?v2_0_0) rfl (by as_aux_lemma => kernel_rfl) (by as_aux_lemma => kernel_rfl) (by as_aux_lemma => kernel_rfl) (fun _ _ _ h => h) (Or.inl ⟨(by as_aux_lemma => kernel_rfl), ?hy2_0_0⟩) hH ?rest2_0_0
        case hy2_0_0 => (intro w hSw; (try dsimp only at hSw); go_simp; try with_reducible rfl)
        try simp only [Act.put, List.setIfInBounds_toArray, List.set_cons_zero, List.set_cons_succ]
        refine wpAnyH_take (i := 1) (oi := { dst := some 62, op := Go.Op.build 35 #[(0, Go.Operand.tmp 61)], type := 35, pos := "ref.go:97", after := #[{ on := 0, ground := Go.Ground.data }], guard := none }) (v := ?v2_0_1) rfl (by as_aux_lemma => kernel_rfl) (by as_aux_lemma => kernel_rfl) (by as_aux_lemma => kernel_rfl) (fun _ _ _ h => h) (Or.inl ⟨(by as_aux_lemma => kernel_rfl), ?hy2_0_1⟩) hH ?rest2_0_1
        case hy2_0_1 => (intro w hSw; (try dsimp only at hSw); go_simp; try with_reducible rfl)
        try simp only [Act.put, List.setIfInBounds_toArray, List.set_cons_zero, List.set_cons_succ]
        refine wpAnyH_take (i := 2) (oi := { dst := some 63, op := Go.Op.move (Go.Operand.tmp 9), type := 3, pos := "ref.go:97", after := #[{ on := 8, ground := Go.Ground.gcOnly Go.Departure.lateStores }], guard := none }) (v := ?v2_0_2) rfl (by as_aux_lemma => kernel_rfl) (by as_aux_lemma => kernel_rfl) (by as_aux_lemma => kernel_rfl) (fun _ _ _ h => h) (Or.inl ⟨(by as_aux_lemma => kernel_rfl), ?hy2_0_2⟩) hH ?rest2_0_2
        case hy2_0_2 => (intro w hSw; (try dsimp only at hSw); go_simp; try with_reducible rfl)
        try simp only [Act.put, List.setIfInBounds_toArray, List.set_cons_zero, List.set_cons_succ]
        refine wpAnyH_take (i := 3) (oi := { dst := some 64, op := Go.Op.fieldAddr 35 (Go.Operand.tmp 1) 0, type := 0, pos := "ref.go:97", after := #[], guard := none }) (v := ?v2_0_3) rfl (by as_aux_lemma => kernel_rfl) (by as_aux_lemma => kernel_rfl) (by as_aux_lemma => kernel_rfl) (fun _ _ _ h => h) (Or.inl ⟨(by as_aux_lemma => kernel_rfl), ?hy2_0_3⟩) hH ?rest2_0_3
        case hy2_0_3 => (intro w hSw; (try dsimp only at hSw); go_simp; try with_reducible rfl)
        try simp only [Act.put, List.setIfInBounds_toArray, List.set_cons_zero, List.set_cons_succ]
        refine wpAnyH_take (i := 4) (oi := { dst := some 65, op := Go.Op.load 33 (Go.Operand.tmp 64), type := 33, pos := "ref.go:97", after := #[{ on := 3, ground := Go.Ground.data }], guard := none }) (v := ?v2_0_4) rfl (by as_aux_lemma => kernel_rfl) (by as_aux_lemma => kernel_rfl) (by as_aux_lemma => kernel_rfl) (fun _ _ _ h => h) (Or.inl ⟨(by as_aux_lemma => kernel_rfl), ?hy2_0_4⟩) hH ?rest2_0_4
        case hy2_0_4 => (intro w hSw; (try dsimp only at hSw); go_simp; try with_reducible rfl)
        try simp only [Act.put, List.setIfInBounds_toArray, List.set_cons_zero, List.set_cons_succ]
        refine wpAnyH_take (i := 5) (oi := { dst := some 66, op := Go.Op.call { callee := Go.Callee.builtin Go.Builtin.len, args := #[Go.Operand.tmp 65], argTypes := #[33] }, type := 3, pos := "ref.go:97", after := #[{ on := 4, ground := Go.Ground.data }], guard := none }) (v := ?v2_0_5) rfl (by as_aux_lemma => kernel_rfl) (by as_aux_lemma => kernel_rfl) (by as_aux_lemma => kernel_rfl) (fun _ _ _ h => h) (Or.inl ⟨(by as_aux_lemma => kernel_rfl), ?hy2_0_5⟩) hH ?rest2_0_5
        case hy2_0_5 => (intro w hSw; (try dsimp only at hSw); go_simp; try with_reducible rfl)
        try simp only [Act.put, List.setIfInBounds_toArray, List.set_cons_zero, List.set_cons_succ]
        refine wpAnyH_take (i := 6) (oi := { dst := some 67, op := Go.Op.binOp Go.BinOp.add 3 (Go.Operand.tmp 63) (Go.Operand.tmp 66) 3, type := 3, pos := "ref.go:97", after := #[{ on := 2, ground := Go.Ground.data }, { on := 5, ground := Go.Ground.data }, { on := 8, ground := Go.Ground.gcOnly Go.Departure.lateStores }], guard := none }) (v := ?v2_0_6) rfl (by as_aux_lemma => kernel_rfl) (by as_aux_lemma => kernel_rfl) (by as_aux_lemma => kernel_rfl) (fun _ _ _ h => h) (Or.inl ⟨(by as_aux_lemma => kernel_rfl), ?hy2_0_6⟩) hH ?rest2_0_6
        case hy2_0_6 => (intro w hSw; (try dsimp only at hSw); go_simp; try with_reducible rfl)
        try simp only [Act.put, List.setIfInBounds_toArray, List.set_cons_zero, List.set_cons_succ]
        refine wpAnyH_take (i := 7) (oi := { dst := some 68, op := Go.Op.binOp Go.BinOp.sub 3 (Go.Operand.tmp 67) (Go.Operand.const (Go.Value.int Go.IntKind.i64 1)) 3, type := 3, pos := "ref.go:97", after := #[{ on := 6, ground := Go.Ground.data }, { on := 8, ground := Go.Ground.gcOnly Go.Departure.lateStores }], guard := none }) (v := ?v2_0_7) rfl (by as_aux_lemma => kernel_rfl) (by as_aux_lemma => kernel_rfl) (by as_aux_lemma => kernel_rfl) (fun _ _ _ h => h) (Or.inl ⟨(by as_aux_lemma => kernel_rfl), ?hy2_0_7⟩) hH ?rest2_0_7
        case hy2_0_7 => (intro w hSw; (try dsimp only at hSw); go_simp; try with_reducible rfl)
        try simp only [Act.put, List.setIfInBounds_toArray, List.set_cons_zero, List.set_cons_succ]
        have hz6 := (HZ.out.stay H8.out.2.1).stay hd0
        have v0 := hz6.c0
        have vz0 := hz6.z0
        refine wpAnyH_ready (rs := [8]) (by as_aux_lemma => kernel_rfl) (by simp) ?_
        refine AllReadyH.cons (o := { dst := none, op := Go.Op.store 35 (Go.Operand.tmp 2) (Go.Operand.tmp 62), type := 0, pos := "ref.go:97", after := #[{ on := 1, ground := Go.Ground.data }, { on := 0, ground := Go.Ground.phase }, { on := 1, ground := Go.Ground.phase }, { on := 2, ground := Go.Ground.textOnly Go.Departure.lateStores }, { on := 3, ground := Go.Ground.textOnly Go.Departure.lateStores }, { on := 4, ground := Go.Ground.textOnly Go.Departure.lateStores }, { on := 5, ground := Go.Ground.textOnly Go.Departure.lateStoresUnsure }, { on := 6, ground := Go.Ground.textOnly Go.Departure.lateStores }, { on := 7, ground := Go.Ground.textOnly Go.Departure.lateStores }], guard := none }) rfl (fun K hK => ?_) AllReadyH.nil
        go_simp
        refine hK.out _ _ ?_ (fun hH2 => ?_)
        · exact HS.out _ (fun k hk hne => (Below.heap_setCell _ ⟨b1, 0, none⟩ _ k hne).trans (hd0.block k hk))
        clear hK K hH
        have hH := hH2
        clear hH2
        have hkz : ∀ k, k < w6.heap.size → k ≠ b1 → (wd.setCell ⟨b1, 0, none⟩ (.slice A8 n8 c8)).heap[k]? = w6.heap[k]? := fun k hk hne => (Below.heap_setCell _ ⟨b1, 0, none⟩ _ k hne).trans (hd0.block k hk)
        have hz7 := hz6.put A8 n8 c8
        have hat8 := (H8.out.1.stay hd0).set (.slice A8 n8 c8)
        have hb8 := (H8.out.2.2.trans (hd0.mono H8.out.2.2.size)).setCell (p := ⟨b1, 0, none⟩) (by have := HO.out; show _ ≤ b1; omega) (.slice A8 n8 c8)
        clear v0 vz0
        generalize wd.setCell ⟨b1, 0, none⟩ (.slice A8 n8 c8) = w7 at *
        try simp only [Act.put, List.setIfInBounds_toArray, List.set_cons_zero, List.set_cons_succ]
        refine wpAnyH_ready (rs := [9]) (by as_aux_lemma => kernel_rfl) (by simp) ?_
        refine AllReadyH.cons (o := { dst := some 3, op := Go.Op.assign (Go.Operand.tmp 68), type := 3, pos := "ref.go:97", after := #[{ on := 7, ground := Go.Ground.data }, { on := 8, ground := Go.Ground.chain }, { on := 0, ground := Go.Ground.phase }, { on := 1, ground := Go.Ground.phase }, { on := 2, ground := Go.Ground.phase }, { on := 3, ground := Go.Ground.phase }, { on := 4, ground := Go.Ground.phase }, { on := 5, ground := Go.Ground.phase }, { on := 6, ground := Go.Ground.phase }, { on := 7, ground := Go.Ground.phase }, { on := 8, ground := Go.Ground.phase }], guard := none }) rfl (fun K hK => ?_) AllReadyH.nil
        go_simp
        refine hK.out _ _ ?_ (fun hH2 => ?_)
        · exact HS.out _ hkz
        clear hK K hH
        have hH := hH2
        clear hH2
        try simp only [Act.put, List.setIfInBounds_toArray, List.set_cons_zero, List.set_cons_succ]
        refine wpAnyH_done (by as_aux_lemma => kernel_rfl) ?_ _
        refine NoPanic.normal ?_
        clear hH
        have t0 := hz7.c0
        go_wp2_with fail
        refine bodyPost_ret (v := .tuple #[.agg #[.slice A8 n8 c8], .int .i64 ((N : Int) + ((n : Nat) : Int) - 1)]) (by simp [results, Tryd.results23, go_sem, t0]) rfl ?_
        refine ⟨A8, n8, c8, ?_, by rw [HD.out.1.1]; exact hat8, hb8⟩
        rw [HD.out.1.2, ← HD.out.2.2.2, show ((N + (n - 1) : Nat) : Int) = (N : Int) + ((n : Nat) : Int) - 1 by omega]

end Go.Proofs.YtkilmflcgljgeaaDoor
