/-
  Rows of the reference's trees (slagheapref07): what they say, what is behind the first one, that they stay; contract of the reference's ahead. No conditions beyond what each theorem says.
  Contract of the reference's ahead (slagheapref07): a tree, and others behind it. Condition: fewer than 10 to the 9th trees.
  A tree of the reference's in letters: what it says, that it stays; a variable that holds one; the reference's ahead and Link so; blocks outside a call's own; a region whose two orders come to one. No conditions beyond what each theorem says.
-/
import Derived.Test.YtaeainnkhjnlaaaGreatDoorTe
import Derived.Test.YtaeainnkhjnlaaaGreatDoorBh
import Derived.Deep.RegionHeld3
namespace Go.Proofs.YtaeainnkhjnlaaaGreatDoor
open Go.Sort Go.RowKit

/-- A row of trees as data. -/
def wood : List Tre → Wood
  | [] => .nil
  | t :: r => .cons t.x t.bs t.ks (wood r)
theorem wood_len : ∀ l : List Tre, (wood l).len = l.length
  | [] => rfl
  | _ :: r => by simp only [wood, Wood.len, List.length_cons, wood_len r]
theorem bSize_len : ∀ l : List Tre, l.length ≤ bSize l
  | [] => Nat.le_refl _
  | t :: r => by have := bSize_len r; simp only [List.length_cons, bSize, Tre.size]; omega
/-- A row of the reference's trees. -/
def HAt (F : Nat → Prop) (W : World) (l : List Tre) (A : Option Addr) (n c : Nat) : Prop :=
  n = l.length ∧ n ≤ c ∧ c ≤ 9223372036854775807 ∧ (A = none → c = 0) ∧ ∃ kc, KL F W (wood l) kc ∧ CAt F W A kc
section
variable {F F' : Nat → Prop} {W W' : World} {l : List Tre} {A : Option Addr} {n c : Nat}
theorem HAt.far (h : HAt F W l A n c) (hf : Far F F' W W') : HAt F' W' l A n c := by
  obtain ⟨h1, h2, h3, h4, kc, h5, h6⟩ := h
  exact ⟨h1, h2, h3, h4, kc, h5.far hf, h6.far hf⟩
theorem HAt.stay (h : HAt F W l A n c) (hb : Below W.heap.size W W') : HAt F W' l A n c := h.far (Far.below hb)
theorem HAt.nil (F : Nat → Prop) (W : World) (A : Option Addr) : HAt F W [] A 0 0 := ⟨rfl, Nat.le_refl _, by omega, fun _ => rfl, [], rfl, CAt.nil _ _ _⟩
/-- The first one's six cells, its value. -/
theorem HAt.first {t : Tre} (h : HAt F W (t :: l) A n c) : ∃ (b o : Nat) (Ab Ak : Option Addr) (cb ck : Nat), A = some ⟨b, o, none⟩ ∧ F b ∧
    (W.cell? ⟨b, o, none⟩ = some (.int .i64 t.ks.len) ∧ W.cell? ⟨b, o + 1, none⟩ = some (.int .i64 t.x.1) ∧ W.cell? ⟨b, o + 2, none⟩ = some (.int .i64 t.x.2) ∧ W.cell? ⟨b, o + 3, none⟩ = some (.slice Ab t.bs.length cb) ∧ W.cell? ⟨b, o + 4, none⟩ = some (.slice Ak t.ks.len ck) ∧ W.cell? ⟨b, o + 5, none⟩ = some (.int .i64 (t.size : Nat))) ∧
    RT F W (tV t.ks.len t.x (.slice Ab t.bs.length cb) (.slice Ak t.ks.len ck) (t.size : Nat)) (some t) := by
  obtain ⟨-, -, -, -, kc, hk, hC⟩ := h
  obtain ⟨b, o, Ab, Ak, cb, ck, rfl, h1, h2, -⟩ := kid_at (i := 0) (rest := wood l) hC (by simpa [wood] using hk)
  have hb : F b := by
    have hl := hk.length
    obtain ⟨b', o', e, hb', -⟩ := hC (by rw [hl]; simp only [wood, Wood.len]; omega)
    cases e; exact hb'
  simp only [Nat.zero_mul, Nat.add_zero] at h1
  exact ⟨b, o, Ab, Ak, cb, ck, rfl, hb, h1, h2⟩
/-- What is behind it. -/
theorem HAt.rest {t : Tre} {b o : Nat} (h : HAt F W (t :: l) (some ⟨b, o, none⟩) n c) : (c = 1 → HAt F W l (some ⟨b, o, none⟩) 0 0) ∧ HAt F W l (some ⟨b, o + 1 * 6, none⟩) (n - 1) (c - 1) := by
  obtain ⟨h1, h2, h3, -, kc, hk, hC⟩ := h
  simp only [List.length_cons] at h1
  refine ⟨fun e => ?_, ?_⟩
  · have : l = [] := List.eq_nil_of_length_eq_zero (by omega)
    subst this
    exact HAt.nil _ _ _
  · obtain ⟨b', o', Ab, Ak, cb, ck, e, -, -, hr⟩ := kid_at (i := 0) (rest := wood l) hC (by simpa [wood] using hk)
    refine ⟨by omega, by omega, by omega, (fun e => by cases e), kc.drop 6, by simpa using hr, fun hpos => ?_⟩
    have hpos' : 0 < kc.length := by rw [List.length_drop] at hpos; omega
    obtain ⟨b2, o2, e2, hb2, hc2⟩ := hC hpos'
    cases e2
    exact ⟨b, o + 1 * 6, rfl, hb2, fun j v hj => by
      rw [List.getElem?_drop] at hj
      have := hc2 (6 + j) v hj
      rwa [show o + (6 + j) = o + 1 * 6 + j by omega] at this⟩
end
/-- A tree ahead of others. -/
theorem HAt.cons {F : Nat → Prop} {W : World} {t : Tre} {l : List Tre} {A' : Option Addr} {n c' : Nat} {Ab Ak : Option Addr} {cb ck : Nat} {kc : List Value}
    (hR : RT F W (tV t.ks.len t.x (.slice Ab t.bs.length cb) (.slice Ak t.ks.len ck) (t.size : Nat)) (some t)) (hk : KL F W (wood l) kc) (hn : n = l.length) (hc : n + 1 ≤ c') (hc2 : c' ≤ 9223372036854775807) (hA : A' = none → c' = 0)
    (hC : CAt F W A' (.int .i64 t.ks.len :: .int .i64 t.x.1 :: .int .i64 t.x.2 :: .slice Ab t.bs.length cb :: .slice Ak t.ks.len ck :: .int .i64 (t.size : Nat) :: kc)) : HAt F W (t :: l) A' (n + 1) c' := by
  obtain ⟨Ab', Ak', cb', ck', kc', e, h1, h2, h3, h4⟩ := hR
  simp only [tV, Value.agg.injEq, Array.mk.injEq, List.cons.injEq, Value.slice.injEq, true_and, and_true] at e
  obtain ⟨⟨rfl, rfl⟩, rfl, rfl⟩ := e
  have hs : t.size = t.bs.length + t.ks.size + 1 := by simp only [Tre.size]; omega
  rw [hs] at hC
  exact ⟨by simp [hn], hc, hc2, hA, _, ⟨Ab, Ak, cb, ck, kc', kc, rfl, h1, ⟨h2, h3, h4⟩, hk⟩, hC⟩

/-- The same, with the capacity. -/
theorem append_kids2 (F : Nat → Prop) (w : World) (hF : ∀ b, w.heap.size ≤ b → F b) (r : Int) (y : Int × Int) (B K : Value) (s : Int) (A : Option Addr) (n c : Nat) (kc : List Value) (hl : kc.length = n * 6) (h1 : ∀ u ∈ kc, u.oneCell' = true)
    (hc : CAt F w A kc) (hA : A = none → c = 0) (hn : n < 1000000000) :
    ∃ A' c' w', (Builtin.append_ #[33, 33] 33 #[.slice (some ⟨w.heap.size, 0, none⟩) 1 1, .slice A n c]).run Tryz.prog (w.alloc (.cells #[.int .i64 r, .int .i64 y.1, .int .i64 y.2, B, K, .int .i64 s] 104)) = .ok (.slice A' (n + 1) c') w' ∧
      CAt F w' A' (.int .i64 r :: .int .i64 y.1 :: .int .i64 y.2 :: B :: K :: .int .i64 s :: kc) ∧ (A' = none → c' = 0) ∧ Below w.heap.size w w' ∧ n + 1 ≤ c' ∧ c' ≤ 9223372036854775807 := by
  obtain ⟨i0, hi, hz0, hz1, hz2⟩ := info_parts infoT
  have hb := (Below.refl w.heap.size w).alloc (Nat.le_refl _) (.cells #[.int .i64 r, .int .i64 y.1, .int .i64 y.2, B, K, .int .i64 s] 104)
  have hown : (w.alloc (.cells #[.int .i64 r, .int .i64 y.1, .int .i64 y.2, B, K, .int .i64 s] 104)).ownsRow w.heap.size 104 6 (.slice (some ⟨w.heap.size, 0, none⟩) 1 1) 1 [.int .i64 r, .int .i64 y.1, .int .i64 y.2, B, K, .int .i64 s] :=
    ⟨rfl, .inr ⟨w.heap.size, 1, #[.int .i64 r, .int .i64 y.1, .int .i64 y.2, B, K, .int .i64 s], rfl, Nat.le_refl _, World.alloc_heap_new w _, Nat.le_refl _, by unfold maxLen; omega, rfl, rfl⟩⟩
  have hc' := hc.far (Far.below hb)
  generalize w.alloc (.cells #[.int .i64 r, .int .i64 y.1, .int .i64 y.2, B, K, .int .i64 s] 104) = w1 at *
  have fin : ∀ v' w', w'.ownsRow w.heap.size 104 6 v' (1 + n) ([.int .i64 r, .int .i64 y.1, .int .i64 y.2, B, K, .int .i64 s] ++ kc) → w1.grownBy w' (Value.slice (some ⟨w.heap.size, 0, none⟩) 1 1).ownBlock →
      ∃ A' c', v' = .slice A' (n + 1) c' ∧ CAt F w' A' (.int .i64 r :: .int .i64 y.1 :: .int .i64 y.2 :: B :: K :: .int .i64 s :: kc) ∧ (A' = none → c' = 0) ∧ Below w.heap.size w w' ∧ n + 1 ≤ c' ∧ c' ≤ 9223372036854775807 := fun v' w' ho hg => by
    have hbw := below_grown hb hg hb.size (fun g e => by simp [Value.ownBlock] at e; omega)
    have h0 := ho
    rcases ho.2 with ⟨-, hz⟩ | ⟨g, cap, cur, rfl, hbg, -, hcp, hmx, -⟩
    · omega
    · refine ⟨_, cap, by rw [Nat.add_comm n 1], fun _ => ⟨g, 0, rfl, hF g hbg, fun j u hu => ?_⟩, (fun e => by cases e), hbw, by omega, by unfold maxLen at hmx; omega⟩
      have := h0.cells (g := g) rfl j u hu
      rwa [add_plain] at this
  have step : ∀ a : Addr, (∀ j u, kc[j]? = some u → w1.cell? (a.add j) = some u) → ∃ A' c' w', (Builtin.append_ #[33, 33] 33 #[.slice (some ⟨w.heap.size, 0, none⟩) 1 1, .slice (some a) n c]).run Tryz.prog w1 = .ok (.slice A' (n + 1) c') w' ∧
      CAt F w' A' (.int .i64 r :: .int .i64 y.1 :: .int .i64 y.2 :: B :: K :: .int .i64 s :: kc) ∧ (A' = none → c' = 0) ∧ Below w.heap.size w w' ∧ n + 1 ≤ c' ∧ c' ≤ 9223372036854775807 := by
    intro a ha
    obtain ⟨v', w', g1, g2, g3, _⟩ := run_append_own_at (P := Tryz.prog) w1 w.heap.size 33 33 104 i0 _ 6 80 Tryz.underlying33 hi hz0 hz1 hz2 rfl (by omega) _ 1 _ hown a n c kc hl ha h1 (by unfold maxLen; omega) (by omega) hb.size
    obtain ⟨A', c', rfl, q1, q2, q3⟩ := fin v' w' g2 g3
    exact ⟨A', c', w', g1, q1, q2, q3⟩
  by_cases h0 : 0 < kc.length
  · obtain ⟨b, o, rfl, -, hcell⟩ := hc' h0
    exact step _ (fun j u hu => by rw [add_plain]; exact hcell j u hu)
  · obtain rfl : kc = [] := List.eq_nil_of_length_eq_zero (by omega)
    cases A with
    | some a => exact step a (fun j u hu => by simp at hu)
    | none =>
      obtain rfl := hA rfl
      obtain rfl : n = 0 := by simp at hl; omega
      have hrun := run_append_owned_none (P := Tryz.prog) (w := w1) w.heap.size 33 33 104 i0 6 Tryz.underlying33 hi _ 1 _ hown
      obtain ⟨A', c', e, q1, q2, q3⟩ := fin _ w1 (by simpa using hown) (World.grownBy.refl w1 _)
      exact ⟨A', c', w1, by rw [hrun, e], q1, q2, q3⟩

/-- What a call hands back: a row of trees. -/
def GaveL (F : Nat → Prop) (l : List Tre) (w : World) (e : Ending) (w' : World) : Prop := ∃ A n c, e = .returned (.slice A n c) ∧ HAt F w' l A n c ∧ Below w.heap.size w w'
/-- .. and a number of steps. -/
def GaveLN (F : Nat → Prop) (l : List Tre) (k : Nat) (w : World) (e : Ending) (w' : World) : Prop := ∃ A n c, e = .returned (.tuple #[.slice A n c, .int .i64 (k : Int)]) ∧ HAt F w' l A n c ∧ Below w.heap.size w w'

end Go.Proofs.YtaeainnkhjnlaaaGreatDoor
namespace Go.Proofs.YtaeainnkhjnlaaaGreatDoor
open Go.Sort Go.RowKit

set_option maxRecDepth 100000 in
set_option maxHeartbeats 1000000 in
theorem refAhead (F : Nat → Prop) (t : Tre) (l : List Tre) (Ab Ak : Option Addr) (cb ck : Nat) (A : Option Addr) (n c : Nat) (w : World) (hF : ∀ k, w.heap.size ≤ k → F k) (hn : n < 1000000000) (hl : HAt F w l A n c) (kl bl sz : Nat) (x1 x2 : Int) (e1 : kl = t.ks.len) (e2 : bl = t.bs.length) (e3 : sz = t.size) (e4 : t.x = (x1, x2))
    (hR : RT F w (tV t.ks.len t.x (.slice Ab t.bs.length cb) (.slice Ak t.ks.len ck) (t.size : Nat)) (some t)) :
    Calls Tryz.prog 84 #[.agg #[.int .i64 kl, .int .i64 x1, .int .i64 x2, .slice Ab bl cb, .slice Ak kl ck, .int .i64 sz], .slice A n c] w (GaveL F (t :: l) w) := by
  obtain ⟨h1, h2, h3, h4, kc, hk, hC⟩ := hl
  have hb0 := (Below.refl w.heap.size w).alloc (Nat.le_refl _) (.cells #[.int .i64 kl, .int .i64 x1, .int .i64 x2, .slice Ab bl cb, .slice Ak kl ck, .int .i64 sz] 104)
  have hsz : (w.alloc (.cells #[.int .i64 kl, .int .i64 x1, .int .i64 x2, .slice Ab bl cb, .slice Ak kl ck, .int .i64 sz] 104)).heap.size = w.heap.size + 1 := by simp
  obtain ⟨A', c', w', hrun, hC', hA', hbw, hcap, hmx⟩ := append_kids2 F (w.alloc (.cells #[.int .i64 kl, .int .i64 x1, .int .i64 x2, .slice Ab bl cb, .slice Ak kl ck, .int .i64 sz] 104)) (fun k hk => hF k (by omega)) kl (x1, x2) (.slice Ab bl cb) (.slice Ak kl ck) sz A n c kc (by rw [hk.length, wood_len, h1]) hk.one (hC.far (Far.below hb0)) h4 hn
  rw [hsz] at hrun
  have H := Lib.hid (And.intro hC' (And.intro hA' (And.intro hbw (And.intro hcap (And.intro hmx (And.intro (hk.far (Far.below hb0)) (And.intro hb0 (hR.stay hb0))))))))
  have HE := Lib.hid (And.intro e1 (And.intro e2 (And.intro e3 (And.intro e4 h1))))
  clear hC' hA' hbw hcap hmx hk hC hR hb0 h2 h3 h4 hF hsz e1 e2 e3 e4 h1
  go_enter Tryz.func84, Tryz.ntmps84
  go_wp2_with (at_builtin; refine wpList_append_run rfl _ _ _ rfl _ _ _ _ rfl rfl hrun ?_)
  go_ret
  obtain ⟨hC', hA', hbw, hcap, hmx, hk, hb0, hR⟩ := H.out
  obtain ⟨e1, e2, e3, e4, h1⟩ := HE.out
  refine ⟨A', n + 1, c', rfl, ?_, hb0.trans (hbw.mono hb0.size)⟩
  subst e1 e2 e3
  refine HAt.cons (hR.stay hbw) (hk.far (Far.below hbw)) h1 hcap hmx hA' ?_
  rw [e4]
  exact hC'

end Go.Proofs.YtaeainnkhjnlaaaGreatDoor
namespace Go.Proofs.YtaeainnkhjnlaaaGreatDoor
open Go.Sort Go.RowKit

/-- A tree of the reference's, its value's parts as letters. -/
def TIs (F : Nat → Prop) (W : World) (t : Tre) (kl : Nat) (x1 x2 : Int) (Ab : Option Addr) (bl cb : Nat) (Ak : Option Addr) (ck sz : Nat) : Prop :=
  (kl = t.ks.len ∧ bl = t.bs.length ∧ sz = t.size ∧ t.x = (x1, x2)) ∧ RT F W (tV t.ks.len t.x (.slice Ab t.bs.length cb) (.slice Ak t.ks.len ck) (t.size : Nat)) (some t)
/-- A variable of six cells that holds one. -/
def TVar (W : World) (b : Nat) (kl : Nat) (x1 x2 : Int) (Ab : Option Addr) (bl cb : Nat) (Ak : Option Addr) (ck sz : Nat) : Prop :=
  W.heap[b]? = some (.cells #[.int .i64 kl, .int .i64 x1, .int .i64 x2, .slice Ab bl cb, .slice Ak kl ck, .int .i64 sz] 104 (0, 0))
/-- Its value. -/
abbrev TVal (kl : Nat) (x1 x2 : Int) (Ab : Option Addr) (bl cb : Nat) (Ak : Option Addr) (ck sz : Nat) : Value := .agg #[.int .i64 kl, .int .i64 x1, .int .i64 x2, .slice Ab bl cb, .slice Ak kl ck, .int .i64 sz]
section
variable {F F' : Nat → Prop} {W W' : World} {t : Tre} {kl : Nat} {x1 x2 : Int} {Ab Ak : Option Addr} {bl cb ck sz b : Nat}
theorem TIs.far (h : TIs F W t kl x1 x2 Ab bl cb Ak ck sz) (hf : Far F F' W W') : TIs F' W' t kl x1 x2 Ab bl cb Ak ck sz := ⟨h.1, h.2.far hf⟩
theorem TIs.stay (h : TIs F W t kl x1 x2 Ab bl cb Ak ck sz) (hb : Below W.heap.size W W') : TIs F W' t kl x1 x2 Ab bl cb Ak ck sz := h.far (Far.below hb)
theorem TVar.hex (h : TVar W b kl x1 x2 Ab bl cb Ak ck sz) : Hex W b (.int .i64 kl) (.int .i64 x1) (.int .i64 x2) (.slice Ab bl cb) (.slice Ak kl ck) (.int .i64 sz) := hex_at h
theorem TVar.stay (h : TVar W b kl x1 x2 Ab bl cb Ak ck sz) (hb : Below W.heap.size W W') : TVar W' b kl x1 x2 Ab bl cb Ak ck sz := (hb.block b (lt_of_heap h)).trans h
theorem TVar.lt (h : TVar W b kl x1 x2 Ab bl cb Ak ck sz) : b < W.heap.size := lt_of_heap h
/-- The first one of a row. -/
theorem HAt.firstT {l : List Tre} {A : Option Addr} {n c : Nat} (h : HAt F W (t :: l) A n c) : ∃ (b o : Nat) (kl : Nat) (x1 x2 : Int) (Ab : Option Addr) (bl cb : Nat) (Ak : Option Addr) (ck sz : Nat), A = some ⟨b, o, none⟩ ∧ F b ∧
    (W.cell? ⟨b, o, none⟩ = some (.int .i64 kl) ∧ W.cell? ⟨b, o + 1, none⟩ = some (.int .i64 x1) ∧ W.cell? ⟨b, o + 2, none⟩ = some (.int .i64 x2) ∧ W.cell? ⟨b, o + 3, none⟩ = some (.slice Ab bl cb) ∧ W.cell? ⟨b, o + 4, none⟩ = some (.slice Ak kl ck) ∧ W.cell? ⟨b, o + 5, none⟩ = some (.int .i64 sz)) ∧
    TIs F W t kl x1 x2 Ab bl cb Ak ck sz := by
  obtain ⟨b, o, Ab, Ak, cb, ck, h1, h2, h3, h4⟩ := h.first
  exact ⟨b, o, t.ks.len, t.x.1, t.x.2, Ab, t.bs.length, cb, Ak, ck, t.size, h1, h2, h3, ⟨rfl, rfl, rfl, rfl⟩, h4⟩
end
theorem refAheadT {F : Nat → Prop} {t : Tre} {l : List Tre} {kl : Nat} {x1 x2 : Int} {Ab Ak : Option Addr} {bl cb ck sz : Nat} {A : Option Addr} {n c : Nat} (w : World) (hF : ∀ k, w.heap.size ≤ k → F k) (hn : n < 1000000000) (hl : HAt F w l A n c) (ht : TIs F w t kl x1 x2 Ab bl cb Ak ck sz) :
    Calls Tryz.prog 84 #[TVal kl x1 x2 Ab bl cb Ak ck sz, .slice A n c] w (GaveL F (t :: l) w) :=
  refAhead F t l Ab Ak cb ck A n c w hF hn hl kl bl sz x1 x2 ht.1.1 ht.1.2.1 ht.1.2.2.1 ht.1.2.2.2 ht.2
/-- What Link hands back. -/
def GaveT (F : Nat → Prop) (t : Tre) (w : World) (e : Ending) (w' : World) : Prop := ∃ (kl : Nat) (x1 x2 : Int) (Ab : Option Addr) (bl cb : Nat) (Ak : Option Addr) (ck sz : Nat),
  e = .returned (.tuple #[TVal kl x1 x2 Ab bl cb Ak ck sz, .int .i64 2]) ∧ TIs F w' t kl x1 x2 Ab bl cb Ak ck sz ∧ Below w.heap.size w w'
theorem refLinkT {F : Nat → Prop} {s t : Tre} {kl : Nat} {x1 x2 : Int} {Ab Ak : Option Addr} {bl cb ck sz : Nat} {kl' : Nat} {y1 y2 : Int} {Ab' Ak' : Option Addr} {bl' cb' ck' sz' : Nat} (w : World) (hF : ∀ k, w.heap.size ≤ k → F k) (ha : TIs F w s kl x1 x2 Ab bl cb Ak ck sz) (hb : TIs F w t kl' y1 y2 Ab' bl' cb' Ak' ck' sz') (hs : s.size + t.size < 268435456) :
    Calls Tryz.prog 80 #[TVal kl x1 x2 Ab bl cb Ak ck sz, TVal kl' y1 y2 Ab' bl' cb' Ak' ck' sz'] w (GaveT F (lnk s t) w) := by
  obtain ⟨⟨rfl, rfl, rfl, e4⟩, h2⟩ := ha
  obtain ⟨⟨rfl, rfl, rfl, f4⟩, k2⟩ := hb
  rw [e4] at h2
  rw [f4] at k2
  refine (refLink_any F _ _ (some s) (some t) w hF h2 k2 (by simp only [osize]; omega) (by simp only [osize]; omega)).mono fun e w' ⟨V, he, hr, hbw⟩ => ?_
  have hr0 := hr
  obtain ⟨Ab3, Ak3, cb3, ck3, kc3, rfl, -⟩ := hr
  exact ⟨(lnk s t).ks.len, (lnk s t).x.1, (lnk s t).x.2, Ab3, (lnk s t).bs.length, cb3, Ak3, ck3, (lnk s t).size, he, ⟨⟨rfl, rfl, rfl, rfl⟩, hr0⟩, hbw⟩

/-- Blocks of which F holds, but b. -/
def Fb (F : Nat → Prop) (b k : Nat) : Prop := F k ∧ k ≠ b
theorem Fb.of {F : Nat → Prop} {b k : Nat} (h : F k) (h2 : k ≠ b) : Fb F b k := ⟨h, h2⟩
/-- A region's ends, whatever its order, told at once: what follows is walked from there. -/
theorem wp_after {P : Program} {c : Code} {a : Act} {w : World} {Q : Exit → Act → World → Prop} (R : Act → Act → World → Prop) (h1 : c.wp P (fun e a' w' => e = .normal ∧ R a a' w') a w) (h2 : ∀ a' w', R a a' w' → Q .normal a' w') : c.wp P Q a w :=
  Code.wp_mono (fun e a' w' h => by obtain ⟨rfl, hr⟩ := h; exact h2 a' w' hr) h1
/-- A variable is written, cell by cell. -/
theorem TVar.wrote {W : World} {b : Nat} {kl : Nat} {x1 x2 : Int} {Ab Ak : Option Addr} {bl cb ck sz : Nat} (h : TVar W b kl x1 x2 Ab bl cb Ak ck sz) (kl' : Nat) (y1 y2 : Int) (Ab' : Option Addr) (bl' cb' : Nat) (Ak' : Option Addr) (ck' sz' : Nat) :
    TVar (set6 W b (.int .i64 kl') (.int .i64 y1) (.int .i64 y2) (.slice Ab' bl' cb') (.slice Ak' kl' ck') (.int .i64 sz')) b kl' y1 y2 Ab' bl' cb' Ak' ck' sz' := by
  unfold set6
  exact heap_put (j := 5) (heap_put (j := 4) (heap_put (j := 3) (heap_put (j := 2) (heap_put (j := 1) (heap_put (j := 0) h _) _) _) _) _) _

end Go.Proofs.YtaeainnkhjnlaaaGreatDoor
