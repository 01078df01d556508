/-
  A range over a method value with two variables, of which one is made anew in each round, over an iterator that keeps rows of its own in memory: they are told from the loop's by the types of their blocks. Of no program; no conditions beyond what the theorem says.
-/
import Derived.Test.YtlmokendajgbdaaGreatDoorMa
import Derived.Test.YtlmokendajgbdaaGreatDoorMb
namespace Go.Proofs.YtlmokendajgbdaaGreatDoor
open Go.RowKit

/-- Blocks of the types M alone may have turned, and none that lies below the base; new ones. -/
structure Mv (base : Nat) (M : TypeId → Prop) (W W' : World) : Prop where
  os : W'.os = W.os
  tape : W'.tape = W.tape
  output : W'.output = W.output
  size : W.heap.size ≤ W'.heap.size
  block : ∀ k, k < W.heap.size → (k < base ∨ ∀ cs t z, W.heap[k]? = some (.cells cs t z) → ¬ M t) → W'.heap[k]? = W.heap[k]?
theorem Mv.below {base : Nat} {M : TypeId → Prop} {W W' : World} (h : Below W.heap.size W W') : Mv base M W W' := ⟨h.os, h.tape, h.output, h.size, fun k hk _ => h.block k hk⟩
theorem Mv.trans {base : Nat} {M : TypeId → Prop} {U V W : World} (h : Mv base M U V) (k : Mv base M V W) : Mv base M U W :=
  ⟨k.os.trans h.os, k.tape.trans h.tape, k.output.trans h.output, Nat.le_trans h.size k.size, fun i hi hc => by
    have e := h.block i hi hc
    exact (k.block i (Nat.lt_of_lt_of_le hi h.size) (hc.imp id fun f cs t z he => f cs t z (e ▸ he))).trans e⟩
theorem Mv.grown {base : Nat} {M : TypeId → Prop} {W W' : World} {row : Option Nat} (hg : W.grownBy W' row) (hr : ∀ g, row = some g → base ≤ g ∧ ∃ cs t z, W.heap[g]? = some (.cells cs t z) ∧ M t) : Mv base M W W' :=
  ⟨hg.os, hg.tape, hg.output, hg.size, fun k hk hc => hg.block k hk fun e => by
    obtain ⟨h1, cs, t, z, h2, h3⟩ := hr k e.symm
    rcases hc with hc | hc
    · omega
    · exact hc cs t z h2 h3⟩
/-- What does not lie in a block of those types stays. -/
theorem Mv.cells {base : Nat} {M : TypeId → Prop} {W W' : World} (h : Mv base M W W') {k : Nat} {cs : Array Value} {t : TypeId} {z : Nat × Nat} (he : W.heap[k]? = some (.cells cs t z)) (hM : ¬ M t) : W'.heap[k]? = some (.cells cs t z) :=
  (h.block k (lt_of_heap he) (.inr fun cs' t' z' e => by rw [he] at e; cases e; exact hM)).trans he
theorem Mv.bel {base : Nat} {M : TypeId → Prop} {W W' : World} (h : Mv base M W W') (hs : base ≤ W.heap.size) : Below base W W' := ⟨h.os, h.tape, h.output, h.size, fun k hk => h.block k (Nat.lt_of_lt_of_le hk hs) (.inl hk)⟩

/-- What an iterator does that tells xs, one by one, to a yield that always goes on and keeps all blocks of the types N. -/
def Tells3 {α : Type} (F : Fence) (n : Nat) (P : Program) (gf : Nat) (fs : Array Value) (e1 e2 : α → Value) (M N : TypeId → Prop) (xs : List α) (w : World) : Prop :=
  ∀ (l : Nat) (J : List α → World → Prop) (W : World), Below w.heap.size w W → (∀ s A B, J s A → Mv w.heap.size M A B → J s B) →
    (∀ pre x W1, J pre W1 → (pre ++ [x]) <+: xs → YieldAt F (n - 1) P l #[e1 x, e2 x] W1 fun e W' => e = .returned (.bool true) ∧ J (pre ++ [x]) W' ∧ Kpt N W1 W' ∧ W1.heap.size ≤ W'.heap.size) → J [] W →
    CallsIn F n P gf (fs ++ #[.func (.yield l) #[] #[]]) W fun e W' => (∃ v, e = .returned v) ∧ J xs W'

/-- How the body ends: it goes on, never leaves, and keeps its word. -/
def goesOn3 {α : Type} (B : Nat) (N : TypeId → Prop) (I : List α → World → Prop) (xs : List α) (W : World) : Exit → Act → World → Prop
  | .normal, _, W' => KeepsFrom B W W' ∧ Kpt N W W' ∧ I xs W'
  | _, _, _ => False

theorem kpt_put {N : TypeId → Prop} {W : World} {l : Nat} {o o' : Obj} (hl : W.heap[l]? = some o) (ho : o.isCells = false) : Kpt N W (W.putObj l o') := fun k cs t _ e => by
  have hne : k ≠ l := fun ek => by subst ek; rw [hl] at e; cases e; cases ho
  exact (World.putObj_heap_other hne).trans e
theorem size_put {W : World} {l : Nat} {o : Obj} : (W.putObj l o).heap.size = W.heap.size := by simp [World.putObj]

theorem range_bound3 {F : Fence} {n : Nat} {P : Program} {α : Type} {g : Operand} {p q : Tmp} {assign body : Code} {Q : Exit → Act → World → Prop} {a : Act} {w : World}
    (hro : F.round = none) (h1 : 1 ≤ n) {gf : Nat} {fs : Array Value} (hg : a.eval g = .func (.func gf) fs #[]) (hF : F.fn gf) (eg : ∀ args w, (callFunc gf args).run P w = .ok (.enter gf args) w)
    {e1 e2 : α → Value} {M N : TypeId → Prop} {xs : List α} (hseq : Tells3 F (n - 1) P gf fs e1 e2 M N xs w)
    (I : List α → World → Prop) (hI : OwnFrom w.heap.size I) (hMv : ∀ s A B, I s A → Mv w.heap.size M A B → I s B) (h0 : I [] w) (J : α → Act → World → Prop) (hJ : ∀ x a1, OwnFrom w.heap.size (fun (_ : List α) W => J x a1 W))
    (hassign : ∀ (l : Nat) (x : α) (W : World) (K : Act → World → Prop), (∀ a1 W1, J x a1 W1 → Below W.heap.size W W1 → K a1 W1) → assign.wpIn (F.inRound l) (n - 1 - 1) P (Exit.then K (fun _ _ _ => False)) { tmps := (a.tmps.setIfInBounds p (e1 x)).setIfInBounds q (e2 x), defers := [] } W)
    (hbody : ∀ (l : Nat) (pre : List α) (x : α) (a1 : Act) (W : World), J x a1 W → I pre W → (pre ++ [x]) <+: xs → body.wpIn (F.inRound l) (n - 1 - 1) P (goesOn3 w.heap.size N I (pre ++ [x]) W) a1 W)
    (hdone : ∀ (D : Nat) (W : World), w.heap.size ≤ D → I xs W → W.heap[D]? = some (.deferred (some [])) → Q .normal { a with defers := { target := .collected D, args := #[] } :: a.defers } W) :
    (Code.rangeFunc g #[p, q] assign body).wpIn F n P Q a w := by
  refine wpIn_rangeFunc ?_
  intro fn hfn
  rw [hro]
  let R : LoopState → Obj := fun st => .loop (recAt fn a.tmps #[p, q] assign body w.heap.size st)
  let W1 : World := (w.alloc (.deferred (some []))).alloc (R .ready)
  have hs1 : W1.heap.size = w.heap.size + 1 + 1 := by simp [W1]
  have hL1 : W1.heap[w.heap.size + 1]? = some (R .ready) := by
    have := World.alloc_heap_new (w.alloc (.deferred (some []))) (R .ready)
    rwa [World.size_alloc] at this
  have hK1 : W1.heap[w.heap.size]? = some (.deferred (some [])) := (Below.heap_alloc _ _ _ (by simp)).trans (World.alloc_heap_new w _)
  have hb1 : Below w.heap.size w W1 := ((Below.refl _ w).alloc (Nat.le_refl _) _).alloc (by simp) _
  refine ⟨w.heap.size + 1, [{ target := .collected w.heap.size, args := #[] }], W1, { target := .fn (.func gf) #[], args := fs ++ #[.func (.yield (w.heap.size + 1)) #[] #[]] }, W1, gf, fs ++ #[.func (.yield (w.heap.size + 1)) #[] #[]], W1, ?_, ?_, ?_, ?_, fun _ => h1, ?_⟩
  · exact run_enterLoop_outer _ _ _ _ _
  · simp only [resolve, hg]
    simp [go_sem]
  · intro f' hf'
    simp [Target.leads] at hf'
    subst hf'
    exact hF
  · simp [invoke, go_sem, eg]
  · refine (hseq (w.heap.size + 1) (fun pre W => I pre W ∧ W.heap[w.heap.size + 1]? = some (R .ready) ∧ W.heap[w.heap.size]? = some (.deferred (some []))) W1 hb1 ?_ ?_ ⟨hI.alloc _ (hI.alloc _ h0), hL1, hK1⟩).mono ?_
    · rintro s A B ⟨hi, hl, hk⟩ hm
      exact ⟨hMv s A B hi hm, (hm.block _ (Array.getElem?_eq_some_iff.1 hl).1 (.inr fun cs t z e => by rw [hl] at e; cases e)).trans hl, (hm.block _ (Array.getElem?_eq_some_iff.1 hk).1 (.inr fun cs t z e => by rw [hk] at e; cases e)).trans hk⟩
    · rintro pre x W0 ⟨hi0, hl0, hk0⟩ hlen
      have hlt0 : w.heap.size + 1 < W0.heap.size := (Array.getElem?_eq_some_iff.1 hl0).1
      have hy := run_yield (P := P) (args := #[e1 x, e2 x]) hl0 (by rfl)
      have et : ((recAt fn a.tmps #[p, q] assign body w.heap.size .ready).params.zip #[e1 x, e2 x]).foldl (fun t (q, v) => t.setIfInBounds q v) (recAt fn a.tmps #[p, q] assign body w.heap.size .ready).tmps = (a.tmps.setIfInBounds p (e1 x)).setIfInBounds q (e2 x) := by simp [recAt]
      rw [et] at hy
      refine ⟨fn, _, assign, body, hy, roundIn_of_wpIn hfn ?_⟩
      refine hassign _ x W0 _ (fun a1 W hj hbw => ?_)
      have hl : W.heap[w.heap.size + 1]? = some (R .ready) := (hbw.block _ hlt0).trans hl0
      have hk : W.heap[w.heap.size]? = some (.deferred (some [])) := (hbw.block _ (by omega)).trans hk0
      have hi : I pre W := hI pre W0 W none hi0 ⟨hbw.os, hbw.tape, hbw.output, hbw.size, fun k hk _ => hbw.block k hk⟩ (fun r e => by cases e)
      have hlt : w.heap.size + 1 < W.heap.size := (Array.getElem?_eq_some_iff.1 hl).1
      refine ⟨_, run_beginRound hl rfl, ?_⟩
      have hl2 : (W.putObj (w.heap.size + 1) (R .busy)).heap[w.heap.size + 1]? = some (R .busy) := World.putObj_heap_same hlt
      have hk2 : (W.putObj (w.heap.size + 1) (R .busy)).heap[w.heap.size]? = some (.deferred (some [])) := (World.putObj_heap_other (by omega)).trans hk
      have hw2 : Kpt N W (W.putObj (w.heap.size + 1) (R .busy)) := kpt_put hl rfl
      have hw0 : Kpt N W0 W := Kpt.below hbw
      refine wpIn_mono (hbody _ pre x a1 (W.putObj (w.heap.size + 1) (R .busy)) ((hJ x a1).putObj (s := []) _ hj (by omega) hl rfl) (hI.putObj _ hi (by omega) hl rfl) hlen) ?_
      rintro e a3 W3 hp
      cases e with
      | normal =>
        obtain ⟨hk3, hb3, hi3⟩ := hp
        have hl3 := hk3.same _ _ (by omega) hl2 rfl
        refine ⟨_, _, run_endRound none hl3, rfl, ⟨hI.putObj _ hi3 (by omega) hl3 rfl, ?_, ?_⟩, ((hw0.trans hw2).trans hb3).trans (kpt_put hl3 rfl), ?_⟩
        · exact World.putObj_heap_same (Array.getElem?_eq_some_iff.1 hl3).1
        · exact (World.putObj_heap_other (by omega)).trans (hk3.same _ _ (Nat.le_refl _) hk2 rfl)
        · have h5 := hbw.size
          have h6 := hk3.size
          rw [size_put] at h6 ⊢
          omega
      | ret => exact hp.elim
      | exit id => exact hp.elim
      | goto t => exact hp.elim
      | panic ch => exact hp.elim
      | outgrown => exact hp.elim
    · rintro e W2 ⟨⟨v, rfl⟩, hi, hl, hk⟩
      exact ⟨none, _, run_endLoop hl (by simp [recAt]), hdone _ _ (Nat.le_refl _) (hI.putObj _ hi (by omega) hl rfl) ((World.putObj_heap_other (by omega)).trans hk)⟩

end Go.Proofs.YtlmokendajgbdaaGreatDoor
