/-
  RankPlays' state: the meter, the slice of all trees, the slice of all of the reference's trees, each of the call's own; how it goes on when nothing but a meter turns, and when a tree is put at the end of either slice. No conditions beyond what each theorem says. RankPlays' loop over the acts: how its state begins, what stands at the head of each round. No conditions beyond what each theorem says.
-/
import Derived.Test.YtlkpmafgokoaiaaDoorRf5
import Derived.Test.YtlkpmafgokoaiaaDoorRr0
import Derived.Test.YtlkpmafgokoaiaaDoorRawake
import Derived.Test.YtlkpmafgokoaiaaDoorRacts
import Derived.Test.YtlkpmafgokoaiaaDoorRf7
import Derived.Test.YtlkpmafgokoaiaaDoorRf8
import Derived.Deep.RegionHeld3
namespace Go.Proofs.YtlkpmafgokoaiaaDoor
open Go.Sort Go.RowKit

/-- Blocks that are neither slice's, nor the meter's. -/
def Fp (u v : Value) (mb : Nat) (k : Nat) : Prop := u.ownBlock ≠ some k ∧ v.ownBlock ≠ some k ∧ k ≠ mb
/-- At these addresses are these trees, some of them none. -/
structure TLo (W : World) (ps : List (Option Addr)) (ts : List (Option Tre)) : Prop where
  len : ps.length = ts.length
  tree : ∀ (j : Nat) (t : Option Tre), ts[j]? = some t → ∃ p, ps[j]? = some p ∧ TAt W p t
theorem TLo.kp {W W' : World} {ps : List (Option Addr)} {ts : List (Option Tre)} (h : TLo W ps ts) (hk : Kp W W') : TLo W' ps ts := ⟨h.len, fun j t ht => by obtain ⟨p, h1, h2⟩ := h.tree j t ht; exact ⟨p, h1, h2.kp hk⟩⟩
theorem snoc_at {α : Type} {l : List α} {x y : α} {j : Nat} (h : (l ++ [x])[j]? = some y) : l[j]? = some y ∨ (j = l.length ∧ y = x) := by
  by_cases hj : j < l.length
  · rw [List.getElem?_append_left hj] at h; exact .inl h
  · have h2 := (List.getElem?_eq_some_iff.1 h).1
    simp at h2
    have e : j = l.length := by omega
    subst e
    rw [List.getElem?_append_right (Nat.le_refl _)] at h
    simp at h
    exact .inr ⟨rfl, h.symm⟩
theorem TLo.snoc {W : World} {ps : List (Option Addr)} {ts : List (Option Tre)} (h : TLo W ps ts) {p : Option Addr} {t : Option Tre} (ht : TAt W p t) : TLo W (ps ++ [p]) (ts ++ [t]) :=
  ⟨by simp [h.len], fun j u hu => by
    rcases snoc_at hu with hu | ⟨rfl, rfl⟩
    · obtain ⟨q, h1, h2⟩ := h.tree j u hu
      exact ⟨q, by rw [List.getElem?_append_left (List.getElem?_eq_some_iff.1 h1).1]; exact h1, h2⟩
    · exact ⟨p, by rw [List.getElem?_append_right (by rw [h.len]; exact Nat.le_refl _), h.len]; simp, ht⟩⟩

/-- The six cells of a tree of the reference's, the j-th of a row. -/
def RTAt (F : Nat → Prop) (W : World) (cs : List Value) (j : Nat) (t : Option Tre) : Prop := ∃ (r : Int) (x : Int × Int) (A A' : Option Addr) (n k n' k' : Nat),
  (cs[j * 6]? = some (.int .i64 r) ∧ cs[j * 6 + 1]? = some (.int .i64 x.1) ∧ cs[j * 6 + 2]? = some (.int .i64 x.2) ∧ cs[j * 6 + 3]? = some (.slice A n k) ∧ cs[j * 6 + 4]? = some (.slice A' n' k') ∧ cs[j * 6 + 5]? = some (.int .i64 (osize t : Nat))) ∧
    RT F W (tV r x (.slice A n k) (.slice A' n' k') (osize t : Nat)) t
theorem RTAt.far {F F' : Nat → Prop} {W W' : World} {cs : List Value} {j : Nat} {t : Option Tre} (h : RTAt F W cs j t) (hf : Far F F' W W') : RTAt F' W' cs j t := by
  obtain ⟨r, x, A, A', n, k, n', k', hc, hr⟩ := h
  exact ⟨r, x, A, A', n, k, n', k', hc, hr.far hf⟩
theorem RTAt.left {F : Nat → Prop} {W : World} {cs es : List Value} {j : Nat} {t : Option Tre} (h : RTAt F W cs j t) : RTAt F W (cs ++ es) j t := by
  obtain ⟨r, x, A, A', n, k, n', k', ⟨h0, h1, h2, h3, h4, h5⟩, hr⟩ := h
  have up : ∀ {i : Nat} {u : Value}, cs[i]? = some u → (cs ++ es)[i]? = some u := fun {i u} hi => by rw [List.getElem?_append_left (List.getElem?_eq_some_iff.1 hi).1]; exact hi
  exact ⟨r, x, A, A', n, k, n', k', ⟨up h0, up h1, up h2, up h3, up h4, up h5⟩, hr⟩

/-- The state, over the call's first world w. -/
structure St (w : World) (mb : Nat) (u v : Value) (ps : List (Option Addr)) (tu : List (Option Tre)) (cs : List Value) (tv : List (Option Tre)) (c m : Int) (W : World) : Prop where
  o1 : Own1 w mb c m W
  ou : OwnP W w.heap.size u ps
  ov : W.ownsRow w.heap.size 32 6 v tv.length cs
  tl : TLo W ps tu
  rt : ∀ j t, tv[j]? = some t → RTAt (Fp u v mb) W cs j t

theorem own_type {w : World} {base : Nat} {e t : TypeId} {size : Nat} {v : Value} {n : Nat} {xs : List Value} (h : w.ownsRow base e size v n xs) {k : Nat} {cur : Array Value} {z : Nat × Nat} (hk : w.heap[k]? = some (.cells cur t z)) (ht : t ≠ e) : v.ownBlock ≠ some k := by
  rcases h.2 with ⟨rfl, -⟩ | ⟨g, cap, cur', rfl, -, hg, -⟩
  · simp [Value.ownBlock]
  · simp only [Value.ownBlock, ne_eq, Option.some.injEq]
    rintro rfl
    rw [hg] at hk
    injection hk with hk
    injection hk with _ hk _
    exact ht hk.symm
theorem own_here {w : World} {base : Nat} {e : TypeId} {size : Nat} {v : Value} {n : Nat} {xs : List Value} (h : w.ownsRow base e size v n xs) {k : Nat} (hk : v.ownBlock = some k) : ∃ cur, w.heap[k]? = some (.cells cur e (0, 0)) := by
  rcases h.2 with ⟨rfl, -⟩ | ⟨g, cap, cur', rfl, -, hg, -⟩
  · simp [Value.ownBlock] at hk
  · simp only [Value.ownBlock, Option.some.injEq] at hk
    subst hk
    exact ⟨_, hg⟩

section
variable {w : World} {mb : Nat} {u v : Value} {ps : List (Option Addr)} {tu : List (Option Tre)} {cs : List Value} {tv : List (Option Tre)} {c m : Int} {W W' : World}
theorem St.u_mb (h : St w mb u v ps tu cs tv c m W) : u.ownBlock ≠ some mb := own_type h.ou (show W.heap[mb]? = _ from h.o1.mt) (by decide)
theorem St.v_mb (h : St w mb u v ps tu cs tv c m W) : v.ownBlock ≠ some mb := own_type h.ov (show W.heap[mb]? = _ from h.o1.mt) (by decide)
theorem St.u_v (h : St w mb u v ps tu cs tv c m W) : u.ownBlock = none ∨ u.ownBlock ≠ v.ownBlock := by
  cases hv : v.ownBlock with
  | none => cases hu : u.ownBlock <;> simp
  | some k =>
    obtain ⟨cur, hk⟩ := own_here h.ov hv
    exact .inr (own_type h.ou hk (by decide))
theorem St.v_u (h : St w mb u v ps tu cs tv c m W) : v.ownBlock = none ∨ v.ownBlock ≠ u.ownBlock := by
  cases hu : u.ownBlock with
  | none => cases hv : v.ownBlock <;> simp
  | some k =>
    obtain ⟨cur, hk⟩ := own_here h.ou hu
    exact .inr (own_type h.ov hk (by decide))

/-- Nothing that was there has changed. -/
theorem St.stay (h : St w mb u v ps tu cs tv c m W) (hb : Below W.heap.size W W') : St w mb u v ps tu cs tv c m W' :=
  ⟨h.o1.stay hb, h.ou.stay hb, World.ownsRow.kept h.ov (row := none) ⟨hb.os, hb.tape, hb.output, hb.size, fun k hk _ => hb.block k hk⟩ (by cases v.ownBlock <;> simp), h.tl.kp (Kp.below hb), fun j t ht => (h.rt j t ht).far (Far.below hb)⟩
theorem bt_far {F : Nat → Prop} (hF : ¬ F mb) (hb : Bt (some mb) W W') : Far F F W W' := ⟨fun k hk hf => hb.block k hk (fun e => by injection e with e; subst e; exact hF hf), fun _ _ h => h⟩
/-- The meter alone has turned. -/
theorem St.turn (h : St w mb u v ps tu cs tv c m W) {c' m' : Int} (hm : MAt W' (some mb) c' m') (hb : Bt (some mb) W W') : St w mb u v ps tu cs tv c' m' W' := by
  have hg : W.grownBy W' (some mb) := ⟨hb.os, hb.tape, hb.output, hb.size, fun k hk hne => hb.block k hk (fun e => hne e.symm)⟩
  exact ⟨h.o1.turn hm hb, World.ownsRow.kept h.ou hg (.inr h.u_mb), World.ownsRow.kept h.ov hg (.inr h.v_mb), h.tl.kp (hb.kp h.o1.mt), fun j t ht => (h.rt j t ht).far (bt_far (fun hf => hf.2.2 rfl) hb)⟩

/-- The slice of all trees has grown by one. -/
theorem St.grow_u (h : St w mb u v ps tu cs tv c m W) {u' : Value} {p : Option Addr} {t : Option Tre} (hg : W.grownBy W' u.ownBlock) (ho : OwnP W' w.heap.size u' (ps ++ [p])) (hb : u'.ownBlock = u.ownBlock ∨ u'.ownBlock = some W.heap.size) (ht : TAt W p t) :
    St w mb u' v (ps ++ [p]) (tu ++ [t]) cs tv c m W' := by
  have hk : Kp W W' := Kp.grown hg fun g hgb cur ty hc hty => by
    obtain ⟨cur', hk⟩ := own_here h.ou hgb
    rw [hk] at hc
    injection hc with hc
    injection hc with _ hc _
    rw [← hc] at hty
    exact absurd hty (by decide)
  refine ⟨⟨below_grown h.o1.below hg h.o1.below.size (fun g hgb => h.ou.block g hgb), h.o1.own, ?_⟩, ho, World.ownsRow.kept h.ov hg h.v_u, (h.tl.kp hk).snoc (ht.kp hk), fun j t' ht' => (h.rt j t' ht').far ⟨fun k hk hf => hg.block k hk (fun e => hf.1 e.symm), fun k hk hf => ⟨?_, hf.2.1, hf.2.2⟩⟩⟩
  · exact (hg.block mb (lt_of_heap h.o1.mt) (fun e => h.u_mb e.symm)).trans h.o1.mt
  · rcases hb with hb | hb
    · rw [hb]; exact hf.1
    · rw [hb]; intro e; injection e with e; omega
/-- The slice of all of the reference's trees has grown by one. -/
theorem St.grow_v (h : St w mb u v ps tu cs tv c m W) {v' : Value} {r s : Int} {x : Int × Int} {A A' : Option Addr} {n k n' k' : Nat} {t : Option Tre} (hg : W.grownBy W' v.ownBlock)
    (ho : W'.ownsRow w.heap.size 32 6 v' (tv.length + 1) (cs ++ [.int .i64 r, .int .i64 x.1, .int .i64 x.2, .slice A n k, .slice A' n' k', .int .i64 s])) (hb : v'.ownBlock = v.ownBlock ∨ v'.ownBlock = some W.heap.size)
    (hs : s = (osize t : Nat)) (ht : RT (Fp u v mb) W (tV r x (.slice A n k) (.slice A' n' k') s) t) : St w mb u v' ps tu (cs ++ [.int .i64 r, .int .i64 x.1, .int .i64 x.2, .slice A n k, .slice A' n' k', .int .i64 s]) (tv ++ [t]) c m W' := by
  have hk : Kp W W' := Kp.grown hg fun g hgb cur ty hc hty => by
    obtain ⟨cur', hk⟩ := own_here h.ov hgb
    rw [hk] at hc
    injection hc with hc
    injection hc with _ hc _
    rw [← hc] at hty
    exact absurd hty (by decide)
  have hfar : Far (Fp u v mb) (Fp u v' mb) W W' := ⟨fun k hk hf => hg.block k hk (fun e => hf.2.1 e.symm), fun k hk hf => ⟨hf.1, by
    rcases hb with hb | hb
    · rw [hb]; exact hf.2.1
    · rw [hb]; intro e; injection e with e; omega, hf.2.2⟩⟩
  refine ⟨⟨below_grown h.o1.below hg h.o1.below.size (fun g hgb => (World.ownsRow.lt h.ov g hgb).1), h.o1.own, ?_⟩, World.ownsRow.kept h.ou hg h.u_v, ?_, h.tl.kp hk, fun j t' ht' => ?_⟩
  · exact (hg.block mb (lt_of_heap h.o1.mt) (fun e => h.v_mb e.symm)).trans h.o1.mt
  · rw [List.length_append]; exact ho
  · rcases snoc_at ht' with ht' | ⟨rfl, rfl⟩
    · exact ((h.rt j t' ht').far hfar).left
    · have hl : cs.length = tv.length * 6 := h.ov.1
      have at_ : ∀ (i : Nat) (z : Value), [Value.int .i64 r, .int .i64 x.1, .int .i64 x.2, .slice A n k, .slice A' n' k', .int .i64 s][i]? = some z → (cs ++ [Value.int .i64 r, .int .i64 x.1, .int .i64 x.2, .slice A n k, .slice A' n' k', .int .i64 s])[tv.length * 6 + i]? = some z := fun i z hi => by
        rw [List.getElem?_append_right (by omega), hl, Nat.add_sub_cancel_left]
        exact hi
      subst hs
      exact ⟨r, x, A, A', n, k, n', k', ⟨at_ 0 _ rfl, at_ 1 _ rfl, at_ 2 _ rfl, at_ 3 _ rfl, at_ 4 _ rfl, at_ 5 _ rfl⟩, ht.far hfar⟩
end

/-- A tree's address at the end of the slice of all trees. -/
theorem push_u {w : World} {mb : Nat} {u v : Value} {ps : List (Option Addr)} {tu : List (Option Tre)} {cs : List Value} {tv : List (Option Tre)} {c m : Int} {W : World} (h : St w mb u v ps tu cs tv c m W) {p : Option Addr} {t : Option Tre} (ht : TAt W p t) (hl : ps.length < 1000000) :
    ∃ u' W', (Builtin.append_ #[26, 26] 26 #[u, .slice (some ⟨W.heap.size, 0, none⟩) 1 1]).run Tryd.prog (W.alloc (.cells #[.pointer p] 36)) = .ok u' W' ∧
      St w mb u' v (ps ++ [p]) (tu ++ [t]) cs tv c m W' ∧ Far (Fp u v mb) (Fp u' v mb) W W' := by
  obtain ⟨i0, hi, hz0, hz1, hz2⟩ := info_parts infoPtr
  have hb := (Below.refl W.heap.size W).alloc (Nat.le_refl _) (.cells #[.pointer p] 36)
  have hs := h.stay hb
  obtain ⟨u', W', h1, h2, h3, -, h5⟩ := run_append_own_at (P := Tryd.prog) (W.alloc (.cells #[.pointer p] 36)) w.heap.size 26 26 36 i0 _ 1 8 Tryd.underlying26 hi hz0 hz1 hz2 rfl (by omega)
    u ps.length (ps.map ptr1) hs.ou ⟨W.heap.size, 0, none⟩ 1 1 [.pointer p] rfl
    (fun j z hz => by
      rw [add_plain]
      have e1 : (W.alloc (.cells #[.pointer p] 36)).heap[W.heap.size]? = some (.cells #[.pointer p] 36 (0, 0)) := new_at rfl
      unfold World.cell?
      simp only [Nat.zero_add]
      rw [e1]
      simpa using hz) (by intro z hz; simp at hz; subst hz; rfl) (by unfold maxLen; omega) (by omega) (Nat.le_trans h.o1.below.size hb.size)
  refine ⟨u', W', h1, hs.grow_u h3 ?_ h5 (ht.stay hb), ⟨fun k hk hf => (h3.block k (by have := hb.size; omega) (fun e => hf.1 e.symm)).trans (hb.block k hk), fun k hk hf => ⟨?_, hf.2.1, hf.2.2⟩⟩⟩
  rotate_left
  · rcases h5 with h5 | h5
    · rw [h5]; exact hf.1
    · rw [h5]; intro e; injection e with e; have := hb.size; omega
  unfold OwnP Mine
  rw [List.length_append, List.map_append]
  exact h2
/-- A tree of the reference's at the end of the slice of these. -/
theorem push_v {w : World} {mb : Nat} {u v : Value} {ps : List (Option Addr)} {tu : List (Option Tre)} {cs : List Value} {tv : List (Option Tre)} {c m : Int} {W : World} (h : St w mb u v ps tu cs tv c m W) {r s : Int} {x : Int × Int} {A A' : Option Addr} {n k n' k' : Nat} {t : Option Tre}
    (hs : s = (osize t : Nat)) (ht : RT (Fp u v mb) W (tV r x (.slice A n k) (.slice A' n' k') s) t) (hl : tv.length < 1000000) :
    ∃ v' W' cs', (Builtin.append_ #[30, 30] 30 #[v, .slice (some ⟨W.heap.size, 0, none⟩) 1 1]).run Tryd.prog (W.alloc (.cells #[.int .i64 r, .int .i64 x.1, .int .i64 x.2, .slice A n k, .slice A' n' k', .int .i64 s] 32)) = .ok v' W' ∧
      St w mb u v' ps tu cs' (tv ++ [t]) c m W' := by
  obtain ⟨i0, hi, hz0, hz1, hz2⟩ := info_parts infoT
  have hb := (Below.refl W.heap.size W).alloc (Nat.le_refl _) (.cells #[.int .i64 r, .int .i64 x.1, .int .i64 x.2, .slice A n k, .slice A' n' k', .int .i64 s] 32)
  have hst := h.stay hb
  obtain ⟨v', W', h1, h2, h3, -, h5⟩ := run_append_own_at (P := Tryd.prog) (W.alloc (.cells #[.int .i64 r, .int .i64 x.1, .int .i64 x.2, .slice A n k, .slice A' n' k', .int .i64 s] 32)) w.heap.size 30 30 32 i0 _ 6 80 Tryd.underlying30 hi hz0 hz1 hz2 rfl (by omega)
    v tv.length cs hst.ov ⟨W.heap.size, 0, none⟩ 1 1 [.int .i64 r, .int .i64 x.1, .int .i64 x.2, .slice A n k, .slice A' n' k', .int .i64 s] rfl
    (fun j z hz => by
      rw [add_plain]
      have e1 : (W.alloc (.cells #[.int .i64 r, .int .i64 x.1, .int .i64 x.2, .slice A n k, .slice A' n' k', .int .i64 s] 32)).heap[W.heap.size]? = some (.cells #[.int .i64 r, .int .i64 x.1, .int .i64 x.2, .slice A n k, .slice A' n' k', .int .i64 s] 32 (0, 0)) := new_at rfl
      unfold World.cell?
      simp only [Nat.zero_add]
      rw [e1]
      simpa using hz) (by
        intro z hz
        simp only [List.mem_cons, List.not_mem_nil, or_false] at hz
        rcases hz with rfl | rfl | rfl | rfl | rfl | rfl <;> rfl) (by unfold maxLen; omega) (by omega) (Nat.le_trans h.o1.below.size hb.size)
  exact ⟨v', W', _, h1, hst.grow_v h3 h2 h5 hs (ht.far (Far.below hb))⟩


theorem St.start {w W : World} {mb : Nat} (h : Own1 w mb 0 0 W) :
    St w mb (.slice (some ⟨W.heap.size, 0, none⟩) 1 1) (.slice (some ⟨W.heap.size + 1, 0, none⟩) 1 1) [none] [none] [.int .i64 0, .int .i64 0, .int .i64 0, .slice none 0 0, .slice none 0 0, .int .i64 0] [none] 0 0
      ((W.alloc (.cells #[.pointer none] 36)).alloc (.cells #[.int .i64 0, .int .i64 0, .int .i64 0, .slice none 0 0, .slice none 0 0, .int .i64 0] 32)) := by
  have b1 := (Below.refl W.heap.size W).alloc (Nat.le_refl _) (.cells #[.pointer none] 36)
  have e1 : (W.alloc (.cells #[.pointer none] 36)).heap.size = W.heap.size + 1 := by simp
  have b2 := (Below.refl (W.heap.size + 1) (W.alloc (.cells #[.pointer none] 36))).alloc (by omega) (.cells #[.int .i64 0, .int .i64 0, .int .i64 0, .slice none 0 0, .slice none 0 0, .int .i64 0] 32)
  have o1 : OwnP (W.alloc (.cells #[.pointer none] 36)) w.heap.size (.slice (some ⟨W.heap.size, 0, none⟩) 1 1) [none] :=
    ⟨rfl, .inr ⟨W.heap.size, 1, #[.pointer none], rfl, h.below.size, World.alloc_heap_new W _, Nat.le_refl _, by unfold maxLen; omega, rfl, rfl⟩⟩
  refine ⟨h.stay (b1.trans (b2.mono (by omega))), Mine.stay o1 (by rw [e1]; exact b2), ?_, ⟨rfl, fun j t hj => ?_⟩, fun j t hj => ?_⟩
  · exact ⟨rfl, .inr ⟨W.heap.size + 1, 1, #[.int .i64 0, .int .i64 0, .int .i64 0, .slice none 0 0, .slice none 0 0, .int .i64 0], rfl, by have := h.below.size; omega, new_at e1.symm, Nat.le_refl _, by unfold maxLen; omega, rfl, rfl⟩⟩
  · cases j with
    | zero => simp at hj; subst hj; exact ⟨none, rfl, rfl⟩
    | succ j => simp at hj
  · cases j with
    | zero => simp at hj; subst hj; exact ⟨0, (0, 0), none, none, 0, 0, 0, 0, ⟨rfl, rfl, rfl, rfl, rfl, rfl⟩, RT.none0 _ _⟩
    | succ j => simp at hj

/-- What trees there are at the head of the round of i: small ones, of 64-bit numbers. -/
structure Trees (i : Nat) (ts : List (Option Tre)) : Prop where
  len : ts.length = i + 1
  small : ∀ t ∈ ts, osize t ≤ 201
  fits : ∀ t ∈ ts, fits (oall t)
theorem Trees.start : Trees 0 [none] := ⟨rfl, by intro t h; simp at h; subst h; simp [osize], by intro t h e he; simp at h; subst h; simp [oall] at he⟩
theorem Trees.snoc {i : Nat} {ts : List (Option Tre)} (h : Trees i ts) {t : Option Tre} (h1 : osize t ≤ 201) (h2 : Go.Proofs.YtlkpmafgokoaiaaDoor.fits (oall t)) : Trees (i + 1) (ts ++ [t]) :=
  ⟨by simp [h.len], fun s hs => by
    rcases List.mem_append.1 hs with hs | hs
    · exact h.small s hs
    · simp at hs; subst hs; exact h1, fun s hs => by
    rcases List.mem_append.1 hs with hs | hs
    · exact h.fits s hs
    · simp at hs; subst hs; exact h2⟩
theorem fits_perm {a b : List (Int × Int)} (h : a.Perm b) (hb : fits b) : fits a := fun e he => hb e (h.subset he)
theorem olnk_fits {ta tb : Option Tre} (ha : fits (oall ta)) (hb : fits (oall tb)) : fits (oall (olnk ta tb)) := by
  cases ta with
  | none => exact hb
  | some a =>
    cases tb with
    | none => exact ha
    | some b => exact fits_perm (lnk_perm a b) (fun e he => (List.mem_append.1 he).elim (ha e) (hb e))
theorem leafT_fits' (y : Int × Int) (h : in64 y.1 ∧ in64 y.2) : fits (oall (some (leafT y))) := by
  intro e he
  simp [oall, Tre.all, leafT, Wood.all] at he
  subst he
  exact h

theorem oskw_fits {y : Int × Int} {ta tb : Option Tre} (hy : in64 y.1 ∧ in64 y.2) (ha : fits (oall ta)) (hb : fits (oall tb)) : fits (oall (oskw y ta tb)) := by
  have h := olnk_fits ha hb
  unfold oskw
  cases hl : olnk ta tb with
  | none => exact leafT_fits' y hy
  | some t =>
    rw [hl] at h
    exact fits_perm (skw_perm y t) (fun e he => by
      rcases List.mem_cons.1 he with rfl | he
      · exact hy
      · exact h e he)
/-- A slice of the call's own that is not empty: its block. -/
theorem ownP_blk {W : World} {base : Nat} {v : Value} {ps : List (Option Addr)} (h : OwnP W base v ps) (hl : 0 < ps.length) : ∃ g cap, v = .slice (some ⟨g, 0, none⟩) ps.length cap ∧ base ≤ g ∧ g < W.heap.size ∧ ps.length ≤ cap ∧ cap ≤ 9223372036854775807 := by
  rcases h.2 with ⟨-, h0⟩ | ⟨g, cap, cur, e, hb, hg, hc, hm, -⟩
  · omega
  · exact ⟨g, cap, e, hb, lt_of_heap hg, hc, by unfold maxLen at hm; omega⟩
theorem ownT_blk {W : World} {base n : Nat} {v : Value} {cs : List Value} (h : W.ownsRow base 32 6 v n cs) (hl : 0 < n) : ∃ g cap, v = .slice (some ⟨g, 0, none⟩) n cap ∧ base ≤ g ∧ g < W.heap.size ∧ n ≤ cap ∧ cap ≤ 9223372036854775807 := by
  rcases h.2 with ⟨-, h0⟩ | ⟨g, cap, cur, e, hb, hg, hc, hm, -⟩
  · omega
  · exact ⟨g, cap, e, hb, lt_of_heap hg, hc, by unfold maxLen at hm; omega⟩
theorem ownT_cell {W : World} {base n g cap : Nat} {cs : List Value} (h : W.ownsRow base 32 6 (.slice (some ⟨g, 0, none⟩) n cap) n cs) {j : Nat} {z : Value} (hz : cs[j]? = some z) : W.cell? ⟨g, j, none⟩ = some z := by
  have := h.cells (g := g) rfl j z hz
  rwa [add_plain, Nat.zero_add] at this

/-- What stands at the head of a round: i acts are done. -/
structure Rel (w : World) (mb : Nat) (u v : Value) (i st : Nat) (ps : List (Option Addr)) (ts : List (Option Tre)) (cs : List Value) (c m : Int) (W : World) : Prop where
  here : St w mb u v ps ts cs ts c m W
  tr : Trees i ts
  cm : c + m = (st : Int) ∧ 0 ≤ c ∧ c ≤ 2 * i ∧ 0 ≤ m ∧ m ≤ 2 * i

theorem Rel.blocks {w : World} {mb : Nat} {u v : Value} {i st : Nat} {ps : List (Option Addr)} {ts : List (Option Tre)} {cs : List Value} {c m : Int} {W : World} (h : Rel w mb u v i st ps ts cs c m W) :
    ∃ gu cu gv cv, u = .slice (some ⟨gu, 0, none⟩) (i + 1) cu ∧ v = .slice (some ⟨gv, 0, none⟩) (i + 1) cv ∧ (gu < W.heap.size ∧ i + 1 ≤ cu ∧ cu ≤ 9223372036854775807) ∧ (gv < W.heap.size ∧ i + 1 ≤ cv ∧ cv ≤ 9223372036854775807) := by
  have e1 : ps.length = i + 1 := by rw [h.here.tl.len, h.tr.len]
  obtain ⟨gu, cu, rfl, -, a1, a2, a3⟩ := ownP_blk h.here.ou (by omega)
  have h2 := h.here.ov
  rw [h.tr.len] at h2
  obtain ⟨gv, cv, rfl, -, b1, b2, b3⟩ := ownT_blk h2 (by omega)
  exact ⟨gu, cu, gv, cv, by rw [e1], rfl, ⟨a1, by omega, a3⟩, b1, b2, b3⟩
/-- The j-th of all trees, and of the reference's. -/
theorem Rel.at {w : World} {mb gu cu gv cv L : Nat} {i st : Nat} {ps : List (Option Addr)} {ts : List (Option Tre)} {cs : List Value} {c m : Int} {W : World} (h : Rel w mb (.slice (some ⟨gu, 0, none⟩) L cu) (.slice (some ⟨gv, 0, none⟩) L cv) i st ps ts cs c m W) (hL : L = i + 1) {j : Nat} (hj : j < L) :
    ∃ (t : Option Tre) (p : Option Addr) (r : Int) (x : Int × Int) (A A' : Option Addr) (n k n' k' : Nat), t ∈ ts ∧ (TAt W p t ∧ W.cell? ⟨gu, j, none⟩ = some (.pointer p)) ∧
      (W.cell? ⟨gv, j * 6, none⟩ = some (.int .i64 r) ∧ W.cell? ⟨gv, j * 6 + 1, none⟩ = some (.int .i64 x.1) ∧ W.cell? ⟨gv, j * 6 + 2, none⟩ = some (.int .i64 x.2) ∧ W.cell? ⟨gv, j * 6 + 3, none⟩ = some (.slice A n k) ∧ W.cell? ⟨gv, j * 6 + 4, none⟩ = some (.slice A' n' k') ∧ W.cell? ⟨gv, j * 6 + 5, none⟩ = some (.int .i64 (osize t : Nat))) ∧
      RT (Fp (.slice (some ⟨gu, 0, none⟩) L cu) (.slice (some ⟨gv, 0, none⟩) L cv) mb) W (tV r x (.slice A n k) (.slice A' n' k') (osize t : Nat)) t := by
  have hl : ts.length = L := by rw [h.tr.len, hL]
  have ht : ts[j]? = some ts[j] := List.getElem?_eq_getElem (by omega)
  obtain ⟨p, hp, hT⟩ := h.here.tl.tree j _ ht
  obtain ⟨r, x, A, A', n, k, n', k', ⟨c0, c1, c2, c3, c4, c5⟩, hR⟩ := h.here.rt j _ ht
  have ho := h.here.ov
  rw [hl] at ho
  exact ⟨_, p, r, x, A, A', n, k, n', k', List.getElem_mem _, ⟨hT, h.here.ou.at hp⟩, ⟨ownT_cell ho c0, ownT_cell ho c1, ownT_cell ho c2, ownT_cell ho c3, ownT_cell ho c4, ownT_cell ho c5⟩, hR⟩

theorem bt_then {mo : Option Nat} {u w w' : World} {B : Nat} (h : Bt mo u w) (hb : Below B w w') (hB : u.heap.size ≤ B) : Bt mo u w' :=
  ⟨hb.os.trans h.os, hb.tape.trans h.tape, hb.output.trans h.output, Nat.le_trans h.size hb.size, fun k hk hm => (hb.block k (by omega)).trans (h.block k hk hm)⟩
theorem alloc_far (w : World) (o : Obj) (k : Nat) (h : k ≠ w.heap.size) : (w.alloc o).heap[k]? = w.heap[k]? := by
  have h2 : (w.alloc o).heap = w.heap.push o := rfl
  rw [h2, Array.getElem?_push, if_neg h]
theorem set6_cell {W : World} {R : Nat} (v0 v1 v2 v3 v4 v5 : Value) {b o : Nat} {z : Value} (hb : b ≠ R) (h : W.cell? ⟨b, o, none⟩ = some z) : ((((((W.setCell ⟨R, 0, none⟩ v0).setCell ⟨R, 1, none⟩ v1).setCell ⟨R, 2, none⟩ v2).setCell ⟨R, 3, none⟩ v3).setCell ⟨R, 4, none⟩ v4).setCell ⟨R, 5, none⟩ v5).cell? ⟨b, o, none⟩ = some z :=
  (World.cell?_of_block (a := ⟨b, o, none⟩) (set6_far W R v0 v1 v2 v3 v4 v5 b hb)).trans h
theorem set6_12 {W : World} {R : Nat} (v0 v1 v2 v3 v4 v5 : Value) {b o0 o1 o2 o3 o4 o5 o6 o7 o8 o9 o10 o11 : Nat} {z0 z1 z2 z3 z4 z5 z6 z7 z8 z9 z10 z11 : Value} (hb : b ≠ R) (h : W.cell? ⟨b, o0, none⟩ = some z0 ∧ W.cell? ⟨b, o1, none⟩ = some z1 ∧ W.cell? ⟨b, o2, none⟩ = some z2 ∧ W.cell? ⟨b, o3, none⟩ = some z3 ∧ W.cell? ⟨b, o4, none⟩ = some z4 ∧ W.cell? ⟨b, o5, none⟩ = some z5 ∧ W.cell? ⟨b, o6, none⟩ = some z6 ∧ W.cell? ⟨b, o7, none⟩ = some z7 ∧ W.cell? ⟨b, o8, none⟩ = some z8 ∧ W.cell? ⟨b, o9, none⟩ = some z9 ∧ W.cell? ⟨b, o10, none⟩ = some z10 ∧ W.cell? ⟨b, o11, none⟩ = some z11) :
    let W' := ((((((W.setCell ⟨R, 0, none⟩ v0).setCell ⟨R, 1, none⟩ v1).setCell ⟨R, 2, none⟩ v2).setCell ⟨R, 3, none⟩ v3).setCell ⟨R, 4, none⟩ v4).setCell ⟨R, 5, none⟩ v5)
    W'.cell? ⟨b, o0, none⟩ = some z0 ∧ W'.cell? ⟨b, o1, none⟩ = some z1 ∧ W'.cell? ⟨b, o2, none⟩ = some z2 ∧ W'.cell? ⟨b, o3, none⟩ = some z3 ∧ W'.cell? ⟨b, o4, none⟩ = some z4 ∧ W'.cell? ⟨b, o5, none⟩ = some z5 ∧ W'.cell? ⟨b, o6, none⟩ = some z6 ∧ W'.cell? ⟨b, o7, none⟩ = some z7 ∧ W'.cell? ⟨b, o8, none⟩ = some z8 ∧ W'.cell? ⟨b, o9, none⟩ = some z9 ∧ W'.cell? ⟨b, o10, none⟩ = some z10 ∧ W'.cell? ⟨b, o11, none⟩ = some z11 := by
  obtain ⟨h0, h1, h2, h3, h4, h5, h6, h7, h8, h9, h10, h11⟩ := h
  exact ⟨set6_cell v0 v1 v2 v3 v4 v5 hb h0, set6_cell v0 v1 v2 v3 v4 v5 hb h1, set6_cell v0 v1 v2 v3 v4 v5 hb h2, set6_cell v0 v1 v2 v3 v4 v5 hb h3, set6_cell v0 v1 v2 v3 v4 v5 hb h4, set6_cell v0 v1 v2 v3 v4 v5 hb h5, set6_cell v0 v1 v2 v3 v4 v5 hb h6, set6_cell v0 v1 v2 v3 v4 v5 hb h7, set6_cell v0 v1 v2 v3 v4 v5 hb h8, set6_cell v0 v1 v2 v3 v4 v5 hb h9, set6_cell v0 v1 v2 v3 v4 v5 hb h10, set6_cell v0 v1 v2 v3 v4 v5 hb h11⟩
/-- Only a block of the reference's trees' type has been stored to. -/
theorem kp_store {w w' : World} {b : Nat} {cs : Array Value} {z : Nat × Nat} (hz : w.heap[b]? = some (.cells cs 32 z)) (hk : ∀ k, k ≠ b → w'.heap[k]? = w.heap[k]?) : Kp w w' := fun k cs' t ht e => by
  by_cases hkb : k = b
  · subst hkb
    rw [hz] at e
    injection e with e
    injection e with _ e _
    rw [← e] at ht
    exact absurd ht (by decide)
  · exact (hk k hkb).trans e
/-- What a call of the reference's, of two trees of the row, hands back, stored to the block b' of the call's own, and from there to the block b. -/
theorem settle {w : World} {mb : Nat} {u v : Value} {ps : List (Option Addr)} {tu : List (Option Tre)} {cs : List Value} {tv : List (Option Tre)} {c m c' m' : Int} {wr w5 w6 w7 w8 : World} {b b' : Nat} {p : Option Addr} {t : Option Tre} {V : Value} {zs : Array Value} {z : Nat × Nat} (h : St w mb u v ps tu cs tv c m wr)
    (hb : wr.heap.size ≤ b) (h5 : Bt (some mb) wr w5) (m5 : MAt w5 (some mb) c' m') (t5 : TAt w5 p t) (z5 : w5.heap[b]? = some (.cells zs 32 z)) (hV : RT (fun k => Fp u v mb k ∧ k ≠ b ∧ k ≠ b') w6 V t)
    (hk7 : ∀ k, k ≠ b' → w7.heap[k]? = w6.heap[k]?) (h7 : Below w5.heap.size w5 w7)
    (hk : ∀ k, k ≠ b → w8.heap[k]? = w7.heap[k]?) (hbl : ∀ B W, Below B W w7 → B ≤ b → Below B W w8) : St w mb u v ps tu cs tv c' m' w8 ∧ TAt w8 p t ∧ RT (Fp u v mb) w8 V t := by
  have hmb : mb < wr.heap.size := lt_of_heap (show wr.heap[mb]? = _ from h.o1.mt)
  have h78 := hbl b w7 (Below.refl _ _) (Nat.le_refl _)
  have z7 := (h7.block b (lt_of_heap z5)).trans z5
  have B7 : Bt (some mb) wr w7 := h5.trans (Bt.ofBelow h7)
  have M7 : MAt w7 (some mb) c' m' := (h7.block mb (lt_of_heap (show w5.heap[mb]? = _ from m5))).trans m5
  refine ⟨h.turn (show w8.heap[mb]? = _ from (hk mb (by omega)).trans M7) (bt_then B7 h78 hb), (t5.stay h7).kp (kp_store z7 hk), ?_⟩
  have f7 : Far (fun k => Fp u v mb k ∧ k ≠ b ∧ k ≠ b') (fun k => Fp u v mb k ∧ k ≠ b) w6 w7 := ⟨fun k _ hf => hk7 k hf.2.2, fun k _ hf => ⟨hf.1, hf.2.1⟩⟩
  exact (hV.far f7).far ⟨fun k _ hf => hk k hf.2, fun k _ hf => hf.1⟩

/-- What a tree of the reference's tells. -/
theorem RT.told {F : Nat → Prop} {W : World} {r : Int} {x : Int × Int} {A A' : Option Addr} {n k n' k' : Nat} {t : Option Tre} (h : RT F W (tV r x (.slice A n k) (.slice A' n' k') (osize t : Nat)) t) :
    rootV t = .tuple #[el x, .bool (decide ((0 : Int) < (osize t : Nat)))] ∧ n = (obeside t).length ∧ Row W A (obeside t) ∧ n' = (okids t).len := by
  cases t with
  | none =>
    have h' : tV r x (.slice A n k) (.slice A' n' k') (osize none : Nat) = tV 0 (0, 0) (.slice none 0 0) (.slice none 0 0) 0 := h
    simp only [tV, Value.agg.injEq, Array.mk.injEq, List.cons.injEq, Value.int.injEq, Value.slice.injEq, true_and, and_true] at h'
    obtain ⟨-, h1, h2, ⟨rfl, rfl, rfl⟩, ⟨rfl, rfl, rfl⟩, -⟩ := h'
    obtain ⟨x1, x2⟩ := x
    simp only at h1 h2
    subst h1 h2
    exact ⟨rfl, rfl, Row.nil _ _, rfl⟩
  | some t =>
    obtain ⟨Ab, Ak, cb, ck, kc, e, hb, -⟩ := h
    simp only [tV, Value.agg.injEq, Array.mk.injEq, List.cons.injEq, Value.int.injEq, Value.slice.injEq, true_and, and_true] at e
    obtain ⟨-, h1, h2, ⟨rfl, rfl, rfl⟩, ⟨rfl, rfl, rfl⟩, -⟩ := e
    have hx : x = t.x := Prod.ext h1 h2
    subst hx
    have h0 : 0 < t.size := by simp only [Tre.size]; omega
    have hd : decide ((0 : Int) < (osize (some t) : Nat)) = true := decide_eq_true (show (0 : Int) < ((t.size : Nat) : Int) by omega)
    exact ⟨by rw [hd]; rfl, rfl, hb.1.row, rfl⟩


end Go.Proofs.YtlkpmafgokoaiaaDoor
