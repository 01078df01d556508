/-
  Contract of rank.Kids: the addresses of a tree's kids, as a slice of the call's own; nothing that was there has changed. Condition: fewer than 2 to the 30th kids.
-/
import Derived.Test.YtlmokendajgbdaaGreatDoorUb7
import Derived.Deep.AppendLies
namespace Go.Proofs.YtlmokendajgbdaaGreatDoor
open Go.Sort Go.RowKit Go.Proofs.YtlmokendajgbdaaGreatDoor.Gn

/-- A tree's address as a value. -/
def ptr1 (p : Option Addr) : Value := .pointer p
/-- The addresses of a row of trees. -/
def KAt (W : World) : Wood → List (Option Addr) → Prop
  | .nil, ps => ps = []
  | .cons x bs ks r, ps => ∃ b ps', ps = some ⟨b, 0, none⟩ :: ps' ∧ NAt W b ⟨x, bs, ks⟩ ∧ KAt W r ps'
theorem KAt.length {W : World} : ∀ {ks : Wood} {ps : List (Option Addr)}, KAt W ks ps → ps.length = ks.len
  | .nil, _, h => by rw [h]; rfl
  | .cons _ _ _ _, _, ⟨_, _, e, _, h⟩ => by rw [e, List.length_cons, h.length]; rfl
/-- A slice of trees' addresses of the call's own. -/
abbrev OwnP (w : World) (base : Nat) (v : Value) (ps : List (Option Addr)) : Prop := Mine ptr1 118 w base v ps

theorem infoPtr : (Tryz.prog.info? 118).map (fun i => (i.zero, i.size, i.bytes)) = some (some (.pointer none), 1, 8) := by kernel_rfl

theorem append_ptr (w : World) (base : Nat) (v : Value) (ps : List (Option Addr)) (p : Option Addr) (hown : OwnP w base v ps) (hlen : ps.length < 1073741824) (hb : base ≤ w.heap.size) :
    ∃ v' w', (Builtin.append_ #[130, 130] 130 #[v, .slice (some ⟨w.heap.size, 0, none⟩) 1 1]).run Tryz.prog (w.alloc (.cells #[.pointer p] 118)) = .ok v' w' ∧ OwnP w' base v' (ps ++ [p]) ∧
      (w.alloc (.cells #[.pointer p] 118)).grownBy w' v.ownBlock ∧ Below base w w' := by
  obtain ⟨i0, hi, hz0, hz1, hz2⟩ := info_parts infoPtr
  have hown' : (w.alloc (.cells #[.pointer p] 118)).ownsRow base 118 1 v ps.length (ps.map ptr1) := World.ownsRow.alloc hown _
  obtain ⟨g, c, w', h1, h2, h3, -, -⟩ := run_append_lies (P := Tryz.prog) (w := w.alloc (.cells #[.pointer p] 118)) 130 130 base 118 i0 _ 1 8 Tryz.underlying130 hi hz0 hz1 hz2 rfl (by omega)
    _ ps.length (ps.map ptr1) hown' ⟨w.heap.size, 0, none⟩ 1 1 [.pointer p] rfl
    (fun j u hu => by
      rw [add_flat]
      have e1 : (w.alloc (.cells #[.pointer p] 118)).heap[w.heap.size]? = some (.cells #[.pointer p] 118 (0, 0)) := new_at rfl
      unfold World.cell?
      rw [e1]
      simpa using hu) (by intro u hu; simp at hu; subst hu; rfl) (by omega) (by unfold maxLen; omega) (by omega) (by simp; omega) _ rfl
  refine ⟨_, w', h1, ?_, h3, below_grown ((Below.refl _ _).alloc hb _) h3 (by simp; omega) (fun g hg => hown.block g hg)⟩
  unfold OwnP Mine
  rw [List.length_append, List.map_append]
  exact h2

/-- What Kids hands back. -/
def PutK (w0 : World) (ks : Wood) (base : Nat) (w : World) (e : Ending) (w' : World) : Prop := ∃ v ps, e = .returned v ∧ KAt w0 ks ps ∧ OwnP w' base v ps ∧ Below base w w'

theorem KAt.put {W : World} : ∀ {pre : List (Option Addr)} {ks rest : Wood} {x : Thing} {bs : List Thing} {b : Nat} {aks : Wood}, (∀ qs, KAt W (.cons x bs ks rest) qs → KAt W aks (pre ++ qs)) → NAt W b ⟨x, bs, ks⟩ → ∀ qs, KAt W rest qs → KAt W aks ((pre ++ [some ⟨b, 0, none⟩]) ++ qs) :=
  fun h hn qs hq => by rw [List.append_assoc]; exact h _ ⟨_, qs, rfl, hn, hq⟩

set_option maxRecDepth 100000 in
set_option maxHeartbeats 2000000 in
theorem rowTrees_any (w : World) (ks : Wood) (p : Option Addr) (hp : WAt w ks p) (hl : ks.size < 1073741824) :
    Calls Tryz.prog 99 #[.pointer p, .slice none 0 0] w (PutK w ks w.heap.size w) := by
  have hlen := ks.len_le
  go_enter Tryz.func99, Tryz.ntmps99
  go_wp2_with fail
  have H := Lib.hid (And.intro hp (And.intro hl hlen))
  clear hp hl hlen
  go_loopg [0, 1] ks.len (fun k c u wr => ∃ (pre : List (Option Addr)) (rest : Wood) (q : Option Addr), c = .pointer q ∧ pre.length + rest.len = ks.len ∧ k = rest.len ∧ WAt w rest q ∧ (∀ qs, KAt w rest qs → KAt w ks (pre ++ qs)) ∧ OwnP wr w.heap.size u pre ∧ Below w.heap.size w wr)
  case atStart => exact ⟨[], ks, p, rfl, by simp, rfl, H.out.1, fun qs h => h, Mine.none _ _ _, Below.refl _ _⟩
  case round =>
    obtain ⟨pre, rest, q, rfl, hx, hk, hr, hq, hown, hbe⟩ := hrel
    cases rest with
    | nil =>
      obtain rfl := hr
      have A := Lib.hid (And.intro hq (And.intro hown hbe))
      clear hx hown hbe hk hq
      go_wp2_with fail
      go_ret
      obtain ⟨hq, hown, hbe⟩ := A.out
      exact ⟨_, pre, rfl, by simpa using hq [] rfl, hown, hbe⟩
    | cons y cs cks rest =>
      obtain ⟨c, bk, q', bp', kp', rfl, hc, hbk, hx1, h1, h2, h3⟩ := hr
      have hc1 := (hbe.block c (lt_of_heap hc)).trans hc
      have c0 : wr.cell? ⟨c, 0, none⟩ = some (.pointer (some ⟨bk, 0, none⟩)) := by simp [World.cell?, hc1]
      obtain ⟨u', w2, hrun, hown2, -, hb2⟩ := append_ptr wr w.heap.size _ pre (some ⟨bk, 0, none⟩) hown (by have := H.out.2; simp only [Gn.Wood.len] at hx; omega) hbe.size
      have hc2 := ((hbe.trans hb2).block c (lt_of_heap hc)).trans hc
      have c1 : w2.cell? ⟨c, 1, none⟩ = some (.pointer q') := by simp [World.cell?, hc2]
      have A := Lib.hid (And.intro hx (And.intro hown2 (And.intro (hbe.trans hb2) (And.intro h3 (And.intro hk (KAt.put hq ⟨bp', kp', hbk, hx1, h1, h2⟩))))))
      clear hx hown hbe hown2 hb2 hc hc1 hc2 hbk hx1 h1 h2 h3 hk hq
      go_wp2_with (at_builtin; refine wpList_append_run rfl _ _ _ rfl _ _ _ _ rfl rfl hrun ?_)
      obtain ⟨hx, hown2, hbe, h3, hk, hq⟩ := A.out
      go_roundg rest.len
      case measure => rw [hk]; simp [Gn.Wood.len]
      case rel => exact ⟨pre ++ [some ⟨bk, 0, none⟩], rest, q', rfl, by simp only [Gn.Wood.len] at hx; simp; omega, rfl, h3, hq, hown2, hbe⟩

/-- A tree's kids. -/
def okids : Option Tre → Wood
  | none => .nil
  | some t => t.ks

set_option maxHeartbeats 1000000 in
theorem kids_any (p : Option Addr) (t : Option Tre) (w : World) (h : TAt w p t) (h1 : osize t < 1073741824) : Calls Tryz.prog 74 #[.pointer p] w (PutK w (okids t) w.heap.size w) := by
  cases t with
  | none =>
    obtain rfl := h
    go_enter Tryz.func74, Tryz.ntmps74
    go_wp2_with fail
    go_ret
    exact ⟨_, [], rfl, rfl, Mine.none _ _ _, Below.refl _ _⟩
  | some t =>
    obtain ⟨b, rfl, bp, kp, hb, -, -, hK⟩ := h
    have c4 := (six hb).c4
    have H := Lib.hid (rowTrees_any w t.ks kp hK (by simp only [osize, Gn.Tre.size] at h1; omega))
    clear hb hK h1
    go_enter Tryz.func74, Tryz.ntmps74
    go_wp2_with fail
    ((with_reducible refine H.out.mono ?_); rintro e w1 ⟨v, ps, rfl, hk, hown, hb⟩)
    have A := Lib.hid (And.intro hk (And.intro hown hb))
    clear hk hown hb H
    go_wp2_with fail
    go_ret
    exact ⟨_, ps, rfl, A.out.1, A.out.2.1, A.out.2.2⟩

end Go.Proofs.YtlmokendajgbdaaGreatDoor
