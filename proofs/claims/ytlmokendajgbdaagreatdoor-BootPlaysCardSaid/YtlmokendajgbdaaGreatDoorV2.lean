/-
  Contracts of a skew binomial heap's rest, Size and of the place of its least root: which heap, which number, how many comparisons the meter counts, that what was there stays but for the meter's block. Conditions: counts below 2 to the 61st.
-/
import Derived.Test.YtlmokendajgbdaaGreatDoorV1
import Derived.Deep.LoopGhost
import Derived.Deep.RegionHeld3
namespace Go.Proofs.YtlmokendajgbdaaGreatDoor.Hp
open Go.Sort Go.RowKit Go.Proofs.YtlmokendajgbdaaGreatDoor.Gn

section
variable {W W' : World} {mo : Option Nat} {c m : Int} {b : Nat} {t : TypeId} {x y : Value}
theorem _root_.Go.Proofs.YtlmokendajgbdaaGreatDoor.Box2.bt (h : Box2 W b t x y) (hb : Bt mo W W') (hm : MAt W mo c m) (ht : t ≠ 78) : Box2 W' b t x y := hb.row hm h ht
/-- A block of two cells of another type is written: heaps stay. -/
theorem Kp.set2 (h : Box2 W b t x y) (ht : ¬ NodeT t) (u v : Value) : Kp W ((W.setCell ⟨b, 0, none⟩ u).setCell ⟨b, 1, none⟩ v) := (Kpt.set h ht 0 u).trans (Kpt.set (h.set0 u) ht 1 v)
theorem size_set2 (W : World) (b : Nat) (u v : Value) : ((W.setCell ⟨b, 0, none⟩ u).setCell ⟨b, 1, none⟩ v).heap.size = W.heap.size := by simp [World.setCell]
theorem LAt.set2 {l : Lh} {p : HP} (hl : LAt W l p) (h : Box2 W b t x y) (ht : ¬ NodeT t) (u v : Value) : LAt ((W.setCell ⟨b, 0, none⟩ u).setCell ⟨b, 1, none⟩ v) l p := hl.kps (Kp.set2 h ht u v) (by rw [size_set2]; exact Nat.le_refl _)
theorem TsAt.set2 {ts : List Tre} {ps : List (Option Addr)} (hl : TsAt W ts ps) (h : Box2 W b t x y) (ht : ¬ NodeT t) (u v : Value) : TsAt ((W.setCell ⟨b, 0, none⟩ u).setCell ⟨b, 1, none⟩ v) ts ps := hl.kp (Kp.set2 h ht u v)
theorem ll_set2 {q : Option Addr} {n : Nat} {ps : List (Option Addr)} (hl : Lt.LL W q n ps) (h : Box2 W b t x y) (ht : ¬ NodeT t) (u v : Value) : Lt.LL ((W.setCell ⟨b, 0, none⟩ u).setCell ⟨b, 1, none⟩ v) q n ps := ⟨ch_kp (Kp.set2 h ht u v) (by rw [size_set2]; exact Nat.le_refl _) (Nat.le_refl _) rfl hl.1, hl.2⟩
/-- How far a call has come where one of its own variables is written. -/
theorem _root_.Go.Proofs.YtlmokendajgbdaaGreatDoor.Trk.put2 {w : World} (k : Trk NodeT mo w c m W) (h : Box2 W b t x y) (ht : ¬ NodeT t) (hmt : t ≠ 78) (hw : w.heap.size ≤ b) (u v : Value) : Trk NodeT mo w c m ((W.setCell ⟨b, 0, none⟩ u).setCell ⟨b, 1, none⟩ v) :=
  (k.put h ht hmt hw 0 u).put (h.set0 u) ht hmt hw 1 v
end

theorem tail_ok {t : Tre} {ts : List Tre} (h : sOk (t :: ts)) : sOk ts := ⟨fun u hu => h.hok u (List.mem_cons_of_mem _ hu), fun u hu => h.sk u (List.mem_cons_of_mem _ hu), upto_of h.up.2⟩
/-- Ranks rise. -/
abbrev rises (l : List Tre) : Prop := l.Pairwise (fun a b => a.rank < b.rank)
theorem up_sub : ∀ {us ts : List Tre}, upto ts → us.Sublist ts → upto us
  | [], _, _, _ => trivial
  | u :: us, [], _, h => by cases h
  | u :: us, t :: ts, ⟨h1, h2⟩, h => by
    cases h with
    | cons _ h => exact upto_of (h2.sublist h)
    | cons_cons _ h => exact ⟨fun v hv => h1 v (h.subset hv), h2.sublist h⟩
theorem sub_ok {us ts : List Tre} (h : sOk ts) (hs : us.Sublist ts) : sOk us := ⟨fun u hu => h.hok u (hs.subset hu), fun u hu => h.sk u (hs.subset hu), up_sub h.up hs⟩

set_option maxRecDepth 100000 in
set_option maxHeartbeats 2000000 in
/-- A heap without its first tree. -/
theorem rest_any (t : Tre) (ts : List Tre) (p : HP) (w : World) (h : LAt w ⟨t :: ts⟩ p) : Calls Tryz.prog 101 #[hp p] w fun e w' => ∃ p' : HP, e = .returned (.agg #[.pointer p'.q, .int .i64 p'.n]) ∧ LAt w' ⟨ts⟩ p' ∧ Below w.heap.size w w' := by
  have hs := h.small
  obtain ⟨ps, n, hn, hnl, hl, ht⟩ := h.list
  obtain ⟨q, pn⟩ := p
  change pn = (n : Int) at hn
  subst hn
  have hb1 : Below w.heap.size w ((w.alloc (.cells #[.pointer q, .int .i64 (n : Int)] 85)).alloc (.cells #[.pointer none, .int .i64 0] 85)) := ((Below.refl _ w).alloc (Nat.le_refl _) _).alloc (by simp) _
  have bR := Box2.new (w.alloc (.cells #[.pointer q, .int .i64 (n : Int)] 85)) 85 (.pointer none) (.int .i64 0)
  simp only [World.size_alloc] at bR
  have H := Lib.hid (And.intro (hl.stay hb1) (And.intro (ht.kp (Kpt.below hb1)) (And.intro hb1 (And.intro bR (And.intro hs h.right)))))
  clear h hl ht hb1 bR hs hnl
  go_enter Tryz.func101, Tryz.ntmps101
  go_wp2_with fail
  ((with_reducible refine (Lt.rest_l H.out.1).mono ?_); rintro e w2 ⟨q2, n2, rfl, hl2, hb2⟩)
  have B2 := H.out.2.2.2.1.stay hb2
  have c0 := B2.c0
  have c1 := B2.c1
  have z0 := B2.z0
  have z1 := B2.z1
  have X := Lib.hid (And.intro B2 (And.intro hl2 (And.intro (H.out.2.1.kp (Kpt.below hb2)) (H.out.2.2.1.trans (hb2.mono H.out.2.2.1.size)))))
  clear B2 hl2 hb2
  go_wp2_with fail
  have S := X.out.1.set (.pointer q2) (.int .i64 (n2 : Int))
  have d0 := S.c0
  have d1 := S.c1
  refine bodyPost_ret (v := hp ⟨q2, (n2 : Int)⟩) (by simp [results, Tryz.results101, go_sem, d0, d1]) rfl ⟨⟨q2, (n2 : Int)⟩, rfl, ?_, below_set2 X.out.2.2.2 (by omega) _ _⟩
  exact LAt.of (ll_set2 X.out.2.1 X.out.1 heapT_ne _ _) (X.out.2.2.1.tail.set2 X.out.1 heapT_ne _ _) (by have h1 := H.out.2.2.2.2.1; simp only [Lh.size, bSize] at h1; omega) (tail_ok H.out.2.2.2.2.2)

theorem bSize_take {l : List Tre} {i : Nat} (h : i < l.length) : bSize (l.take (i + 1)) = bSize (l.take i) + l[i].size := by
  have e : ∀ a b : List Tre, bSize (a ++ b) = bSize a + bSize b := fun a b => by
    induction a with
    | nil => simp [bSize]
    | cons t r ih => simp only [List.cons_append, bSize, ih]; omega
  rw [List.take_succ_eq_append_getElem h, e]
  simp [bSize]
theorem bSize_take_le (l : List Tre) (i : Nat) : bSize (l.take i) ≤ bSize l := by
  have e : ∀ a b : List Tre, bSize (a ++ b) = bSize a + bSize b := fun a b => by
    induction a with
    | nil => simp [bSize]
    | cons t r ih => simp only [List.cons_append, bSize, ih]; omega
  conv => rhs; rw [← List.take_append_drop i l]
  rw [e]; omega
/-- The j-th address of a row. -/
theorem row_ptr {W : World} {b o : Nat} {ps : List (Option Addr)} (h : Row1 Lt.one W (some ⟨b, o, none⟩) ps) {j : Nat} {p : Option Addr} (hj : ps[j]? = some p) : W.cell? ⟨b, o + j, none⟩ = some (.pointer p) := by
  obtain ⟨hlt, rfl⟩ := List.getElem?_eq_some_iff.1 hj
  obtain ⟨b', o', e, hc⟩ := h (by omega)
  cases e
  exact hc j hlt
theorem row_some {W : World} {A : Option Addr} {ps : List (Option Addr)} (h : Row1 Lt.one W A ps) (h0 : 0 < ps.length) : ∃ b o, A = some ⟨b, o, none⟩ := by
  obtain ⟨b, o, e, -⟩ := h h0; exact ⟨b, o, e⟩

end Go.Proofs.YtlmokendajgbdaaGreatDoor.Hp
