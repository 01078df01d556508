/-
  A Late in memory: its five cells (the once's word, its lock's two, the row, how often it was put in order), what keeps them; contracts of slices.Clone, late.Of and Done: for any row of fewer than 2^30 elements.
-/
import Derived.Test.YtimffepggbaaaaaAppend
import Derived.Test.YtimffepggbaaaaaBut
import Derived.Test.YtimffepggbaaaaaOnce
import Derived.Lib.SliceRun
namespace Go.Proofs.Ytimffepggbaaaaa
open Go.Sort Go.RowKit

/-- Block b is a Late's five cells. -/
def Blk (w : World) (b : Nat) (d s : Int) (v : Value) (k : Int) : Prop := w.heap[b]? = some (.cells #[.int .u32 d, .int .i32 s, .int .u32 0, v, .int .i64 k] 54 (0, 0))

section
variable {w w' : World} {b : Nat} {d s k : Int} {v : Value}
theorem Blk.lt (h : Blk w b d s v k) : b < w.heap.size := (Array.getElem?_eq_some_iff.1 h).1
theorem Blk.c0 (h : Blk w b d s v k) : w.cell? ⟨b, 0, none⟩ = some (.int .u32 d) := by simp [World.cell?, show w.heap[b]? = _ from h]
theorem Blk.c1 (h : Blk w b d s v k) : w.cell? ⟨b, 1, none⟩ = some (.int .i32 s) := by simp [World.cell?, show w.heap[b]? = _ from h]
theorem Blk.c3 (h : Blk w b d s v k) : w.cell? ⟨b, 3, none⟩ = some v := by simp [World.cell?, show w.heap[b]? = _ from h]
theorem Blk.c4 (h : Blk w b d s v k) : w.cell? ⟨b, 4, none⟩ = some (.int .i64 k) := by simp [World.cell?, show w.heap[b]? = _ from h]
theorem Blk.z (h : Blk w b d s v k) (j : Nat) : w.frozen? ⟨b, j, none⟩ = false := by simp [World.frozen?, show w.heap[b]? = _ from h]
theorem Blk.stay (h : Blk w b d s v k) (hb : Below w.heap.size w w') : Blk w' b d s v k := (hb.block b h.lt).trans h
theorem Blk.but {g : Nat} (h : Blk w b d s v k) (hb : But g w w') (hg : b ≠ g) : Blk w' b d s v k := (hb.block b h.lt hg).trans h
theorem Blk.drew (h : Blk w b d s v k) : Blk w.drew b d s v k := h
theorem heap_set {w : World} {b j : Nat} {cs : Array Value} {t : TypeId} {z : Nat × Nat} (h : w.heap[b]? = some (.cells cs t z)) (u : Value) : (w.setCell ⟨b, j, none⟩ u).heap[b]? = some (.cells (cs.setIfInBounds j u) t z) := by
  obtain ⟨hlt, hk⟩ := Array.getElem?_eq_some_iff.1 h
  show (w.heap.modify b _)[b]? = _
  rw [Array.getElem?_eq_getElem (by rw [Array.size_modify]; exact hlt), Array.getElem_modify_self, hk]
  rfl
theorem Blk.set0 (h : Blk w b d s v k) (d' : Int) : Blk (w.setCell ⟨b, 0, none⟩ (.int .u32 d')) b d' s v k := heap_set h _
theorem Blk.set1 (h : Blk w b d s v k) (s' : Int) : Blk (w.setCell ⟨b, 1, none⟩ (.int .i32 s')) b d s' v k := heap_set h _
theorem Blk.set3 (h : Blk w b d s v k) (v' : Value) : Blk (w.setCell ⟨b, 3, none⟩ v') b d s v' k := heap_set h _
theorem Blk.set4 (h : Blk w b d s v k) (k' : Int) : Blk (w.setCell ⟨b, 4, none⟩ (.int .i64 k')) b d s v k' := heap_set h _
theorem Row.but {A : Option Addr} {xs : List (Int × Int)} {g : Nat} (h : Row w A xs) (hb : But g w w') (hg : ∀ a, A = some a → a.block ≠ g) : Row w' A xs := fun hn => by
  obtain ⟨c, o, e, hc⟩ := h hn
  have hne := hg _ e
  exact ⟨c, o, e, fun j u hu => by have := hc j u hu; rw [hb.cell (block_lt_of_cell this) hne]; exact this⟩
theorem But.drew (g : Nat) (w : World) : But g w w.drew := But.ofBelow ((Below.refl _ _).drew)
end

/-- A Late: of the row l; d: how often it was put in order. -/
structure LateAt (w : World) (b : Nat) (A : Option Addr) (c : Nat) (l : List (Int × Int)) (d : Int) : Prop where
  blk : Blk w b d 0 (.slice A l.length c) d
  row : Row w A (if d = 0 then l else srt l)
  le : l.length ≤ c
  max : c ≤ 9223372036854775807
  nil : A = none → c = 0
  off : ∀ a, A = some a → a.block ≠ b
  lt : ∀ a, A = some a → a.block < w.heap.size
  made : d = 0 ∨ ∃ g, A = some ⟨g, 0, none⟩ ∧ c = l.length

theorem LateAt.stay {w w' : World} {b : Nat} {A : Option Addr} {c : Nat} {l : List (Int × Int)} {d : Int} (h : LateAt w b A c l d) (hb : Below w.heap.size w w') : LateAt w' b A c l d :=
  ⟨h.blk.stay hb, h.row.below hb, h.le, h.max, h.nil, h.off, (fun a e => Nat.lt_of_lt_of_le (h.lt a e) hb.size), h.made⟩
theorem LateAt.but {w w' : World} {b g : Nat} {A : Option Addr} {c : Nat} {l : List (Int × Int)} {d : Int} (h : LateAt w b A c l d) (hb : But g w w') (hg : b ≠ g) (hA : ∀ a, A = some a → a.block ≠ g) : LateAt w' b A c l d :=
  ⟨h.blk.but hb hg, h.row.but hb hA, h.le, h.max, h.nil, h.off, (fun a e => Nat.lt_of_lt_of_le (h.lt a e) hb.size), h.made⟩

theorem srt_length (l : List (Int × Int)) : (srt l).length = l.length := by unfold srt; exact List.length_mergeSort _

/-- A new row of none. -/
theorem Own.empty (w : World) (base : Nat) (h : base ≤ w.heap.size) : Own (w.alloc (.cells #[] 28)) base (.slice (some ⟨w.heap.size, 0, Option.none⟩) 0 0) [] :=
  ⟨rfl, .inr ⟨w.heap.size, 0, #[], rfl, h, heap_alloc_new w _, Nat.le_refl _, by unfold maxLen; omega, rfl, rfl⟩⟩

/-- What Clone hands back. -/
def Cloned (xs : List (Int × Int)) (w : World) (e : Ending) (w' : World) : Prop := ∃ v, e = .returned v ∧ Own w' w.heap.size v xs ∧ Below w.heap.size w w'

set_option maxRecDepth 100000 in
set_option maxHeartbeats 1000000 in
theorem clone_nil0 (w : World) : Calls Try.prog 14 #[.slice none 0 0] w fun e w' => e = .returned (.slice none 0 0) ∧ w' = w := by
  have q22 : ∀ (w : World) (a : Option Addr) (n c n' c' : Nat), (binOp .eql 22 (.slice a n c) (.slice none n' c')).run Try.prog w = .ok (.bool a.isNone) w := fun w a n c n' c' => Lib.run_eql_slice_nil w _ _ a n c n' c' Try.underlying22
  go_enter Try.func14, Try.ntmps14
  go_wp2_with fail
  go_ret
  exact ⟨rfl, rfl⟩

theorem clone_nil (w : World) : Calls Try.prog 14 #[.slice none 0 0] w (Cloned [] w) :=
  (clone_nil0 w).mono fun e w' ⟨h1, h2⟩ => ⟨_, h1, by rw [h2]; exact Own.none _ _, by rw [h2]; exact Below.refl _ _⟩

/-- What Clone hands back of a row that isn't nil: one that isn't either, of n elements. -/
def ClonedS (n : Nat) (xs : List (Int × Int)) (w : World) (e : Ending) (w' : World) : Prop :=
  ∃ g c, e = .returned (.slice (some ⟨g, 0, none⟩) n c) ∧ Own w' w.heap.size (.slice (some ⟨g, 0, none⟩) n c) xs ∧ w.heap.size ≤ g ∧ n ≤ c ∧ c ≤ 9223372036854775807 ∧ Below w.heap.size w w'

theorem append_some (w : World) (base g0 : Nat) (ys : List (Int × Int)) (a : Addr) (c n : Nat) (hn : n = ys.length) (hown : Own w base (.slice (some ⟨g0, 0, none⟩) 0 0) []) (hr : Row w (some a) ys) (hlen : ys.length < 2147483648) (hb : base ≤ w.heap.size) :
    ∃ g c' w', (Builtin.append_ #[22, 22] 22 #[.slice (some ⟨g0, 0, none⟩) 0 0, .slice (some a) n c]).run Try.prog w = .ok (.slice (some ⟨g, 0, none⟩) n c') w' ∧ Own w' base (.slice (some ⟨g, 0, none⟩) n c') ys ∧ w.grownBy w' (some g0) ∧ base ≤ g ∧ n ≤ c' ∧ c' ≤ 9223372036854775807 := by
  subst hn
  obtain ⟨i0, hi, hz0, hz1, hz2⟩ := info_parts infoA
  have step : (∀ j u, (cellsE ys)[j]? = some u → w.cell? (a.add j) = some u) → ∃ g c' w', (Builtin.append_ #[22, 22] 22 #[.slice (some ⟨g0, 0, none⟩) 0 0, .slice (some a) ys.length c]).run Try.prog w = .ok (.slice (some ⟨g, 0, none⟩) ys.length c') w' ∧ Own w' base (.slice (some ⟨g, 0, none⟩) ys.length c') ys ∧ w.grownBy w' (some g0) ∧ base ≤ g ∧ ys.length ≤ c' ∧ c' ≤ 9223372036854775807 := by
    intro hc
    obtain ⟨v', w', h1, h2, h3, h4, _⟩ := run_append_own_at (P := Try.prog) w base 22 22 28 i0 _ 2 16 Try.underlying22 hi hz0 hz1 hz2 rfl (by omega) _ 0 (cellsE []) hown a ys.length c (cellsE ys) (cellsE_length ys) hc (cellsE_one ys) (by unfold maxLen; omega) (by omega) hb
    rw [Nat.zero_add] at h2
    have h5 : ¬ v' = .slice none 0 0 := fun e => by have := (h4.1 e).1; cases this
    rcases h2.2 with ⟨e, _⟩ | ⟨g, cap, cur, rfl, hg, hh, hcap, hm, hs⟩
    · exact absurd e h5
    · exact ⟨g, cap, w', h1, h2, h3, hg, hcap, by unfold maxLen at hm; omega⟩
  by_cases h0 : 0 < ys.length
  · obtain ⟨b, o, e, hc⟩ := hr h0
    cases e
    exact step (fun j u hu => by rw [add_plain]; exact hc j u hu)
  · obtain rfl : ys = [] := List.eq_nil_of_length_eq_zero (by omega)
    exact step (fun j u hu => by simp [cellsE] at hu)

set_option maxRecDepth 100000 in
set_option maxHeartbeats 1000000 in
theorem clone_some (a : Addr) (xs : List (Int × Int)) (n c : Nat) (w : World) (hn : n = xs.length) (hl : n < 1073741823) (hr : Row w (some a) xs) :
    Calls Try.prog 14 #[.slice (some a) n c] w (ClonedS n xs w) := by
  obtain ⟨g, c', w', hrun, hown, hgb, h1, h2, h3⟩ := append_some _ w.heap.size _ xs a c n hn (Own.empty w w.heap.size (Nat.le_refl _)) (hr.below ((Below.refl _ _).alloc (Nat.le_refl _) _)) (by omega) (by simp)
  have hb : Below w.heap.size w w' := below_grown ((Below.refl _ _).alloc (Nat.le_refl _) _) hgb (by simp) (fun g hg => by simp at hg; omega)
  have H := Lib.hid (And.intro hown (And.intro h1 (And.intro h2 (And.intro h3 hb))))
  clear hown hgb hb hr hn h1 h2 h3
  have q22 : ∀ (w : World) (a : Option Addr) (n c n' c' : Nat), (binOp .eql 22 (.slice a n c) (.slice none n' c')).run Try.prog w = .ok (.bool a.isNone) w := fun w a n c n' c' => Lib.run_eql_slice_nil w _ _ a n c n' c' Try.underlying22
  go_enter Try.func14, Try.ntmps14
  go_wp2_with (at_builtin; refine wpList_append_run rfl _ _ _ rfl _ _ _ _ rfl rfl hrun ?_)
  go_ret
  exact ⟨g, c', rfl, H.out.1, H.out.2⟩

theorem clone_any (A : Option Addr) (xs : List (Int × Int)) (n c : Nat) (w : World) (hn : n = xs.length) (hl : n < 1073741823) (hr : Row w A xs) (hc : n ≤ c) (hA : A = none → c = 0) :
    Calls Try.prog 14 #[.slice A n c] w (Cloned xs w) := by
  cases A with
  | some a => exact (clone_some a xs n c w hn hl hr).mono fun e w' ⟨g, c', he, own, _, _, _, hb⟩ => ⟨_, he, own, hb⟩
  | none =>
    obtain rfl := hA rfl
    obtain rfl : n = 0 := by omega
    obtain rfl : xs = [] := List.eq_nil_of_length_eq_zero hn.symm
    exact clone_nil w

/-- What Of hands back. -/
def Made (l : List (Int × Int)) (w : World) (e : Ending) (w' : World) : Prop :=
  ∃ b A c, e = .returned (.pointer (some ⟨b, 0, none⟩)) ∧ LateAt w' b A c l 0 ∧ Below w.heap.size w w' ∧ w.heap.size ≤ b ∧ ∀ a, A = some a → w.heap.size ≤ a.block

set_option maxHeartbeats 1000000 in
theorem of_any (A : Option Addr) (l : List (Int × Int)) (n c : Nat) (w : World) (hn : n = l.length) (hl : n < 1073741823) (hr : Row w A l) (hc : n ≤ c) (hA : A = none → c = 0) :
    Calls Try.prog 7 #[.slice A n c] w (Made l w) := by
  have HC := Lib.hid (clone_any A l n c w hn hl hr hc hA)
  clear hn hl hr hc hA
  go_enter Try.func7, Try.ntmps7
  go_wp2_with fail
  ((with_reducible refine HC.out.mono ?_); rintro e w1 ⟨v, rfl, own, hb⟩)
  have hlt := World.ownsRow.lt own
  obtain ⟨A', c', rfl, hr', hc1, hc2, hA'⟩ := own.form
  have H := Lib.hid (And.intro hr' (And.intro hc1 (And.intro hc2 (And.intro hA' (And.intro hb hlt)))))
  clear hr' hc1 hc2 hA' hb hlt own HC
  go_wp2_with fail
  go_ret
  obtain ⟨hr', hc1, hc2, hA', hb, hlt⟩ := H.out
  refine ⟨w1.heap.size, A', c', rfl, ⟨heap_alloc_new w1 _, ?_, hc1, hc2, hA', (fun a e => ?_), (fun a e => ?_), Or.inl rfl⟩, hb.alloc hb.size _, hb.size, fun a e => ?_⟩
  · rw [if_pos rfl]; exact hr'.below ((Below.refl _ _).alloc (Nat.le_refl _) _)
  · subst e; have := (hlt a.block rfl).2; omega
  · subst e; have := (hlt a.block rfl).2; simp; omega
  · subst e; exact (hlt a.block rfl).1

theorem done_load (b off : Nat) (v : Int) (w : World) (h : w.cell? ⟨b, off, none⟩ = some (.int .i64 v)) : Calls Try.prog 15 #[.pointer (some ⟨b, off, none⟩)] w fun e w' =>
    e = .returned (.int .i64 v) ∧ w' = w := by
  have hl := run_call_load (P := Try.prog) Try.func18 (by kernel_rfl) (by kernel_rfl) (by kernel_rfl) .i64 (by kernel_rfl) h
  go_enter Try.func15, Try.ntmps15
  go_wp2
  go_ret
  exact ⟨rfl, rfl⟩

set_option maxHeartbeats 1000000 in
theorem done_at (b : Nat) (k : Int) (w : World) (h : w.cell? ⟨b, 4, none⟩ = some (.int .i64 k)) : Calls Try.prog 8 #[.pointer (some ⟨b, 0, none⟩)] w fun e w' => e = .returned (.int .i64 k) ∧ w' = w := by
  have HL := Lib.hid (done_load b 4 k w h)
  clear h
  go_enter Try.func8, Try.ntmps8
  go_wp2_with fail
  ((with_reducible refine HL.out.mono ?_); rintro e w1 ⟨rfl, rfl⟩)
  go_wp2_with fail
  go_ret
  exact ⟨rfl, rfl⟩

set_option maxHeartbeats 1000000 in
theorem done_nil (w : World) : Calls Try.prog 8 #[.pointer none] w fun e w' => e = .returned (.int .i64 0) ∧ w' = w := by
  go_enter Try.func8, Try.ntmps8
  go_wp2_with fail
  go_ret
  exact ⟨rfl, rfl⟩

end Go.Proofs.Ytimffepggbaaaaa
