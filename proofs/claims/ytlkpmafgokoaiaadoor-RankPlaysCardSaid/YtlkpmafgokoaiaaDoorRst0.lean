/-
  What RankStays asks beside the contracts: how many things, which rank and which elements trees of trees have; a row of the call's own that is written. No conditions beyond what each theorem says.
-/
import Derived.Test.YtlkpmafgokoaiaaDoorTrN
import Derived.Test.YtlkpmafgokoaiaaDoorOpen
namespace Go.Proofs.YtlkpmafgokoaiaaDoor
open Go.Sort Go.RowKit

theorem lnk_len {a b : Tre} {r : Nat} (ha : a.ks.len = r) (hb : b.ks.len = r) : (lnk a b).ks.len = r + 1 := by unfold lnk; split <;> simp [Wood.len, ha, hb]
theorem skw_len (y : Int × Int) (t : Tre) : (skw y t).ks.len = t.ks.len := by unfold skw; split <;> rfl
theorem skw_beside (y : Int × Int) (t : Tre) : (skw y t).bs ≠ [] := by unfold skw; split <;> simp
theorem all_fits (t : Tre) : fits t.all ↔ (in64 t.x.1 ∧ in64 t.x.2) ∧ fits t.bs ∧ fits t.ks.all :=
  ⟨fun h => ⟨h.cons.1, h.cons.2.append.1, h.cons.2.append.2⟩, fun ⟨h1, h2, h3⟩ e he => by
    simp only [Tre.all, List.mem_cons, List.mem_append] at he
    rcases he with rfl | he | he
    · exact h1
    · exact h2 e he
    · exact h3 e he⟩
theorem cons_fits {x : Int × Int} {bs : List (Int × Int)} {ks r : Wood} (h1 : in64 x.1 ∧ in64 x.2) (h2 : fits bs) (h3 : fits ks.all) (h4 : fits r.all) : fits (Wood.cons x bs ks r).all := fun e he => by
  simp only [Wood.all, List.mem_cons, List.mem_append] at he
  rcases he with (rfl | he | he) | he
  · exact h1
  · exact h2 e he
  · exact h3 e he
  · exact h4 e he
theorem lnk_fits {a b : Tre} (ha : fits a.all) (hb : fits b.all) : fits (lnk a b).all := by
  obtain ⟨a1, a2, a3⟩ := (all_fits a).1 ha
  obtain ⟨b1, b2, b3⟩ := (all_fits b).1 hb
  unfold lnk
  split
  · exact (all_fits _).2 ⟨b1, b2, cons_fits a1 a2 a3 b3⟩
  · exact (all_fits _).2 ⟨a1, a2, cons_fits b1 b2 b3 a3⟩
theorem skw_fits {y : Int × Int} {t : Tre} (hy : in64 y.1 ∧ in64 y.2) (ht : fits t.all) : fits (skw y t).all := by
  obtain ⟨a1, a2, a3⟩ := (all_fits t).1 ht
  unfold skw
  split
  · exact (all_fits _).2 ⟨a1, fun e he => by rcases List.mem_cons.1 he with rfl | he; exact hy; exact a2 e he, a3⟩
  · exact (all_fits _).2 ⟨hy, fun e he => by rcases List.mem_cons.1 he with rfl | he; exact a1; exact a2 e he, a3⟩
theorem leaf_fits {y : Int × Int} (hy : in64 y.1 ∧ in64 y.2) : fits (leafT y).all := (all_fits _).2 ⟨hy, fun _ h => by simp [leafT] at h, fun _ h => by simp [leafT, Wood.all] at h⟩

/-- A block of the call's own, of n cells that hold 64-bit numbers. -/
def IntBlk (w : World) (g n : Nat) : Prop := ∃ cur, w.heap[g]? = some (.cells cur 28 (0, 0)) ∧ ∀ j, j < n → ∃ z : Int, cur[j]? = some (.int .i64 z)
/-- A block of the call's own, of n trees' addresses. -/
def PtrBlk (w : World) (g n : Nat) : Prop := ∃ cur, w.heap[g]? = some (.cells cur 36 (0, 0)) ∧ n ≤ cur.size

section
variable {w w' : World} {g n : Nat}
theorem IntBlk.stay (h : IntBlk w g n) (hb : Below w.heap.size w w') : IntBlk w' g n := by obtain ⟨cur, hg, hc⟩ := h; exact ⟨cur, (hb.block g (lt_of_heap hg)).trans hg, hc⟩
theorem IntBlk.cell (h : IntBlk w g n) (j : Nat) (hj : j < n) : ∃ z : Int, w.cell? ⟨g, j, none⟩ = some (.int .i64 z) := by
  obtain ⟨cur, hg, hc⟩ := h
  obtain ⟨z, hz⟩ := hc j hj
  exact ⟨z, by simp [World.cell?, hg, hz]⟩
theorem IntBlk.frozen (h : IntBlk w g n) (j : Nat) : w.frozen? ⟨g, j, none⟩ = false := by obtain ⟨cur, hg, -⟩ := h; simp [World.frozen?, hg]
theorem IntBlk.set (h : IntBlk w g n) (j : Nat) (z : Int) : IntBlk (w.setCell ⟨g, j, none⟩ (.int .i64 z)) g n := by
  obtain ⟨cur, hg, hc⟩ := h
  refine ⟨_, heap_put hg _, fun k hk => ?_⟩
  obtain ⟨u, hu⟩ := hc k hk
  by_cases e : j = k
  · subst e; exact ⟨z, by rw [Array.getElem?_setIfInBounds_self_of_lt]; exact (Array.getElem?_eq_some_iff.1 hu).1⟩
  · exact ⟨u, by rw [Array.getElem?_setIfInBounds_ne e]; exact hu⟩
theorem IntBlk.other (h : IntBlk w g n) (g' j : Nat) (z : Int) : IntBlk (w.setCell ⟨g', j, none⟩ (.int .i64 z)) g n := by
  by_cases e : g = g'
  · subst e; exact h.set j z
  · obtain ⟨cur, hg, hc⟩ := h
    exact ⟨cur, (Below.heap_setCell w ⟨g', j, none⟩ _ g e).trans hg, hc⟩
theorem IntBlk.kp (h : IntBlk w g n) (j : Nat) (v : Value) : Kp w (w.setCell ⟨g, j, none⟩ v) := by obtain ⟨cur, hg, -⟩ := h; exact Kp.set hg (by decide) j v
theorem PtrBlk.stay (h : PtrBlk w g n) (hb : Below w.heap.size w w') : PtrBlk w' g n := by obtain ⟨cur, hg, hc⟩ := h; exact ⟨cur, (hb.block g (lt_of_heap hg)).trans hg, hc⟩
theorem PtrBlk.cell (h : PtrBlk w g n) (j : Nat) (hj : j < n) : ∃ z : Value, w.cell? ⟨g, j, none⟩ = some z := by
  obtain ⟨cur, hg, hc⟩ := h
  exact ⟨cur[j]'(by omega), by simp [World.cell?, hg]⟩
theorem PtrBlk.frozen (h : PtrBlk w g n) (j : Nat) : w.frozen? ⟨g, j, none⟩ = false := by obtain ⟨cur, hg, -⟩ := h; simp [World.frozen?, hg]
theorem PtrBlk.set (h : PtrBlk w g n) (j : Nat) (v : Value) : PtrBlk (w.setCell ⟨g, j, none⟩ v) g n := by
  obtain ⟨cur, hg, hc⟩ := h
  exact ⟨_, heap_put hg _, by simpa using hc⟩
theorem PtrBlk.kp (h : PtrBlk w g n) (j : Nat) (v : Value) : Kp w (w.setCell ⟨g, j, none⟩ v) := by obtain ⟨cur, hg, -⟩ := h; exact Kp.set hg (by decide) j v

theorem Own.blk {base : Nat} {v : Value} {xs : List (Int × Int)} (h : Own w base v xs) (hx : xs ≠ []) : ∃ g c, v = .slice (some ⟨g, 0, Option.none⟩) xs.length c ∧ base ≤ g ∧ xs.length ≤ c ∧ c ≤ 9223372036854775807 ∧ IntBlk w g (xs.length * 2) := by
  have h0 := h
  rcases h.2 with ⟨-, h1⟩ | ⟨g, cap, cur, rfl, hb, hg, hc, hm, -⟩
  · exact absurd (List.eq_nil_of_length_eq_zero h1) hx
  · refine ⟨g, cap, rfl, hb, hc, by unfold maxLen at hm; omega, cur, hg, fun j hj => ?_⟩
    have h2 := World.ownsRow.cellAt h0 j hj
    have h3 : ∃ z : Int, (cellsE xs)[j]? = some (.int .i64 z) := by
      have hi : j / 2 < xs.length := by omega
      have hc := cellsE_at xs (j / 2) hi
      rcases Nat.mod_two_eq_zero_or_one j with hz | hz
      · rw [show j / 2 * 2 = j by omega] at hc; exact ⟨_, hc.1⟩
      · rw [show j / 2 * 2 + 1 = j by omega] at hc; exact ⟨_, hc.2⟩
    obtain ⟨z, hz⟩ := h3
    rw [hz] at h2
    refine ⟨z, ?_⟩
    simpa [World.cell?, hg] using h2
theorem OwnP.blk {base : Nat} {v : Value} {ps : List (Option Addr)} (h : OwnP w base v ps) (hx : ps ≠ []) : ∃ g c, v = .slice (some ⟨g, 0, none⟩) ps.length c ∧ base ≤ g ∧ ps.length ≤ c ∧ c ≤ 9223372036854775807 ∧ PtrBlk w g ps.length := by
  rcases h.2 with ⟨-, h1⟩ | ⟨g, cap, cur, rfl, hb, hg, hc, hm, hs, -⟩
  · exact absurd (List.eq_nil_of_length_eq_zero h1) hx
  · exact ⟨g, cap, rfl, hb, hc, by unfold maxLen at hm; omega, cur, hg, by omega⟩
end

end Go.Proofs.YtlkpmafgokoaiaaDoor
