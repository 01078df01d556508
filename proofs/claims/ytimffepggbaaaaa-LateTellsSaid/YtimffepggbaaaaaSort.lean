/-
  The contract of elem.Sort: of any row of fewer than 2^31 elements: a new row that holds all of them in order; nothing that was there has changed.
-/
import Derived.Test.YtimffepggbaaaaaElem1
import Derived.Test.YtimffepggbaaaaaRow
import Derived.Test.YtimffepggbaaaaaShelf
import Derived.Shelf.SlSortCmp.WholeK
import Derived.Sort.LotA
namespace Go.Proofs.Ytimffepggbaaaaa
open Go.Sort Go.RowKit

theorem ltOf_cmp : ltOf cmpE = ltE := by
  funext x y
  unfold ltOf cmpE cmpI ltE
  by_cases h : x.1 = y.1 ∧ x.2 = y.2
  · rw [if_pos h, h.1, h.2]
    symm
    simp [ltI]
  · rw [if_neg h]
    cases ltI x.1 x.2 y.1 y.2 <;> simp
theorem flat_cells (xs : List (Int × Int)) : flatK encE 2 xs.toArray = (cellsE xs).toArray := by
  refine ext_get! (by simp [cellsE_length]) fun t ht => ?_
  have ht' : t < xs.toArray.size * 2 := by simpa using ht
  rw [get_flatK _ _ _ t ht']
  have hi : t / 2 < xs.length := by simp at ht'; omega
  have e := cellsE_at xs (t / 2) hi
  have hl := cellsE_length xs
  have hx : xs.toArray[t / 2]! = xs[t / 2] := by simp [hi]
  rw [hx]
  rcases Nat.mod_two_eq_zero_or_one t with h | h
  · rw [h]
    have e0 : t / 2 * 2 = t := by omega
    rw [e0] at e
    have e1 : (cellsE xs).toArray[t]? = some (.int .i64 xs[t / 2].1) := by simpa using e.1
    rw [Array.getElem!_eq_getD, Array.getD_eq_getD_getElem?, e1]
    rfl
  · rw [h]
    have e0 : t / 2 * 2 + 1 = t := by omega
    rw [e0] at e
    have e1 : (cellsE xs).toArray[t]? = some (.int .i64 xs[t / 2].2) := by simpa using e.2
    rw [Array.getElem!_eq_getD, Array.getD_eq_getD_getElem?, e1]
    rfl

theorem below_sortK {B g n : Nat} {w w2 : World} (hb : Below B w w2) (hg : B ≤ g) (hB : B ≤ w2.heap.size) (d : Array (Int × Int)) (os : Array Obj) : Below B w (sortWorldK encE 2 w2 g 0 n d os) := by
  refine hb.trans ⟨rfl, rfl, rfl, by simp [sortWorldK, putRowK, grow, Sort.ahead], fun k hk => ?_⟩
  have h1 : k < w2.heap.size := by omega
  simp only [sortWorldK, putRowK, putRow, mapBlock, grow, Sort.ahead]
  rw [Array.getElem?_append_left (by simpa using h1), Array.getElem?_modify, if_neg (by omega)]

theorem row_sortK {g n : Nat} {w2 : World} {xs : List (Int × Int)} (hH : HoldsK encE 2 w2 g 0 xs.toArray) (ys : List (Int × Int)) (hl : ys.length = xs.length) (os : Array Obj) : Row (sortWorldK encE 2 w2 g 0 n ys.toArray os) (some ⟨g, 0, none⟩) ys := fun _ => by
  refine ⟨g, 0, rfl, fun j v hv => ?_⟩
  have hj : j < (cellsE ys).length := (List.getElem?_eq_some_iff.1 hv).1
  have hc := cell?_putRow id w2 g 0 (flatK encE 2 xs.toArray) (flatK encE 2 ys.toArray) hH (by simp [hl]) j (by simp [cellsE_length] at hj ⊢; omega)
  rw [flat_cells ys] at hc
  have hx : (cellsE ys).toArray[j]! = v := by
    have e1 : (cellsE ys).toArray[j]? = some v := by simpa using hv
    rw [Array.getElem!_eq_getD, Array.getD_eq_getD_getElem?, e1]; rfl
  rw [hx] at hc
  have hc2 : (putRowK encE 2 (Sort.ahead w2 n) g 0 ys.toArray).cell? ⟨g, 0 + j, none⟩ = some v := by
    unfold putRowK
    rw [flat_cells ys, putRow_ahead]
    exact hc
  show (grow (putRowK encE 2 (Sort.ahead w2 n) g 0 ys.toArray) os).cell? _ = some v
  rw [cell?_grow _ _ _ (block_lt_of_cell hc2)]
  exact hc2

theorem cmpLaysE (blk off size : Nat) (w : World) : CmpLays Try.prog 31 #[] encE 2 cmpE blk off size w :=
  fun _ _ _ _ x y => compare_any x.1 x.2 y.1 y.2 _

theorem infoE : (Try.prog.info? 28).map (fun i => (i.zero, i.size, i.bytes)) = some (some (.agg #[.int .i64 0, .int .i64 0]), 2, 16) := by kernel_rfl
theorem sizeE : (Try.prog.info? 28).map (·.size) = some 2 := by kernel_rfl

/-- What Sort hands back. -/
def Sorted (xs : List (Int × Int)) (w : World) (e : Ending) (w' : World) : Prop :=
  ∃ g, e = .returned (.slice (some ⟨g, 0, none⟩) xs.length xs.length) ∧ Row w' (some ⟨g, 0, none⟩) (srt xs) ∧ Below w.heap.size w w'

/-- .. and where: in a new block. -/
def SortedAt (xs : List (Int × Int)) (w : World) (e : Ending) (w' : World) : Prop :=
  ∃ g, w.heap.size ≤ g ∧ g < w'.heap.size ∧ e = .returned (.slice (some ⟨g, 0, none⟩) xs.length xs.length) ∧ Row w' (some ⟨g, 0, none⟩) (srt xs) ∧ Below w.heap.size w w'

set_option maxHeartbeats 400000 in
theorem sort_new (A : Option Addr) (xs : List (Int × Int)) (c : Nat) (w : World) (hlen : xs.length < 2147483648) (hr : Row w A xs) :
    Calls Try.prog 24 #[.slice A xs.length c] w (SortedAt xs w) := by
  obtain ⟨i0, hi, hz0, hz1, hz2⟩ := info_parts infoE
  have hmk : (Instr.makeSlice 22 (.int .i64 (xs.length : Int)) (.int .i64 (xs.length : Int))).run Try.prog w = .ok (.slice (some ⟨w.heap.size, 0, none⟩) xs.length xs.length) (w.alloc (.cells (madeCells #[.int .i64 0, .int .i64 0] (xs.length * 2)) 28)) := by
    have h := run_make (P := Try.prog) w 22 28 i0 _ Try.underlying22 hi hz0 .i64 .i64 xs.length xs.length (by omega) (by omega) (by rw [hz2]; omega) (by omega)
    rw [hz1] at h
    simp only [Int.toNat_natCast] at h
    exact h
  have hg : (w.alloc (.cells (madeCells #[.int .i64 0, .int .i64 0] (xs.length * 2)) 28)).heap[w.heap.size]? = some (.cells (madeCells #[.int .i64 0, .int .i64 0] (xs.length * 2)) 28 (0, 0)) := heap_alloc_new w _
  have hb1 : Below w.heap.size w (w.alloc (.cells (madeCells #[.int .i64 0, .int .i64 0] (xs.length * 2)) 28)) := (Below.refl w.heap.size w).alloc (Nat.le_refl _) _
  have hr1 := hr.below hb1
  generalize w.alloc (.cells (madeCells #[.int .i64 0, .int .i64 0] (xs.length * 2)) 28) = w1 at *
  have hcp := fun ty => run_copy_all (P := Try.prog) w1 22 22 ty 28 w.heap.size xs.length 2 xs.length c A _ _ (cellsE xs) Try.underlying22 sizeE hg (cellsE_length xs) (size_madeCells _ _) hr1 (cellsE_one xs)
  have hb2 : Below w.heap.size w (w1.setRow w.heap.size (cellsE xs).toArray) := hb1.trans ⟨rfl, rfl, rfl, by simp [World.setRow], fun k hk => setRow_other w1 w.heap.size k _ (by omega)⟩
  have hg2 : (w1.setRow w.heap.size (cellsE xs).toArray).heap[w.heap.size]? = some (.cells (cellsE xs).toArray 28 (0, 0)) := setRow_heap w1 w.heap.size _ _ _ _ hg
  generalize w1.setRow w.heap.size (cellsE xs).toArray = w2 at *
  have hlt : w.heap.size < w2.heap.size := (Array.getElem?_eq_some_iff.1 hg2).1
  have hH : HoldsK encE 2 w2 w.heap.size 0 xs.toArray := by
    unfold HoldsK
    rw [flat_cells xs]
    intro j hj
    refine ⟨?_, ?_⟩
    · rw [getElem!_pos _ j hj]
      simp [World.cell?, hg2]
    · simp [World.frozen?, hg2]
  have eg : ∀ args w, (callFunc 31 args).run Try.prog w = .ok (.enter 31 args) w := enters_of Try.func31 (by kernel_rfl) rfl
  have hcon := AnyQ.slices_SortFunc Try.sortF 2 Try.isAgg28 Try.sizeOf28 encE (fun _ => rfl) (fun x v hv => by simp [encE] at hv; rcases hv with rfl | rfl <;> rfl) cmpE (by rw [ltOf_cmp]; exact swoE) 31 #[] w.heap.size 0 xs.length xs.toArray w2 eg (cmpLaysE _ _ _ _) hH hlt (by simp; omega)
  have hcon2 : Calls Try.prog 30 #[.slice (some ⟨w.heap.size, 0, none⟩) xs.length xs.length, .func (.func 31) #[] #[]] w2 fun e w' => e = .returned (.tuple #[]) ∧ w.heap.size < w'.heap.size ∧ Row w' (some ⟨w.heap.size, 0, none⟩) (srt xs) ∧ Below w.heap.size w w' := by
    refine Calls.mono hcon fun e w' ⟨he, d', n, os, hp, hs, hw⟩ => ⟨he, ?_⟩
    rw [ltOf_cmp] at hs
    have hd : d'.toList = srt xs := by
      have := sorted_unique_holds swoE ltE_total xs.toArray d' hp hs
      simpa [srt] using this
    have hdl : (srt xs).length = xs.length := by unfold srt; exact List.length_mergeSort _
    have hd2 : d' = (srt xs).toArray := by rw [← hd]
    subst hw
    rw [hd2]
    exact ⟨by simp [sortWorldK, putRowK, putRow, mapBlock, grow, Sort.ahead]; omega, row_sortK hH _ hdl os, below_sortK hb2 (Nat.le_refl _) (Nat.le_of_lt hlt) _ os⟩
  have HC := Lib.hid hcon2
  clear hcon hcon2 eg hH hg2 hlt hb2 hg hb1 hr1 hr hi hz0 hz1 hz2
  go_enter Try.func24, Try.ntmps24
  go_wp2_with (go_at_call 30; ((with_reducible refine HC.out.mono ?_); rintro e w' ⟨rfl, hgl, hrow, hb⟩))
  go_ret
  exact ⟨_, Nat.le_refl _, hgl, rfl, hrow, hb⟩

theorem sort_any (A : Option Addr) (xs : List (Int × Int)) (c : Nat) (w : World) (hlen : xs.length < 2147483648) (hr : Row w A xs) :
    Calls Try.prog 24 #[.slice A xs.length c] w (Sorted xs w) := (sort_new A xs c w hlen hr).mono fun _ _ ⟨g, _, _, h⟩ => ⟨g, h⟩

end Go.Proofs.Ytimffepggbaaaaa
