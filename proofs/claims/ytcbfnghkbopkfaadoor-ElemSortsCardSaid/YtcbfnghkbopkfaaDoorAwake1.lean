/-
  The document's example, part by part: what Parse, Least, Sort, Less, Compare and Text tell of the example's elements, in any world where the library's own variables hold what they were laid as.
-/
import Derived.Test.YtcbfnghkbopkfaaDoorText
import Derived.Test.YtcbfnghkbopkfaaDoorSort
import Derived.Test.YtcbfnghkbopkfaaDoorLeast
import Derived.Laws.Rows
namespace Go.Proofs.YtcbfnghkbopkfaaDoor
open Go.Sort Go.RowKit

/-- A row in order that has the same elements is the sorted one. -/
theorem srt_eq (xs ys : List (Int × Int)) (hp : ys.Perm xs) (hs : ys.Pairwise fun x y => (!ltE y x) = true) : srt xs = ys := by
  unfold srt
  have ht : ∀ a b c : Int × Int, (!ltE b a) = true → (!ltE c b) = true → (!ltE c a) = true := by
    intro a b c h1 h2
    simp only [Bool.not_eq_true'] at *
    exact swoE.ntrans c b a h2 h1
  have hT : ∀ a b : Int × Int, ((!ltE b a) || (!ltE a b)) = true := by
    intro a b
    cases h : ltE b a with
    | false => simp
    | true =>
      have : ltE a b = false := by rw [ltE_not]; rw [ltE_iff] at h; omega
      simp [this]
  refine List.Perm.eq_of_pairwise (le := fun x y => (!ltE y x) = true) ?_ (List.pairwise_mergeSort ht hT xs) hs ((List.mergeSort_perm _ _).trans hp.symm)
  intro a b _ _ h1 h2
  simp only [Bool.not_eq_true'] at h1 h2
  exact ltE_total a b h2 h1

/-- A row that was just laid. -/
theorem row_new (w : World) (xs : List (Int × Int)) (t : TypeId) : Row (w.alloc (.cells (cellsE xs).toArray t)) (some ⟨w.heap.size, 0, none⟩) xs := fun _ =>
  ⟨w.heap.size, 0, rfl, fun j v hv => by
    have e : (w.alloc (.cells (cellsE xs).toArray t)).heap[w.heap.size]? = some (.cells (cellsE xs).toArray t (0, 0)) := heap_alloc_new w _
    rw [Nat.zero_add, cell_of_row _ _ j _ _ _ e]
    simpa using hv⟩

theorem text_a : textOf (-5) 3 = [45, 53, 58, 51] := by
  unfold textOf Lib.itoa
  rw [if_pos (by omega), if_neg (by omega)]
  rw [show (-5 : Int).natAbs = 5 from rfl, show (3 : Int).toNat = 3 from rfl, Lib.decDigits_one (by omega), Lib.decDigits_one (by omega)]
  rfl
theorem text_b : textOf (-5) 4 = [45, 53, 58, 52] := by
  unfold textOf Lib.itoa
  rw [if_pos (by omega), if_neg (by omega)]
  rw [show (-5 : Int).natAbs = 5 from rfl, show (4 : Int).toNat = 4 from rfl, Lib.decDigits_one (by omega), Lib.decDigits_one (by omega)]
  rfl
theorem none_c : elemOf [48, 53, 58, 51] = none := by
  cases h : elemOf [48, 53, 58, 51] with
  | none => rfl
  | some x =>
    exfalso
    have h1 : numOf [48, 53] = none := by
      unfold numOf
      have hp : Lib.parseIntB 64 [48, 53] = .ok 5 := by decide +kernel
      rw [hp]
      simp only
      rw [if_neg]
      unfold Lib.itoa
      rw [if_neg (by omega), show (5 : Int).toNat = 5 from rfl, Lib.decDigits_one (by omega)]
      decide
    unfold elemOf at h
    rw [show ([48, 53, 58, 51] : List UInt8) = [48, 53] ++ 58 :: [51] from rfl, cut_mark _ _ (by decide)] at h
    simp only [h1, if_true] at h
    cases h

theorem parse_a (w : World) (he : Env w) : Calls Tryd.prog 18 #[.string ⟨#[45, 53, 58, 51]⟩] w fun e w' => e = .returned (.tuple #[.agg #[.int .i64 (-5), .int .i64 3], .int .i64 0]) ∧ Below w.heap.size w w' := by
  have h := parse_any ⟨#[45, 53, 58, 51]⟩ (by decide) w he
  rw [show (⟨#[45, 53, 58, 51]⟩ : ByteArray).data.toList = textOf (-5) 3 from text_a.symm, elemOf_text _ _ (by unfold in64; omega) (by unfold in64; omega)] at h
  exact h
theorem parse_c (w : World) (he : Env w) : Calls Tryd.prog 18 #[.string ⟨#[48, 53, 58, 51]⟩] w fun e w' => e = .returned (.tuple #[.agg #[.int .i64 0, .int .i64 0], .int .i64 10]) ∧ Below w.heap.size w w' := by
  have h := parse_any ⟨#[48, 53, 58, 51]⟩ (by decide) w he
  rw [show (⟨#[48, 53, 58, 51]⟩ : ByteArray).data.toList = [48, 53, 58, 51] from rfl, none_c] at h
  exact h
theorem text_b_any (w : World) (he : Env w) : Calls Tryd.prog 20 #[.agg #[.int .i64 (-5), .int .i64 4]] w fun e w' => e = .returned (.string ⟨#[45, 53, 58, 52]⟩) ∧ Below w.heap.size w w' := by
  have h := text_any (-5) 4 (by omega) (by omega) w he
  rw [text_b] at h
  exact h
theorem less_ab (w : World) : Calls Tryd.prog 14 #[.agg #[.int .i64 (-5), .int .i64 3], .agg #[.int .i64 (-5), .int .i64 4]] w fun e w' => e = .returned (.bool true) ∧ Below w.heap.size w w' := less_below (-5) 3 (-5) 4 w
theorem less_ba (w : World) : Calls Tryd.prog 14 #[.agg #[.int .i64 (-5), .int .i64 4], .agg #[.int .i64 (-5), .int .i64 3]] w fun e w' => e = .returned (.bool false) ∧ Below w.heap.size w w' := less_below (-5) 4 (-5) 3 w
theorem compare_ba (w : World) : Calls Tryd.prog 16 #[.agg #[.int .i64 (-5), .int .i64 4], .agg #[.int .i64 (-5), .int .i64 3]] w fun e w' => e = .returned (.int .i64 1) ∧ Below w.heap.size w w' := compare_below (-5) 4 (-5) 3 w
theorem least_baz (w : World) (gg : Nat) (hgg : gg = w.heap.size) : Calls Tryd.prog 12 #[.slice (some ⟨gg, 0, none⟩) 3 3] (w.alloc (.cells #[.int .i64 (-5), .int .i64 4, .int .i64 (-5), .int .i64 3, .int .i64 0, .int .i64 0] 23)) fun e w' => e = .returned (.tuple #[.agg #[.int .i64 (-5), .int .i64 3], .bool true]) ∧ Below (w.heap.size + 1) (w.alloc (.cells #[.int .i64 (-5), .int .i64 4, .int .i64 (-5), .int .i64 3, .int .i64 0, .int .i64 0] 23)) w' := by
  subst hgg
  have h := least_any _ [(-5, 4), (-5, 3), (0, 0)] 3 _ (by decide) (by decide) (by decide) (row_new w [(-5, 4), (-5, 3), (0, 0)] 23)
  rw [show (w.alloc (.cells (cellsE [(-5, 4), (-5, 3), (0, 0)]).toArray 23)).heap.size = w.heap.size + 1 from by simp] at h
  exact h
theorem sort_zba (w : World) (gg : Nat) (hgg : gg = w.heap.size) : Calls Tryd.prog 10 #[.slice (some ⟨gg, 0, none⟩) 3 3] (w.alloc (.cells #[.int .i64 0, .int .i64 0, .int .i64 (-5), .int .i64 4, .int .i64 (-5), .int .i64 3] 23)) fun e w' => ∃ g, e = .returned (.slice (some ⟨g, 0, none⟩) 3 3) ∧ (w'.cell? ⟨g, 0, none⟩ = some (.int .i64 (-5)) ∧ w'.cell? ⟨g, 1, none⟩ = some (.int .i64 3) ∧ w'.cell? ⟨g, 2, none⟩ = some (.int .i64 (-5)) ∧ w'.cell? ⟨g, 3, none⟩ = some (.int .i64 4)) ∧ Below (w.heap.size + 1) (w.alloc (.cells #[.int .i64 0, .int .i64 0, .int .i64 (-5), .int .i64 4, .int .i64 (-5), .int .i64 3] 23)) w' := by
  subst hgg
  have h := sort_any _ [(0, 0), (-5, 4), (-5, 3)] 3 _ (by decide) (row_new w [(0, 0), (-5, 4), (-5, 3)] 23)
  refine Calls.mono h fun e w' ⟨g, he, hr, hb⟩ => ⟨g, he, ?_, ?_⟩
  · rw [srt_eq [(0, 0), (-5, 4), (-5, 3)] [(-5, 3), (-5, 4), (0, 0)] (by decide) (by decide)] at hr
    obtain ⟨b, o, e1, hc⟩ := hr (by simp)
    injection e1 with e1
    injection e1 with e2 e3 e4
    subst e2
    subst e3
    exact ⟨hc 0 _ rfl, hc 1 _ rfl, hc 2 _ rfl, hc 3 _ rfl⟩
  · rw [show (w.alloc (.cells (cellsE [(0, 0), (-5, 4), (-5, 3)]).toArray 23)).heap.size = w.heap.size + 1 from by simp] at hb
    exact hb

end Go.Proofs.YtcbfnghkbopkfaaDoor
