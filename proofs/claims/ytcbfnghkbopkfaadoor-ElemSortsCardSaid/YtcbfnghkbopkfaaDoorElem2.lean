/-
  Contracts of elem.number, elem.Parse and elem.Text: for any text (shorter than 2^31 bytes) and any element of two 64-bit numbers, in any world where the library's own variables hold what they were laid as.
-/
import Derived.Test.YtcbfnghkbopkfaaDoorElem1
import Derived.Test.YtcbfnghkbopkfaaDoorEnv
import Derived.Lib.ParseIntBTie
namespace Go.Proofs.YtcbfnghkbopkfaaDoor
open Go.Sort Go.RowKit

/-- The number whose text l is. -/
def numOf (l : List UInt8) : Option Int := match Lib.parseIntB 64 l with
  | .ok v => if Lib.itoa v = l then some v else none
  | _ => none

theorem bytes_of (s : ByteArray) : s = ⟨s.data.toList.toArray⟩ := by cases s; simp

set_option maxHeartbeats 400000 in
theorem number_yes (s : ByteArray) (hs : s.size < 2147483648) (v : Int) (hv : Lib.parseIntB 64 s.data.toList = .ok v) (hi : Lib.itoa v = s.data.toList) (w : World) (he : Env w) :
    Calls Tryd.prog 26 #[.string s] w fun e w' => e = .returned (.tuple #[.int .i64 v, .bool true]) ∧ Below w.heap.size w w' := by
  have hb := Lib.parseIntB_bounds hv
  have h0 : -9223372036854775808 ≤ v := by have := hb.1; omega
  have h1 : v ≤ 9223372036854775807 := by have := hb.2; omega
  have HV := Lib.hid hv
  have HI := Lib.hid hi
  clear hb hv hi
  go_enter Tryd.func26, Tryd.ntmps26
  go_wp2_with fail
  ((with_reducible refine (parseInt_ok s (by omega) v HV.out w).mono ?_); rintro e w1 ⟨rfl, hb1⟩)
  go_wp2_with fail
  ((with_reducible refine (formatInt_any v h0 h1 w1 (he.below hb1)).mono ?_); rintro e w2 ⟨rfl, hb2⟩)
  rw [HI.out, ← bytes_of s]
  go_wp2_with fail
  go_ret2
  exact ⟨rfl, hb1.trans (hb2.mono hb1.size)⟩

set_option maxHeartbeats 400000 in
theorem number_else (s : ByteArray) (hs : s.size < 2147483648) (v : Int) (hv : Lib.parseIntB 64 s.data.toList = .ok v) (hi : ¬ Lib.itoa v = s.data.toList) (w : World) (he : Env w) :
    Calls Tryd.prog 26 #[.string s] w fun e w' => e = .returned (.tuple #[.int .i64 0, .bool false]) ∧ Below w.heap.size w w' := by
  have hb := Lib.parseIntB_bounds hv
  have h0 : -9223372036854775808 ≤ v := by have := hb.1; omega
  have h1 : v ≤ 9223372036854775807 := by have := hb.2; omega
  have hne : (Lib.itoa v == s.toList) = false := by
    rw [ByteArray.toList_eq s, beq_eq_false_iff_ne]
    exact hi
  have HV := Lib.hid hv
  clear hb hv
  go_enter Tryd.func26, Tryd.ntmps26
  go_wp2_with fail
  ((with_reducible refine (parseInt_ok s (by omega) v HV.out w).mono ?_); rintro e w1 ⟨rfl, hb1⟩)
  go_wp2_with fail
  ((with_reducible refine (formatInt_any v h0 h1 w1 (he.below hb1)).mono ?_); rintro e w2 ⟨rfl, hb2⟩)
  go_wp2_with fail
  go_ret2
  exact ⟨rfl, hb1.trans (hb2.mono hb1.size)⟩

set_option maxHeartbeats 400000 in
theorem number_no (s : ByteArray) (hs : s.size < 2147483648) (h : ∀ v, Lib.parseIntB 64 s.data.toList ≠ .ok v) (w : World) (he : Env w) :
    Calls Tryd.prog 26 #[.string s] w fun e w' => e = .returned (.tuple #[.int .i64 0, .bool false]) ∧ Below w.heap.size w w' := by
  have HV := Lib.hid h
  clear h
  go_enter Tryd.func26, Tryd.ntmps26
  go_wp2_with fail
  ((with_reducible refine (parseInt_no s (by omega) HV.out w he).mono ?_); rintro e w1 ⟨n, t, a, rfl, hb1⟩)
  go_wp2_with fail
  go_ret2
  exact ⟨rfl, hb1⟩

theorem number_any (s : ByteArray) (hs : s.size < 2147483648) (w : World) (he : Env w) :
    Calls Tryd.prog 26 #[.string s] w fun e w' => e = .returned (.tuple #[.int .i64 ((numOf s.data.toList).getD 0), .bool (numOf s.data.toList).isSome]) ∧ Below w.heap.size w w' := by
  unfold numOf
  rcases hp : Lib.parseIntB 64 s.data.toList with v | _ | _
  · by_cases hi : Lib.itoa v = s.data.toList
    · simp only [if_pos hi]; exact number_yes s hs v hp hi w he
    · simp only [if_neg hi]; exact number_else s hs v hp hi w he
  · exact number_no s hs (fun v => by rw [hp]; simp) w he
  · exact number_no s hs (fun v => by rw [hp]; simp) w he

/-- The element whose text l is. -/
def elemOf (l : List UInt8) : Option (Int × Int) :=
  if (Lib.cut l [58]).2.2 then
    match numOf (Lib.cut l [58]).1, numOf (Lib.cut l [58]).2.1 with
    | some a, some b => some (a, b)
    | _, _ => none
  else none

/-- What Parse hands back. -/
def parsed : Option (Int × Int) → Value
  | some x => .tuple #[.agg #[.int .i64 x.1, .int .i64 x.2], .int .i64 0]
  | none => .tuple #[.agg #[.int .i64 0, .int .i64 0], .int .i64 10]


set_option maxHeartbeats 400000 in
theorem parse_nocut (s : ByteArray) (hs : s.size < 2147483648) (hc : (Lib.cut s.data.toList [58]).2.2 = false) (w : World) (he : Env w) :
    Calls Tryd.prog 18 #[.string s] w fun e w' => e = .returned (.tuple #[.agg #[.int .i64 0, .int .i64 0], .int .i64 10]) ∧ Below w.heap.size w w' := by
  have HC := Lib.hid hc
  have h1 := fun (o : Obj) => he.below ((Below.refl w.heap.size w).alloc (Nat.le_refl _) o)
  have HE := Lib.hid h1
  clear hc h1
  go_enter Tryd.func18, Tryd.ntmps18
  go_wp2_with fail
  ((with_reducible refine (cut_any s ⟨#[58]⟩ _ (HE.out _) (by omega)).mono ?_); rintro e w1 ⟨rfl, hb1⟩)
  rw [show (Lib.cut s.data.toList (⟨#[58]⟩ : ByteArray).data.toList).2.2 = false from HC.out]
  obtain ⟨c0, c1, f0, f1, hlt, hb⟩ := pair_after hb1
  clear hb1 HE HC
  go_wp2_with fail
  refine bodyPost_ret (v := .tuple #[.agg #[.int .i64 0, .int .i64 0], .int .i64 10]) (by simp [results, Tryd.results18, go_sem, c0, c1]) rfl ⟨rfl, ?_⟩
  exact (hb.setCell (by simp) _).setCell (by simp) _

set_option maxHeartbeats 400000 in
theorem parse_no (s : ByteArray) (hs : s.size < 2147483648) (l1 l2 : List UInt8) (hc : Lib.cut s.data.toList [58] = (l1, l2, true)) (h1 : l1.length < 2147483648) (h2 : l2.length < 2147483648) (hn : numOf l1 = none ∨ numOf l2 = none) (w : World) (he : Env w) :
    Calls Tryd.prog 18 #[.string s] w fun e w' => e = .returned (.tuple #[.agg #[.int .i64 0, .int .i64 0], .int .i64 10]) ∧ Below w.heap.size w w' := by
  have HC := Lib.hid hc
  have h3 := fun (o : Obj) => he.below ((Below.refl w.heap.size w).alloc (Nat.le_refl _) o)
  have HE := Lib.hid h3
  have hor : (numOf l1).isSome = false ∨ ((numOf l1).isSome = true ∧ (numOf l2).isSome = false) := by
    cases ha : numOf l1 <;> cases hb : numOf l2 <;> simp_all
  clear hc h3 hn
  have HO := Lib.hid hor
  clear hor
  go_enter Tryd.func18, Tryd.ntmps18
  go_wp2_with fail
  ((with_reducible refine (cut_any s ⟨#[58]⟩ _ (HE.out _) (by omega)).mono ?_); rintro e w1 ⟨rfl, hb1⟩)
  rw [show Lib.cut s.data.toList (⟨#[58]⟩ : ByteArray).data.toList = (l1, l2, true) from HC.out]
  have he1 := Lib.hid ((HE.out _).below hb1)
  have hp1 := Lib.hid (pair_after hb1)
  clear hb1 HE HC
  go_wp2_with fail
  ((with_reducible refine (number_any ⟨l1.toArray⟩ (by simpa [ByteArray.size] using h1) _ he1.out).mono ?_); rintro e w2 ⟨rfl, hb2⟩)
  have he2 := Lib.hid (he1.out.below hb2)
  have hp2 := Lib.hid (pair_on hp1.out hb2)
  clear he1 hp1 hb2
  go_wp2_with fail
  ((with_reducible refine (number_any ⟨l2.toArray⟩ (by simpa [ByteArray.size] using h2) _ he2.out).mono ?_); rintro e w3 ⟨rfl, hb3⟩)
  obtain ⟨c0, c1, f0, f1, hlt, hb⟩ := pair_on hp2.out hb3
  clear he2 hp2 hb3
  simp only at *
  have ho := HO.out
  clear HO
  rcases ho with ha | ⟨ha, ha2⟩
  all_goals
    go_wp2_with fail
    refine bodyPost_ret (v := .tuple #[.agg #[.int .i64 0, .int .i64 0], .int .i64 10]) (by simp [results, Tryd.results18, go_sem, c0, c1]) rfl ⟨rfl, ?_⟩
    exact (hb.setCell (by simp) _).setCell (by simp) _

set_option maxHeartbeats 400000 in
theorem parse_yes (s : ByteArray) (hs : s.size < 2147483648) (l1 l2 : List UInt8) (hc : Lib.cut s.data.toList [58] = (l1, l2, true)) (h1 : l1.length < 2147483648) (h2 : l2.length < 2147483648) (a b : Int) (hn1 : numOf l1 = some a) (hn2 : numOf l2 = some b) (w : World) (he : Env w) :
    Calls Tryd.prog 18 #[.string s] w fun e w' => e = .returned (.tuple #[.agg #[.int .i64 a, .int .i64 b], .int .i64 0]) ∧ Below w.heap.size w w' := by
  have HC := Lib.hid hc
  have h3 := fun (o : Obj) => he.below ((Below.refl w.heap.size w).alloc (Nat.le_refl _) o)
  have HE := Lib.hid h3
  have H1 := Lib.hid hn1
  have H2 := Lib.hid hn2
  clear hc h3 hn1 hn2
  go_enter Tryd.func18, Tryd.ntmps18
  go_wp2_with fail
  ((with_reducible refine (cut_any s ⟨#[58]⟩ _ (HE.out _) (by omega)).mono ?_); rintro e w1 ⟨rfl, hb1⟩)
  rw [show Lib.cut s.data.toList (⟨#[58]⟩ : ByteArray).data.toList = (l1, l2, true) from HC.out]
  have he1 := Lib.hid ((HE.out _).below hb1)
  have hp1 := Lib.hid (pair_after hb1)
  clear hb1 HE HC
  go_wp2_with fail
  ((with_reducible refine (number_any ⟨l1.toArray⟩ (by simpa [ByteArray.size] using h1) _ he1.out).mono ?_); rintro e w2 ⟨rfl, hb2⟩)
  have he2 := Lib.hid (he1.out.below hb2)
  have hp2 := Lib.hid (pair_on hp1.out hb2)
  clear he1 hp1 hb2
  rw [show numOf (⟨l1.toArray⟩ : ByteArray).data.toList = some a from H1.out]
  go_wp2_with fail
  ((with_reducible refine (number_any ⟨l2.toArray⟩ (by simpa [ByteArray.size] using h2) _ he2.out).mono ?_); rintro e w3 ⟨rfl, hb3⟩)
  rw [show numOf (⟨l2.toArray⟩ : ByteArray).data.toList = some b from H2.out]
  obtain ⟨c0, c1, f0, f1, hlt, hb⟩ := pair_on hp2.out hb3
  clear he2 hp2 hb3 H1 H2
  go_wp2_with fail
  refine bodyPost_ret (v := .tuple #[.agg #[.int .i64 a, .int .i64 b], .int .i64 0]) (by simp [results, Tryd.results18, go_sem, c0, c1]) rfl ⟨rfl, ?_⟩
  exact (hb.setCell (by simp) _).setCell (by simp) _

end Go.Proofs.YtcbfnghkbopkfaaDoor
