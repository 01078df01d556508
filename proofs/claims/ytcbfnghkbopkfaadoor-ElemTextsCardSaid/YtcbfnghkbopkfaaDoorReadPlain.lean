/-
  Plain facts, of no program: how the reference reads a number: byte by byte, with numbers that wrap at 64 bits; that it reads each number's text as that number. No conditions beyond what each theorem says.
-/
import Derived.Test.YtcbfnghkbopkfaaDoorText
import Derived.RowKit
namespace Go.Proofs.YtcbfnghkbopkfaaDoor
open Go.Lib Go.RowKit

/-- One digit more. -/
def rstep (n : Int) (c : UInt8) : Int := wrap64 (wrap64 (n * 10) - ((c.toNat : Int) - 48))
def readN (l : List UInt8) : Int := l.foldl rstep 0
/-- A text without a minus sign ahead. -/
def bare : List UInt8 → List UInt8
  | [] => []
  | c :: r => if c = 45 then r else c :: r
/-- What has been read of the first k bytes. -/
def readTo (l : List UInt8) (k : Nat) : Int := readN (bare (l.take k))

theorem wrap_in (n : Int) (h : -9223372036854775808 ≤ n ∧ n ≤ 9223372036854775807) : wrap64 n = n := by unfold wrap64; omega
theorem wrap_range (n : Int) : -9223372036854775808 ≤ wrap64 n ∧ wrap64 n ≤ 9223372036854775807 := by unfold wrap64; omega

theorem readTo_range (l : List UInt8) (k : Nat) : -9223372036854775808 ≤ readTo l k ∧ readTo l k ≤ 9223372036854775807 := by
  unfold readTo readN
  generalize bare (l.take k) = d
  rcases List.eq_nil_or_concat d with rfl | ⟨d', c, rfl⟩
  · simp
  · rw [List.concat_eq_append, List.foldl_append]
    exact wrap_range _

theorem readTo_minus (l : List UInt8) (h : 0 < l.length) (hm : l[0] = 45) : readTo l 1 = 0 := by
  cases l with
  | nil => simp at h
  | cons c r =>
    have hc : c = 45 := hm
    subst hc
    rfl
theorem readTo_succ (l : List UInt8) (k : Nat) (h : k < l.length) (hm : ¬ (k = 0 ∧ l[k] = 45)) : readTo l (k + 1) = rstep (readTo l k) l[k] := by
  unfold readTo readN
  rw [List.take_succ_eq_append_getElem h]
  cases k with
  | zero =>
    have hc : ¬ l[0] = 45 := fun e => hm ⟨rfl, e⟩
    simp [bare, hc]
  | succ k =>
    cases l with
    | nil => simp at h
    | cons c r =>
      have e : bare (List.take (k + 1) (c :: r) ++ [(c :: r)[k + 1]]) = bare (List.take (k + 1) (c :: r)) ++ [(c :: r)[k + 1]] := by
        simp only [List.take_succ_cons, List.cons_append, bare]
        split <;> simp
      rw [e, List.foldl_append]
      rfl

theorem readN_digits (u : Nat) (hu : u ≤ 9223372036854775808) : readN (decDigits u) = -(u : Int) := by
  induction u using Nat.strongRecOn with
  | ind u ih =>
    by_cases h : u < 10
    · rw [decDigits_one h]
      show rstep 0 _ = _
      unfold rstep
      rw [digit_toNat u h, wrap_in (0 * 10) (by omega), wrap_in _ (by omega)]
      omega
    · rw [decDigits, dif_neg h]
      unfold readN at *
      rw [List.foldl_append, ih (u / 10) (by omega) (by omega)]
      show rstep _ _ = _
      unfold rstep
      rw [digit_toNat (u % 10) (by omega), wrap_in (-((u / 10 : Nat) : Int) * 10) (by omega), wrap_in _ (by omega)]
      omega

/-- The number that is read at the end. -/
def readAll (l : List UInt8) : Int := if l.head? = some 45 ∨ l = [] then readTo l l.length else wrap64 (-(readTo l l.length))

theorem bare_digits (u : Nat) : bare (decDigits u) = decDigits u := by
  have hne := digits_ne u
  have hall := digits_all u
  generalize decDigits u = l at *
  cases l with
  | nil => exact absurd rfl hne
  | cons c r =>
    have hc := hall c (by simp)
    have : ¬ c = 45 := fun e => by rw [e] at hc; simp at hc
    simp [bare, this]

theorem readAll_itoa (v : Int) (h0 : -9223372036854775808 ≤ v) (h1 : v ≤ 9223372036854775807) : readAll (itoa v) = v := by
  unfold readAll readTo
  rw [List.take_length]
  unfold itoa
  by_cases hv : v < 0
  · have hh : (45 :: decDigits v.natAbs).head? = some 45 ∨ 45 :: decDigits v.natAbs = [] := Or.inl rfl
    rw [if_pos hv, if_pos hh]
    show readN (decDigits v.natAbs) = v
    rw [readN_digits _ (by omega)]
    omega
  · rw [if_neg hv]
    have hne := digits_ne v.toNat
    have hall := digits_all v.toNat
    have hh : ¬ ((decDigits v.toNat).head? = some 45 ∨ decDigits v.toNat = []) := by
      rintro (h | h)
      · have := hall 45 (List.mem_of_head? h)
        simp at this
      · exact hne h
    rw [if_neg hh, bare_digits, readN_digits _ (by omega), wrap_in _ (by omega)]
    omega

theorem readAll_range (l : List UInt8) : -9223372036854775808 ≤ readAll l ∧ readAll l ≤ 9223372036854775807 := by
  unfold readAll
  split
  · exact readTo_range l _
  · exact wrap_range _

/-- The reference's answer is the same: is the text that of the number that was read? -/
theorem numOf_read (l : List UInt8) : numOf l = if itoa (readAll l) = l then some (readAll l) else none := by
  split
  · rename_i h
    have hr := readAll_range l
    have := numOf_itoa (readAll l) hr.1 hr.2
    rw [h] at this
    exact this
  · rename_i h
    cases hn : numOf l with
    | none => rfl
    | some v =>
      obtain ⟨h1, h2, h3⟩ := numOf_some hn
      exact absurd (by rw [h1, readAll_itoa v h2 h3]) h

theorem digits_short : ∀ (k u : Nat), u < 10 ^ (k + 1) → (decDigits u).length ≤ k + 1
  | 0, u, h => by rw [decDigits_one (by simpa using h)]; simp
  | k + 1, u, h => by
    by_cases h10 : u < 10
    · rw [decDigits_one h10]; simp
    · rw [decDigits, dif_neg h10, List.length_append]
      have hq : u / 10 < 10 ^ (k + 1) := by
        rw [Nat.div_lt_iff_lt_mul (by omega)]
        rw [Nat.pow_succ] at h
        exact h
      have := digits_short k (u / 10) hq
      simp
      omega
theorem itoa_short (v : Int) (h0 : -9223372036854775808 ≤ v) (h1 : v ≤ 9223372036854775807) : (itoa v).length ≤ 20 := by
  have e : (10 : Nat) ^ (18 + 1) = 10000000000000000000 := by decide
  unfold itoa
  split
  · have := digits_short 18 v.natAbs (by rw [e]; omega)
    rw [List.length_cons]; omega
  · have := digits_short 18 v.toNat (by rw [e]; omega)
    omega
/-- A byte of a number's text is a digit, but for a minus sign ahead. -/
theorem numOf_byte {l : List UInt8} {k : Nat} (h : k < l.length) (hb : ¬ (48 ≤ l[k].toNat ∧ l[k].toNat ≤ 57)) (hm : ¬ (k = 0 ∧ l[k] = 45)) : numOf l = none := by
  cases hn : numOf l with
  | none => rfl
  | some v =>
    exfalso
    obtain ⟨h1, _, _⟩ := numOf_some hn
    have h2 : l = 45 :: decDigits v.natAbs ∨ l = decDigits v.toNat := by
      rw [h1]; unfold itoa; split
      · exact Or.inl rfl
      · exact Or.inr rfl
    clear h1 hn
    rcases h2 with rfl | rfl
    · cases k with
      | zero => exact hm ⟨rfl, rfl⟩
      | succ k => exact hb (digits_all v.natAbs _ (by simp))
    · exact hb (digits_all _ _ (List.getElem_mem h))
theorem numOf_long {l : List UInt8} (h : 20 < l.length) : numOf l = none := by
  cases hn : numOf l with
  | none => rfl
  | some v =>
    exfalso
    obtain ⟨h1, h2, h3⟩ := numOf_some hn
    have := itoa_short v h2 h3
    rw [← h1] at this
    omega

end Go.Proofs.YtcbfnghkbopkfaaDoor
