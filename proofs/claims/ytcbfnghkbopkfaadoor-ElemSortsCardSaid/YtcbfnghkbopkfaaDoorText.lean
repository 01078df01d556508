/-
  Plain facts, of no program: numbers and elements as texts: each has one text, and that text is read back as it; any other text is none. For numbers of 64 bits.
-/
import Derived.Test.YtcbfnghkbopkfaaDoorElem3
import Derived.Lib.ItoaMem
namespace Go.Proofs.YtcbfnghkbopkfaaDoor
open Go.Lib

theorem parseM_append (M : Nat) : ∀ (l r : List UInt8) (acc a : Nat), parseUintM M acc l = .ok a → parseUintM M acc (l ++ r) = parseUintM M a r
  | [], r, acc, a, h => by simp only [parseUintM] at h; injection h with h; subst h; rfl
  | c :: l, r, acc, a, h => by
    simp only [parseUintM, List.cons_append] at h ⊢
    split at h
    · split at h
      · cases h
      · split at h
        · cases h
        · rename_i h1 h2 h3
          rw [if_pos h1, if_neg h2, if_neg h3]
          exact parseM_append M l r _ a h
    · cases h

theorem digit_toNat (d : Nat) (h : d < 10) : (UInt8.ofNat (48 + d)).toNat = 48 + d := by
  simp [UInt8.toNat_ofNat']; omega

theorem parseM_digits (u : Nat) (hu : u ≤ 18446744073709551615) : parseUintM 18446744073709551615 0 (decDigits u) = .ok u := by
  induction u using Nat.strongRecOn with
  | ind u ih =>
    by_cases h : u < 10
    · rw [decDigits_one h]
      simp only [parseUintM]
      rw [digit_toNat u h, if_pos (by omega), if_neg (by omega), if_neg (by omega)]
      simp
    · rw [decDigits, dif_neg h, parseM_append _ _ _ _ (u / 10) (ih (u / 10) (by omega) (by omega))]
      simp only [parseUintM]
      rw [digit_toNat (u % 10) (by omega), if_pos (by omega), if_neg (by omega), if_neg (by omega)]
      congr 1
      omega

/-- Each byte of a numeral is a digit; there is a first and a last one. -/
theorem digits_all (u : Nat) : ∀ c ∈ decDigits u, 48 ≤ c.toNat ∧ c.toNat ≤ 57 := by
  induction u using Nat.strongRecOn with
  | ind u ih =>
    by_cases h : u < 10
    · rw [decDigits_one h]
      intro c hc
      obtain rfl := List.mem_singleton.1 hc
      rw [digit_toNat u h]; omega
    · rw [decDigits, dif_neg h]
      intro c hc
      rw [List.mem_append] at hc
      rcases hc with hc | hc
      · exact ih (u / 10) (by omega) c hc
      · obtain rfl := List.mem_singleton.1 hc
        rw [digit_toNat (u % 10) (by omega)]; omega
theorem digits_ne (u : Nat) : decDigits u ≠ [] := by
  rw [decDigits]; split <;> simp

theorem itoa_all (v : Int) : ∀ c ∈ itoa v, c.toNat = 45 ∨ (48 ≤ c.toNat ∧ c.toNat ≤ 57) := by
  intro c hc
  unfold itoa at hc
  split at hc
  · rcases List.mem_cons.1 hc with rfl | hc
    · exact Or.inl rfl
    · exact Or.inr (digits_all _ c hc)
  · exact Or.inr (digits_all _ c hc)
theorem itoa_ne (v : Int) : itoa v ≠ [] := by
  unfold itoa; split
  · simp
  · exact digits_ne _
theorem itoa_last (v : Int) (l : List UInt8) (c : UInt8) (h : itoa v = l ++ [c]) : 48 ≤ c.toNat ∧ c.toNat ≤ 57 := by
  unfold itoa at h
  split at h
  · cases l with
    | nil => simp at h; exact absurd h.2 (digits_ne _)
    | cons a l => injection h with _ h; exact digits_all _ c (by rw [h]; simp)
  · exact digits_all _ c (by rw [h]; simp)
theorem itoa_no_mark (v : Int) : (58 : UInt8) ∉ itoa v := fun h => by
  have := itoa_all v 58 h
  simp at this

theorem parse_itoa (v : Int) (h0 : -9223372036854775808 ≤ v) (h1 : v ≤ 9223372036854775807) : parseIntB 64 (itoa v) = .ok v := by
  have e : (2 ^ 64 - 1 : Nat) = 18446744073709551615 := by decide
  have e63 : (2 ^ (64 - 1) : Nat) = 9223372036854775808 := by decide
  unfold itoa
  split
  · rename_i hv
    simp only [parseIntB]
    have hn := digits_ne v.natAbs
    have hp := parseM_digits v.natAbs (by omega)
    have hu : parseUintB 64 (decDigits v.natAbs) = .ok v.natAbs := by
      unfold parseUintB
      rw [if_neg hn, e, hp]
    have h45 : (45 : UInt8).toNat = 45 := rfl
    rw [if_pos (Or.inr h45), hu]
    simp only [h45, e63]
    rw [if_neg (by simp), if_neg (by omega)]
    simp
    omega
  · rename_i hv
    have hn := digits_ne v.toNat
    have ha := digits_all v.toNat
    have hp := parseM_digits v.toNat (by omega)
    have hu : parseUintB 64 (decDigits v.toNat) = .ok v.toNat := by
      unfold parseUintB
      rw [if_neg hn, e, hp]
    generalize decDigits v.toNat = l at *
    cases l with
    | nil => exact absurd rfl hn
    | cons c r =>
      have hc := ha c (by simp)
      simp only [parseIntB]
      rw [if_neg (by omega), hu]
      simp only [e63]
      rw [if_neg (by omega), if_neg (by omega), if_neg (by omega)]
      congr 1
      omega

/-- A number's text is read as it; and whatever is read is its text. -/
theorem numOf_itoa (v : Int) (h0 : -9223372036854775808 ≤ v) (h1 : v ≤ 9223372036854775807) : numOf (itoa v) = some v := by
  unfold numOf
  rw [parse_itoa v h0 h1]
  simp
theorem numOf_some {l : List UInt8} {v : Int} (h : numOf l = some v) : l = itoa v ∧ -9223372036854775808 ≤ v ∧ v ≤ 9223372036854775807 := by
  unfold numOf at h
  rcases hp : parseIntB 64 l with u | _ | _
  · rw [hp] at h
    simp only at h
    split at h
    · rename_i he
      injection h with h
      subst h
      have hb := parseIntB_bounds hp
      have e63 : (2 ^ (64 - 1) : Nat) = 9223372036854775808 := by decide
      rw [e63] at hb
      exact ⟨he.symm, by omega, by omega⟩
    · cases h
  · rw [hp] at h; cases h
  · rw [hp] at h; cases h

/-- The first mark parts a text. -/
theorem index_mark : ∀ (a r : List UInt8), (58 : UInt8) ∉ a → index (a ++ 58 :: r) [58] = a.length
  | [], r, _ => by simp [index]
  | c :: a, r, h => by
    have hc : ¬ (58 : UInt8) = c := fun e => h (by rw [e]; simp)
    have ih := index_mark a r (fun hm => h (by simp [hm]))
    simp only [List.cons_append, index]
    rw [if_neg (by simp [hc]), ih, if_neg (by simp)]
    simp
theorem cut_mark (a r : List UInt8) (h : (58 : UInt8) ∉ a) : cut (a ++ 58 :: r) [58] = (a, r, true) := by
  unfold cut
  rw [index_mark a r h, if_pos (by omega)]
  simp
theorem index_none : ∀ (l : List UInt8), (58 : UInt8) ∉ l → index l [58] = -1
  | [], _ => rfl
  | c :: a, h => by
    have hc : ¬ (58 : UInt8) = c := fun e => h (by rw [e]; simp)
    have ih := index_none a (fun hm => h (by simp [hm]))
    simp only [index]
    rw [if_neg (by simp [hc]), ih]
    simp
theorem cut_none (l : List UInt8) (h : (58 : UInt8) ∉ l) : cut l [58] = (l, [], false) := by
  unfold cut
  rw [index_none l h, if_neg (by omega)]
/-- Every text has a mark, and then a first one, or none. -/
theorem mark_cases (l : List UInt8) : (58 : UInt8) ∉ l ∨ ∃ a r, l = a ++ 58 :: r ∧ (58 : UInt8) ∉ a := by
  induction l with
  | nil => exact Or.inl (by simp)
  | cons c l ih =>
    by_cases hc : c = 58
    · subst hc; exact Or.inr ⟨[], l, rfl, by simp⟩
    · rcases ih with h | ⟨a, r, rfl, h⟩
      · exact Or.inl (by simp [h]; exact fun e => hc e.symm)
      · exact Or.inr ⟨c :: a, r, rfl, by simp [h]; exact fun e => hc e.symm⟩

def in64 (v : Int) : Prop := -9223372036854775808 ≤ v ∧ v ≤ 9223372036854775807

theorem elemOf_text (p q : Int) (hp : in64 p) (hq : in64 q) : elemOf (textOf p q) = some (p, q) := by
  unfold elemOf textOf
  rw [cut_mark _ _ (itoa_no_mark p)]
  simp only [numOf_itoa p hp.1 hp.2, numOf_itoa q hq.1 hq.2]
  rfl
theorem elemOf_some {l : List UInt8} {x : Int × Int} (h : elemOf l = some x) : l = textOf x.1 x.2 ∧ in64 x.1 ∧ in64 x.2 := by
  rcases mark_cases l with hm | ⟨a, r, rfl, hm⟩
  · unfold elemOf at h
    rw [cut_none l hm] at h
    cases h
  · unfold elemOf at h
    rw [cut_mark a r hm] at h
    simp only [if_true] at h
    cases ha : numOf a with
    | none => rw [ha] at h; cases h
    | some u =>
      cases hr : numOf r with
      | none => rw [ha, hr] at h; cases h
      | some v =>
        rw [ha, hr] at h
        injection h with h
        subst h
        have h1 := numOf_some ha
        have h2 := numOf_some hr
        exact ⟨by unfold textOf; rw [← h1.1, ← h2.1], h1.2, h2.2⟩

end Go.Proofs.YtcbfnghkbopkfaaDoor
