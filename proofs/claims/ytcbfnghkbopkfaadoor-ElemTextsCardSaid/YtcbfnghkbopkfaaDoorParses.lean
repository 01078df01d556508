/-
  The walk of the statement ElemParses: for any two 64-bit numbers and any byte it returns true, and nothing that was there has changed, in any world where the library's own variables hold what they were laid as.
-/
import Derived.Test.YtcbfnghkbopkfaaDoorAwake
import Derived.Test.YtcbfnghkbopkfaaDoorNumber
namespace Go.Proofs.YtcbfnghkbopkfaaDoor
open Go.Sort Go.RowKit

theorem parse_list (l : List UInt8) (hl : l.length < 2147483648) (x : Option (Int × Int)) (hx : elemOf l = x) (w : World) (he : Env w) :
    Calls Tryd.prog 18 #[.string ⟨l.toArray⟩] w fun e w' => e = .returned (parsed x) ∧ Below w.heap.size w w' := by
  have h := parse_any ⟨l.toArray⟩ (by simpa [ByteArray.size] using hl) w he
  rw [show elemOf (⟨l.toArray⟩ : ByteArray).data.toList = x from hx] at h
  exact h

/-- A byte that is no digit and no minus sign. -/
def odd (c : UInt8) : Prop := ¬ (48 ≤ c.toNat ∧ c.toNat ≤ 57) ∧ ¬ c.toNat = 45

theorem odd_front (p q : Int) (c : UInt8) (hc : odd c) : elemOf (c :: textOf p q) = none := by
  cases h : elemOf (c :: textOf p q) with
  | none => rfl
  | some x =>
    exfalso
    have h1 := (elemOf_some h).1
    unfold textOf at h1
    have hne := itoa_ne x.1
    have hall := itoa_all x.1
    generalize Lib.itoa x.1 = l at *
    cases l with
    | nil => exact hne rfl
    | cons d r =>
      injection h1 with h2 _
      subst h2
      have := hall c (by simp)
      exact this.elim (fun e => hc.2 e) (fun e => hc.1 e)
theorem odd_back (p q : Int) (c : UInt8) (hc : odd c) : elemOf (textOf p q ++ [c]) = none := by
  cases h : elemOf (textOf p q ++ [c]) with
  | none => rfl
  | some x =>
    exfalso
    have h1 := (elemOf_some h).1
    have hq := itoa_ne x.2
    have hlast := itoa_last x.2
    unfold textOf at h1
    generalize Lib.itoa x.2 = l at *
    rcases List.eq_nil_or_concat l with rfl | ⟨l', d, rfl⟩
    · exact hq rfl
    · have hd := hlast l' d (by simp)
      have h2 : (Lib.itoa p ++ 58 :: Lib.itoa q) ++ [c] = (Lib.itoa x.1 ++ 58 :: l') ++ [d] := by simpa using h1
      have h3 := List.append_inj_right' h2 rfl
      injection h3 with h3
      subst h3
      exact hc.1 hd
theorem odd_mid (p q : Int) (c : UInt8) (hc : odd c) : elemOf (Lib.itoa p ++ c :: 58 :: Lib.itoa q) = none := by
  by_cases h58 : c = 58
  · subst h58
    unfold elemOf
    rw [cut_mark _ _ (itoa_no_mark p)]
    simp only [if_true]
    have hn : numOf (58 :: Lib.itoa q) = none := by
      cases h : numOf (58 :: Lib.itoa q) with
      | none => rfl
      | some v =>
        exfalso
        have h1 := (numOf_some h).1
        exact itoa_no_mark v (by rw [← h1]; simp)
    rw [hn]
    cases numOf (Lib.itoa p) <;> rfl
  · have hm : (58 : UInt8) ∉ Lib.itoa p ++ [c] := by
      intro h
      rcases List.mem_append.1 h with h | h
      · exact itoa_no_mark p h
      · exact h58 (List.mem_singleton.1 h).symm
    have e : Lib.itoa p ++ c :: 58 :: Lib.itoa q = (Lib.itoa p ++ [c]) ++ 58 :: Lib.itoa q := by simp
    rw [e]
    unfold elemOf
    rw [cut_mark _ _ hm]
    simp only [if_true]
    have hn : numOf (Lib.itoa p ++ [c]) = none := by
      cases h : numOf (Lib.itoa p ++ [c]) with
      | none => rfl
      | some v =>
        exfalso
        have h1 := (numOf_some h).1
        exact hc.1 (itoa_last v _ c h1.symm)
    rw [hn]

end Go.Proofs.YtcbfnghkbopkfaaDoor
