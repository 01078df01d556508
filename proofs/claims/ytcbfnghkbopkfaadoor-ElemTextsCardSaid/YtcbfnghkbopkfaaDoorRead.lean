/-
  The contract of the reference's Read: for any text shorter than 2^31 bytes: whether it is a number's text, and if so, that number; nothing that was there has changed.
-/
import Derived.Test.YtcbfnghkbopkfaaDoorReadPlain
import Derived.Test.YtcbfnghkbopkfaaDoorNumber
namespace Go.Proofs.YtcbfnghkbopkfaaDoor
open Go.Sort Go.RowKit

/-- What Read hands back. -/
def ReadPost (l : List UInt8) (w : World) (e : Ending) (w' : World) : Prop :=
  ∃ n : Int, e = .returned (.tuple #[.int .i64 n, .bool (numOf l).isSome]) ∧ (∀ v, numOf l = some v → n = v) ∧ Below w.heap.size w w'
/-- What holds at each round's head. -/
def ReadRel (l : List UInt8) (n i : Value) : Prop := ∃ k : Nat, k ≤ l.length ∧ i = .int .i64 k ∧ n = .int .i64 (readTo l k)

theorem ReadPost.none {l : List UInt8} {w w' : World} (h : numOf l = Option.none) (hb : Below w.heap.size w w') : ReadPost l w (.returned (.tuple #[.int .i64 0, .bool false])) w' :=
  ⟨0, by rw [h]; rfl, (fun v hv => by rw [h] at hv; cases hv), hb⟩

set_option maxHeartbeats 1000000 in
set_option maxRecDepth 100000 in
theorem read_any (s : ByteArray) (hs : s.size < 2147483648) (w : World) :
    Calls Tryd.prog 27 #[.string s] w (ReadPost s.data.toList w) := by
  have hlen : s.data.toList.length = s.size := Array.length_toList
  have HL := Lib.hid hlen
  clear hlen
  go_enter Tryd.func27, Tryd.ntmps27
  go_wp2_with fail
  go_loop [4, 5] (fun n i => ReadRel s.data.toList n i) (fun _ i => s.size - (intOf i).toNat)
  case atStart => exact ⟨0, Nat.zero_le _, rfl, rfl⟩
  case round =>
    obtain ⟨k, hk, rfl, rfl⟩ := hrel
    have hlen := HL.out
    by_cases hlt : k < s.size
    · have hkl : k < s.data.toList.length := by omega
      have hck : s.data.toList[k] = s[k] := rfl
      by_cases hm : k = 0 ∧ s[k] = 45
      · obtain ⟨rfl, h45⟩ := hm
        have hz := Lib.hid (readTo_minus s.data.toList hkl h45)
        have b1 : (((s[0].toNat : Nat) : Int) == 45) = true := by rw [h45]; rfl
        clear h45 hck hk hlen
        go_wp2_with fail
        go_round
        case rel => exact ⟨1, by have := HL.out; omega, rfl, by rw [hz.out]; rfl⟩
        case measure => simp [intOf]; omega
      · have hz0 : readTo s.data.toList (k + 1) = rstep (readTo s.data.toList k) s[k] := readTo_succ s.data.toList k hkl hm
        have hz := Lib.hid hz0
        have hbad : ¬ (48 ≤ s[k].toNat ∧ s[k].toNat ≤ 57) → numOf s.data.toList = none := fun h => numOf_byte hkl h hm
        clear hz0
        by_cases hd : (48 ≤ s[k].toNat ∧ s[k].toNat ≤ 57) ∧ s.size ≤ 20
        · obtain ⟨⟨d1, d2⟩, d3⟩ := hd
          have c1 : (48 : Int) ≤ (s[k].toNat : Int) := by omega
          have c2 : (s[k].toNat : Int) ≤ 57 := by omega
          have b1 : (((s[k].toNat : Nat) : Int) == 45) = false := by rw [beq_eq_false_iff_ne]; omega
          have HLE := Lib.hid hlen
          clear hm hck hk hlen
          go_wp2_with fail
          go_round
          case rel => exact ⟨k + 1, by have := HL.out; omega, by go_num, by rw [hz.out]; rfl⟩
          case measure => simp [intOf]; omega
        · have hno : numOf s.data.toList = none := by
            by_cases h1 : 48 ≤ s[k].toNat ∧ s[k].toNat ≤ 57
            · exact numOf_long (by rw [hlen]; by_cases h2 : s.size ≤ 20; exact absurd ⟨h1, h2⟩ hd; omega)
            · exact hbad h1
          have HNO := Lib.hid hno
          have hcs : ((s[k].toNat : Int) == 45) = true ∨ (((s[k].toNat : Int) == 45) = false) := by cases ((s[k].toNat : Int) == 45) <;> simp
          have hk0 : ((s[k].toNat : Int) == 45) = true → ((k : Int) == 0) = false := fun h => by
            rw [beq_eq_false_iff_ne]
            intro h0
            have h1 : s[k].toNat = 45 := by have := eq_of_beq h; omega
            exact hm ⟨by omega, UInt8.toNat_inj.1 h1⟩
          have hcase : (s[k].toNat : Int) < 48 ∨ (48 ≤ (s[k].toNat : Int) ∧ 57 < (s[k].toNat : Int)) ∨ (48 ≤ (s[k].toNat : Int) ∧ (s[k].toNat : Int) ≤ 57 ∧ 20 < s.size) := by omega
          clear hno hbad hd hz hm
          rcases hcs with b1 | b1
          · have b2 := hk0 b1
            have b3 : (s[k].toNat : Int) < 48 := by have := eq_of_beq b1; omega
            clear hk0 hcase
            go_wp2_with fail
            go_ret2
            exact ReadPost.none HNO.out (Below.refl _ _)
          · clear hk0
            rcases hcase with b3 | ⟨b3, b4⟩ | ⟨b3, b4, b5⟩
            · go_wp2_with fail
              go_ret2
              exact ReadPost.none HNO.out (Below.refl _ _)
            · go_wp2_with fail
              go_ret2
              exact ReadPost.none HNO.out (Below.refl _ _)
            · go_wp2_with fail
              go_ret2
              exact ReadPost.none HNO.out (Below.refl _ _)
    · have hk2 : k = s.data.toList.length := by omega
      have hall : readAll s.data.toList = if s.data.toList.head? = some 45 ∨ s.data.toList = [] then readTo s.data.toList k else wrap64 (-(readTo s.data.toList k)) := by rw [hk2]; rfl
      have hrg := readAll_range s.data.toList
      have hnum := numOf_read s.data.toList
      have HR := Lib.hid (fun W => refNumber_any (readAll s.data.toList) hrg.1 hrg.2 W)
      have HNUM := Lib.hid hnum
      have hend : ∀ W, Below w.heap.size w W → ReadPost s.data.toList w (.returned (.tuple #[.int .i64 (readAll s.data.toList), .bool (Lib.itoa (readAll s.data.toList) == s.toList)])) W := by
        intro W hb
        refine ⟨readAll s.data.toList, ?_, ?_, hb⟩
        · rw [ByteArray.toList_eq s, hnum]
          by_cases h : Lib.itoa (readAll s.data.toList) = s.data.toList
          · rw [if_pos h]; simp [h]
          · rw [if_neg h]; simp [h]
        · intro v hv
          rw [hnum] at hv
          split at hv
          · injection hv
          · cases hv
      have HEND := Lib.hid hend
      clear hnum hend hk2 hk
      by_cases h0 : s.size = 0
      · have hnil : s.data.toList = [] := List.eq_nil_of_length_eq_zero (by omega)
        rw [if_pos (Or.inr hnil)] at hall
        have e1 : s.toList.isEmpty = true := by rw [ByteArray.toList_eq s, hnil]; rfl
        have e2 : s.toList = [] := by rw [ByteArray.toList_eq s, hnil]
        rw [← hall]
        clear hall hrg hlen h0 hnil
        go_wp2_with fail
        ((with_reducible refine (HR.out _).mono ?_); rintro e w1 ⟨rfl, hb1⟩)
        have HE1 := Lib.hid e2
        clear e1 e2
        go_wp2_with fail
        go_ret2
        exact HEND.out w1 hb1
      · have hpos : 0 < s.size := by omega
        have hne : s.data.toList ≠ [] := fun e => by rw [e] at hlen; simp at hlen; omega
        have e1 : s.toList.isEmpty = false := by rw [ByteArray.toList_eq s]; simpa using hne
        have hhead : s.data.toList.head? = some s[0] := by
          rw [List.head?_eq_getElem?, List.getElem?_eq_getElem (by omega)]
          rfl
        by_cases h45 : s[0] = 45
        · rw [if_pos (Or.inl (by rw [hhead, h45]))] at hall
          have b1 : (((s[0].toNat : Nat) : Int) == 45) = true := by rw [h45]; rfl
          have b2 : (((s[0].toNat : Nat) : Int) != 45) = false := by rw [bne, b1]; rfl
          rw [← hall]
          clear hall hrg hlen h0 hne hhead h45
          go_wp2_with fail
          ((with_reducible refine (HR.out _).mono ?_); rintro e w1 ⟨rfl, hb1⟩)
          go_wp2_with fail
          go_ret2
          exact HEND.out w1 hb1
        · have hc : ¬ (s.data.toList.head? = some 45 ∨ s.data.toList = []) := by
            rintro (h | h)
            · rw [hhead] at h; injection h with h; exact h45 h
            · exact hne h
          rw [if_neg hc] at hall
          have b1 : (((s[0].toNat : Nat) : Int) == 45) = false := by
            rw [beq_eq_false_iff_ne]; intro h; exact h45 (UInt8.toNat_inj.1 (by show _ = 45; omega))
          have b2 : (((s[0].toNat : Nat) : Int) != 45) = true := by rw [bne, b1]; rfl
          have HALL := Lib.hid hall
          clear hall hrg hlen h0 hne hhead h45 hc
          go_wp2_with fail
          rw [← HALL.out]
          ((with_reducible refine (HR.out _).mono ?_); rintro e w1 ⟨rfl, hb1⟩)
          go_wp2_with fail
          go_ret2
          exact HEND.out w1 hb1

end Go.Proofs.YtcbfnghkbopkfaaDoor
