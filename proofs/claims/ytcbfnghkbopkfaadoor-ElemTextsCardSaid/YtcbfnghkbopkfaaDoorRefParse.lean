/-
  The contract of the reference's Parse: for any text shorter than 2^31 bytes: the element whose text it is, or the error; nothing that was there has changed.
-/
import Derived.Test.YtcbfnghkbopkfaaDoorRead
import Derived.Test.YtcbfnghkbopkfaaDoorParses
namespace Go.Proofs.YtcbfnghkbopkfaaDoor
open Go.Sort Go.RowKit

/-- What holds at each round's head: no mark among the first k bytes. -/
def MarkRel (l : List UInt8) (i : Value) : Prop := ∃ k : Nat, k ≤ l.length ∧ i = .int .i64 k ∧ (58 : UInt8) ∉ l.take k

theorem extract_front (s : ByteArray) (k : Nat) : s.extract 0 k = ⟨(s.data.toList.take k).toArray⟩ := by
  rw [Lib.extract_eq]; simp
theorem extract_back (s : ByteArray) (k : Nat) : s.extract k s.size = ⟨(s.data.toList.drop k).toArray⟩ := by
  rw [Lib.extract_eq, List.take_of_length_le (by rw [List.length_drop, Array.length_toList]; exact Nat.le_refl _)]

set_option maxHeartbeats 1000000 in
set_option maxRecDepth 100000 in
theorem refParse_any (s : ByteArray) (hs : s.size < 2147483648) (w : World) :
    Calls Tryd.prog 19 #[.string s] w fun e w' => e = .returned (parsed (elemOf s.data.toList)) ∧ Below w.heap.size w w' := by
  have hlen : s.data.toList.length = s.size := Array.length_toList
  have HL := Lib.hid hlen
  clear hlen
  go_enter Tryd.func19, Tryd.ntmps19
  go_wp2_with fail
  go_loop [4] (fun i => MarkRel s.data.toList i) (fun i => s.size - (intOf i).toNat)
  case atStart => exact ⟨0, Nat.zero_le _, rfl, by simp⟩
  case round =>
    obtain ⟨k, hk, rfl, hmk⟩ := hrel
    have hlen := HL.out
    by_cases hlt : k < s.size
    · have hkl : k < s.data.toList.length := by omega
      by_cases h58 : s[k] = 58
      · have b1 : (((s[k].toNat : Nat) : Int) != 58) = false := by rw [h58]; rfl
        have b0 : ((k : Int) == (s.size : Int)) = false := by rw [beq_eq_false_iff_ne]; omega
        have hd : s.data.toList.drop k = 58 :: s.data.toList.drop (k + 1) := by
          rw [List.drop_eq_getElem_cons hkl, show s.data.toList[k] = 58 from h58]
        have hcut := cut_mark (s.data.toList.take k) (s.data.toList.drop (k + 1)) hmk
        rw [← hd, List.take_append_drop] at hcut
        have hel : elemOf s.data.toList = match numOf (s.data.toList.take k), numOf (s.data.toList.drop (k + 1)) with
            | some a, some b => some (a, b)
            | _, _ => none := by
          unfold elemOf
          rw [hcut]
          rfl
        have s1 : (s.extract 0 k).size < 2147483648 := by rw [extract_front]; show ((s.data.toList.take k).toArray).size < _; simp; omega
        have s2 : (s.extract (k + 1) s.size).size < 2147483648 := by rw [extract_back]; show ((s.data.toList.drop (k + 1)).toArray).size < _; simp; omega
        have R1 := Lib.hid (fun W => read_any (s.extract 0 k) s1 W)
        have R2 := Lib.hid (fun W => read_any (s.extract (k + 1) s.size) s2 W)
        rw [show (s.extract 0 k).data.toList = s.data.toList.take k from by rw [extract_front]] at R1
        rw [show (s.extract (k + 1) s.size).data.toList = s.data.toList.drop (k + 1) from by rw [extract_back]] at R2
        generalize s.data.toList.take k = l1 at *
        generalize s.data.toList.drop (k + 1) = l2 at *
        have HEL := Lib.hid hel
        clear hcut hd hel hmk h58 s1 s2 hk
        go_wp2_with fail
        ((with_reducible refine (R1.out _).mono ?_); rintro e w1 ⟨n1, rfl, hn1, hb1⟩)
        have hp1 := Lib.hid (pair_after hb1)
        have HN1 := Lib.hid hn1
        clear hb1 hn1
        go_wp2_with fail
        ((with_reducible refine (R2.out _).mono ?_); rintro e w2 ⟨n2, rfl, hn2, hb2⟩)
        obtain ⟨c0, c1, f0, f1, hlt2, hb⟩ := pair_on hp1.out hb2
        have HN2 := Lib.hid hn2
        have HB := Lib.hid hb
        clear hb2 hn2 hp1 hb
        cases ha : numOf l1 with
        | none =>
          have HX : elemOf s.data.toList = none := by rw [HEL.out, ha]
          have HXX := Lib.hid HX
          rw [show (none : Option Int).isSome = false from rfl]
          clear HX ha
          go_wp2_with fail
          refine bodyPost_ret (v := .tuple #[.agg #[.int .i64 0, .int .i64 0], .int .i64 10]) (by simp [results, Tryd.results19, go_sem, c0, c1]) rfl ⟨by rw [HXX.out]; rfl, ?_⟩
          exact (HB.out.setCell (by simp) _).setCell (by simp) _
        | some a =>
          have e1 := HN1.out a ha
          subst e1
          cases hb2 : numOf l2 with
          | none =>
            have HX : elemOf s.data.toList = none := by rw [HEL.out, ha, hb2]
            have HXX := Lib.hid HX
            rw [show (none : Option Int).isSome = false from rfl, show (some n1).isSome = true from rfl]
            clear HX ha hb2
            go_wp2_with fail
            refine bodyPost_ret (v := .tuple #[.agg #[.int .i64 0, .int .i64 0], .int .i64 10]) (by simp [results, Tryd.results19, go_sem, c0, c1]) rfl ⟨by rw [HXX.out]; rfl, ?_⟩
            exact (HB.out.setCell (by simp) _).setCell (by simp) _
          | some b =>
            have e2 := HN2.out b hb2
            subst e2
            have HX : elemOf s.data.toList = some (n1, n2) := by rw [HEL.out, ha, hb2]
            have HXX := Lib.hid HX
            rw [show (some n2).isSome = true from rfl, show (some n1).isSome = true from rfl]
            clear HX ha hb2
            go_wp2_with fail
            refine bodyPost_ret (v := .tuple #[.agg #[.int .i64 n1, .int .i64 n2], .int .i64 0]) (by simp [results, Tryd.results19, go_sem, c0, c1]) rfl ⟨by rw [HXX.out]; rfl, ?_⟩
            exact (HB.out.setCell (by simp) _).setCell (by simp) _
      · have b1 : (((s[k].toNat : Nat) : Int) != 58) = true := by
          rw [bne_iff_ne]; intro h; exact h58 (UInt8.toNat_inj.1 (by show _ = 58; omega))
        have hnext := Lib.hid (show (58 : UInt8) ∉ s.data.toList.take (k + 1) from by
          rw [List.take_succ_eq_append_getElem hkl]
          intro h
          rcases List.mem_append.1 h with h | h
          · exact hmk h
          · exact h58 (List.mem_singleton.1 h).symm)
        clear hmk h58 hk hlen
        go_wp2_with fail
        go_round
        case rel => exact ⟨k + 1, by have := HL.out; omega, by go_num, hnext.out⟩
        case measure => simp [intOf]; omega
    · have hk2 : k = s.data.toList.length := by omega
      have b0 : ((k : Int) == (s.size : Int)) = true := by rw [beq_iff_eq]; omega
      have hno : elemOf s.data.toList = none := by
        rw [hk2, List.take_length] at hmk
        unfold elemOf
        rw [cut_none _ hmk]
        rfl
      have HNO := Lib.hid hno
      clear hmk hno hk2 hk hlen
      go_wp2_with fail
      refine bodyPost_ret (v := .tuple #[.agg #[.int .i64 0, .int .i64 0], .int .i64 10]) (by simp [results, Tryd.results19, go_sem]) rfl ⟨by rw [HNO.out]; rfl, ?_⟩
      exact (Below.refl w.heap.size w).alloc (Nat.le_refl _) _

end Go.Proofs.YtcbfnghkbopkfaaDoor
