/-
  The walk of the statement ElemParses: for any two 64-bit numbers and any byte it returns true, and nothing that was there has changed, in any world where the library's own variables hold what they were laid as.
-/
import Derived.Test.YtcbfnghkbopkfaaDoorParses
namespace Go.Proofs.YtcbfnghkbopkfaaDoor
open Go.Sort Go.RowKit

theorem text_length (p q : Int) (hp : in64 p) (hq : in64 q) : (textOf p q).length ≤ 43 := by
  have h1 := Lib.itoa_length_le p hp.1 hp.2
  have h2 := Lib.itoa_length_le q hq.1 hq.2
  unfold textOf
  rw [List.length_append, List.length_cons]
  omega
theorem join3 (l r : List UInt8) : (⟨l.toArray⟩ : ByteArray) ++ ⟨#[58]⟩ ++ ⟨r.toArray⟩ = ⟨(l ++ 58 :: r).toArray⟩ := by
  rw [show (⟨#[58]⟩ : ByteArray) = ⟨[58].toArray⟩ from rfl, append_bytes, append_bytes]; simp

theorem join4 (l r : List UInt8) (c : UInt8) : (⟨l.toArray⟩ : ByteArray) ++ ⟨#[c]⟩ ++ ⟨#[58]⟩ ++ ⟨r.toArray⟩ = ⟨(l ++ c :: 58 :: r).toArray⟩ := by
  rw [show (⟨l.toArray⟩ : ByteArray) ++ ⟨#[c]⟩ = ⟨(l ++ [c]).toArray⟩ from append_bytes l [c], join3 (l ++ [c]) r]
  simp

set_option maxHeartbeats 2000000 in
set_option maxRecDepth 100000 in
theorem parses_any (p q z : Int) (hp : in64 p) (hq : in64 q) (hz : 0 ≤ z ∧ z ≤ 255) (w : World) (he : Env w) :
    Calls Tryd.prog 8 #[.int .i64 p, .int .i64 q, .int .u8 z] w fun e w' => e = .returned (.bool true) ∧ Below w.heap.size w w' := by
  have lp := Lib.itoa_length_le p hp.1 hp.2
  have lq := Lib.itoa_length_le q hq.1 hq.2
  have lt := text_length p q hp hq
  have n1 : ¬ 9223372036854775807 < (Lib.itoa p).length + 1 := by omega
  have n2 : ¬ 9223372036854775807 < (Lib.itoa p).length + 1 + (Lib.itoa q).length := by omega
  have HN := Lib.hid (fun W => refNumber_any p hp.1 hp.2 W)
  have HM := Lib.hid (fun W => refNumber_any q hq.1 hq.2 W)
  have HP := Lib.hid (fun W (h : Env W) => parse_list (textOf p q) (by omega) _ (elemOf_text p q hp hq) W h)
  have HT := Lib.hid (fun W (h : Env W) => text_any p q hp hq W h)
  have HJ := Lib.hid (join3 (Lib.itoa p) (Lib.itoa q))
  have HE := Lib.hid he
  clear he
  go_enter Tryd.func8, Tryd.ntmps8
  go_wp2_with fail
  ((with_reducible refine (awake_any _ HE.out).mono ?_); rintro e w1 ⟨rfl, hb1⟩)
  have he1 := Lib.hid (HE.out.below hb1)
  have HW1 := Lib.hid hb1
  clear hb1 HE
  go_wp2_with fail
  ((with_reducible refine (HN.out _).mono ?_); rintro e w2 ⟨rfl, hb2⟩)
  go_wp2_with fail
  ((with_reducible refine (HM.out _).mono ?_); rintro e w3 ⟨rfl, hb3⟩)
  have he3 := Lib.hid ((he1.out.below hb2).below hb3)
  have HW3 := Lib.hid ((HW1.out.trans (hb2.mono HW1.out.size)).trans (hb3.mono (Nat.le_trans HW1.out.size hb2.size)))
  clear hb2 hb3 HW1 he1
  go_wp2_with fail
  rw [show (⟨(Lib.itoa p).toArray⟩ : ByteArray) ++ ⟨#[58]⟩ ++ ⟨(Lib.itoa q).toArray⟩ = ⟨(textOf p q).toArray⟩ from HJ.out]
  ((with_reducible refine (HP.out _ he3.out).mono ?_); rintro e w4 ⟨rfl, hb4⟩)
  rw [show parsed (some (p, q)) = .tuple #[.agg #[.int .i64 p, .int .i64 q], .int .i64 0] from rfl]
  have he4 := Lib.hid (he3.out.below hb4)
  have HW4 := Lib.hid (HW3.out.trans (hb4.mono HW3.out.size))
  clear hb4 HW3 he3
  go_wp2_with fail
  have hbx := (Below.refl w4.heap.size w4).alloc (Nat.le_refl _) (.cells #[.int .i64 p, .int .i64 q] 23)
  ((with_reducible refine (HT.out _ (he4.out.below hbx)).mono ?_); rintro e w5 ⟨rfl, hb5⟩)
  have he5 := Lib.hid ((he4.out.below hbx).below hb5)
  have HW5 := Lib.hid (HW4.out.trans ((hbx.trans (hb5.mono hbx.size)).mono HW4.out.size))
  clear hb5 hbx HW4 he4 HP HT
  by_cases hd : 48 ≤ z ∧ z ≤ 57
  · obtain ⟨d1, d2⟩ := hd
    go_wp2_with fail
    go_ret
    exact ⟨rfl, HW5.out⟩
  by_cases h45 : z = 45
  · have g1 : (z == 45) = true := by simpa using h45
    have g2 : decide (48 ≤ z) = false := by simp; omega
    clear hd h45
    go_wp2_with fail
    go_ret
    exact ⟨rfl, HW5.out⟩
  have g1 : (z == 45) = false := by simpa using h45
  obtain ⟨c, hc⟩ : ∃ c : UInt8, c = UInt8.ofNat z.toNat := ⟨_, rfl⟩
  have hzc : z = (c.toNat : Int) := by rw [hc, UInt8.toNat_ofNat']; omega
  have hodd : odd c := by unfold odd; omega
  have hcv := fun W => byte_text W z c hzc _ Tryd.underlying9
  have H1 := Lib.hid (fun W (h : Env W) => parse_list (c :: textOf p q) (by simp; omega) _ (odd_front p q c hodd) W h)
  have H2 := Lib.hid (fun W (h : Env W) => parse_list (textOf p q ++ [c]) (by simp; omega) _ (odd_back p q c hodd) W h)
  have H3 := Lib.hid (fun W (h : Env W) => parse_list (Lib.itoa p ++ c :: 58 :: Lib.itoa q) (by simp; omega) _ (odd_mid p q c hodd) W h)
  have m1 : ¬ 9223372036854775807 < 1 + (textOf p q).length := by omega
  have m2 : ¬ 9223372036854775807 < (textOf p q).length + 1 := by omega
  have m3 : ¬ 9223372036854775807 < (Lib.itoa p).length + 1 + 1 := by omega
  have m4 : ¬ 9223372036854775807 < (Lib.itoa p).length + 1 + 1 + (Lib.itoa q).length := by omega
  clear hc hzc hodd h45
  by_cases h48 : 48 ≤ z
  all_goals
    (try (have h57 : decide (z ≤ 57) = false := by simp; omega))
    clear hd
    go_wp2_with fail
    rw [show (⟨#[c]⟩ : ByteArray) ++ ⟨(textOf p q).toArray⟩ = ⟨(c :: textOf p q).toArray⟩ from append_bytes [c] (textOf p q)]
    have hbc := (Below.refl w5.heap.size w5).alloc (Nat.le_refl _) (.cells #[.int .u8 z] 5)
    ((with_reducible refine (H1.out _ (he5.out.below hbc)).mono ?_); rintro e w6 ⟨rfl, hb6⟩)
    rw [show parsed none = .tuple #[.agg #[.int .i64 0, .int .i64 0], .int .i64 10] from rfl]
    have he6 := Lib.hid ((he5.out.below hbc).below hb6)
    have HW6 := Lib.hid (HW5.out.trans ((hbc.trans (hb6.mono hbc.size)).mono HW5.out.size))
    clear hb6 hbc HW5 he5 H1
    go_wp2_with fail
    rw [show (⟨(textOf p q).toArray⟩ : ByteArray) ++ ⟨#[c]⟩ = ⟨(textOf p q ++ [c]).toArray⟩ from append_bytes (textOf p q) [c]]
    have hbd := (Below.refl w6.heap.size w6).alloc (Nat.le_refl _) (.cells #[.int .i64 0, .int .i64 0] 23)
    ((with_reducible refine (H2.out _ (he6.out.below hbd)).mono ?_); rintro e w7 ⟨rfl, hb7⟩)
    rw [show parsed none = .tuple #[.agg #[.int .i64 0, .int .i64 0], .int .i64 10] from rfl]
    have he7 := Lib.hid ((he6.out.below hbd).below hb7)
    have HW7 := Lib.hid (HW6.out.trans ((hbd.trans (hb7.mono hbd.size)).mono HW6.out.size))
    clear hb7 hbd HW6 he6 H2
    go_wp2_with fail
    have hbe := (Below.refl w7.heap.size w7).alloc (Nat.le_refl _) (.cells #[.int .i64 0, .int .i64 0] 23)
    ((with_reducible refine (HN.out _).mono ?_); rintro e w8 ⟨rfl, hb8⟩)
    have he8 := Lib.hid ((he7.out.below hbe).below hb8)
    have HW8 := Lib.hid (HW7.out.trans ((hbe.trans (hb8.mono hbe.size)).mono HW7.out.size))
    clear hb8 hbe HW7 he7
    go_wp2_with fail
    ((with_reducible refine (HM.out _).mono ?_); rintro e w9 ⟨rfl, hb9⟩)
    have he9 := Lib.hid (he8.out.below hb9)
    have HW9 := Lib.hid (HW8.out.trans (hb9.mono HW8.out.size))
    clear hb9 HW8 he8
    go_wp2_with fail
    rw [join4 (Lib.itoa p) (Lib.itoa q) c]
    ((with_reducible refine (H3.out _ he9.out).mono ?_); rintro e w10 ⟨rfl, hb10⟩)
    rw [show parsed none = .tuple #[.agg #[.int .i64 0, .int .i64 0], .int .i64 10] from rfl]
    have HW10 := Lib.hid (HW9.out.trans (hb10.mono HW9.out.size))
    clear hb10 HW9 he9 H3
    go_wp2_with fail
    go_ret
    exact ⟨rfl, HW10.out.alloc HW10.out.size _⟩

end Go.Proofs.YtcbfnghkbopkfaaDoor
