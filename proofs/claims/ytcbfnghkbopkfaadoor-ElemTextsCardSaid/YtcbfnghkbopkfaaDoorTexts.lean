/-
  The walk of the statement ElemTexts: for any element and any text it returns true, and nothing that was there has changed, in any world where the library's own variables hold what they were laid as.
-/
import Derived.Test.YtcbfnghkbopkfaaDoorAwake
import Derived.Test.YtcbfnghkbopkfaaDoorRefParse
import Derived.Test.YtcbfnghkbopkfaaDoorParses2
namespace Go.Proofs.YtcbfnghkbopkfaaDoor
open Go.Sort Go.RowKit

theorem refParse_list (l : List UInt8) (hl : l.length < 2147483648) (x : Option (Int × Int)) (hx : elemOf l = x) (w : World) :
    Calls Tryd.prog 19 #[.string ⟨l.toArray⟩] w fun e w' => e = .returned (parsed x) ∧ Below w.heap.size w w' := by
  have h := refParse_any ⟨l.toArray⟩ (by simpa [ByteArray.size] using hl) w
  rw [show elemOf (⟨l.toArray⟩ : ByteArray).data.toList = x from hx] at h
  exact h

set_option maxHeartbeats 1000000 in
theorem texts_long (p q : Int) (s : ByteArray) (hs : 100 < s.size) (hm : s.size ≤ 9223372036854775807) (w : World) (he : Env w) :
    Calls Tryd.prog 4 #[.agg #[.int .i64 p, .int .i64 q], .string s] w fun e w' => e = .returned (.bool true) ∧ Below w.heap.size w w' := by
  have hbx := (Below.refl w.heap.size w).alloc (Nat.le_refl _) (.cells #[.int .i64 p, .int .i64 q] 23)
  have HE := Lib.hid (he.below hbx)
  have HB := Lib.hid hbx
  clear hbx he
  go_enter Tryd.func4, Tryd.ntmps4
  go_wp2_with fail
  ((with_reducible refine (awake_any _ HE.out).mono ?_); rintro e w1 ⟨rfl, hb1⟩)
  go_wp2_with fail
  go_ret
  exact ⟨rfl, HB.out.trans (hb1.mono HB.out.size)⟩

set_option maxHeartbeats 2000000 in
set_option maxRecDepth 100000 in
theorem texts_short (p q a b er : Int) (l : List UInt8) (hp : in64 p) (hq : in64 q) (ha : in64 a) (hb : in64 b) (hl : l.length ≤ 100)
    (hx : ∃ x, elemOf l = x ∧ parsed x = .tuple #[.agg #[.int .i64 a, .int .i64 b], .int .i64 er]) (hk : (er = 10) ∨ (er = 0 ∧ l = textOf a b)) (w : World) (he : Env w) :
    Calls Tryd.prog 4 #[.agg #[.int .i64 p, .int .i64 q], .string ⟨l.toArray⟩] w fun e w' => e = .returned (.bool true) ∧ Below w.heap.size w w' := by
  obtain ⟨x, hx1, hx2⟩ := hx
  have h100 : decide ((100 : Int) < (l.length : Int)) = false := by simp; omega
  have H1 := Lib.hid (fun W (h : Env W) => hx2 ▸ parse_list l (by omega) x hx1 W h)
  have H2 := Lib.hid (fun W => hx2 ▸ refParse_list l (by omega) x hx1 W)
  have lt := text_length p q hp hq
  have H3 := Lib.hid (fun W (h : Env W) => text_any p q hp hq W h)
  have H4 := Lib.hid (fun W (h : Env W) => parse_list (textOf p q) (by omega) _ (elemOf_text p q hp hq) W h)
  have H5 := Lib.hid (fun W => refText_any p q hp hq W)
  have H6 := Lib.hid (fun W (h : Env W) => text_any a b ha hb W h)
  have hbx := (Below.refl w.heap.size w).alloc (Nat.le_refl _) (.cells #[.int .i64 p, .int .i64 q] 23)
  have HE := Lib.hid (he.below hbx)
  have HB := Lib.hid hbx
  clear hx1 hx2
  rcases hk with rfl | ⟨rfl, rfl⟩
  all_goals
    clear hbx he
    go_enter Tryd.func4, Tryd.ntmps4
    go_wp2_with fail
    ((with_reducible refine (awake_any _ HE.out).mono ?_); rintro e w1 ⟨rfl, hb1⟩)
    have he1 := Lib.hid (HE.out.below hb1)
    have pe1 := Lib.hid ((PairAt.new w p q 23).below hb1 (by simp))
    have hw1 := Lib.hid (HB.out.trans (hb1.mono HB.out.size))
    clear hb1 HE HB
    go_wp2_with fail
    ((with_reducible refine (H1.out _ he1.out).mono ?_); rintro e w2 ⟨rfl, hb2⟩)
    have he2 := Lib.hid (he1.out.below hb2)
    have pe2 := Lib.hid (pe1.out.below hb2 pe1.out.2.2.2.2)
    have hw2 := Lib.hid (hw1.out.trans (hb2.mono hw1.out.size))
    clear hb2 he1 pe1 hw1 H1
    go_wp2_with fail
    have hbx := (Below.refl w2.heap.size w2).alloc (Nat.le_refl _) (.cells #[.int .i64 a, .int .i64 b] 23)
    ((with_reducible refine (H2.out _).mono ?_); rintro e w3 ⟨rfl, hb3⟩)
    have hb23 := hbx.trans (hb3.mono hbx.size)
    have px3 := Lib.hid ((PairAt.new w2 a b 23).below hb3 (by simp))
    have he3 := Lib.hid (he2.out.below hb23)
    have pe3 := pe2.out.below hb23 pe2.out.2.2.2.2
    have hw3 := Lib.hid (hw2.out.trans (hb23.mono hw2.out.size))
    have PE3 := Lib.hid pe3
    obtain ⟨c0, c1, -, -, c4⟩ := pe3
    clear hb3 hb23 hbx he2 pe2 hw2 H2
    go_wp2_with fail
    have hbx := (Below.refl w3.heap.size w3).alloc (Nat.le_refl _) (.cells #[.int .i64 a, .int .i64 b] 23)
    ((with_reducible refine (H3.out _ (he3.out.below hbx)).mono ?_); rintro e w4 ⟨rfl, hb4⟩)
    have hb34 := hbx.trans (hb4.mono hbx.size)
    have py4 := Lib.hid ((PairAt.new w3 a b 23).below hb4 (by simp))
    have px4 := Lib.hid (px3.out.below hb34 px3.out.2.2.2.2)
    have he4 := Lib.hid (he3.out.below hb34)
    have pe4 := Lib.hid (PE3.out.below hb34 PE3.out.2.2.2.2)
    have hw4 := Lib.hid (hw3.out.trans (hb34.mono hw3.out.size))
    clear hb4 hb34 hbx he3 PE3 hw3 px3 c0 c1 c4 H3
    go_wp2_with fail
    ((with_reducible refine (H4.out _ he4.out).mono ?_); rintro e w5 ⟨rfl, hb5⟩)
    rw [show parsed (some (p, q)) = .tuple #[.agg #[.int .i64 p, .int .i64 q], .int .i64 0] from rfl]
    have py5 := py4.out.below hb5 py4.out.2.2.2.2
    have px5 := px4.out.below hb5 px4.out.2.2.2.2
    have pe5 := pe4.out.below hb5 pe4.out.2.2.2.2
    have he5 := Lib.hid (he4.out.below hb5)
    have hw5 := Lib.hid (hw4.out.trans (hb5.mono hw4.out.size))
    have PX5 := Lib.hid px5
    have PY5 := Lib.hid py5
    have PE5 := Lib.hid pe5
    obtain ⟨x0, x1, -, -, x4⟩ := px5
    obtain ⟨y0, y1, -, -, y4⟩ := py5
    obtain ⟨e0, e1, -, -, e4⟩ := pe5
    clear hb5 he4 px4 py4 pe4 hw4 H4
    go_wp2_with fail
    have hbx := (Below.refl w5.heap.size w5).alloc (Nat.le_refl _) (.cells #[.int .i64 p, .int .i64 q] 23)
    ((with_reducible refine (H5.out _).mono ?_); rintro e w6 ⟨rfl, hb6⟩)
    have hb56 := hbx.trans (hb6.mono hbx.size)
    have pz6 := (PairAt.new w5 p q 23).below hb6 (by simp)
    have px6 := PX5.out.below hb56 PX5.out.2.2.2.2
    have pe6 := PE5.out.below hb56 PE5.out.2.2.2.2
    have he6 := Lib.hid (he5.out.below hb56)
    have hw6 := Lib.hid (hw5.out.trans (hb56.mono hw5.out.size))
    obtain ⟨z0, z1, -, -, z4⟩ := pz6
    clear x0 x1 x4 y0 y1 y4 e0 e1 e4
    obtain ⟨x0, x1, -, -, x4⟩ := px6
    obtain ⟨e0, e1, -, -, e4⟩ := pe6
    clear hb6 hb56 hbx he5 PX5 PY5 PE5 hw5 H5
    go_wp2_with (go_at_call 20; ((with_reducible refine (H6.out _ he6.out).mono ?_); rintro e w7 ⟨rfl, hb7⟩))
    go_ret
  · exact ⟨rfl, hw6.out⟩
  · exact ⟨rfl, hw6.out.trans (hb7.mono hw6.out.size)⟩

theorem texts_any (p q : Int) (s : ByteArray) (hp : in64 p) (hq : in64 q) (hm : s.size ≤ 9223372036854775807) (w : World) (he : Env w) :
    Calls Tryd.prog 4 #[.agg #[.int .i64 p, .int .i64 q], .string s] w fun e w' => e = .returned (.bool true) ∧ Below w.heap.size w w' := by
  by_cases h : 100 < s.size
  · exact texts_long p q s h hm w he
  · have hs : s = ⟨s.data.toList.toArray⟩ := bytes_of s
    have hl : s.data.toList.length ≤ 100 := by rw [Array.length_toList]; exact Nat.le_of_not_lt h
    generalize s.data.toList = l at *
    rw [hs]
    cases hx : elemOf l with
    | none => exact texts_short p q 0 0 10 l hp hq (by unfold in64; omega) (by unfold in64; omega) hl ⟨none, hx, rfl⟩ (Or.inl rfl) w he
    | some x =>
      obtain ⟨h1, h2, h3⟩ := elemOf_some hx
      exact texts_short p q x.1 x.2 0 l hp hq h2 h3 hl ⟨some x, hx, rfl⟩ (Or.inr ⟨rfl, h1⟩) w he

end Go.Proofs.YtcbfnghkbopkfaaDoor
