/-
  Contract of rank.Show: a tree's text; nothing that was there has changed. Conditions: elements of 64-bit numbers, fewer than 2 to the 30th things, the library's table as it is laid.
-/
import Derived.Test.YtlkpmafgokoaiaaDoorTr4
import Derived.Test.YtlkpmafgokoaiaaDoorBuild
import Derived.Test.YtlkpmafgokoaiaaDoorShelf
import Derived.Deep.LoopGhost
namespace Go.Proofs.YtlkpmafgokoaiaaDoor
open Go.Sort Go.RowKit

/-- A strings.Builder of the call's own, with the bytes l. -/
def Bld (base g : Nat) (l : List UInt8) (w : World) : Prop := Lib.IsBuilder 82 5 base g (Lib.byteCells l) w
theorem builderAt_stay {base g : Nat} {p : Value} {bs : List Value} {w w' : World} (h : Lib.BuilderAt 82 5 base g p bs w) (hb : Below w.heap.size w w') : Lib.BuilderAt 82 5 base g p bs w' := by
  obtain ⟨hB, v, hg, hown, hne⟩ := h
  refine ⟨hB, v, (hb.block g (lt_of_heap hg)).trans hg, ?_, hne⟩
  refine World.ownsRow.kept hown (row := Option.none) ⟨hb.os, hb.tape, hb.output, hb.size, fun k hk _ => hb.block k hk⟩ ?_
  cases v.ownBlock <;> simp
theorem Bld.stay {base g : Nat} {l : List UInt8} {w w' : World} (h : Bld base g l w) (hb : Below w.heap.size w w') : Bld base g l w' := h.imp (builderAt_stay · hb) (builderAt_stay · hb)

theorem write_any (base g : Nat) (l s : List UInt8) (w : World) (h : Bld base g l w) (hl : l.length + s.length ≤ 140737488355328) (hbw : base ≤ w.heap.size) :
    Calls Tryd.prog 52 #[.pointer (some ⟨g, 0, none⟩), .string ⟨s.toArray⟩] w fun e w' => ∃ v, e = .returned v ∧ Bld base g (l ++ s) w' ∧ Below base w w' := by
  refine (Tryd.Builder_WriteString base g (Lib.byteCells l) ⟨s.toArray⟩ w h (by rw [Lib.byteCells_length]; simpa [ByteArray.size] using hl) hbw).mono fun e w' ⟨he, hB, hb⟩ => ⟨_, he, ?_, hb⟩
  rw [Lib.strCells_eq] at hB
  have e1 : Lib.byteCells l ++ Lib.byteCells (⟨s.toArray⟩ : ByteArray).data.toList = Lib.byteCells (l ++ s) := by rw [Lib.byteCells_append]
  rw [e1] at hB
  exact Or.inr hB

theorem writeB (base g : Nat) (l t : List UInt8) (s : ByteArray) (w : World) (hs : s = ⟨t.toArray⟩) (h : Bld base g l w) (hl : l.length + t.length ≤ 140737488355328) (hbw : base ≤ w.heap.size) :
    Calls Tryd.prog 52 #[.pointer (some ⟨g, 0, none⟩), .string s] w fun e w' => ∃ v, e = .returned v ∧ Bld base g (l ++ t) w' ∧ Below base w w' := by
  rw [hs]; exact write_any base g l t w h hl hbw
theorem one_bytes (c : UInt8) (t : List UInt8) : (⟨#[c]⟩ : ByteArray) ++ ⟨t.toArray⟩ = ⟨(c :: t).toArray⟩ := append_bytes [c] t
theorem two_bytes (c d : UInt8) (t : List UInt8) : (⟨#[c, d]⟩ : ByteArray) ++ ⟨t.toArray⟩ = ⟨(c :: d :: t).toArray⟩ := append_bytes [c, d] t
theorem textE_any (x : Int × Int) (h : in64 x.1 ∧ in64 x.2) (w : World) (he : Env w) : Calls Tryd.prog 53 #[el x] w fun e w' => e = .returned (.string ⟨(textOf x.1 x.2).toArray⟩) ∧ Below w.heap.size w w' := text_any x.1 x.2 h.1 h.2 w he

set_option maxRecDepth 100000 in
set_option maxHeartbeats 4000000 in
theorem show_step (n : Nat)
    (ih : ∀ (x : Int × Int) (bs : List (Int × Int)) (ks : Wood), 1 + bs.length + ks.size < n → ∀ (w0 : World), Env w0 → ∀ (b : Nat), NAt w0 b ⟨x, bs, ks⟩ → fits (x :: (bs ++ ks.all)) → ∀ (base : Nat), w0.heap.size ≤ base → ∀ (g : Nat) (l : List UInt8) (w : World), Below w0.heap.size w0 w → base ≤ w.heap.size → Bld base g l w →
      l.length + 46 * (1 + bs.length + ks.size) + 10 ≤ 140737488355328 → Calls Tryd.prog 39 #[.pointer (some ⟨b, 0, none⟩), .pointer (some ⟨g, 0, none⟩)] w fun e w' => e = .returned (.tuple #[]) ∧ Bld base g (l ++ Tre.show ⟨x, bs, ks⟩) w' ∧ Below base w w')
    (x1 x2 : Int) (bs : List (Int × Int)) (ks : Wood) (hn : 1 + bs.length + ks.size = n) (w0 : World) (he : Env w0) (b : Nat) (ht : NAt w0 b ⟨(x1, x2), bs, ks⟩) (hf : fits ((x1, x2) :: (bs ++ ks.all))) (base : Nat) (hb0 : w0.heap.size ≤ base) (g : Nat) (l : List UInt8) (w : World)
    (hW : Below w0.heap.size w0 w) (hbw : base ≤ w.heap.size) (hB : Bld base g l w) (hl : l.length + 46 * (1 + bs.length + ks.size) + 10 ≤ 140737488355328) :
    Calls Tryd.prog 39 #[.pointer (some ⟨b, 0, none⟩), .pointer (some ⟨g, 0, none⟩)] w fun e w' => e = .returned (.tuple #[]) ∧ Bld base g (l ++ Tre.show ⟨(x1, x2), bs, ks⟩) w' ∧ Below base w w' := by
  obtain ⟨bp, kp, hh, hBs, hK⟩ := ht
  have hlt : b < w0.heap.size := lt_of_heap hh
  have s6 := six ((hW.block b hlt).trans hh)
  have c0 := s6.c0
  have c1 := s6.c1
  obtain ⟨⟨hx1, hx2⟩, hf2⟩ := hf.cons
  obtain ⟨hfb, hfk⟩ := hf2.append
  have hxl := textOf_length x1 x2 hx1 hx2
  have hbl := besideText_length bs hfb
  have hkl := ks.show_length hfk
  have H := Lib.hid (And.intro hh (And.intro hBs (And.intro hK (And.intro hW (And.intro hlt (And.intro hn (And.intro hl hbl)))))))
  have HF := Lib.hid (And.intro hx1 (And.intro hx2 (And.intro hfb (And.intro hfk (And.intro hxl hkl)))))
  have HI := Lib.hid ih
  have HE := Lib.hid he
  have HB := Lib.hid (And.intro hbw hB)
  have n1 : ¬ 9223372036854775807 < 1 + (textOf x1 x2).length := by omega
  have hD : ∀ (W : World), Below base w W → Six W b (x1, x2) bp (ks.len : Int) kp (bs.length + ks.size : Nat) ∧ Env W ∧ base ≤ W.heap.size ∧ Below w0.heap.size w0 W := fun _ h => ⟨six (((hW.trans (h.mono hb0)).block b hlt).trans hh), he.below (hW.trans (h.mono hb0)), Nat.le_trans hbw h.size, hW.trans (h.mono hb0)⟩
  have HD := Lib.hid hD
  clear hh hBs hK hW hlt hn hl s6 hx1 hx2 hf hf2 hfb hfk hxl hbl hkl ih he hbw hB hD
  go_enter Tryd.func39, Tryd.ntmps39
  go_wp2_with fail
  ((with_reducible refine (key_any (x1, x2) _).mono ?_); rintro e w1 ⟨rfl, hb1⟩)
  have hb1' : Below base w w1 := hb1.mono HB.out.1
  go_wp2_with fail
  ((with_reducible refine (textE_any (x1, x2) ⟨HF.out.1, HF.out.2.1⟩ _ (HD.out _ hb1').2.1).mono ?_); rintro e w2 ⟨rfl, hb2⟩)
  have hb2' : Below base w w2 := hb1'.trans (hb2.mono (HD.out _ hb1').2.2.1)
  have B2 := Lib.hid (And.intro ((HB.out.2.stay hb1).stay hb2) hb2')
  clear hb1 hb1' hb2 hb2' c0 c1
  go_wp2_with fail
  ((with_reducible refine (writeB base g l (40 :: textOf x1 x2) _ _ (one_bytes _ _) B2.out.1 (by have := H.out.2.2.2.2.2.2.1; have := HF.out.2.2.2.2.1; simp only [List.length_cons]; omega) (HD.out _ B2.out.2).2.2.1).mono ?_); rintro e w3 ⟨v3, rfl, hB3, hb3⟩)
  have B3 := Lib.hid (And.intro hB3 (B2.out.2.trans hb3))
  have s6 := (HD.out _ B3.out.2).1
  have c2 := s6.c2
  clear hB3 hb3 s6 B2 n1
  go_wp2_with fail
  clear c2
  have HL := Lib.hid (show (l ++ 40 :: textOf x1 x2).length ≤ l.length + 44 by have := HF.out.2.2.2.2.1; simp only [List.length_append, List.length_cons]; omega)
  have HZ := Lib.hid (show (l ++ 40 :: textOf x1 x2) ++ (besideText bs ++ (ks.show ++ [41])) = l ++ Tre.show ⟨(x1, x2), bs, ks⟩ by simp [Tre.show])
  generalize l ++ 40 :: textOf x1 x2 = l3 at *
  go_loopg [4] bs.length (fun k c wr => ∃ (pre rest : List (Int × Int)) (q : Option Addr), c = .pointer q ∧ bs = pre ++ rest ∧ k = rest.length ∧ BAt w0 rest q ∧ Bld base g (l3 ++ besideText pre) wr ∧ Below base w wr)
  case atStart => exact ⟨[], bs, bp, rfl, rfl, rfl, H.out.2.1, by simpa [besideText] using B3.out.1, B3.out.2⟩
  case round =>
    clear B3
    obtain ⟨pre, rest, q, rfl, hx, hk, hr, hB, hbe⟩ := hrel
    cases rest with
    | nil =>
      obtain rfl := hr
      rw [List.append_nil] at hx
      have B4 := Lib.hid (show Bld base g (l3 ++ besideText bs) wr ∧ Below base w wr from ⟨by rw [hx]; exact hB, hbe⟩)
      clear hx hB hbe hk
      have s6 := (HD.out _ B4.out.2).1
      have c4 := s6.c4
      clear s6
      go_wp2_with fail
      clear c4
      have HL2 := Lib.hid (show (l3 ++ besideText bs).length ≤ l.length + 44 + 46 * bs.length by have := HL.out; have := H.out.2.2.2.2.2.2.2; simp only [List.length_append]; omega)
      have HZ2 := Lib.hid (show (l3 ++ besideText bs) ++ (ks.show ++ [41]) = l ++ Tre.show ⟨(x1, x2), bs, ks⟩ by rw [← HZ.out]; simp)
      generalize l3 ++ besideText bs = l4 at *
      go_loopg [5] ks.len (fun k c wr => ∃ (pre : List UInt8) (rest : Wood) (q : Option Addr), c = .pointer q ∧ ks.show = pre ++ rest.show ∧ k = rest.len ∧ rest.size ≤ ks.size ∧ fits rest.all ∧ pre.length + 46 * rest.size ≤ 46 * ks.size ∧ WAt w0 rest q ∧ Bld base g (l4 ++ pre) wr ∧ Below base w wr)
      case atStart => exact ⟨[], ks, kp, rfl, rfl, rfl, Nat.le_refl _, HF.out.2.2.2.1, by simp, H.out.2.2.1, by simpa using B4.out.1, B4.out.2⟩
      case round =>
        clear B4
        obtain ⟨pre, rest, q, rfl, hx, hk, hsz, hfr, hlr, hr, hB, hbe⟩ := hrel
        cases rest with
        | nil =>
          obtain rfl := hr
          simp only [Wood.show, List.append_nil] at hx
          have B5 := Lib.hid (show Bld base g (l4 ++ ks.show) wr ∧ Below base w wr from ⟨by rw [hx]; exact hB, hbe⟩)
          clear hx hB hbe hk hsz hfr hlr
          go_wp2_with fail
          ((with_reducible refine (writeB base g (l4 ++ ks.show) [41] _ _ rfl B5.out.1 (by have := H.out.2.2.2.2.2.2.1; have := HL2.out; have := HF.out.2.2.2.2.2; simp only [List.length_append, List.length_cons, List.length_nil]; omega) (HD.out _ B5.out.2).2.2.1).mono ?_); rintro e w5 ⟨v5, rfl, hB5, hb5⟩)
          have B6 := Lib.hid (show Bld base g (l ++ Tre.show ⟨(x1, x2), bs, ks⟩) w5 ∧ Below base w w5 from ⟨by rw [← HZ2.out, ← List.append_assoc]; exact hB5, B5.out.2.trans hb5⟩)
          clear hB5 hb5 B5
          go_wp2_with fail
          first | go_end0 | refine bodyPost_ret (results_none rfl _ _ _) rfl ?_
          exact ⟨rfl, B6.out.1, B6.out.2⟩
        | cons y cs cks rest =>
          obtain ⟨c, bk, q', bp', kp', rfl, hc, hbk, h1, h2, h3⟩ := hr
          have hlen : 1 + cs.length + cks.size < n ∧ rest.size ≤ ks.size ∧ pre.length + 46 * (1 + cs.length + cks.size) + 46 * rest.size ≤ 46 * ks.size := by
            have g2 := H.out.2.2.2.2.2.1
            simp only [Wood.size] at hsz hlr
            omega
          obtain ⟨hfk, hfr2⟩ := hfr.append
          have hkl : (Tre.show ⟨y, cs, cks⟩).length + 1 ≤ 46 * (1 + cs.length + cks.size) := by
            have hw := Wood.show_length (.cons y cs cks .nil) (by simpa [Wood.all] using hfk)
            simp only [Wood.show, Wood.size, List.append_nil, List.length_cons] at hw
            simp only [Tre.show, List.length_cons]
            omega
          have A := Lib.hid (And.intro hx (And.intro hbe (And.intro hc (And.intro h3 (And.intro hk (And.intro hlen (And.intro hfr2 hkl)))))))
          have HC := Lib.hid (fun l W hW hbw hB hl => HI.out y cs cks hlen.1 w0 HE.out bk ⟨bp', kp', hbk, h1, h2⟩ hfk base hb0 g l W hW hbw hB hl)
          have B5 := Lib.hid hB
          clear hx hk hsz hfr hlr hbe hc hbk h1 h2 h3 hlen hfk hfr2 hkl hB
          go_wp2_with fail
          ((with_reducible refine (writeB base g (l4 ++ pre) [32] _ _ rfl B5.out (by have := H.out.2.2.2.2.2.2.1; have := HL2.out; have := A.out.2.2.2.2.2.1.2.2; simp only [List.length_append, List.length_cons, List.length_nil]; omega) (HD.out _ A.out.2.1).2.2.1).mono ?_); rintro e w5 ⟨v5, rfl, hB5, hb5⟩)
          have hbe5 : Below base w w5 := A.out.2.1.trans hb5
          have hc5 := ((HD.out _ hbe5).2.2.2.block c (lt_of_heap A.out.2.2.1)).trans A.out.2.2.1
          have c0 : w5.cell? ⟨c, 0, none⟩ = some (.pointer (some ⟨bk, 0, none⟩)) := by simp [World.cell?, hc5]
          have B6 := Lib.hid (And.intro hB5 hbe5)
          clear hB5 hb5 hbe5 hc5 B5
          go_wp2_with fail
          ((with_reducible refine (HC.out ((l4 ++ pre) ++ [32]) _ (HD.out _ B6.out.2).2.2.2 (HD.out _ B6.out.2).2.2.1 B6.out.1 (by have := H.out.2.2.2.2.2.2.1; have := HL2.out; have := A.out.2.2.2.2.2.1.2.2; simp only [List.length_append, List.length_cons, List.length_nil]; omega)).mono ?_); rintro e w6 ⟨rfl, hB6, hb6⟩)
          have hbe6 : Below base w w6 := B6.out.2.trans hb6
          have hc6 := ((HD.out _ hbe6).2.2.2.block c (lt_of_heap A.out.2.2.1)).trans A.out.2.2.1
          have c1 : w6.cell? ⟨c, 1, none⟩ = some (.pointer q') := by simp [World.cell?, hc6]
          have B7 := Lib.hid (And.intro hB6 hbe6)
          clear hB6 hb6 hbe6 hc6 B6 c0 HC
          go_wp2_with fail
          obtain ⟨hx, -, -, h3, hk, hlen, hfr2, hkl⟩ := A.out
          go_roundg rest.len
          case measure => rw [hk]; simp [Wood.len]
          case rel => exact ⟨pre ++ 32 :: Tre.show ⟨y, cs, cks⟩, rest, q', rfl, by rw [hx]; simp [Wood.show, Tre.show], rfl, hlen.2.1, hfr2, by simp only [List.length_append, List.length_cons]; omega, h3, by have := B7.out.1; simpa using this, B7.out.2⟩
    | cons x rest =>
      obtain ⟨bb, q', rfl, hh, hr'⟩ := hr
      have hh1 := ((HD.out _ hbe).2.2.2.block bb (lt_of_heap hh)).trans hh
      have c0 : wr.cell? ⟨bb, 0, none⟩ = some (.int .i64 x.1) := by simp [World.cell?, hh1]
      have c1 : wr.cell? ⟨bb, 1, none⟩ = some (.int .i64 x.2) := by simp [World.cell?, hh1]
      have hfx : in64 x.1 ∧ in64 x.2 := HF.out.2.2.1 x (by rw [hx]; simp)
      have hfp : (besideText pre).length ≤ 46 * pre.length := besideText_length pre (fun e he => HF.out.2.2.1 e (by rw [hx]; simp [he]))
      have hpl : pre.length + 1 ≤ bs.length := by have := congrArg List.length hx; simp only [List.length_append, List.length_cons] at this; omega
      have hxl := textOf_length x.1 x.2 hfx.1 hfx.2
      have n2 : ¬ 9223372036854775807 < 2 + (textOf x.1 x.2).length := by omega
      have A := Lib.hid (And.intro hx (And.intro hk (And.intro hr' (And.intro hB (And.intro hbe (And.intro hh (And.intro hfx (And.intro hfp (And.intro hpl hxl)))))))))
      clear hx hk hr' hB hbe hh hh1 hfx hfp hpl hxl
      go_wp2_with fail
      ((with_reducible refine (key_any x _).mono ?_); rintro e w4 ⟨rfl, hb4⟩)
      have hb4' : Below base w w4 := A.out.2.2.2.2.1.trans (hb4.mono (HD.out _ A.out.2.2.2.2.1).2.2.1)
      go_wp2_with fail
      ((with_reducible refine (textE_any x A.out.2.2.2.2.2.2.1 _ (HD.out _ hb4').2.1).mono ?_); rintro e w5 ⟨rfl, hb5⟩)
      have hb5' : Below base w w5 := hb4'.trans (hb5.mono (HD.out _ hb4').2.2.1)
      have B5 := Lib.hid (And.intro ((A.out.2.2.2.1.stay hb4).stay hb5) hb5')
      clear hb4 hb4' hb5 hb5' c0 c1
      go_wp2_with fail
      ((with_reducible refine (writeB base g (l3 ++ besideText pre) (32 :: 43 :: textOf x.1 x.2) _ _ (two_bytes _ _ _) B5.out.1 (by have := H.out.2.2.2.2.2.2.1; have := HL.out; have := A.out.2.2.2.2.2.2.2; simp only [List.length_append, List.length_cons]; omega) (HD.out _ B5.out.2).2.2.1).mono ?_); rintro e w6 ⟨v6, rfl, hB6, hb6⟩)
      have hbe6 : Below base w w6 := B5.out.2.trans hb6
      have hh6 := ((HD.out _ hbe6).2.2.2.block bb (lt_of_heap A.out.2.2.2.2.2.1)).trans A.out.2.2.2.2.2.1
      have c2 : w6.cell? ⟨bb, 2, none⟩ = some (.pointer q') := by simp [World.cell?, hh6]
      have B6 := Lib.hid (And.intro hB6 hbe6)
      clear hB6 hb6 hbe6 hh6 B5 n2
      go_wp2_with fail
      obtain ⟨hx, hk, hr', -⟩ := A.out
      go_roundg rest.length
      case measure => rw [hk]; simp
      case rel => exact ⟨pre ++ [x], rest, q', rfl, by rw [hx]; simp, rfl, hr', by have := B6.out.1; simpa [besideText] using this, B6.out.2⟩

end Go.Proofs.YtlkpmafgokoaiaaDoor
