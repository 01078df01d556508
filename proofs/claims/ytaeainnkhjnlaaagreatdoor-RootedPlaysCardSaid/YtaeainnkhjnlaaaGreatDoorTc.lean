/-
  The library's contract of (*strings.Builder).WriteString laid over this program: its three bodies are those that the contract was proved of. No conditions.
  Contract of rank.Show: a tree's text; nothing that was there has changed. Conditions: elements of 64-bit numbers, fewer than 2 to the 30th things, the library's table as it is laid.
  Contract of rank.Show: a tree's text, or none's; nothing that was there has changed. Conditions: elements of 64-bit numbers, fewer than 2 to the 30th things, the library's table as it is laid.
  Contracts of the reference's digits, Number and Text: for any 64-bit number: its decimal text; nothing that was there has changed.
  Contracts of rank.Leaf, Link without a meter: which tree each makes; nothing that was there has changed. Condition: fewer than 2 to the 28th things each.
-/
import Derived.Shelf.Strings.Builder1
import Derived.Test.YtaeainnkhjnlaaaGreatDoorProg
import Derived.Test.YtaeainnkhjnlaaaGreatDoorTb
import Derived.Test.YtaeainnkhjnlaaaGreatDoorShelf
import Derived.Deep.LoopGhost
import Derived.Test.YtaeainnkhjnlaaaGreatDoorMc
import Derived.Laws.IdiomStrings
import Derived.Laws.Rows
namespace Go.Proofs
open Go.Shelf
def Tryz.lays166_ren : Go.Shelf.Ren := ⟨fun | 166 => 95 | 240 => 107 | 276 => 115 | n => n, fun | 70 => 151 | 9 => 9 | 0 => 0 | 72 => 154 | 37 => 152 | 3 => 3 | 4 => 4 | 5 => 5 | 20 => 20 | 75 => 157 | 80 => 57 | 164 => 183 | n => n, fun | n => n⟩
theorem Tryz.lays166 : Go.Proofs.Lays.n166 Tryz.prog Tryz.lays166_ren := {
  mixed := by kernel_rfl
  f166 := Tryz.func95.trans (congrArg some (by kernel_rfl))
  f240 := Tryz.func107.trans (congrArg some (by kernel_rfl))
  f276 := Tryz.func115.trans (congrArg some (by kernel_rfl))
  t0 := Tryz.underlying0
  a0 := Tryz.isAgg0
  z0 := Tryz.sizeOf0
  v0 := Tryz.zeroValue0
  t3 := Tryz.underlying3
  a3 := Tryz.isAgg3
  z3 := Tryz.sizeOf3
  v3 := Tryz.zeroValue3
  t4 := Tryz.underlying4
  a4 := Tryz.isAgg4
  z4 := Tryz.sizeOf4
  v4 := Tryz.zeroValue4
  t9 := Tryz.underlying9
  a9 := Tryz.isAgg9
  z9 := Tryz.sizeOf9
  v9 := Tryz.zeroValue9
  t20 := Tryz.underlying20
  a20 := Tryz.isAgg20
  z20 := Tryz.sizeOf20
  v20 := Tryz.zeroValue20
  t37 := Tryz.underlying152
  a37 := Tryz.isAgg152
  z37 := Tryz.sizeOf152
  v37 := Tryz.zeroValue152
  t70 := Tryz.underlying151
  a70 := Tryz.isAgg151
  z70 := Tryz.sizeOf151
  v70 := Tryz.zeroValue151
  t72 := Tryz.underlying154
  a72 := Tryz.isAgg154
  z72 := Tryz.sizeOf154
  v72 := Tryz.zeroValue154
  t75 := Tryz.underlying157
  a75 := Tryz.isAgg157
  z75 := Tryz.sizeOf157
  v75 := Tryz.zeroValue157
  t164 := Tryz.underlying183
  a164 := Tryz.isAgg183
  z164 := Tryz.sizeOf183
  v164 := Tryz.zeroValue183 }
theorem Tryz.Builder_Extra_166 : Builder.Extra Tryz.prog Tryz.lays166_ren := {
  sizeBuilder := by kernel_rfl
  liesBuilder := by kernel_rfl
  t5 := Tryz.underlying5
  a5 := Tryz.isAgg5
  z5 := Tryz.sizeOf5
  v5 := Tryz.zeroValue5
  infoByte := by kernel_rfl
  cellsByte := by kernel_rfl
  sizeByte := by kernel_rfl
  neB5 := by decide }
open Go.RowKit in
theorem Tryz.Builder_WriteString (B b : Nat) (bs : List Value) (s : ByteArray) (w : World) (h : Lib.IsBuilder 154 5 B b bs w) (hlen : bs.length + s.size ≤ 140737488355328) (hBw : B ≤ w.heap.size) :
    Calls Tryz.prog 95 #[.pointer (some ⟨b, 0, none⟩), .string s] w fun e w' => e = .returned (.tuple #[.int .i64 s.size, .nilIface]) ∧ (Lib.BuilderAt 154 5 B b (.pointer (some ⟨b, 0, none⟩)) (bs ++ Lib.strCells s) w' ∧ Below B w w') := Any.Builder_WriteString Tryz.lays166 Tryz.Builder_Extra_166 B b bs s w h hlen hBw
end Go.Proofs
namespace Go.Proofs.YtaeainnkhjnlaaaGreatDoor
open Go.Sort Go.RowKit

/-- A strings.Builder of the call's own, with the bytes l. -/
def Bld (base g : Nat) (l : List UInt8) (w : World) : Prop := Lib.IsBuilder 154 5 base g (Lib.byteCells l) w
theorem builderAt_stay {base g : Nat} {p : Value} {bs : List Value} {w w' : World} (h : Lib.BuilderAt 154 5 base g p bs w) (hb : Below w.heap.size w w') : Lib.BuilderAt 154 5 base g p bs w' := by
  obtain ⟨hB, v, hg, hown, hne⟩ := h
  refine ⟨hB, v, (hb.block g (lt_of_heap hg)).trans hg, ?_, hne⟩
  refine World.ownsRow.kept hown (row := Option.none) ⟨hb.os, hb.tape, hb.output, hb.size, fun k hk _ => hb.block k hk⟩ ?_
  cases v.ownBlock <;> simp
theorem Bld.stay {base g : Nat} {l : List UInt8} {w w' : World} (h : Bld base g l w) (hb : Below w.heap.size w w') : Bld base g l w' := h.imp (builderAt_stay · hb) (builderAt_stay · hb)

theorem write_any (base g : Nat) (l s : List UInt8) (w : World) (h : Bld base g l w) (hl : l.length + s.length ≤ 140737488355328) (hbw : base ≤ w.heap.size) :
    Calls Tryz.prog 95 #[.pointer (some ⟨g, 0, none⟩), .string ⟨s.toArray⟩] w fun e w' => ∃ v, e = .returned v ∧ Bld base g (l ++ s) w' ∧ Below base w w' := by
  refine (Tryz.Builder_WriteString base g (Lib.byteCells l) ⟨s.toArray⟩ w h (by rw [Lib.byteCells_length]; simpa [ByteArray.size] using hl) hbw).mono fun e w' ⟨he, hB, hb⟩ => ⟨_, he, ?_, hb⟩
  rw [Lib.strCells_eq] at hB
  have e1 : Lib.byteCells l ++ Lib.byteCells (⟨s.toArray⟩ : ByteArray).data.toList = Lib.byteCells (l ++ s) := by rw [Lib.byteCells_append]
  rw [e1] at hB
  exact Or.inr hB

theorem writeB (base g : Nat) (l t : List UInt8) (s : ByteArray) (w : World) (hs : s = ⟨t.toArray⟩) (h : Bld base g l w) (hl : l.length + t.length ≤ 140737488355328) (hbw : base ≤ w.heap.size) :
    Calls Tryz.prog 95 #[.pointer (some ⟨g, 0, none⟩), .string s] w fun e w' => ∃ v, e = .returned v ∧ Bld base g (l ++ t) w' ∧ Below base w w' := by
  rw [hs]; exact write_any base g l t w h hl hbw
theorem one_bytes (c : UInt8) (t : List UInt8) : (⟨#[c]⟩ : ByteArray) ++ ⟨t.toArray⟩ = ⟨(c :: t).toArray⟩ := append_bytes [c] t
theorem two_bytes (c d : UInt8) (t : List UInt8) : (⟨#[c, d]⟩ : ByteArray) ++ ⟨t.toArray⟩ = ⟨(c :: d :: t).toArray⟩ := append_bytes [c, d] t

set_option maxRecDepth 100000 in
set_option maxHeartbeats 4000000 in
theorem show_step (n : Nat)
    (ih : ∀ (x : Int × Int) (bs : List (Int × Int)) (ks : Wood), 1 + bs.length + ks.size < n → ∀ (w0 : World), Env w0 → ∀ (b : Nat), NAt w0 b ⟨x, bs, ks⟩ → fits (x :: (bs ++ ks.all)) → ∀ (base : Nat), w0.heap.size ≤ base → ∀ (g : Nat) (l : List UInt8) (w : World), Below w0.heap.size w0 w → base ≤ w.heap.size → Bld base g l w →
      l.length + 46 * (1 + bs.length + ks.size) + 10 ≤ 140737488355328 → Calls Tryz.prog 92 #[.pointer (some ⟨b, 0, none⟩), .pointer (some ⟨g, 0, none⟩)] w fun e w' => e = .returned (.tuple #[]) ∧ Bld base g (l ++ Tre.show ⟨x, bs, ks⟩) w' ∧ Below base w w')
    (x1 x2 : Int) (bs : List (Int × Int)) (ks : Wood) (hn : 1 + bs.length + ks.size = n) (w0 : World) (he : Env w0) (b : Nat) (ht : NAt w0 b ⟨(x1, x2), bs, ks⟩) (hf : fits ((x1, x2) :: (bs ++ ks.all))) (base : Nat) (hb0 : w0.heap.size ≤ base) (g : Nat) (l : List UInt8) (w : World)
    (hW : Below w0.heap.size w0 w) (hbw : base ≤ w.heap.size) (hB : Bld base g l w) (hl : l.length + 46 * (1 + bs.length + ks.size) + 10 ≤ 140737488355328) :
    Calls Tryz.prog 92 #[.pointer (some ⟨b, 0, none⟩), .pointer (some ⟨g, 0, none⟩)] w fun e w' => e = .returned (.tuple #[]) ∧ Bld base g (l ++ Tre.show ⟨(x1, x2), bs, ks⟩) w' ∧ Below base w w' := by
  obtain ⟨bp, kp, hh, hBs, hK⟩ := ht
  have hlt : b < w0.heap.size := lt_of_heap hh
  have s6 := six ((hW.block b hlt).trans hh)
  have c0 := s6.c0
  have c1 := s6.c1
  obtain ⟨⟨hx1, hx2⟩, hf2⟩ := hf.cons
  obtain ⟨hfb, hfk⟩ := hf2.append
  have hxl := textOf_length x1 x2 hx1 hx2
  have hbl := besideText_length bs hfb
  have hkl := ks.show_length hfk
  have H := Lib.hid (And.intro hh (And.intro hBs (And.intro hK (And.intro hW (And.intro hlt (And.intro hn (And.intro hl hbl)))))))
  have HF := Lib.hid (And.intro hx1 (And.intro hx2 (And.intro hfb (And.intro hfk (And.intro hxl hkl)))))
  have HI := Lib.hid ih
  have HE := Lib.hid he
  have HB := Lib.hid (And.intro hbw hB)
  have n1 : ¬ 9223372036854775807 < 1 + (textOf x1 x2).length := by omega
  have hD : ∀ (W : World), Below base w W → Six W b (x1, x2) bp (ks.len : Int) kp (bs.length + ks.size : Nat) ∧ Env W ∧ base ≤ W.heap.size ∧ Below w0.heap.size w0 W := fun _ h => ⟨six (((hW.trans (h.mono hb0)).block b hlt).trans hh), he.below (hW.trans (h.mono hb0)), Nat.le_trans hbw h.size, hW.trans (h.mono hb0)⟩
  have HD := Lib.hid hD
  clear hh hBs hK hW hlt hn hl s6 hx1 hx2 hf hf2 hfb hfk hxl hbl hkl ih he hbw hB hD
  go_enter Tryz.func92, Tryz.ntmps92
  go_wp2_with fail
  ((with_reducible refine (key_any (x1, x2) _).mono ?_); rintro e w1 ⟨rfl, hb1⟩)
  have hb1' : Below base w w1 := hb1.mono HB.out.1
  go_wp2_with fail
  ((with_reducible refine (textE_any (x1, x2) ⟨HF.out.1, HF.out.2.1⟩ _ (HD.out _ hb1').2.1).mono ?_); rintro e w2 ⟨rfl, hb2⟩)
  have hb2' : Below base w w2 := hb1'.trans (hb2.mono (HD.out _ hb1').2.2.1)
  have B2 := Lib.hid (And.intro ((HB.out.2.stay hb1).stay hb2) hb2')
  clear hb1 hb1' hb2 hb2' c0 c1
  go_wp2_with fail
  ((with_reducible refine (writeB base g l (40 :: textOf x1 x2) _ _ (one_bytes _ _) B2.out.1 (by have := H.out.2.2.2.2.2.2.1; have := HF.out.2.2.2.2.1; simp only [List.length_cons]; omega) (HD.out _ B2.out.2).2.2.1).mono ?_); rintro e w3 ⟨v3, rfl, hB3, hb3⟩)
  have B3 := Lib.hid (And.intro hB3 (B2.out.2.trans hb3))
  have s6 := (HD.out _ B3.out.2).1
  have c2 := s6.c2
  clear hB3 hb3 s6 B2 n1
  go_wp2_with fail
  clear c2
  have HL := Lib.hid (show (l ++ 40 :: textOf x1 x2).length ≤ l.length + 44 by have := HF.out.2.2.2.2.1; simp only [List.length_append, List.length_cons]; omega)
  have HZ := Lib.hid (show (l ++ 40 :: textOf x1 x2) ++ (besideText bs ++ (ks.show ++ [41])) = l ++ Tre.show ⟨(x1, x2), bs, ks⟩ by simp [Tre.show])
  generalize l ++ 40 :: textOf x1 x2 = l3 at *
  go_loopg [4] bs.length (fun k c wr => ∃ (pre rest : List (Int × Int)) (q : Option Addr), c = .pointer q ∧ bs = pre ++ rest ∧ k = rest.length ∧ BAt w0 rest q ∧ Bld base g (l3 ++ besideText pre) wr ∧ Below base w wr)
  case atStart => exact ⟨[], bs, bp, rfl, rfl, rfl, H.out.2.1, by simpa [besideText] using B3.out.1, B3.out.2⟩
  case round =>
    clear B3
    obtain ⟨pre, rest, q, rfl, hx, hk, hr, hB, hbe⟩ := hrel
    cases rest with
    | nil =>
      obtain rfl := hr
      rw [List.append_nil] at hx
      have B4 := Lib.hid (show Bld base g (l3 ++ besideText bs) wr ∧ Below base w wr from ⟨by rw [hx]; exact hB, hbe⟩)
      clear hx hB hbe hk
      have s6 := (HD.out _ B4.out.2).1
      have c4 := s6.c4
      clear s6
      go_wp2_with fail
      clear c4
      have HL2 := Lib.hid (show (l3 ++ besideText bs).length ≤ l.length + 44 + 46 * bs.length by have := HL.out; have := H.out.2.2.2.2.2.2.2; simp only [List.length_append]; omega)
      have HZ2 := Lib.hid (show (l3 ++ besideText bs) ++ (ks.show ++ [41]) = l ++ Tre.show ⟨(x1, x2), bs, ks⟩ by rw [← HZ.out]; simp)
      generalize l3 ++ besideText bs = l4 at *
      go_loopg [5] ks.len (fun k c wr => ∃ (pre : List UInt8) (rest : Wood) (q : Option Addr), c = .pointer q ∧ ks.show = pre ++ rest.show ∧ k = rest.len ∧ rest.size ≤ ks.size ∧ fits rest.all ∧ pre.length + 46 * rest.size ≤ 46 * ks.size ∧ WAt w0 rest q ∧ Bld base g (l4 ++ pre) wr ∧ Below base w wr)
      case atStart => exact ⟨[], ks, kp, rfl, rfl, rfl, Nat.le_refl _, HF.out.2.2.2.1, by simp, H.out.2.2.1, by simpa using B4.out.1, B4.out.2⟩
      case round =>
        clear B4
        obtain ⟨pre, rest, q, rfl, hx, hk, hsz, hfr, hlr, hr, hB, hbe⟩ := hrel
        cases rest with
        | nil =>
          obtain rfl := hr
          simp only [Wood.show, List.append_nil] at hx
          have B5 := Lib.hid (show Bld base g (l4 ++ ks.show) wr ∧ Below base w wr from ⟨by rw [hx]; exact hB, hbe⟩)
          clear hx hB hbe hk hsz hfr hlr
          go_wp2_with fail
          ((with_reducible refine (writeB base g (l4 ++ ks.show) [41] _ _ rfl B5.out.1 (by have := H.out.2.2.2.2.2.2.1; have := HL2.out; have := HF.out.2.2.2.2.2; simp only [List.length_append, List.length_cons, List.length_nil]; omega) (HD.out _ B5.out.2).2.2.1).mono ?_); rintro e w5 ⟨v5, rfl, hB5, hb5⟩)
          have B6 := Lib.hid (show Bld base g (l ++ Tre.show ⟨(x1, x2), bs, ks⟩) w5 ∧ Below base w w5 from ⟨by rw [← HZ2.out, ← List.append_assoc]; exact hB5, B5.out.2.trans hb5⟩)
          clear hB5 hb5 B5
          go_wp2_with fail
          first | go_end0 | refine bodyPost_ret (results_none rfl _ _ _) rfl ?_
          exact ⟨rfl, B6.out.1, B6.out.2⟩
        | cons y cs cks rest =>
          obtain ⟨c, bk, q', bp', kp', rfl, hc, hbk, h1, h2, h3⟩ := hr
          have hlen : 1 + cs.length + cks.size < n ∧ rest.size ≤ ks.size ∧ pre.length + 46 * (1 + cs.length + cks.size) + 46 * rest.size ≤ 46 * ks.size := by
            have g2 := H.out.2.2.2.2.2.1
            simp only [Wood.size] at hsz hlr
            omega
          obtain ⟨hfk, hfr2⟩ := hfr.append
          have hkl : (Tre.show ⟨y, cs, cks⟩).length + 1 ≤ 46 * (1 + cs.length + cks.size) := by
            have hw := Wood.show_length (.cons y cs cks .nil) (by simpa [Wood.all] using hfk)
            simp only [Wood.show, Wood.size, List.append_nil, List.length_cons] at hw
            simp only [Tre.show, List.length_cons]
            omega
          have A := Lib.hid (And.intro hx (And.intro hbe (And.intro hc (And.intro h3 (And.intro hk (And.intro hlen (And.intro hfr2 hkl)))))))
          have HC := Lib.hid (fun l W hW hbw hB hl => HI.out y cs cks hlen.1 w0 HE.out bk ⟨bp', kp', hbk, h1, h2⟩ hfk base hb0 g l W hW hbw hB hl)
          have B5 := Lib.hid hB
          clear hx hk hsz hfr hlr hbe hc hbk h1 h2 h3 hlen hfk hfr2 hkl hB
          go_wp2_with fail
          ((with_reducible refine (writeB base g (l4 ++ pre) [32] _ _ rfl B5.out (by have := H.out.2.2.2.2.2.2.1; have := HL2.out; have := A.out.2.2.2.2.2.1.2.2; simp only [List.length_append, List.length_cons, List.length_nil]; omega) (HD.out _ A.out.2.1).2.2.1).mono ?_); rintro e w5 ⟨v5, rfl, hB5, hb5⟩)
          have hbe5 : Below base w w5 := A.out.2.1.trans hb5
          have hc5 := ((HD.out _ hbe5).2.2.2.block c (lt_of_heap A.out.2.2.1)).trans A.out.2.2.1
          have c0 : w5.cell? ⟨c, 0, none⟩ = some (.pointer (some ⟨bk, 0, none⟩)) := by simp [World.cell?, hc5]
          have B6 := Lib.hid (And.intro hB5 hbe5)
          clear hB5 hb5 hbe5 hc5 B5
          go_wp2_with fail
          ((with_reducible refine (HC.out ((l4 ++ pre) ++ [32]) _ (HD.out _ B6.out.2).2.2.2 (HD.out _ B6.out.2).2.2.1 B6.out.1 (by have := H.out.2.2.2.2.2.2.1; have := HL2.out; have := A.out.2.2.2.2.2.1.2.2; simp only [List.length_append, List.length_cons, List.length_nil]; omega)).mono ?_); rintro e w6 ⟨rfl, hB6, hb6⟩)
          have hbe6 : Below base w w6 := B6.out.2.trans hb6
          have hc6 := ((HD.out _ hbe6).2.2.2.block c (lt_of_heap A.out.2.2.1)).trans A.out.2.2.1
          have c1 : w6.cell? ⟨c, 1, none⟩ = some (.pointer q') := by simp [World.cell?, hc6]
          have B7 := Lib.hid (And.intro hB6 hbe6)
          clear hB6 hb6 hbe6 hc6 B6 c0 HC
          go_wp2_with fail
          obtain ⟨hx, -, -, h3, hk, hlen, hfr2, hkl⟩ := A.out
          go_roundg rest.len
          case measure => rw [hk]; simp [Wood.len]
          case rel => exact ⟨pre ++ 32 :: Tre.show ⟨y, cs, cks⟩, rest, q', rfl, by rw [hx]; simp [Wood.show, Tre.show], rfl, hlen.2.1, hfr2, by simp only [List.length_append, List.length_cons]; omega, h3, by have := B7.out.1; simpa using this, B7.out.2⟩
    | cons x rest =>
      obtain ⟨bb, q', rfl, hh, hr'⟩ := hr
      have hh1 := ((HD.out _ hbe).2.2.2.block bb (lt_of_heap hh)).trans hh
      have c0 : wr.cell? ⟨bb, 0, none⟩ = some (.int .i64 x.1) := by simp [World.cell?, hh1]
      have c1 : wr.cell? ⟨bb, 1, none⟩ = some (.int .i64 x.2) := by simp [World.cell?, hh1]
      have hfx : in64 x.1 ∧ in64 x.2 := HF.out.2.2.1 x (by rw [hx]; simp)
      have hfp : (besideText pre).length ≤ 46 * pre.length := besideText_length pre (fun e he => HF.out.2.2.1 e (by rw [hx]; simp [he]))
      have hpl : pre.length + 1 ≤ bs.length := by have := congrArg List.length hx; simp only [List.length_append, List.length_cons] at this; omega
      have hxl := textOf_length x.1 x.2 hfx.1 hfx.2
      have n2 : ¬ 9223372036854775807 < 2 + (textOf x.1 x.2).length := by omega
      have A := Lib.hid (And.intro hx (And.intro hk (And.intro hr' (And.intro hB (And.intro hbe (And.intro hh (And.intro hfx (And.intro hfp (And.intro hpl hxl)))))))))
      clear hx hk hr' hB hbe hh hh1 hfx hfp hpl hxl
      go_wp2_with fail
      ((with_reducible refine (key_any x _).mono ?_); rintro e w4 ⟨rfl, hb4⟩)
      have hb4' : Below base w w4 := A.out.2.2.2.2.1.trans (hb4.mono (HD.out _ A.out.2.2.2.2.1).2.2.1)
      go_wp2_with fail
      ((with_reducible refine (textE_any x A.out.2.2.2.2.2.2.1 _ (HD.out _ hb4').2.1).mono ?_); rintro e w5 ⟨rfl, hb5⟩)
      have hb5' : Below base w w5 := hb4'.trans (hb5.mono (HD.out _ hb4').2.2.1)
      have B5 := Lib.hid (And.intro ((A.out.2.2.2.1.stay hb4).stay hb5) hb5')
      clear hb4 hb4' hb5 hb5' c0 c1
      go_wp2_with fail
      ((with_reducible refine (writeB base g (l3 ++ besideText pre) (32 :: 43 :: textOf x.1 x.2) _ _ (two_bytes _ _ _) B5.out.1 (by have := H.out.2.2.2.2.2.2.1; have := HL.out; have := A.out.2.2.2.2.2.2.2; simp only [List.length_append, List.length_cons]; omega) (HD.out _ B5.out.2).2.2.1).mono ?_); rintro e w6 ⟨v6, rfl, hB6, hb6⟩)
      have hbe6 : Below base w w6 := B5.out.2.trans hb6
      have hh6 := ((HD.out _ hbe6).2.2.2.block bb (lt_of_heap A.out.2.2.2.2.2.1)).trans A.out.2.2.2.2.2.1
      have c2 : w6.cell? ⟨bb, 2, none⟩ = some (.pointer q') := by simp [World.cell?, hh6]
      have B6 := Lib.hid (And.intro hB6 hbe6)
      clear hB6 hb6 hbe6 hh6 B5 n2
      go_wp2_with fail
      obtain ⟨hx, hk, hr', -⟩ := A.out
      go_roundg rest.length
      case measure => rw [hk]; simp
      case rel => exact ⟨pre ++ [x], rest, q', rfl, by rw [hx]; simp, rfl, hr', by have := B6.out.1; simpa [besideText] using this, B6.out.2⟩

end Go.Proofs.YtaeainnkhjnlaaaGreatDoor
namespace Go.Proofs.YtaeainnkhjnlaaaGreatDoor
open Go.Sort Go.RowKit

theorem show_all (n : Nat) : ∀ (x : Int × Int) (bs : List (Int × Int)) (ks : Wood), 1 + bs.length + ks.size = n → ∀ (w0 : World), Env w0 → ∀ (b : Nat), NAt w0 b ⟨x, bs, ks⟩ → fits (x :: (bs ++ ks.all)) → ∀ (base : Nat), w0.heap.size ≤ base → ∀ (g : Nat) (l : List UInt8) (w : World), Below w0.heap.size w0 w → base ≤ w.heap.size → Bld base g l w →
      l.length + 46 * (1 + bs.length + ks.size) + 10 ≤ 140737488355328 → Calls Tryz.prog 92 #[.pointer (some ⟨b, 0, none⟩), .pointer (some ⟨g, 0, none⟩)] w fun e w' => e = .returned (.tuple #[]) ∧ Bld base g (l ++ Tre.show ⟨x, bs, ks⟩) w' ∧ Below base w w' := by
  induction n using Nat.strongRecOn with
  | ind n ih =>
    intro x bs ks hn w0 he b ht hf base hb0 g l w hW hbw hB hl
    exact show_step n (fun x' bs' ks' hlt => ih _ hlt x' bs' ks' rfl) x.1 x.2 bs ks hn w0 he b ht hf base hb0 g l w hW hbw hB hl

/-- A tree's text, or none's. -/
def oshow : Option Tre → List UInt8
  | none => [46]
  | some t => t.show

theorem newBuilder (w : World) : Bld w.heap.size w.heap.size [] (w.alloc (.cells #[.pointer none, .slice none 0 0] 154)) :=
  .inl ⟨Nat.le_refl _, .slice none 0 0, heap_alloc_new w _, World.ownsRow_nil _ _ _ _, by simp [Value.ownBlock]⟩

set_option maxHeartbeats 1000000 in
theorem show_none (w : World) (base g : Nat) (l : List UInt8) (hB : Bld base g l w) (hbw : base ≤ w.heap.size) (hl : l.length + 1 ≤ 140737488355328) :
    Calls Tryz.prog 92 #[.pointer none, .pointer (some ⟨g, 0, none⟩)] w fun e w' => e = .returned (.tuple #[]) ∧ Bld base g (l ++ [46]) w' ∧ Below base w w' := by
  have H := Lib.hid (writeB base g l [46] _ w rfl hB hl hbw)
  clear hB hbw hl
  go_enter Tryz.func92, Tryz.ntmps92
  go_wp2_with fail
  ((with_reducible refine H.out.mono ?_); rintro e w1 ⟨v, rfl, hB, hb⟩)
  have B := Lib.hid (And.intro hB hb)
  clear hB hb H
  go_wp2_with fail
  first | go_end0 | refine bodyPost_ret (results_none rfl _ _ _) rfl ?_
  exact ⟨rfl, B.out.1, B.out.2⟩

theorem showIn_any (p : Option Addr) (t : Option Tre) (w0 : World) (he : Env w0) (h : TAt w0 p t) (hf : fits (oall t)) (h1 : osize t < 1073741824) (base : Nat) (hb0 : w0.heap.size ≤ base) (g : Nat) (w : World) (hW : Below w0.heap.size w0 w) (hbw : base ≤ w.heap.size) (hB : Bld base g [] w) :
    Calls Tryz.prog 92 #[.pointer p, .pointer (some ⟨g, 0, none⟩)] w fun e w' => e = .returned (.tuple #[]) ∧ Bld base g (oshow t) w' ∧ Below base w w' := by
  cases t with
  | none => obtain rfl := h; exact show_none w base g [] hB hbw (by simp)
  | some t =>
    obtain ⟨b, rfl, ht⟩ := h
    obtain ⟨x, bs, ks⟩ := t
    exact show_all _ x bs ks rfl w0 he b ht hf base hb0 g [] w hW hbw hB (by simp only [osize, Tre.size] at h1; simp only [List.length_nil]; omega)

theorem string_any (base g : Nat) (l : List UInt8) (w : World) (h : Bld base g l w) (hb : base ≤ w.heap.size) : Calls Tryz.prog 93 #[.pointer (some ⟨g, 0, none⟩)] w fun e w' => e = .returned (.string ⟨l.toArray⟩) ∧ Below base w w' := Tryz.Builder_String_any base g l w h hb

set_option maxHeartbeats 1000000 in
theorem show_any (p : Option Addr) (t : Option Tre) (w : World) (he : Env w) (h : TAt w p t) (hf : fits (oall t)) (h1 : osize t < 1073741824) :
    Calls Tryz.prog 70 #[.pointer p] w fun e w' => e = .returned (.string ⟨(oshow t).toArray⟩) ∧ Below w.heap.size w w' := by
  have hb0 : Below w.heap.size w (w.alloc (.cells #[.pointer none, .slice none 0 0] 154)) := (Below.refl _ _).alloc (Nat.le_refl _) _
  have H := Lib.hid (showIn_any p t w he h hf h1 w.heap.size (Nat.le_refl _) w.heap.size _ hb0 hb0.size (newBuilder w))
  have HB := Lib.hid hb0
  clear he h hf h1 hb0
  go_enter Tryz.func70, Tryz.ntmps70
  go_wp2_with fail
  ((with_reducible refine H.out.mono ?_); rintro e w1 ⟨rfl, hB, hb⟩)
  have B := Lib.hid (And.intro hB (HB.out.trans hb))
  clear hB hb H
  go_wp2_with fail
  ((with_reducible refine (string_any w.heap.size w.heap.size (oshow t) _ B.out.1 B.out.2.size).mono ?_); rintro e w2 ⟨rfl, hb2⟩)
  have B2 := Lib.hid (B.out.2.trans hb2)
  clear hb2 B
  go_wp2_with fail
  go_ret
  exact ⟨rfl, B2.out⟩

end Go.Proofs.YtaeainnkhjnlaaaGreatDoor
namespace Go.Proofs.YtaeainnkhjnlaaaGreatDoor
open Go.Sort Go.RowKit

theorem tdiv_ten (n : Nat) : (-(n : Int)).tdiv 10 = -((n / 10 : Nat) : Int) := by
  rw [Int.neg_tdiv, Int.tdiv_eq_ediv_of_nonneg (by omega)]; omega
theorem tmod_ten (n : Nat) : (-(n : Int)).tmod 10 = -((n % 10 : Nat) : Int) := by
  rw [Int.neg_tmod, Int.tmod_eq_emod_of_nonneg (by omega)]; omega

/-- One byte that was just laid, as a text. -/
theorem byte_text (W : World) (z : Int) (c : UInt8) (hc : z = (c.toNat : Int)) (t9 : TypeId) (h9 : Tryz.prog.underlying t9 = some .string) :
    (convert 152 t9 (.slice (some ⟨W.heap.size, 0, none⟩) 1 1)).run Tryz.prog (W.alloc (.cells #[.int .u8 z] 5)) = .ok (.string ⟨[c].toArray⟩) (W.alloc (.cells #[.int .u8 z] 5)) := by
  refine run_convert_bytes_back (P := Tryz.prog) _ 152 t9 5 ⟨W.heap.size, 0, none⟩ 1 [c] Tryz.underlying152 Tryz.underlying5 h9 ?_
  intro j hj
  have hj0 : j = 0 := by simpa using hj
  subst hj0
  have e : (W.alloc (.cells #[.int .u8 z] 5)).heap[W.heap.size]? = some (.cells #[.int .u8 z] 5 (0, 0)) := heap_alloc_new W _
  show (W.alloc (.cells #[.int .u8 z] 5)).cell? ⟨W.heap.size, 0, none⟩ = _
  rw [cell_of_row _ _ 0 _ _ _ e, hc]
  rfl

theorem digits_length (u : Nat) (h : u ≤ 9223372036854775808) : (Lib.decDigits u).length ≤ 21 := by
  by_cases h0 : u = 9223372036854775808
  · have := Lib.itoa_length_le (-9223372036854775808) (by omega) (by omega)
    unfold Lib.itoa at this
    rw [if_pos (by omega)] at this
    rw [h0]
    have e : (-9223372036854775808 : Int).natAbs = 9223372036854775808 := rfl
    rw [e] at this
    simp only [List.length_cons] at this
    omega
  · have := Lib.itoa_length_le (u : Int) (by omega) (by omega)
    unfold Lib.itoa at this
    rw [if_neg (by omega), Int.toNat_natCast] at this
    exact this

set_option maxHeartbeats 1000000 in
set_option maxRecDepth 100000 in
theorem digits_any (n : Nat) : ∀ (x : Int) (w : World), x = -(n : Int) → n ≤ 9223372036854775808 →
    Calls Tryz.prog 96 #[.int .i64 x] w fun e w' => e = .returned (.string ⟨(Lib.decDigits n).toArray⟩) ∧ Below w.heap.size w w' := by
  induction n using Nat.strongRecOn with
  | ind n ih =>
    intro x w hx hn
    have hlo : -9223372036854775808 ≤ x := by omega
    have hhi : x ≤ 0 := by omega
    obtain ⟨r, hr⟩ : ∃ r : Int, r = ((n % 10 : Nat) : Int) := ⟨_, rfl⟩
    have hm : x.tmod 10 = -r := by rw [hx, hr]; exact tmod_ten n
    have hr0 : 0 ≤ r := by omega
    have hr9 : r ≤ 9 := by omega
    obtain ⟨c, hc⟩ : ∃ c : UInt8, c = UInt8.ofNat (48 + n % 10) := ⟨_, rfl⟩
    have hcv : ∀ W : World, (convert 152 9 (.slice (some ⟨W.heap.size, 0, none⟩) 1 1)).run Tryz.prog (W.alloc (.cells #[.int .u8 (48 + r)] 5)) = .ok (.string ⟨[c].toArray⟩) (W.alloc (.cells #[.int .u8 (48 + r)] 5)) := fun W =>
      byte_text W (48 + r) c (by rw [hc, digit_toNat _ (by omega)]; omega) _ Tryz.underlying9
    by_cases h : n < 10
    · have h1 : decide (x ≤ -10) = false := by simp; omega
      have hd : Lib.decDigits n = [c] := by
        rw [Lib.decDigits_one h, hc, Nat.mod_eq_of_lt h]
      have HD := Lib.hid hd
      clear ih hd hx hr hn h hc
      go_enter Tryz.func96, Tryz.ntmps96
      go_wp2_with fail
      go_ret
      refine ⟨?_, (Below.refl w.heap.size w).alloc (Nat.le_refl _) _⟩
      rw [HD.out]
      rfl
    · obtain ⟨q, hq⟩ : ∃ q : Int, q = -((n / 10 : Nat) : Int) := ⟨_, rfl⟩
      have hdv : x.tdiv 10 = q := by rw [hx, hq]; exact tdiv_ten n
      have hq0 : -9223372036854775808 ≤ q := by omega
      have hq1 : q ≤ 0 := by omega
      have h1 : decide (x ≤ -10) = true := by simp; omega
      have hd : Lib.decDigits n = Lib.decDigits (n / 10) ++ [c] := by
        rw [hc]; rw [Lib.decDigits, dif_neg h]
      have hl := digits_length (n / 10) (by omega)
      have HI := Lib.hid (fun W => ih (n / 10) (by omega) q W hq (by omega))
      have HD := Lib.hid hd
      have n1 : ¬ 9223372036854775807 < (Lib.decDigits (n / 10)).length + 1 := by omega
      clear ih hd hx hr hn h hc hq
      go_enter Tryz.func96, Tryz.ntmps96
      go_wp2_with fail
      ((with_reducible refine (HI.out _).mono ?_); rintro e w1 ⟨rfl, hb1⟩)
      have HB := Lib.hid hb1
      clear hb1
      go_wp2_with fail
      go_ret
      refine ⟨?_, HB.out.alloc HB.out.size _⟩
      rw [HD.out, ← append_bytes]
      rfl

set_option maxHeartbeats 1000000 in
set_option maxRecDepth 100000 in
theorem refNumber_any (v : Int) (h0 : -9223372036854775808 ≤ v) (h1 : v ≤ 9223372036854775807) (w : World) :
    Calls Tryz.prog 72 #[.int .i64 v] w fun e w' => e = .returned (.string ⟨(Lib.itoa v).toArray⟩) ∧ Below w.heap.size w w' := by
  by_cases h : v < 0
  · have hd : Lib.itoa v = 45 :: Lib.decDigits v.natAbs := by unfold Lib.itoa; rw [if_pos h]
    have hl := digits_length v.natAbs (by omega)
    have HI := Lib.hid (fun W => digits_any v.natAbs v W (by omega) (by omega))
    have HD := Lib.hid hd
    have n1 : ¬ 9223372036854775807 < 1 + (Lib.decDigits v.natAbs).length := by omega
    have h2 : decide (v < 0) = true := by simpa using h
    clear hd
    go_enter Tryz.func72, Tryz.ntmps72
    go_wp2_with fail
    ((with_reducible refine (HI.out _).mono ?_); rintro e w1 ⟨rfl, hb1⟩)
    go_wp2_with fail
    go_ret
    refine ⟨?_, hb1⟩
    rw [HD.out, show (45 :: Lib.decDigits v.natAbs) = [45] ++ Lib.decDigits v.natAbs from rfl, ← append_bytes]
    rfl
  · have hd : Lib.itoa v = Lib.decDigits v.toNat := by unfold Lib.itoa; rw [if_neg h]
    obtain ⟨x, hx⟩ : ∃ x : Int, x = -v := ⟨_, rfl⟩
    have HI := Lib.hid (fun W => digits_any v.toNat (-v) W (by omega) (by omega))
    have HD := Lib.hid hd
    have h2 : decide (v < 0) = false := by simpa using h
    clear hd hx
    go_enter Tryz.func72, Tryz.ntmps72
    go_wp2_with fail
    ((with_reducible refine (HI.out _).mono ?_); rintro e w1 ⟨rfl, hb1⟩)
    go_wp2_with fail
    go_ret
    refine ⟨?_, hb1⟩
    rw [HD.out]
    rfl

set_option maxHeartbeats 400000 in
theorem refText_any (p q : Int) (hp : -9223372036854775808 ≤ p ∧ p ≤ 9223372036854775807) (hq : -9223372036854775808 ≤ q ∧ q ≤ 9223372036854775807) (w : World) :
    Calls Tryz.prog 37 #[.agg #[.int .i64 p, .int .i64 q]] w fun e w' => e = .returned (.string ⟨(textOf p q).toArray⟩) ∧ Below w.heap.size w w' := by
  have lp := Lib.itoa_length_le p hp.1 hp.2
  have lq := Lib.itoa_length_le q hq.1 hq.2
  have hF : ∀ (n : Int) (h0 : -9223372036854775808 ≤ n) (h1 : n ≤ 9223372036854775807) (o : Obj) d os, Calls Tryz.prog 72 #[.int .i64 n] (grow (redrawn (w.alloc o) d) os) fun e w'' => e = .returned (.string ⟨(Lib.itoa n).toArray⟩) ∧ ∃ r : Regrown, w'' = grow (redrawn (w.alloc o) r.d) r.os :=
    fun n h0 h1 o d os => Calls.regrown_of (refNumber_any n h0 h1 _)
  have HF := Lib.hid hF
  clear hF
  obtain ⟨hp0, hp1⟩ := hp
  obtain ⟨hq0, hq1⟩ := hq
  obtain ⟨c0, c1, _, _, _, hb⟩ := pair_after (w := w) (x := .int .i64 p) (y := .int .i64 q) (t := 32) (Below.refl _ _)
  have k0 := fun d os => cell_regrown c0 d os
  have k1 := fun d os => cell_regrown c1 d os
  clear c0 c1
  have HB := Lib.hid hb
  clear hb
  have n1 : ¬ 9223372036854775807 < (Lib.itoa p).length + 1 := by omega
  have n2 : ¬ 9223372036854775807 < (Lib.itoa p).length + 1 + (Lib.itoa q).length := by omega
  go_enter Tryz.func37, Tryz.ntmps37
  go_wp2_with fail
  refine wp_region_quiet_below (by kernel_rfl) (by kernel_rfl) ?_
  repeat (go_big_quiet_step ((with_reducible exact HF.out _ (by assumption) (by assumption) _ _ _)))
  refine wpQuiet_nil ?_
  intro _ hw'
  obtain ⟨⟨dq, osq⟩, hw''⟩ := hw'
  subst hw''
  go_wp2
  go_ret
  refine ⟨?_, HB.out.trans ((below_regrown _ dq osq).mono HB.out.size)⟩
  rw [show (⟨#[58]⟩ : ByteArray) = ⟨[58].toArray⟩ from rfl, append_bytes, append_bytes]
  simp [textOf]

end Go.Proofs.YtaeainnkhjnlaaaGreatDoor
namespace Go.Proofs.YtaeainnkhjnlaaaGreatDoor
open Go.Sort Go.RowKit

theorem refLessE (x y : Int × Int) (w : World) : Calls Tryz.prog 26 #[el x, el y] w fun e w' => e = .returned (.bool (ltE x y)) ∧ Below w.heap.size w w' := refLess_below x.1 x.2 y.1 y.2 w
end Go.Proofs.YtaeainnkhjnlaaaGreatDoor
