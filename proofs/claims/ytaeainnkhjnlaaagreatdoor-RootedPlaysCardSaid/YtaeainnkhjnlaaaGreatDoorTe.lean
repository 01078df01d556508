/-
  Contract of the reference's All (slagheapref05): all things of a tree, or none. Condition: trees of fewer than 2 to the 28th things.
  Contract of the reference's Show (slagheapref05): a tree's text, or none's. Conditions: 64-bit numbers; trees of fewer than 2 to the 28th things.
-/
import Derived.Test.YtaeainnkhjnlaaaGreatDoorTd
import Derived.Deep.LoopGhost
import Derived.Test.YtaeainnkhjnlaaaGreatDoorTc
namespace Go.Proofs.YtaeainnkhjnlaaaGreatDoor
open Go.Sort Go.RowKit

/-- A kid: its six cells, its value, and what is behind it. -/
theorem kid_at {F : Nat → Prop} {W : World} {Ak : Option Addr} {kc : List Value} {y : Int × Int} {cs : List (Int × Int)} {cks rest : Wood} {i : Nat} (hC : CAt F W Ak kc) (h : KL F W (.cons y cs cks rest) (kc.drop (i * 6))) :
    ∃ (kb ko : Nat) (Ab' Ak' : Option Addr) (cb' ck' : Nat), Ak = some ⟨kb, ko, none⟩ ∧
      (W.cell? ⟨kb, ko + i * 6, none⟩ = some (.int .i64 cks.len) ∧ W.cell? ⟨kb, ko + i * 6 + 1, none⟩ = some (.int .i64 y.1) ∧ W.cell? ⟨kb, ko + i * 6 + 2, none⟩ = some (.int .i64 y.2) ∧ W.cell? ⟨kb, ko + i * 6 + 3, none⟩ = some (.slice Ab' cs.length cb') ∧ W.cell? ⟨kb, ko + i * 6 + 4, none⟩ = some (.slice Ak' cks.len ck') ∧ W.cell? ⟨kb, ko + i * 6 + 5, none⟩ = some (.int .i64 ((Tre.mk y cs cks).size : Nat))) ∧
      RT F W (tV cks.len y (.slice Ab' cs.length cb') (.slice Ak' cks.len ck') ((Tre.mk y cs cks).size : Nat)) (some ⟨y, cs, cks⟩) ∧ KL F W rest (kc.drop ((i + 1) * 6)) := by
  obtain ⟨Ab', Ak', cb', ck', kc', cs', e, h1, h2, h3⟩ := h
  have hs : (cs.length + cks.size + 1 : Nat) = (Tre.mk y cs cks).size := by simp only [Tre.size]; omega
  rw [hs] at e
  have hlen : 0 < kc.length := by
    rcases Nat.eq_zero_or_pos kc.length with h0 | h0
    · rw [List.eq_nil_of_length_eq_zero h0] at e; simp at e
    · exact h0
  obtain ⟨kb, ko, rfl, -, hc⟩ := hC hlen
  have cell : ∀ (j : Nat) (v : Value), (kc.drop (i * 6))[j]? = some v → W.cell? ⟨kb, ko + i * 6 + j, none⟩ = some v := fun j v hj => by
    rw [List.getElem?_drop] at hj
    rw [Nat.add_assoc]
    exact hc _ _ hj
  rw [e] at cell
  have hd : kc.drop ((i + 1) * 6) = cs' := by
    have h6 := congrArg (List.drop 6) e
    rw [List.drop_drop] at h6
    rw [show (i + 1) * 6 = i * 6 + 6 by omega, h6]
    rfl
  exact ⟨kb, ko, Ab', Ak', cb', ck', rfl, ⟨cell 0 _ rfl, cell 1 _ rfl, cell 2 _ rfl, cell 3 _ rfl, cell 4 _ rfl, cell 5 _ rfl⟩, ⟨Ab', Ak', cb', ck', kc', rfl, h1, h2⟩, by rw [hd]; exact h3⟩

end Go.Proofs.YtaeainnkhjnlaaaGreatDoor
namespace Go.Proofs.YtaeainnkhjnlaaaGreatDoor
open Go.Sort Go.RowKit

theorem refTextE (x : Int × Int) (h : in64 x.1 ∧ in64 x.2) (w : World) : Calls Tryz.prog 37 #[el x] w fun e w' => e = .returned (.string ⟨(textOf x.1 x.2).toArray⟩) ∧ Below w.heap.size w w' := refText_any x.1 x.2 h.1 h.2 w
theorem besideText_take {bs : List (Int × Int)} {i : Nat} (h : i < bs.length) : besideText (bs.take (i + 1)) = besideText (bs.take i) ++ 32 :: 43 :: textOf bs[i].1 bs[i].2 := by
  have e : bs.take (i + 1) = bs.take i ++ [bs[i]] := by simp
  rw [e]
  simp only [besideText, List.flatMap_append, List.flatMap_cons, List.flatMap_nil, List.append_nil]
theorem Tre.show_length (t : Tre) (h : fits t.all) : t.show.length + 1 ≤ 46 * t.size := by
  have hw := Wood.show_length (.cons t.x t.bs t.ks .nil) (by simpa [Wood.all, Tre.all] using h)
  simp only [Wood.show, Wood.size, List.append_nil, List.length_cons] at hw
  simp only [Tre.show, Tre.size, List.length_cons]
  omega
theorem besideText_le {bs : List (Int × Int)} (hf : fits bs) (i : Nat) : (besideText (bs.take i)).length ≤ 46 * bs.length := by
  have h1 := besideText_length (bs.take i) (fun e he => hf e (List.mem_of_mem_take he))
  have h2 : (bs.take i).length ≤ bs.length := by rw [List.length_take]; omega
  omega

set_option maxRecDepth 100000 in
set_option maxHeartbeats 4000000 in
theorem refShow_step (F : Nat → Prop) (n : Nat) (ih : ∀ (t : Tre), t.size < n → ∀ (V : Value) (w : World), RT F w V (some t) → fits t.all → Calls Tryz.prog 97 #[V] w fun e w' => e = .returned (.string ⟨t.show.toArray⟩) ∧ Below w.heap.size w w')
    (x1 x2 : Int) (bs : List (Int × Int)) (ks : Wood) (hn : (Tre.mk (x1, x2) bs ks).size = n) (hl : n < 268435456) (V : Value) (w : World) (h : RT F w V (some ⟨(x1, x2), bs, ks⟩)) (hf : fits (Tre.mk (x1, x2) bs ks).all) :
    Calls Tryz.prog 97 #[V] w fun e w' => e = .returned (.string ⟨(Tre.show ⟨(x1, x2), bs, ks⟩).toArray⟩) ∧ Below w.heap.size w w' := by
  obtain ⟨Ab, Ak, cb, ck, kc, rfl, hB, hK, hC, hk0⟩ := h
  have h0 := (Tre.mk (x1, x2) bs ks).size_ne
  have hkl := ks.len_le
  unfold tV
  rw [hn] at h0 ⊢
  simp only []
  have hb0 := (Below.refl w.heap.size w).alloc (Nat.le_refl _) (.cells #[.int .i64 ks.len, .int .i64 x1, .int .i64 x2, .slice Ab bs.length cb, .slice Ak ks.len ck, .int .i64 (n : Nat)] 104)
  have hX := hex_at (new_at (W := w) (o := .cells #[.int .i64 ks.len, .int .i64 x1, .int .i64 x2, .slice Ab bs.length cb, .slice Ak ks.len ck, .int .i64 (n : Nat)] 104) rfl)
  have hbn : bs.length + ks.size + 1 = n := by simp only [Tre.size] at hn; omega
  obtain ⟨⟨hx1, hx2⟩, hf2⟩ := (show fits ((x1, x2) :: (bs ++ ks.all)) from hf).cons
  obtain ⟨hfb, hfk⟩ := hf2.append
  have hxl := textOf_length x1 x2 hx1 hx2
  have H := Lib.hid (And.intro (hB.1.row.below hb0) (And.intro (hK.far (Far.below hb0)) (And.intro (hC.far (Far.below hb0)) (And.intro hb0 (And.intro hX (And.intro hbn (And.intro hl hkl)))))))
  have HF := Lib.hid (And.intro (show in64 x1 ∧ in64 x2 from ⟨hx1, hx2⟩) (And.intro hfb (And.intro hfk hxl)))
  have HI := Lib.hid ih
  have n1 : ¬ 9223372036854775807 < 1 + (textOf x1 x2).length := by omega
  clear hB hK hC hk0 hb0 hX hn hl hkl ih hbn hx1 hx2 hf hf2 hfb hfk hxl
  go_enter Tryz.func97, Tryz.ntmps97
  go_wp2_with fail
  have hsz : (w.alloc (.cells #[.int .i64 ks.len, .int .i64 x1, .int .i64 x2, .slice Ab bs.length cb, .slice Ak ks.len ck, .int .i64 (n : Nat)] 104)).heap.size = w.heap.size + 1 := by simp
  have HS := Lib.hid hsz
  clear hsz h0
  generalize w.alloc (.cells #[.int .i64 ks.len, .int .i64 x1, .int .i64 x2, .slice Ab bs.length cb, .slice Ak ks.len ck, .int .i64 (n : Nat)] 104) = w1 at *
  ((with_reducible refine (refTextE (x1, x2) HF.out.1 _).mono ?_); rintro e w2 ⟨rfl, hb2⟩)
  have B2 := Lib.hid hb2
  clear hb2
  go_wp2_with fail
  clear n1
  have hL : (40 :: textOf x1 x2).length ≤ 44 := by have := HF.out.2.2.2; simp only [List.length_cons]; omega
  rw [show (⟨#[40]⟩ : ByteArray) ++ ⟨(textOf x1 x2).toArray⟩ = ⟨(40 :: textOf x1 x2).toArray⟩ from one_bytes _ _]
  have HZ := Lib.hid (show (40 :: textOf x1 x2) ++ (besideText bs ++ (ks.show ++ [41])) = Tre.show ⟨(x1, x2), bs, ks⟩ by simp [Tre.show])
  have HL := Lib.hid hL
  clear hL
  generalize 40 :: textOf x1 x2 = l0 at *
  go_loopg [3, 4] bs.length (fun m u a wr => ∃ (i : Nat), a = .int .i64 (i : Int) ∧ i + m = bs.length ∧ u = .string ⟨(l0 ++ besideText (bs.take i)).toArray⟩ ∧ Below w1.heap.size w1 wr)
  case atStart => exact ⟨0, rfl, by omega, by simp [besideText], B2.out⟩
  case round =>
    clear B2
    obtain ⟨i, rfl, hi, rfl, hbe⟩ := hrel
    have HW := Lib.hid hbe
    have d3 := (hbe.cell (p := ⟨w.heap.size, 3, none⟩) (by rw [HS.out]; exact Nat.lt_succ_self _)).trans H.out.2.2.2.2.1.c3
    have hll := besideText_le HF.out.2.1 i
    by_cases hlt : i < bs.length
    · have g1 : decide ((i : Int) < (bs.length : Int)) = true := by simp; omega
      have g2 : (0 : Int) ≤ (i : Int) := by omega
      have g3 : (i : Int) < (bs.length : Int) := by omega
      have g4 : i < bs.length := hlt
      have g5 : decide (i < bs.length) = true := by simp; omega
      have hbl : bs.length < 268435456 := by have := H.out; omega
      have w1' : IntKind.i64.wrap ((i : Int) + 1) = (i : Int) + 1 := by rw [IntKind.wrap_i64]; omega
      obtain ⟨b, o, rfl, hc⟩ := H.out.1 (by omega)
      have hra := row_at hc i hlt
      have c0 := (hbe.cell (p := ⟨b, o + i * 2, none⟩) (block_lt_of_cell hra.1)).trans hra.1
      have c1 := (hbe.cell (p := ⟨b, o + i * 2 + 1, none⟩) (block_lt_of_cell hra.2)).trans hra.2
      have hfe : in64 bs[i].1 ∧ in64 bs[i].2 := HF.out.2.1 _ (List.getElem_mem hlt)
      have hT := besideText_take hlt
      generalize bs[i] = y at *
      obtain ⟨y1, y2⟩ := y
      have hyl := textOf_length y1 y2 hfe.1 hfe.2
      have HT := Lib.hid hT
      have hlc : (l0 ++ besideText (bs.take i)).length ≤ 12348030980 := by have := HL.out; simp only [List.length_append]; omega
      have HTA := Lib.hid (show l0 ++ besideText (bs.take (i + 1)) = (l0 ++ besideText (bs.take i)) ++ 32 :: 43 :: textOf y1 y2 by rw [hT]; simp)
      generalize l0 ++ besideText (bs.take i) = lc at *
      have n2 : ¬ 9223372036854775807 < 2 + (textOf y1 y2).length := by omega
      have n3 : ¬ 9223372036854775807 < lc.length + (2 + (textOf y1 y2).length) := by omega
      have A := Lib.hid (And.intro hi hfe)
      clear hra hi hfe hT hyl hlc hbl hll hlt hc hbe
      go_wp2_with fail
      ((with_reducible refine (refTextE (y1, y2) A.out.2 _).mono ?_); rintro e w3 ⟨rfl, hb3⟩)
      have B3 := Lib.hid (HW.out.trans (hb3.mono HW.out.size))
      clear hb3 c0 c1 d3
      go_wp2_with fail
      go_roundg (bs.length - (i + 1))
      case measure => have := A.out.1; omega
      case rel => exact ⟨i + 1, by congr 1, by have := A.out.1; omega, by rw [two_bytes, append_bytes, HTA.out], B3.out⟩
    · obtain rfl : i = bs.length := by omega
      have g1 : decide ((bs.length : Int) < (bs.length : Int)) = false := by simp
      rw [List.take_length] at *
      clear hi hlt hbe
      go_wp2_with fail
      have HL2 := Lib.hid (show (l0 ++ besideText bs).length ≤ 44 + 46 * bs.length by have := HL.out; rw [List.length_append]; have := besideText_length bs HF.out.2.1; omega)
      have HZ2 := Lib.hid (show (l0 ++ besideText bs) ++ (ks.show ++ [41]) = Tre.show ⟨(x1, x2), bs, ks⟩ by rw [← HZ.out]; simp)
      clear g1 d3 hll
      generalize l0 ++ besideText bs = l1 at *
      go_loopg [3, 5] ks.len (fun m u a wr => ∃ (i : Nat) (l : List UInt8) (rest : Wood), a = .int .i64 (i : Int) ∧ i + rest.len = ks.len ∧ m = rest.len ∧ rest.size ≤ ks.size ∧ u = .string ⟨(l1 ++ l).toArray⟩ ∧ l ++ rest.show = ks.show ∧ fits rest.all ∧ KL F w1 rest (kc.drop (i * 6)) ∧ Below w1.heap.size w1 wr)
      case atStart => exact ⟨0, [], ks, rfl, by omega, rfl, Nat.le_refl _, by simp, rfl, HF.out.2.2.1, H.out.2.1, HW.out⟩
      case round =>
        clear HW
        obtain ⟨i, l, rest, rfl, hi, hm, hsz, rfl, hx, hfr, hk, hbe⟩ := hrel
        have d4 := (hbe.cell (p := ⟨w.heap.size, 4, none⟩) (by rw [HS.out]; exact Nat.lt_succ_self _)).trans H.out.2.2.2.2.1.c4
        have hlc : (l1 ++ l).length ≤ 12348030980 := by
          have h1 := congrArg List.length hx
          have h2 := ks.show_length HF.out.2.2.1
          have h3 := HL2.out
          have h4 := H.out.2.2.2.2.2
          simp only [List.length_append] at h1 ⊢
          omega
        cases rest with
        | nil =>
          simp only [Wood.len, Nat.add_zero] at hi
          have g1 : decide ((i : Int) < (ks.len : Int)) = false := by simp; omega
          have g4 : ¬ i < ks.len := by omega
          have g5 : decide (i < ks.len) = false := by simp; omega
          have HX := Lib.hid (show (l1 ++ l) ++ [41] = Tre.show ⟨(x1, x2), bs, ks⟩ by rw [← HZ2.out, ← hx]; simp [Wood.show])
          generalize l1 ++ l = lc at *
          have n3 : ¬ 9223372036854775807 < lc.length + 1 := by omega
          have A := Lib.hid hbe
          clear hx hbe hk hi hm hsz hfr hlc
          go_wp2_with fail
          go_ret
          exact ⟨show Ending.returned (.string ((⟨lc.toArray⟩ : ByteArray) ++ ⟨#[41]⟩)) = _ by rw [← HX.out, ← append_bytes], H.out.2.2.2.1.trans (A.out.mono (by rw [HS.out]; exact Nat.le_succ _))⟩
        | cons y cs cks rest =>
          obtain ⟨y1, y2⟩ := y
          obtain ⟨kb, ko, Ab', Ak', cb', ck', rfl, ⟨e0, e1, e2, e3, e4, e5⟩, hR, hk'⟩ := kid_at H.out.2.2.1 hk
          have up : ∀ b o v, w1.cell? ⟨b, o, none⟩ = some v → wr.cell? ⟨b, o, none⟩ = some v := fun b o v h => (hbe.cell (p := ⟨b, o, none⟩) (block_lt_of_cell h)).trans h
          have f0 := up _ _ _ e0
          have f1 := up _ _ _ e1
          have f2 := up _ _ _ e2
          have f3 := up _ _ _ e3
          have f4 := up _ _ _ e4
          have f5 := up _ _ _ e5
          have HR := Lib.hid (hR.far (Far.below hbe))
          simp only [Wood.len] at hi
          have hlt : i < ks.len := by omega
          have hks : ks.len < 268435456 := by have := H.out; omega
          have g1 : decide ((i : Int) < (ks.len : Int)) = true := by simp; omega
          have g2 : (0 : Int) ≤ (i : Int) := by omega
          have g3 : (i : Int) < (ks.len : Int) := by omega
          have g4 : i < ks.len := hlt
          have g5 : decide (i < ks.len) = true := by simp; omega
          have w1' : IntKind.i64.wrap ((i : Int) + 1) = (i : Int) + 1 := by rw [IntKind.wrap_i64]; omega
          have hft : fits (Tre.mk (y1, y2) cs cks).all ∧ fits rest.all := hfr.append
          have hlen : (Tre.mk (y1, y2) cs cks).size < n ∧ rest.size ≤ ks.size := by
            have h2 := H.out.2.2.2.2.2
            simp only [Wood.size, Tre.size] at hsz ⊢
            omega
          have hsl := Tre.show_length _ hft.1
          have hx' : (l ++ 32 :: (Tre.mk (y1, y2) cs cks).show) ++ rest.show = ks.show := by rw [← hx]; simp [Wood.show, Tre.show]
          have HC := Lib.hid (HI.out ⟨(y1, y2), cs, cks⟩ hlen.1)
          have hzl : (Tre.mk (y1, y2) cs cks).size < 268435456 := by have := H.out; omega
          generalize (Tre.mk (y1, y2) cs cks).show = ts at *
          generalize (Tre.mk (y1, y2) cs cks).size = z at *
          have HTA := Lib.hid (show l1 ++ (l ++ 32 :: ts) = (l1 ++ l) ++ 32 :: ts by simp)
          generalize l1 ++ l = lc at *
          have n2 : ¬ 9223372036854775807 < 1 + ts.length := by omega
          have n3 : ¬ 9223372036854775807 < lc.length + (1 + ts.length) := by omega
          have A := Lib.hid (And.intro hi (And.intro hm (And.intro hx' (And.intro hk' (And.intro hft (And.intro hbe hlen))))))
          clear up hi hm hsz hx hx' hk hk' hbe hlen e0 e1 e2 e3 e4 e5 hR hlt hks hlc hft hfr hsl hzl
          go_wp2_with fail
          ((with_reducible refine (HC.out _ _ (by have := HR.out; simp only [tV] at this; exact this) A.out.2.2.2.2.1.1).mono ?_); rintro e w3 ⟨rfl, hb3⟩)
          have B3 := Lib.hid (A.out.2.2.2.2.2.1.trans (hb3.mono A.out.2.2.2.2.2.1.size))
          clear HC HR f0 f1 f2 f3 f4 f5 d4 hb3
          go_wp2_with fail
          obtain ⟨hi, hm, hx', hk', hft, hbe, hlen⟩ := A.out
          go_roundg rest.len
          case measure => rw [hm]; simp [Wood.len]
          case rel => exact ⟨i + 1, l ++ 32 :: ts, rest, by congr 1, by omega, rfl, hlen.2, by rw [one_bytes, append_bytes, HTA.out], hx', hft.2, hk', B3.out⟩

/-- A tree's text, or none's. -/
theorem refShow_some (F : Nat → Prop) (n : Nat) : ∀ (t : Tre), t.size = n → n < 268435456 → ∀ (V : Value) (w : World), RT F w V (some t) → fits t.all → Calls Tryz.prog 97 #[V] w fun e w' => e = .returned (.string ⟨t.show.toArray⟩) ∧ Below w.heap.size w w' := by
  induction n using Nat.strongRecOn with
  | ind n ih =>
    intro t hn hl V w h hf
    obtain ⟨⟨x1, x2⟩, bs, ks⟩ := t
    exact refShow_step F n (fun t' hlt V' w' h' hf' => ih _ hlt t' rfl (by omega) V' w' h' hf') x1 x2 bs ks hn hl V w h hf
set_option maxRecDepth 100000 in
theorem refShow_any (F : Nat → Prop) (t : Option Tre) (hl : osize t < 268435456) (V : Value) (w : World) (h : RT F w V t) (hf : fits (oall t)) : Calls Tryz.prog 97 #[V] w fun e w' => e = .returned (.string ⟨(oshow t).toArray⟩) ∧ Below w.heap.size w w' := by
  cases t with
  | some t => exact refShow_some F _ t rfl hl V w h hf
  | none =>
    obtain rfl := h
    unfold tV
    go_enter Tryz.func97, Tryz.ntmps97
    go_wp2_with fail
    go_ret
    exact ⟨rfl, (Below.refl _ _).alloc (Nat.le_refl _) _⟩

end Go.Proofs.YtaeainnkhjnlaaaGreatDoor
