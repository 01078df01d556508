/-
  The walk of the statement LateTells: for every row and every list of numbers it returns true, and nothing that was there has changed, in any world.
-/
import Derived.Test.YtimffepggbaaaaaLone
import Derived.Test.YtimffepggbaaaaaRefFront
import Derived.Test.YtimffepggbaaaaaRow1
import Derived.LoopTactic
namespace Go.Proofs.Ytimffepggbaaaaa
open Go.Sort Go.RowKit

/-- A number's cell. -/
def num (z : Int) : Value := .int .i64 z

/-- Every element's cell o (0 or 1) at block g holds a number, and may be written. -/
def Cells (w : World) (g o n : Nat) : Prop := ∀ j, j < n → (∃ z, w.cell? ⟨g, j * 2 + o, none⟩ = some (.int .i64 z)) ∧ w.frozen? ⟨g, j * 2 + o, none⟩ = false

theorem Cells.set {w : World} {g o n : Nat} (h : Cells w g o n) (i : Nat) (hi : i < n) (z : Int) : Cells (w.setCell ⟨g, i * 2 + o, none⟩ (.int .i64 z)) g o n := fun j hj => by
  obtain ⟨⟨y, hy⟩, hz⟩ := h j hj
  refine ⟨?_, by rw [World.frozen?_setCell]; exact hz⟩
  by_cases e : j = i
  · subst e; exact ⟨z, World.cell?_setCell_same _ _ _ hy⟩
  · exact ⟨y, (World.cell?_setCell_other _ _ _ _ (fun e' => e (by injection e' with _ e2 _; omega))).trans hy⟩

theorem Own.cells0 {w : World} {base g n c : Nat} {xs : List (Int × Int)} (h : Own w base (.slice (some ⟨g, 0, Option.none⟩) n c) xs) (hn : n = xs.length) (o : Nat) (ho : o < 2) : Cells w g o n := fun j hj => by
  subst hn
  have e := cellsE_at xs j hj
  have h0 := h.cells (g := g) rfl
  have hz : w.frozen? ⟨g, j * 2 + o, Option.none⟩ = false := World.ownsRow.frozenAt h _
  refine ⟨?_, hz⟩
  have e1 : (cellsE xs)[j * 2 + 0]? = some (.int .i64 xs[j].1) := e.1
  obtain rfl | rfl : o = 0 ∨ o = 1 := by omega
  · have := h0 _ _ e1; rw [add_plain, Nat.zero_add] at this; exact ⟨_, this⟩
  · have := h0 _ _ e.2; rw [add_plain, Nat.zero_add] at this; exact ⟨_, this⟩

set_option maxHeartbeats 1000000 in
theorem tells_long (A B : Option Addr) (n c m d : Nat) (w : World) (h : 60 < n ∨ 20 < m) : Calls Try.prog 3 #[.slice A n c, .slice B m d] w fun e w' => e = .returned (.bool true) ∧ Below w.heap.size w w' := by
  by_cases h1 : 60 < n
  · have g1 : decide ((60 : Int) < (n : Int)) = true := by simp; omega
    clear h h1
    go_enter Try.func3, Try.ntmps3
    go_wp2_with fail
    ((with_reducible refine (awake_any _).mono ?_); rintro e w1 ⟨rfl, hb1⟩)
    go_wp2_with fail
    go_ret
    exact ⟨rfl, hb1⟩
  · have g1 : decide ((60 : Int) < (n : Int)) = false := by simp; omega
    have g2 : decide ((20 : Int) < (m : Int)) = true := by simp; omega
    clear h h1
    go_enter Try.func3, Try.ntmps3
    go_wp2_with fail
    ((with_reducible refine (awake_any _).mono ?_); rintro e w1 ⟨rfl, hb1⟩)
    go_wp2_with fail
    go_ret
    exact ⟨rfl, hb1⟩

/-- What holds at the head of the first loop: the row that was handed in is being changed; the Late isn't. -/
def Rel1 (A Ab : Option Addr) (b cb n : Nat) (l : List (Int × Int)) (w : World) (i : Value) (wr : World) : Prop :=
  ∃ k : Nat, k ≤ n ∧ i = .int .i64 k ∧ LateAt wr b Ab cb l 0 ∧ Below w.heap.size w wr ∧ ∀ g, A = some ⟨g, 0, none⟩ → Cells wr g 0 n

/-- What holds at the head of the second loop. -/
def Rel2 (b m : Nat) (l : List (Int × Int)) (w : World) (i : Value) (wr : World) : Prop :=
  ∃ k : Nat, k ≤ m ∧ i = .int .i64 k ∧ (∃ A c d, LateAt wr b A c l d ∧ (d = 0 ∨ d = 1)) ∧ Below w.heap.size w wr
/-- What holds at the head of the third loop: what was told is being changed; the Late isn't. -/
def Rel3 (b g q cb : Nat) (Ab : Option Addr) (l : List (Int × Int)) (w : World) (i : Value) (wr : World) : Prop :=
  ∃ j : Nat, j ≤ q ∧ i = .int .i64 j ∧ LateAt wr b Ab cb l 1 ∧ Below w.heap.size w wr ∧ Cells wr g 1 q

/-- What Clone's and append's row is, at its address: none if it is empty. -/
theorem Own.here {w : World} {base : Nat} {v : Value} {xs : List (Int × Int)} (h : Own w base v xs) :
    ∃ A c, v = .slice A xs.length c ∧ Row w A xs ∧ xs.length ≤ c ∧ c ≤ 9223372036854775807 ∧ (A = Option.none → c = 0) ∧ (0 < xs.length → ∃ g, A = some ⟨g, 0, Option.none⟩) ∧
      ∀ g, A = some ⟨g, 0, Option.none⟩ → base ≤ g ∧ g < w.heap.size ∧ Cells w g 0 xs.length := by
  have h0 := h
  rcases h.2 with ⟨rfl, hn⟩ | ⟨g, cap, cur, rfl, hb, hg, hc, hm, _⟩
  · obtain rfl : xs = [] := List.eq_nil_of_length_eq_zero hn
    exact ⟨Option.none, 0, rfl, Row.nil _ _, Nat.le_refl _, by omega, fun _ => rfl, (fun h => by simp at h), fun g e => by cases e⟩
  · refine ⟨_, cap, rfl, h0.rowAt, hc, by unfold maxLen at hm; omega, (fun e => by cases e), fun _ => ⟨g, rfl⟩, fun g' e => ?_⟩
    cases e
    exact ⟨hb, (Array.getElem?_eq_some_iff.1 hg).1, h0.cells0 rfl 0 (by omega)⟩

set_option maxHeartbeats 2000000 in
set_option maxRecDepth 100000 in
theorem tells_short (A B : Option Addr) (l : List (Int × Int)) (zs : List Int) (n c m d : Nat) (w : World) (hn : n = l.length) (h60 : n ≤ 60) (hr : Row w A l) (hc : n ≤ c) (hA : A = none → c = 0) (hm : m = zs.length) (h20 : m ≤ 20) (hz : Row1 num w B zs) :
    Calls Try.prog 3 #[.slice A n c, .slice B m d] w fun e w' => e = .returned (.bool true) ∧ Below w.heap.size w w' := by
  have g1 : decide ((60 : Int) < (n : Int)) = false := by simp; omega
  have g2 : decide ((20 : Int) < (m : Int)) = false := by simp; omega
  have OF := Lib.hid (fun A c W (h : Row W A l) hc hA => of_any A l n c W hn (by omega) h hc hA)
  have AL := Lib.hid (fun q (hq : q = n) b A c d w h hd => all_any b q A c l d w h hd (hq.trans hn) (by omega))
  have FR := Lib.hid (fun z q (hq : (min (max z 0) (n : Int)).toNat = q) b A c d w h hd => front_at b n A c l d z q w h hd hn (by omega) hq)
  have SO := Lib.hid (fun q (hq : q = n) W (h : Row W A l) => show Calls Try.prog 10 #[.slice A n c] W (RefFront q (srt l) W) from by subst hq; exact refSort_n A l q c W hn (by omega) h)
  have RF := Lib.hid (fun z q (hq : (min (max z 0) (n : Int)).toNat = q) W (h : Row W A l) => refFront_any A l n c z q W hn (by omega) h hq)
  have HN := Lib.hid hn
  have HM := Lib.hid hm
  have HR := Lib.hid hr
  have HZ := Lib.hid hz
  have HA0 := Lib.hid hA
  clear hn hr hc hA hm hz
  go_enter Try.func3, Try.ntmps3
  go_wp2_with fail
  ((with_reducible refine (awake_any _).mono ?_); rintro e w1 ⟨rfl, hb1⟩)
  obtain ⟨v1, w2, run1, own1, gr1⟩ := append_row w1 w1.heap.size (.slice none 0 0) [] l A c (Own.none _ _) (HR.out.below hb1) HA0.out (by have := HN.out; simp; omega) (Nat.le_refl _)
  rw [List.nil_append] at own1
  have hb2 := below_grown (Below.refl w1.heap.size w1) gr1 (Nat.le_refl _) (fun g hg => by simp [Value.ownBlock] at hg)
  obtain ⟨A2, c2, hv1, row2, hc2, hm2, hA2, hs2, hg2⟩ := own1.here
  subst hv1
  rw [← HN.out] at run1 hc2 hs2 hg2
  have RUN1 := Lib.hid run1
  have H2 := Lib.hid (And.intro row2 (And.intro hA2 (And.intro hs2 hg2)))
  have HW2 := Lib.hid (hb1.trans (hb2.mono hb1.size))
  have HW1 := Lib.hid hb1.size
  clear run1 row2 hA2 hs2 hg2 hb1 hb2 own1 gr1
  go_wp2_with (at_builtin; refine wpList_append_run rfl _ _ _ rfl _ _ _ _ rfl rfl RUN1.out ?_)
  ((with_reducible refine (OF.out A2 c2 _ H2.out.1 hc2 H2.out.2.1).mono ?_); rintro e w3 ⟨b, Ab, cb, rfl, h3, hb3, hlt3, hA3⟩)
  have HB := Lib.hid (show w.heap.size ≤ b from Nat.le_trans HW2.out.size hlt3)
  have G3 := Lib.hid (show ∀ g, A2 = some ⟨g, 0, none⟩ → b ≠ g ∧ w.heap.size ≤ g ∧ (∀ a, Ab = some a → a.block ≠ g) ∧ Cells w3 g 0 n from fun g e => by
    obtain ⟨q1, q2, q3⟩ := H2.out.2.2.2 g e
    refine ⟨by omega, by have := HW1.out; omega, fun a ea => by have := hA3 a ea; omega, fun j hj => ?_⟩
    obtain ⟨⟨z, hz⟩, hf⟩ := q3 j hj
    exact ⟨⟨z, (hb3.cell (p := ⟨g, j * 2 + 0, none⟩) q2).trans hz⟩, (hb3.frozen (p := ⟨g, j * 2 + 0, none⟩) q2).trans hf⟩)
  have H3 := Lib.hid (And.intro h3 (HW2.out.trans (hb3.mono HW2.out.size)))
  have S3 := Lib.hid H2.out.2.2.1
  clear h3 hb3 hlt3 hA3 H2 HW2 HW1 RUN1
  go_wp2_with fail
  go_loopw [8] (fun i wr => Rel1 A2 Ab b cb n l w i wr) (fun i _ => n - (intOf i).toNat)
  case atStart => exact ⟨0, Nat.zero_le _, rfl, H3.out.1, H3.out.2, fun g e => (G3.out g e).2.2.2⟩
  case round =>
    obtain ⟨k, hkn, rfl, hla, hbw, hce⟩ := hrel
    by_cases hlt : k < n
    · obtain ⟨g, rfl⟩ := S3.out (by omega)
      obtain ⟨⟨z, hz⟩, hf⟩ := hce g rfl k hlt
      rw [Nat.add_zero] at hz hf
      have HX := Lib.hid (And.intro hla (And.intro hbw (hce g rfl)))
      clear hla hbw hce
      go_wp2_with fail
      go_roundw
      case rel => exact ⟨k + 1, by omega, by go_num, HX.out.1.but (But.set g (k * 2) _ _) (G3.out g rfl).1 (G3.out g rfl).2.2.1, (But.set g (k * 2) _ _).below HX.out.2.1 (G3.out g rfl).2.1 HX.out.2.1.size, fun g' e => by cases e; exact HX.out.2.2.set k hlt _⟩
      case measure => simp [intOf]; omega
    · have H4 := Lib.hid (And.intro hla hbw)
      clear hla hbw hce hkn H3 G3 S3
      go_wp2_with fail
      ((with_reducible refine (done_at b 0 _ H4.out.1.blk.c4).mono ?_); rintro e w5 ⟨rfl, rfl⟩)
      go_wp2_with fail
      go_loopw [9] (fun i wr => Rel2 b m l w i wr) (fun i _ => m - (intOf i).toNat)
      case atStart => exact ⟨0, Nat.zero_le _, rfl, ⟨Ab, cb, 0, H4.out.1, Or.inl rfl⟩, H4.out.2⟩
      case round =>
        obtain ⟨k, hkm, rfl, ⟨A5, c5, d5, hla, hd5⟩, hbw⟩ := hrel
        by_cases hlt : k < m
        · obtain ⟨bz, oz, rfl, hcz⟩ := HZ.out (by have := HM.out; omega)
          have ez0 := hcz k (by have := HM.out; omega)
          have HBZ := Lib.hid (show bz ≠ b from fun e => by have h1 := block_lt_of_cell ez0; have := HB.out; subst e; exact absurd h1 (Nat.not_lt.2 this))
          have ez := (hbw.cell (p := ⟨bz, oz + k, none⟩) (block_lt_of_cell ez0)).trans ez0
          unfold num at ez
          clear ez0
          generalize zs[k]'(by have := HM.out; omega) = z at *
          have H5 := Lib.hid (And.intro hla (And.intro hd5 hbw))
          clear hla hd5 hbw hcz
          by_cases h7 : z = 7
          · subst h7
            obtain ⟨q, hq⟩ : ∃ q, q = n := ⟨_, rfl⟩
            have hqn : q ≤ n := Nat.le_of_eq hq
            have CA := Lib.hid (AL.out q hq b A5 c5 d5 wr H5.out.1 H5.out.2.1)
            have CB := Lib.hid (SO.out q hq)
            have HQ := Lib.hid (show q = (srt l).length from by rw [srt_length]; exact hq.trans HN.out)
            clear hq
            generalize srt l = xs at *
            go_wp2_with fail
            ((with_reducible refine CA.out.mono ?_); rintro e w6 ⟨g, c6, A6, cc6, B6, t6⟩)
            obtain rfl := t6.ret
            have hbw6 := But.below t6.but H5.out.2.2 HB.out H5.out.2.2.size
            have T6 := Lib.hid (And.intro t6.late t6.own)
            have HG := Lib.hid (show b ≠ g ∧ w.heap.size ≤ g ∧ ∀ a, A6 = some a → a.block ≠ g from ⟨by have := t6.blk; have := t6.new; omega, by have := t6.old; have := t6.new; have := H5.out.2.2.size; omega, fun a e => by have := t6.row a e; have := t6.new; omega⟩)
            have HW6 := Lib.hid hbw6
            have hq6 := t6.le
            have hm6 := t6.max
            clear t6 hbw6 CA H5 ez
            go_wp2_with fail
            ((with_reducible refine (CB.out _ (HR.out.below HW6.out)).mono ?_); rintro e w7 ⟨A7, c7, rfl, hr7, hb7⟩)
            have T7 := Lib.hid (And.intro (T6.out.1.stay hb7) (T6.out.2.below hb7))
            have R7 := Lib.hid hr7
            have HW7 := Lib.hid (HW6.out.trans (hb7.mono HW6.out.size))
            clear hr7 hb7 T6 HW6 CB
            go_wp2_with fail
            ((with_reducible refine (same_self _ _ xs q _ _ _ HQ.out (by omega) T7.out.2.rowAt R7.out).mono ?_); rintro e w8 ⟨rfl, hb8⟩)
            have T8 := Lib.hid (And.intro (T7.out.1.stay hb8) (T7.out.2.below hb8))
            have HW8 := Lib.hid (HW7.out.trans (hb8.mono HW7.out.size))
            clear hb8 T7 R7 HW7
            go_wp2_with fail
            ((with_reducible refine (done_at b 1 _ T8.out.1.blk.c4).mono ?_); rintro e w9 ⟨rfl, rfl⟩)
            go_wp2_with fail
            go_loopw [12] (fun i wr => Rel3 b g q cc6 A6 l w i wr) (fun i _ => q - (intOf i).toNat)
            case atStart => exact ⟨0, Nat.zero_le _, rfl, T8.out.1, HW8.out, T8.out.2.cells0 HQ.out 1 (by omega)⟩
            case round =>
              obtain ⟨j, hjq, rfl, hla, hbw, hce⟩ := hrel
              by_cases hlt2 : j < q
              · obtain ⟨⟨y, hy⟩, hf⟩ := hce j hlt2
                have HX := Lib.hid (And.intro hla (And.intro hbw hce))
                clear hla hbw hce
                go_wp2_with fail
                go_roundw
                case rel => exact ⟨j + 1, by omega, by go_num, HX.out.1.but (But.set g (j * 2 + 1) _ _) HG.out.1 HG.out.2.2, (But.set g (j * 2 + 1) _ _).below HX.out.2.1 HG.out.2.1 HX.out.2.1.size, HX.out.2.2.set j hlt2 _⟩
                case measure => simp [intOf]; omega
              · have H9 := Lib.hid (And.intro hla hbw)
                clear hla hbw hce hjq T8 HW8
                go_wp2_with fail
                go_roundw
                case rel => exact ⟨k + 1, by omega, by go_num, ⟨A6, cc6, 1, H9.out.1, Or.inr rfl⟩, H9.out.2⟩
                case measure => simp [intOf]; omega
          · obtain ⟨q, hq⟩ : ∃ q, (min (max z 0) (n : Int)).toNat = q := ⟨_, rfl⟩
            have hqn : q ≤ n := by omega
            have CA := Lib.hid (FR.out z q hq b A5 c5 d5 wr H5.out.1 H5.out.2.1)
            have CB := Lib.hid (RF.out z q hq)
            have HQ := Lib.hid (show q = ((srt l).take q).length from by rw [List.length_take, srt_length]; have := HN.out; omega)
            clear hq
            generalize (srt l).take q = xs at *
            go_wp2_with fail
            ((with_reducible refine CA.out.mono ?_); rintro e w6 ⟨g, c6, A6, cc6, B6, t6⟩)
            obtain rfl := t6.ret
            have hbw6 := But.below t6.but H5.out.2.2 HB.out H5.out.2.2.size
            have T6 := Lib.hid (And.intro t6.late t6.own)
            have HG := Lib.hid (show b ≠ g ∧ w.heap.size ≤ g ∧ ∀ a, A6 = some a → a.block ≠ g from ⟨by have := t6.blk; have := t6.new; omega, by have := t6.old; have := t6.new; have := H5.out.2.2.size; omega, fun a e => by have := t6.row a e; have := t6.new; omega⟩)
            have HW6 := Lib.hid hbw6
            have hq6 := t6.le
            have hm6 := t6.max
            have ez6 := t6.but.cell (p := ⟨bz, oz + k, none⟩) (block_lt_of_cell ez) HBZ.out
            rw [ez] at ez6
            clear t6 hbw6 CA H5 ez
            go_wp2_with fail
            ((with_reducible refine (CB.out _ (HR.out.below HW6.out)).mono ?_); rintro e w7 ⟨A7, c7, rfl, hr7, hb7⟩)
            have T7 := Lib.hid (And.intro (T6.out.1.stay hb7) (T6.out.2.below hb7))
            have R7 := Lib.hid hr7
            have HW7 := Lib.hid (HW6.out.trans (hb7.mono HW6.out.size))
            clear hr7 hb7 T6 HW6 CB
            go_wp2_with fail
            ((with_reducible refine (same_self _ _ xs q _ _ _ HQ.out (by omega) T7.out.2.rowAt R7.out).mono ?_); rintro e w8 ⟨rfl, hb8⟩)
            have T8 := Lib.hid (And.intro (T7.out.1.stay hb8) (T7.out.2.below hb8))
            have HW8 := Lib.hid (HW7.out.trans (hb8.mono HW7.out.size))
            clear hb8 T7 R7 HW7
            go_wp2_with fail
            ((with_reducible refine (done_at b 1 _ T8.out.1.blk.c4).mono ?_); rintro e w9 ⟨rfl, rfl⟩)
            go_wp2_with fail
            go_loopw [12] (fun i wr => Rel3 b g q cc6 A6 l w i wr) (fun i _ => q - (intOf i).toNat)
            case atStart => exact ⟨0, Nat.zero_le _, rfl, T8.out.1, HW8.out, T8.out.2.cells0 HQ.out 1 (by omega)⟩
            case round =>
              obtain ⟨j, hjq, rfl, hla, hbw, hce⟩ := hrel
              by_cases hlt2 : j < q
              · obtain ⟨⟨y, hy⟩, hf⟩ := hce j hlt2
                have HX := Lib.hid (And.intro hla (And.intro hbw hce))
                clear hla hbw hce
                go_wp2_with fail
                go_roundw
                case rel => exact ⟨j + 1, by omega, by go_num, HX.out.1.but (But.set g (j * 2 + 1) _ _) HG.out.1 HG.out.2.2, (But.set g (j * 2 + 1) _ _).below HX.out.2.1 HG.out.2.1 HX.out.2.1.size, HX.out.2.2.set j hlt2 _⟩
                case measure => simp [intOf]; omega
              · have H9 := Lib.hid (And.intro hla hbw)
                clear hla hbw hce hjq T8 HW8
                go_wp2_with fail
                go_roundw
                case rel => exact ⟨k + 1, by omega, by go_num, ⟨A6, cc6, 1, H9.out.1, Or.inr rfl⟩, H9.out.2⟩
                case measure => simp [intOf]; omega
        · have H5 := Lib.hid hbw
          clear hbw hla hd5
          go_wp2_with fail
          ((with_reducible refine (all_nil _).mono ?_); rintro e w6 ⟨rfl, rfl⟩)
          go_wp2_with fail
          ((with_reducible refine (front_nil3 _).mono ?_); rintro e w7 ⟨rfl, rfl⟩)
          go_wp2_with fail
          ((with_reducible refine (done_nil _).mono ?_); rintro e w8 ⟨rfl, rfl⟩)
          go_wp2
          go_ret
          exact ⟨rfl, H5.out⟩

theorem tells_any (A B : Option Addr) (l : List (Int × Int)) (zs : List Int) (n c m d : Nat) (w : World) (hn : n = l.length) (hr : Row w A l) (hc : n ≤ c) (hA : A = none → c = 0) (hm : m = zs.length) (hz : Row1 num w B zs) :
    Calls Try.prog 3 #[.slice A n c, .slice B m d] w fun e w' => e = .returned (.bool true) ∧ Below w.heap.size w w' := by
  by_cases h : 60 < n ∨ 20 < m
  · exact tells_long A B n c m d w h
  · exact tells_short A B l zs n c m d w hn (by omega) hr hc hA hm (by omega) hz

end Go.Proofs.Ytimffepggbaaaaa
