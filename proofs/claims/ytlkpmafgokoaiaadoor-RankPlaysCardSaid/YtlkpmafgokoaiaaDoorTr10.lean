/-
  Contract of rank.Right: is a tree well formed; nothing that was there has changed. Condition: fewer than 2 to the 30th things.
-/
import Derived.Test.YtlkpmafgokoaiaaDoorTr4
import Derived.Deep.LoopGhost
namespace Go.Proofs.YtlkpmafgokoaiaaDoor
open Go.Sort Go.RowKit

theorem lessE_any (x y : Int × Int) (w : World) : Calls Tryd.prog 49 #[el x, el y] w fun e w' => e = .returned (.bool (ltE x y)) ∧ Below w.heap.size w w' := less_below x.1 x.2 y.1 y.2 w

set_option maxRecDepth 100000 in
set_option maxHeartbeats 2000000 in
/-- Is the root one that y stands ahead of? -/
theorem behind_any (b : Nat) (x1 x2 y1 y2 : Int) (bp kp : Option Addr) (r o : Int) (w : World) (h : w.heap[b]? = some (treeObj (x1, x2) bp r kp o)) :
    Calls Tryd.prog 54 #[.pointer (some ⟨b, 0, none⟩), el (y1, y2)] w fun e w' => e = .returned (.bool (ltE (y1, y2) (x1, x2))) ∧ Below w.heap.size w w' := by
  have hb0 : Below w.heap.size w (w.alloc (.cells #[.int .i64 y1, .int .i64 y2] 28)) := (Below.refl _ _).alloc (Nat.le_refl _) _
  have s6 := six ((hb0.block b (lt_of_heap h)).trans h)
  obtain ⟨d0, d1, -⟩ := PairAt.new w y1 y2 28
  have k0 := fun d os => cell_regrown s6.c0 d os
  have k1 := fun d os => cell_regrown s6.c1 d os
  have j0 := fun d os => cell_regrown d0 d os
  have j1 := fun d os => cell_regrown d1 d os
  have H1 := Lib.hid (fun (x : Int × Int) (W0 : World) d os => in_class (w := W0) (fun W _ => key_any x W) d os)
  have H2 := Lib.hid (fun (x y : Int × Int) (W0 : World) d os => in_class (w := W0) (fun W _ => lessE_any x y W) d os)
  have HB := Lib.hid hb0
  clear hb0 s6 d0 d1 h
  go_enter Tryd.func54, Tryd.ntmps54
  go_wp2_with fail
  generalize hw1 : w.alloc (.cells #[.int .i64 y1, .int .i64 y2] 28) = w1 at *
  rw [world_self w1]
  generalize w1.drawn = d0
  generalize (#[] : Array Obj) = os0
  refine wp_region_class (by kernel_rfl) (by kernel_rfl) ?_
  repeat (go_big_quiet_step (first | (with_reducible exact H1.out (y1, y2) w1 _ _) | (with_reducible exact H1.out (x1, x2) w1 _ _) | (with_reducible exact H2.out (y1, y2) (x1, x2) w1 _ _)))
  refine wpQuiet_nil ?_
  intro _ hw'
  obtain ⟨⟨dq, osq⟩, hw''⟩ := hw'
  subst hw''
  go_wp2
  go_ret
  exact ⟨rfl, HB.out.trans ((below_regrown w1 _ _).mono HB.out.size)⟩

set_option maxRecDepth 100000 in
set_option maxHeartbeats 2000000 in
theorem besideRight_any (b : Nat) (x1 x2 : Int) (bs : List (Int × Int)) (bp kp : Option Addr) (r : Nat) (o : Int) (w : World) (h : w.heap[b]? = some (treeObj (x1, x2) bp r kp o)) (hB : BAt w bs bp) (hr : r < 1073741824) :
    Calls Tryd.prog 41 #[.pointer (some ⟨b, 0, none⟩)] w fun e w' => e = .returned (.bool (besideOk (x1, x2) bs r)) ∧ Below w.heap.size w w' := by
  have c2 := (six h).c2
  have c3 := (six h).c3
  have H := Lib.hid (And.intro h (And.intro hB hr))
  clear h hB hr
  go_enter Tryd.func41, Tryd.ntmps41
  go_wp2_with fail
  clear c2 c3
  go_loopg [3, 4] bs.length (fun k m c wr => ∃ (pre rest : List (Int × Int)) (q : Option Addr) (j : Nat), m = .int .i64 (j : Int) ∧ c = .pointer q ∧ bs = pre ++ rest ∧ k = rest.length ∧ pre.length + j = r ∧ pre.all (fun y => !ltE y (x1, x2)) = true ∧ BAt w rest q ∧ Below w.heap.size w wr)
  case atStart => exact ⟨[], bs, bp, r, rfl, rfl, rfl, rfl, by simp, rfl, H.out.2.1, Below.refl _ _⟩
  case round =>
    obtain ⟨pre, rest, q, j, rfl, rfl, hx, hk, hj, hp, hr, hbe⟩ := hrel
    cases rest with
    | nil =>
      obtain rfl := hr
      have A := Lib.hid (And.intro hx (And.intro hj (And.intro hp hbe)))
      clear hx hk hj hp hbe
      go_wp2_with fail
      go_ret
      obtain ⟨hx, hj, hp, hbe⟩ := A.out
      rw [List.append_nil] at hx
      refine ⟨?_, hbe⟩
      rw [show besideOk (x1, x2) bs r = true from by rw [hx]; simp only [besideOk, Bool.and_eq_true, decide_eq_true_eq]; exact ⟨by omega, hp⟩]
      rfl
    | cons y rest =>
      obtain ⟨bb, q', rfl, hh, hr'⟩ := hr
      have hh1 := (hbe.block bb (lt_of_heap hh)).trans hh
      obtain ⟨y1, y2⟩ := y
      have c0 : wr.cell? ⟨bb, 0, none⟩ = some (.int .i64 y1) := by simp [World.cell?, hh1]
      have c1 : wr.cell? ⟨bb, 1, none⟩ = some (.int .i64 y2) := by simp [World.cell?, hh1]
      by_cases h0 : j = 0
      · subst h0
        have A := Lib.hid (And.intro hx (And.intro hj (And.intro hp hbe)))
        clear hx hk hj hp hbe hh hh1 hr'
        go_wp2_with fail
        go_ret
        obtain ⟨hx, hj, hp, hbe⟩ := A.out
        refine ⟨?_, hbe⟩
        rw [show besideOk (x1, x2) bs r = false from by rw [hx]; simp [besideOk]; omega]
        rfl
      · have g0 : ((j : Int) == 0) = false := by simpa using h0
        have A := Lib.hid (And.intro hx (And.intro hk (And.intro hj (And.intro hp (And.intro hbe (And.intro hh (And.intro hr' h0)))))))
        have HC := Lib.hid (behind_any b x1 x2 y1 y2 bp kp r o wr ((hbe.block b (lt_of_heap H.out.1)).trans H.out.1))
        clear hx hk hj hp hbe hh hh1 hr' h0
        cases hv : ltE (y1, y2) (x1, x2) with
        | true =>
          rw [hv] at HC
          have HV := Lib.hid hv
          clear hv
          go_wp2_with (go_at_call 54; ((with_reducible refine HC.out.mono ?_); rintro e w3 ⟨rfl, hb3⟩; have B3 := Lib.hid hb3; clear hb3))
          go_ret
          obtain ⟨hx, hk, hj, hp, hbe, -, -, -⟩ := A.out
          refine ⟨?_, hbe.trans (B3.out.mono hbe.size)⟩
          rw [show besideOk (x1, x2) bs r = false from by rw [hx]; simp [besideOk, HV.out]]
          rfl
        | false =>
          rw [hv] at HC
          have HV := Lib.hid hv
          clear hv
          go_wp2_with fail
          ((with_reducible refine HC.out.mono ?_); rintro e w3 ⟨rfl, hb3⟩)
          have hbe3 := A.out.2.2.2.2.1.trans (hb3.mono A.out.2.2.2.2.1.size)
          have hh3 := (hbe3.block bb (lt_of_heap A.out.2.2.2.2.2.1)).trans A.out.2.2.2.2.2.1
          have c2 : w3.cell? ⟨bb, 2, none⟩ = some (.pointer q') := by simp [World.cell?, hh3]
          have B3 := Lib.hid hbe3
          have hj1 : 1 ≤ j ∧ j < 1073741824 := by have := A.out.2.2.1; have := H.out.2.2; have := A.out.2.2.2.2.2.2.2; omega
          clear hb3 hbe3 hh3 HC c0 c1
          go_wp2_with fail
          obtain ⟨hx, hk, hj, hp, hbe, -, hr', -⟩ := A.out
          go_roundg rest.length
          case measure => rw [hk]; simp
          case rel => exact ⟨pre ++ [(y1, y2)], rest, q', j - 1, by congr 1; omega, rfl, by rw [hx]; simp, rfl, by simp; omega, by simp only [List.all_append, hp, List.all_cons, List.all_nil, HV.out]; rfl, hr', B3.out⟩

/-- What Right tells. -/
def oright : Option Tre → Bool
  | none => true
  | some t => t.right

set_option maxRecDepth 100000 in
set_option maxHeartbeats 4000000 in
theorem kidsRight_step (n : Nat)
    (ih : ∀ (x : Int × Int) (bs : List (Int × Int)) (ks : Wood), 1 + bs.length + ks.size < n → ∀ (w : World) (b : Nat), NAt w b ⟨x, bs, ks⟩ → 1 + bs.length + ks.size < 1073741824 → Calls Tryd.prog 23 #[.pointer (some ⟨b, 0, none⟩)] w fun e w' => e = .returned (.bool (Tre.right ⟨x, bs, ks⟩)) ∧ Below w.heap.size w w')
    (x1 x2 : Int) (bs : List (Int × Int)) (ks : Wood) (hn : 1 + bs.length + ks.size = n) (hl : n < 1073741824) (w : World) (b : Nat) (ht : NAt w b ⟨(x1, x2), bs, ks⟩) :
    Calls Tryd.prog 42 #[.pointer (some ⟨b, 0, none⟩)] w fun e w' => e = .returned (.bool (ks.right (x1, x2) ks.len)) ∧ Below w.heap.size w w' := by
  obtain ⟨bp, kp, hh, hBs, hK⟩ := ht
  have c3 := (six hh).c3
  have c4 := (six hh).c4
  have hkl := ks.len_le
  have H := Lib.hid (And.intro hh (And.intro hBs (And.intro hK (And.intro hn (And.intro hl hkl)))))
  have HI := Lib.hid ih
  clear hh hBs hK hn hl hkl ih
  go_enter Tryd.func42, Tryd.ntmps42
  go_wp2_with fail
  clear c3 c4
  go_loopg [3, 4] ks.len (fun k m c wr => ∃ (rest : Wood) (q : Option Addr), m = .int .i64 (rest.len : Int) ∧ c = .pointer q ∧ k = rest.len ∧ rest.len ≤ ks.len ∧ rest.size ≤ ks.size ∧ rest.right (x1, x2) rest.len = ks.right (x1, x2) ks.len ∧ WAt w rest q ∧ Below w.heap.size w wr)
  case atStart => exact ⟨ks, kp, rfl, rfl, rfl, Nat.le_refl _, Nat.le_refl _, rfl, H.out.2.2.1, Below.refl _ _⟩
  case round =>
    obtain ⟨rest, q, rfl, rfl, hk, hle, hsz, hR, hr, hbe⟩ := hrel
    cases rest with
    | nil =>
      obtain rfl := hr
      have A := Lib.hid (And.intro hR hbe)
      clear hk hle hsz hR hbe
      simp only [Wood.len, Int.natCast_zero] at *
      go_wp2_with fail
      go_ret
      obtain ⟨hR, hbe⟩ := A.out
      refine ⟨?_, hbe⟩
      rw [← hR]
      rfl
    | cons y cs cks rest =>
      obtain ⟨c, bk, q', bp', kp', rfl, hc, hbk, h1, h2, h3⟩ := hr
      obtain ⟨y1, y2⟩ := y
      have hc1 := (hbe.block c (lt_of_heap hc)).trans hc
      have hbk1 := (hbe.block bk (lt_of_heap hbk)).trans hbk
      have c0 : wr.cell? ⟨c, 0, none⟩ = some (.pointer (some ⟨bk, 0, none⟩)) := by simp [World.cell?, hc1]
      have d0 := (six hbk1).c0
      have d1 := (six hbk1).c1
      have d3 := (six hbk1).c3
      have hlen : 1 + cs.length + cks.size < n ∧ rest.size ≤ ks.size ∧ rest.len + 1 ≤ ks.len ∧ ks.len < 1073741824 := by
        have g2 := H.out.2.2.2
        simp only [Wood.size] at hsz
        simp only [Wood.len] at hle
        omega
      have hU : ks.right (x1, x2) ks.len = ((decide (cks.len = rest.len) && !ltE (y1, y2) (x1, x2)) && Tre.right ⟨(y1, y2), cs, cks⟩ && rest.right (x1, x2) rest.len) := by
        have e1 : ((rest.len + 1 : Nat) : Int) - 1 = rest.len := by omega
        have e2 : ((cks.len : Int) == (rest.len : Int)) = decide (cks.len = rest.len) := by rw [Bool.eq_iff_iff]; simp; omega
        rw [← hR]
        simp only [Wood.right, Wood.len, Tre.right, besideOk]
        rw [e1, e2]
      have HC := Lib.hid (fun W (hb : Below wr.heap.size wr W) => HI.out (y1, y2) cs cks hlen.1 W bk (NAt.stay (NAt.stay ⟨bp', kp', hbk, h1, h2⟩ hbe) hb) (by have := H.out.2.2.2.2.1; omega))
      have HD := Lib.hid (behind_any b x1 x2 y1 y2 bp kp ks.len (bs.length + ks.size : Nat) wr ((hbe.block b (lt_of_heap H.out.1)).trans H.out.1))
      have A := Lib.hid (And.intro hU (And.intro hbe (And.intro hc (And.intro h3 (And.intro hk hlen)))))
      clear hU hk hle hsz hR hbe hc hbk h1 h2 h3 hc1 hbk1
      obtain ⟨j, hj⟩ : ∃ j, j = rest.len := ⟨_, rfl⟩
      have hj1 : j + 1 < 1073741824 := by have := hlen.2.2.1; have := hlen.2.2.2; omega
      rw [show (((Wood.cons (y1, y2) cs cks rest).len : Nat) : Int) = (j : Int) + 1 by rw [hj]; rfl]
      have HJ := Lib.hid hj
      clear hj hlen
      by_cases hg : cks.len = j
      · have g0 : ((cks.len : Int) != (j : Int)) = false := by simp; omega
        have HG := Lib.hid hg
        clear hg
        cases hv : ltE (y1, y2) (x1, x2) with
        | true =>
          rw [hv] at HD
          have HV := Lib.hid hv
          clear hv
          go_wp2_with fail
          ((with_reducible refine HD.out.mono ?_); rintro e w3 ⟨rfl, hb3⟩)
          have B3 := Lib.hid (A.out.2.1.trans (hb3.mono A.out.2.1.size))
          clear hb3 HD c0 d0 d1 d3
          go_wp2_with fail
          go_ret
          refine ⟨?_, B3.out⟩
          rw [A.out.1, HV.out]
          simp
        | false =>
          rw [hv] at HD
          have HV := Lib.hid hv
          clear hv
          cases hv2 : Tre.right ⟨(y1, y2), cs, cks⟩ with
          | false =>
            rw [hv2] at HC
            have HV2 := Lib.hid hv2
            clear hv2
            go_wp2_with fail
            ((with_reducible refine HD.out.mono ?_); rintro e w3 ⟨rfl, hb3⟩)
            go_wp2_with fail
            ((with_reducible refine (HC.out _ hb3).mono ?_); rintro e w4 ⟨rfl, hb4⟩)
            have B3 := Lib.hid ((A.out.2.1.trans (hb3.mono A.out.2.1.size)).trans (hb4.mono (Nat.le_trans A.out.2.1.size hb3.size)))
            clear hb3 hb4 HD HC c0 d0 d1 d3
            go_wp2_with fail
            go_ret
            refine ⟨?_, B3.out⟩
            rw [A.out.1, HV2.out]
            simp
          | true =>
            rw [hv2] at HC
            have HV2 := Lib.hid hv2
            clear hv2
            go_wp2_with fail
            ((with_reducible refine HD.out.mono ?_); rintro e w3 ⟨rfl, hb3⟩)
            go_wp2_with fail
            ((with_reducible refine (HC.out _ hb3).mono ?_); rintro e w4 ⟨rfl, hb4⟩)
            have hb5 := ((A.out.2.1.trans (hb3.mono A.out.2.1.size)).trans (hb4.mono (Nat.le_trans A.out.2.1.size hb3.size)))
            have hc5 := (hb5.block c (lt_of_heap A.out.2.2.1)).trans A.out.2.2.1
            have c1 : w4.cell? ⟨c, 1, none⟩ = some (.pointer q') := by simp [World.cell?, hc5]
            have B3 := Lib.hid hb5
            clear hb3 hb4 hb5 hc5 HD HC c0 d0 d1 d3
            go_wp2_with fail
            obtain ⟨hU, -, -, h3, hk, hlen⟩ := A.out
            have hj := HJ.out
            go_roundg rest.len
            case measure => rw [hk]; simp [Wood.len]
            case rel => exact ⟨rest, q', by rw [hj], rfl, rfl, by omega, hlen.2.1, by rw [hU, HV.out, HV2.out, ← hj, HG.out]; simp, h3, B3.out⟩
      · have g0 : ((cks.len : Int) != (j : Int)) = true := by simp; omega
        have HG := Lib.hid hg
        clear hg
        go_wp2_with fail
        go_ret
        refine ⟨?_, A.out.2.1⟩
        rw [A.out.1, ← HJ.out, show decide (cks.len = j) = false from decide_eq_false HG.out]
        simp

set_option maxHeartbeats 1000000 in
theorem right_step (n : Nat)
    (ih : ∀ (x : Int × Int) (bs : List (Int × Int)) (ks : Wood), 1 + bs.length + ks.size < n → ∀ (w : World) (b : Nat), NAt w b ⟨x, bs, ks⟩ → 1 + bs.length + ks.size < 1073741824 → Calls Tryd.prog 23 #[.pointer (some ⟨b, 0, none⟩)] w fun e w' => e = .returned (.bool (Tre.right ⟨x, bs, ks⟩)) ∧ Below w.heap.size w w')
    (x1 x2 : Int) (bs : List (Int × Int)) (ks : Wood) (hn : 1 + bs.length + ks.size = n) (hl : n < 1073741824) (w : World) (b : Nat) (ht : NAt w b ⟨(x1, x2), bs, ks⟩) :
    Calls Tryd.prog 23 #[.pointer (some ⟨b, 0, none⟩)] w fun e w' => e = .returned (.bool (Tre.right ⟨(x1, x2), bs, ks⟩)) ∧ Below w.heap.size w w' := by
  have hkl := ks.len_le
  have H1 := Lib.hid (show Calls _ _ _ w _ from by obtain ⟨bp, kp, hh, hBs, -⟩ := ht; exact besideRight_any b x1 x2 bs bp kp ks.len _ w hh hBs (by omega))
  have H2 := Lib.hid (fun W (hb : Below w.heap.size w W) => kidsRight_step n ih x1 x2 bs ks hn hl W b (ht.stay hb))
  have hR : Tre.right ⟨(x1, x2), bs, ks⟩ = (besideOk (x1, x2) bs ks.len && ks.right (x1, x2) ks.len) := rfl
  rw [hR]
  clear ht ih hR
  cases hb : besideOk (x1, x2) bs ks.len with
  | false =>
    rw [hb] at H1
    clear hb H2
    go_enter Tryd.func23, Tryd.ntmps23
    go_wp2_with fail
    ((with_reducible refine H1.out.mono ?_); rintro e w1 ⟨rfl, hb1⟩)
    go_wp2_with fail
    go_ret
    exact ⟨rfl, hb1⟩
  | true =>
    rw [hb] at H1
    clear hb
    generalize ks.right (x1, x2) ks.len = v at *
    go_enter Tryd.func23, Tryd.ntmps23
    go_wp2_with fail
    ((with_reducible refine H1.out.mono ?_); rintro e w1 ⟨rfl, hb1⟩)
    go_wp2_with fail
    ((with_reducible refine (H2.out _ hb1).mono ?_); rintro e w2 ⟨rfl, hb2⟩)
    have B := Lib.hid (hb1.trans (hb2.mono hb1.size))
    clear hb1 hb2 H1 H2
    go_wp2_with fail
    go_ret
    exact ⟨by simp, B.out⟩

theorem right_all (n : Nat) : ∀ (x : Int × Int) (bs : List (Int × Int)) (ks : Wood), 1 + bs.length + ks.size = n → ∀ (w : World) (b : Nat), NAt w b ⟨x, bs, ks⟩ → 1 + bs.length + ks.size < 1073741824 → Calls Tryd.prog 23 #[.pointer (some ⟨b, 0, none⟩)] w fun e w' => e = .returned (.bool (Tre.right ⟨x, bs, ks⟩)) ∧ Below w.heap.size w w' := by
  induction n using Nat.strongRecOn with
  | ind n ih =>
    intro x bs ks hn w b ht hl
    exact right_step n (fun x' bs' ks' hlt => ih _ hlt x' bs' ks' rfl) x.1 x.2 bs ks hn (by omega) w b ht

set_option maxHeartbeats 1000000 in
theorem right_any (p : Option Addr) (t : Option Tre) (w : World) (h : TAt w p t) (h1 : osize t < 1073741824) : Calls Tryd.prog 23 #[.pointer p] w fun e w' => e = .returned (.bool (oright t)) ∧ Below w.heap.size w w' := by
  cases t with
  | none =>
    obtain rfl := h
    go_enter Tryd.func23, Tryd.ntmps23
    go_wp2_with fail
    go_ret
    exact ⟨rfl, Below.refl _ _⟩
  | some t =>
    obtain ⟨b, rfl, ht⟩ := h
    obtain ⟨x, bs, ks⟩ := t
    exact right_all _ x bs ks rfl w b ht h1

end Go.Proofs.YtlkpmafgokoaiaaDoor
