/-
  Contracts of boot.counter and of the closure that it makes: asked of an element and of how many there are in its heap, how many heaps end with it; it writes its own two variables and its own row alone. Conditions: fewer than 2 to the 29th of each.
-/
import Derived.Test.YtlmokendajgbdaaGreatDoorWb3
import Derived.Test.YtlmokendajgbdaaGreatDoorRange3
import Derived.Test.YtlmokendajgbdaaGreatDoorMb
import Derived.Test.YtlmokendajgbdaaGreatDoorMa
import Derived.RangeFuncBox
import Derived.Deep.LoopGhost
namespace Go.Proofs.YtlmokendajgbdaaGreatDoor.Bo
open Go.Sort Go.RowKit Go.Proofs.YtlmokendajgbdaaGreatDoor.Gn

def encN (x : Nat) : Value := .int .i64 (x : Int)
/-- The types of what the closure writes. -/
def IntT (t : TypeId) : Prop := t = 3 ∨ t = 138
/-- The closure's variables: how many elements were told; a slice of its own with the counts. -/
structure Cn (W : World) (base bt be : Nat) (t : Nat) (E : List Nat) : Prop where
  tt : Boxed W bt 3 (.int .i64 (t : Int))
  ee : ∃ v, Boxed W be 138 v ∧ Mine encN 3 W base v E
  te : bt < be
  eb : be < base
theorem bstay {W W' : World} {B : Nat} {t : TypeId} {v : Value} (h : Boxed W B t v) (hb : Below W.heap.size W W') : Boxed W' B t v := (hb.block _ (lt_of_heap h)).trans h
theorem infoN : (Tryz.prog.info? 3).map (fun i => (i.zero, i.size, i.bytes)) = some (some (.int .i64 0), 1, 8) := by kernel_rfl
theorem append_int (w : World) (base : Nat) (v : Value) (xs : List Nat) (x : Nat) (z : Int) (hz : z = (x : Int)) (hown : Mine encN 3 w base v xs) (hlen : xs.length < 1073741824) (hb : base ≤ w.heap.size) :
    ∃ v' w', (Builtin.append_ #[138, 138] 138 #[v, .slice (some ⟨w.heap.size, 0, none⟩) 1 1]).run Tryz.prog (w.alloc (.cells #[.int .i64 z] 3)) = .ok v' w' ∧ Mine encN 3 w' base v' (xs ++ [x]) ∧ (w.alloc (.cells #[.int .i64 z] 3)).grownBy w' v.ownBlock := by
  subst hz
  obtain ⟨i0, hi, hz0, hz1, hz2⟩ := info_parts infoN
  have hown' : (w.alloc (.cells #[.int .i64 (x : Int)] 3)).ownsRow base 3 1 v xs.length (xs.map encN) := World.ownsRow.alloc hown _
  obtain ⟨v', w', h1, h2, h3, _⟩ := run_append_own_at (P := Tryz.prog) (w.alloc (.cells #[.int .i64 (x : Int)] 3)) base 138 138 3 i0 _ 1 8 Tryz.underlying138 hi hz0 hz1 hz2 rfl (by omega) v xs.length (xs.map encN) hown' ⟨w.heap.size, 0, none⟩ 1 1 [.int .i64 (x : Int)] rfl
    (fun j u hu => by
      rw [add_flat]
      have e1 : (w.alloc (.cells #[.int .i64 (x : Int)] 3)).heap[w.heap.size]? = some (.cells #[.int .i64 (x : Int)] 3 (0, 0)) := new_at rfl
      unfold World.cell?
      rw [e1]
      simpa using hu) (by intro u hu; simp at hu; subst hu; rfl) (by unfold maxLen; omega) (by omega) (by simp; omega)
  refine ⟨v', w', h1, ?_, h3⟩
  unfold Mine
  rw [List.length_append, List.map_append]
  exact h2

/-- A slice of the call's own cut to its first k things. -/
theorem mine_take {W : World} {base g cap n : Nat} {xs : List Nat} (h : Mine encN 3 W base (.slice (some ⟨g, 0, none⟩) n cap) xs) {k : Nat} (hk : k ≤ xs.length) : Mine encN 3 W base (.slice (some ⟨g, 0, none⟩) k cap) (xs.take k) := by
  obtain ⟨h1, h2⟩ := h
  rcases h2 with ⟨e, -⟩ | ⟨g', cap', cur, e, hb, hg, hc, hm, hs, ht⟩
  · cases e
  · cases e
    refine ⟨by simp, .inr ⟨g, cap, cur, by rw [List.length_take, Nat.min_eq_left hk], hb, hg, by rw [List.length_take]; omega, hm, hs, ?_⟩⟩
    rw [List.length_take, Nat.min_eq_left hk, List.map_take, ← ht, List.take_take]
    congr 1
    omega

/-- The closure's function value. -/
abbrev endV (bt be : Nat) : Value := .func (.func 83) #[] #[.pointer (some ⟨be, 0, none⟩), .pointer (some ⟨bt, 0, none⟩)]

set_option maxRecDepth 100000 in
set_option maxHeartbeats 2000000 in
theorem counter_any (w : World) : Calls Tryz.prog 49 #[] w fun e w' => ∃ bt be, e = .returned (endV bt be) ∧ Cn w' w'.heap.size bt be 0 [] ∧ w.heap.size ≤ bt ∧ Below w.heap.size w w' := by
  have hmf : ∀ (fn : Fn) (first cap : Array Value) (w : World), (Instr.makeFunc fn first cap).run Tryz.prog w = .ok (.func fn first cap) w := fun _ _ _ _ => rfl
  have hb1 : Below w.heap.size w ((w.alloc (.cells #[.int .i64 0] 3)).alloc (.cells #[.slice none 0 0] 138)) := new2 w _ _
  have b1 : Boxed ((w.alloc (.cells #[.int .i64 0] 3)).alloc (.cells #[.slice none 0 0] 138)) w.heap.size 3 (.int .i64 ((0 : Nat) : Int)) := (Boxed.new w 3 (.int .i64 0)).alloc _
  have b2 : Boxed ((w.alloc (.cells #[.int .i64 0] 3)).alloc (.cells #[.slice none 0 0] 138)) (w.heap.size + 1) 138 (.slice none 0 0) := by
    have := Boxed.new (w.alloc (.cells #[.int .i64 0] 3)) 138 (.slice none 0 0)
    simpa only [World.size_alloc] using this
  have H := Lib.hid (And.intro b1 (And.intro b2 hb1))
  clear b1 b2 hb1
  go_enter Tryz.func49, Tryz.ntmps49
  go_wp2_with fail
  go_ret
  exact ⟨_, _, rfl, ⟨H.out.1, ⟨_, H.out.2.1, Mine.none _ _ _⟩, by omega, by simp⟩, Nat.le_refl _, H.out.2.2⟩

set_option maxRecDepth 100000 in
set_option maxHeartbeats 4000000 in
theorem ended_any (base bt be t s : Nat) (E : List Nat) (w : World) (h : Cn w base bt be t E) (hb : base ≤ w.heap.size) (hE : E.length < 536870912) (ht : t < 536870912) (hs : s < 536870912) :
    Calls Tryz.prog 83 #[.int .i64 (s : Int), .pointer (some ⟨be, 0, none⟩), .pointer (some ⟨bt, 0, none⟩)] w fun e w' =>
      e = .returned (.int .i64 (((E ++ [t + s]).length - (cut (t + 1) (E ++ [t + s])).length : Nat) : Int)) ∧ Cn w' base bt be (t + 1) (cut (t + 1) (E ++ [t + s])) ∧ Mv bt IntT w w' := by
  obtain ⟨tt, ⟨v, bV, hm⟩, te, eb⟩ := h
  obtain ⟨u, hu⟩ : ∃ u, u = t + s := ⟨_, rfl⟩
  obtain ⟨T, hT⟩ : ∃ T, T = t + 1 := ⟨_, rfl⟩
  obtain ⟨v', w1, hrun, hown, hgr⟩ := append_int w base v E u (u : Int) rfl hm (by omega) hb
  rw [← hu, ← hT]
  obtain ⟨N, hN⟩ : ∃ N, N = (E ++ [u]).length := ⟨_, rfl⟩
  have hNE : N = E.length + 1 := by rw [hN]; simp
  obtain ⟨g, cap, rfl⟩ := ownsRow_succ (k := E.length) (by simpa [Mine] using hown)
  rw [← hNE] at hrun hown
  have hgb : base ≤ g := Mine.block hown g rfl
  have hv1 : Boxed w1 be 138 v := (bV.alloc _).kept hgr (fun e => by have := Mine.block hm be e.symm; omega)
  have hv2 := hv1.set (.slice (some ⟨g, 0, none⟩) N cap)
  have hr2 : Mine encN 3 (w1.setCell ⟨be, 0, none⟩ (.slice (some ⟨g, 0, none⟩) N cap)) base (.slice (some ⟨g, 0, none⟩) N cap) (E ++ [u]) := World.ownsRow.kept hown (grownBy_setCell' w1 be _) (.inr fun e => by injection e with e; change g = be at e; omega)
  -- the counts' variable ahead of the row's
  have hnr : some bt ≠ v.ownBlock := fun e => by have := Mine.block hm bt e.symm; omega
  have t1 : Boxed w1 bt 3 (.int .i64 (t : Int)) := (tt.alloc _).kept hgr hnr
  have m1 : Mv bt IntT w w1 := (Mv.below ((Below.refl _ _).alloc (Nat.le_refl _) _)).trans (Mv.grown hgr fun k e => by
    refine ⟨by have := Mine.block hm k e; omega, ?_⟩
    rcases hm.2 with ⟨rfl, -⟩ | ⟨g', cap', cur, rfl, -, hg', -⟩
    · cases e
    · cases e
      exact ⟨cur, _, _, (alloc_old _ (lt_of_heap hg')).trans hg', .inl rfl⟩)
  have t2 : Boxed (w1.setCell ⟨be, 0, none⟩ (.slice (some ⟨g, 0, none⟩) N cap)) bt 3 (.int .i64 (t : Int)) := (Below.heap_setCell w1 ⟨be, 0, none⟩ _ bt (by show bt ≠ be; omega)).trans t1
  have m2 : Mv bt IntT w (w1.setCell ⟨be, 0, none⟩ (.slice (some ⟨g, 0, none⟩) N cap)) := m1.trans (Mv.grown (grownBy_setCell' _ _ _) fun k e => by cases e; exact ⟨by omega, _, _, _, hv1, .inr rfl⟩)
  have t3 : Boxed ((w1.setCell ⟨be, 0, none⟩ (.slice (some ⟨g, 0, none⟩) N cap)).setCell ⟨bt, 0, none⟩ (.int .i64 (T : Int))) bt 3 (.int .i64 (T : Int)) := t2.set _
  have m3 : Mv bt IntT w ((w1.setCell ⟨be, 0, none⟩ (.slice (some ⟨g, 0, none⟩) N cap)).setCell ⟨bt, 0, none⟩ (.int .i64 (T : Int))) := m2.trans (Mv.grown (grownBy_setCell' _ _ _) fun k e => by cases e; exact ⟨Nat.le_refl _, _, _, _, t2, .inl rfl⟩)
  have e3 : Boxed ((w1.setCell ⟨be, 0, none⟩ (.slice (some ⟨g, 0, none⟩) N cap)).setCell ⟨bt, 0, none⟩ (.int .i64 (T : Int))) be 138 (.slice (some ⟨g, 0, none⟩) N cap) := (Below.heap_setCell (w1.setCell ⟨be, 0, none⟩ (.slice (some ⟨g, 0, none⟩) N cap)) ⟨bt, 0, none⟩ _ be (by show be ≠ bt; omega)).trans hv2
  have r3 : Mine encN 3 ((w1.setCell ⟨be, 0, none⟩ (.slice (some ⟨g, 0, none⟩) N cap)).setCell ⟨bt, 0, none⟩ (.int .i64 (T : Int))) base (.slice (some ⟨g, 0, none⟩) N cap) (E ++ [u]) := World.ownsRow.kept hr2 (grownBy_setCell' (w1.setCell ⟨be, 0, none⟩ (.slice (some ⟨g, 0, none⟩) N cap)) bt _) (.inr fun e => by injection e with e; change g = bt at e; omega)
  -- what the walk reads
  have HN := Lib.hid (show N = (E ++ [u]).length ∧ N < 1073741824 ∧ T < 1073741824 ∧ 0 < N ∧ N ≤ cap from ⟨hN, by omega, by omega, by omega, by have := (Mine.form r3); obtain ⟨A, c, e, -, h5, -⟩ := this; cases e; omega⟩)
  have HH := Lib.hid (And.intro t3 (And.intro e3 (And.intro r3 (And.intro m3 (show bt < be ∧ be < base ∧ base ≤ g from ⟨te, eb, hgb⟩)))))
  have c0 := bV.cell
  have c1 := tt.cell
  have a1 := hv1.cell
  have z1 := hv1.frozen
  have b2 := t2.cell
  have y2 := t2.frozen
  have d3 := e3.cell
  have HR := Lib.hid hrun
  have ws : IntKind.i64.wrap ((t : Int) + (s : Int)) = (u : Int) := by rw [IntKind.wrap_i64]; omega
  have wt : IntKind.i64.wrap ((t : Int) + 1) = (T : Int) := by rw [IntKind.wrap_i64]; omega
  clear tt bV hm hown hgr hv1 hv2 hr2 t1 m1 t2 m2 t3 m3 e3 r3 hrun hE ht hs hN hNE hnr hu hT te eb hgb hb
  go_enter Tryz.func83, Tryz.ntmps83
  go_wp2_with (at_builtin; refine wpList_append_run rfl _ _ _ rfl _ _ _ _ rfl rfl HR.out ?_)
  generalize ((w1.setCell ⟨be, 0, none⟩ (.slice (some ⟨g, 0, none⟩) N cap))).setCell ⟨bt, 0, none⟩ (.int .i64 (T : Int)) = w3 at *
  clear c0 c1 a1 z1 b2 y2 d3 HR ws wt
  go_loopg [5] (N + 1) (fun k o wr => ∃ j : Nat, o = .int .i64 (j : Int) ∧ j + 1 = k ∧ j ≤ N ∧ cut T ((E ++ [u]).take j) = cut T (E ++ [u]) ∧ Below w3.heap.size w3 wr)
  case atStart => exact ⟨N, rfl, rfl, Nat.le_refl _, by rw [HN.out.1, List.take_length], Below.refl _ _⟩
  case round =>
    obtain ⟨j, rfl, hj, hjN, hcut, hbe⟩ := hrel
    have hbd := hbe.drew
    have c0 := (bstay HH.out.2.1 hbe).cell
    have c1 := (bstay HH.out.1 hbe).cell
    by_cases hz : j = 0
    · have hfin : (E ++ [u]).take j = cut T (E ++ [u]) := by rw [← hcut, hz]; rfl
      have g1 : decide ((0 : Int) < ((j : Nat) : Int)) = false := by simp; omega
      have g2 : ¬ (0 : Int) < ((j : Nat) : Int) := by omega
      have g3 : ¬ 0 < j := by omega
      clear hcut hj hz
      go_wp2_with fail
      go_region
      clear c0 c1 g1 g2 g3
      have X := Lib.hid (And.intro hfin (And.intro (bstay HH.out.1 hbd) (And.intro (bstay HH.out.2.1 hbd) (And.intro (Mine.stay HH.out.2.2.1 hbd) (HH.out.2.2.2.1.trans (Mv.below hbd))))))
      have b3 := X.out.2.2.1.cell
      have y3 := X.out.2.2.1.frozen
      have wsub : IntKind.i64.wrap ((N : Int) - ((j : Nat) : Int)) = ((N - j : Nat) : Int) := by have := HN.out; rw [IntKind.wrap_i64]; omega
      have q1 : ((j : Nat) : Int) ≤ (cap : Int) := by have := HN.out; omega
      have q2 : j ≤ cap := by have := HN.out; omega
      have q3 : (0 : Int) ≤ ((j : Nat) : Int) := by omega
      generalize wr.drew = w4 at *
      go_wp2_with fail
      go_ret
      obtain ⟨hfin, tt, ee, hm, mv⟩ := X.out
      refine ⟨by rw [← hfin, List.length_take, ← HN.out.1, Nat.min_eq_left hjN]; rfl, ⟨?_, ⟨.slice (some ⟨g, 0, none⟩) (j) cap, ?_, ?_⟩, HH.out.2.2.2.2.1, HH.out.2.2.2.2.2.1⟩, mv.trans (Mv.grown (grownBy_setCell' _ _ _) fun k e => by cases e; exact ⟨Nat.le_of_lt HH.out.2.2.2.2.1, _, _, _, ee, .inr rfl⟩)⟩
      · exact (Below.heap_setCell w4 ⟨be, 0, none⟩ _ bt (by have := HH.out.2.2.2.2.1; show bt ≠ be; omega)).trans tt
      · exact ee.set _
      · rw [← hfin]
        exact World.ownsRow.kept (mine_take hm (by rw [← HN.out.1]; exact hjN)) (grownBy_setCell' w4 be _) (.inr fun e => by injection e with e; change g = be at e; have := HH.out.2.2.2.2.2; omega)
    · obtain ⟨i, hi⟩ : ∃ i, j = i + 1 := ⟨j - 1, by omega⟩
      clear hz
      have hil : i < (E ++ [u]).length := by rw [← HN.out.1]; omega
      have hx : wr.cell? ⟨g, i, none⟩ = some (.int .i64 (((E ++ [u])[i] : Nat) : Int)) := by
        obtain ⟨A, c, e, hr, -⟩ := (Mine.stay HH.out.2.2.1 hbe).form
        cases e
        obtain ⟨b', o', e, hc⟩ := hr (by omega)
        cases e
        have := hc i hil
        rwa [Nat.zero_add] at this
      have htk : (E ++ [u]).take j = (E ++ [u]).take i ++ [(E ++ [u])[i]] := by rw [hi]; exact List.take_succ_eq_append_getElem hil
      rw [htk] at hcut
      generalize (E ++ [u])[i] = x at *
      have g1 : decide ((0 : Int) < (j : Int)) = true := decide_eq_true (by omega)
      have g2 : (0 : Int) < (j : Int) := by omega
      have g3 : 0 < j := by omega
      have w1' : IntKind.i64.wrap ((j : Int) - 1) = (i : Int) := by have := HN.out; rw [IntKind.wrap_i64]; omega
      have q4 : (0 : Int) ≤ (i : Int) := by omega
      have q5 : (i : Int) < (N : Int) := by omega
      have q6 : i < N := by omega
      have HC := Lib.hid (And.intro hcut (And.intro htk (And.intro hj hi)))
      clear hcut htk hj hi hil
      by_cases hxt : x = T
      · subst hxt
        have hc2 : cut x ((E ++ [u]).take i) = cut x (E ++ [u]) := by rw [← HC.out.1, cut_same]
        have HC2 := Lib.hid hc2
        clear hc2
        have g5 : ((x : Int) == (x : Int)) = true := by simp
        go_wp2_with fail
        go_region
        go_wp2_with fail
        go_roundg (i + 1)
        case measure => have := HC.out.2.2; omega
        case rel => exact ⟨i, rfl, rfl, by omega, HC2.out, hbd⟩
      · have g5 : ((x : Int) == (T : Int)) = false := by simp; omega
        have g6 : ¬ (x : Int) = (T : Int) := by omega
        have hfin : (E ++ [u]).take j = cut T (E ++ [u]) := by rw [← HC.out.1, cut_other hxt, HC.out.2.1]
        clear hxt
        go_wp2_with fail
        go_region
        clear c0 c1 hx g1 g2 g3 w1' q4 q5 q6 g5 g6 HC
        have X := Lib.hid (And.intro hfin (And.intro (bstay HH.out.1 hbd) (And.intro (bstay HH.out.2.1 hbd) (And.intro (Mine.stay HH.out.2.2.1 hbd) (HH.out.2.2.2.1.trans (Mv.below hbd))))))
        have b3 := X.out.2.2.1.cell
        have y3 := X.out.2.2.1.frozen
        have wsub : IntKind.i64.wrap ((N : Int) - ((j : Nat) : Int)) = ((N - j : Nat) : Int) := by have := HN.out; rw [IntKind.wrap_i64]; omega
        have q1 : ((j : Nat) : Int) ≤ (cap : Int) := by have := HN.out; omega
        have q2 : j ≤ cap := by have := HN.out; omega
        have q3 : (0 : Int) ≤ ((j : Nat) : Int) := by omega
        generalize wr.drew = w4 at *
        go_wp2_with fail
        go_ret
        obtain ⟨hfin, tt, ee, hm, mv⟩ := X.out
        refine ⟨by rw [← hfin, List.length_take, ← HN.out.1, Nat.min_eq_left hjN]; rfl, ⟨?_, ⟨.slice (some ⟨g, 0, none⟩) (j) cap, ?_, ?_⟩, HH.out.2.2.2.2.1, HH.out.2.2.2.2.2.1⟩, mv.trans (Mv.grown (grownBy_setCell' _ _ _) fun k e => by cases e; exact ⟨Nat.le_of_lt HH.out.2.2.2.2.1, _, _, _, ee, .inr rfl⟩)⟩
        · exact (Below.heap_setCell w4 ⟨be, 0, none⟩ _ bt (by have := HH.out.2.2.2.2.1; show bt ≠ be; omega)).trans tt
        · exact ee.set _
        · rw [← hfin]
          exact World.ownsRow.kept (mine_take hm (by rw [← HN.out.1]; exact hjN)) (grownBy_setCell' w4 be _) (.inr fun e => by injection e with e; change g = be at e; have := HH.out.2.2.2.2.2; omega)

end Go.Proofs.YtlmokendajgbdaaGreatDoor.Bo
