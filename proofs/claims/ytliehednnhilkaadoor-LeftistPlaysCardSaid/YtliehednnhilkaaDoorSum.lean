/-
  Rows of elements that a call has made, as values: they stay where only a meter's block turns; contracts of the reference's Put, Sort, Sum and Same over them; nothing that was there has changed. Conditions: fewer than 2 to the 24th elements.
-/
import Derived.Test.YtliehednnhilkaaDoorRefSort
import Derived.Test.YtliehednnhilkaaDoorSame
import Derived.Test.YtliehednnhilkaaDoorFit
import Derived.Test.YtliehednnhilkaaDoorMt
import Derived.Deep.LoopGhost
namespace Go.Proofs.YtliehednnhilkaaDoor
open Go.Sort Go.RowKit

/-- A value that is a row of elements, in a block of their own type. -/
def Rw (W : World) (v : Value) (xs : List (Int × Int)) : Prop :=
  (v = .slice none 0 0 ∧ xs = []) ∨ ∃ (b o c : Nat) (cs : Array Value), v = .slice (some ⟨b, o, none⟩) xs.length c ∧ xs.length ≤ c ∧ c ≤ 9223372036854775807 ∧ W.heap[b]? = some (.cells cs 32 (0, 0)) ∧ ∀ j u, (cellsE xs)[j]? = some u → cs[o + j]? = some u

section
variable {W W' : World} {v : Value} {xs : List (Int × Int)} {mo : Option Nat} {c m : Int}
theorem Rw.none (W : World) : Rw W (.slice Option.none 0 0) [] := .inl ⟨rfl, rfl⟩
theorem Rw.bt (h : Rw W v xs) (hb : Bt mo W W') (hm : MAt W mo c m) : Rw W' v xs := by
  rcases h with h | ⟨b, o, k, cs, hv, h1, h2, h3, h4⟩
  · exact .inl h
  · exact .inr ⟨b, o, k, cs, hv, h1, h2, hb.row hm h3 (by decide), h4⟩
theorem Rw.stay (h : Rw W v xs) (hb : Below W.heap.size W W') : Rw W' v xs := h.bt (mo := Option.none) (c := 0) (m := 0) (Bt.ofBelow hb) trivial
theorem Own.rw {base : Nat} (h : Own W base v xs) : Rw W v xs := by
  have h0 := h
  rcases h.2 with ⟨rfl, hn⟩ | ⟨g, cap, cur, rfl, hb, hg, hc, hm, hs, ht⟩
  · exact .inl ⟨rfl, List.eq_nil_of_length_eq_zero hn⟩
  · refine .inr ⟨g, 0, cap, cur, rfl, hc, by unfold maxLen at hm; omega, hg, fun j u hu => ?_⟩
    rw [← ht, List.getElem?_take] at hu
    split at hu
    · rw [Nat.zero_add]; simpa using hu
    · cases hu
/-- What a walk asks of such a value. -/
theorem Rw.form (h : Rw W v xs) : ∃ (A : Option Addr) (k : Nat), v = .slice A xs.length k ∧ Row W A xs ∧ xs.length ≤ k ∧ k ≤ 9223372036854775807 ∧ (A = Option.none → k = 0) := by
  rcases h with ⟨rfl, rfl⟩ | ⟨b, o, k, cs, rfl, h1, h2, h3, h4⟩
  · exact ⟨Option.none, 0, rfl, Row.nil _ _, Nat.le_refl _, by omega, fun _ => rfl⟩
  · refine ⟨_, k, rfl, fun _ => ⟨b, o, rfl, fun j u hu => ?_⟩, h1, h2, fun e => by cases e⟩
    have := h4 j u hu
    simp [World.cell?, h3, this]
end

theorem putRw (v : Value) (l : List (Int × Int)) (x : Int × Int) (w : World) (h : Rw w v l) (hsz : l.length < 1073741823) : Calls Tryd.prog 36 #[v, .agg #[.int .i64 x.1, .int .i64 x.2]] w fun e w' => ∃ v', e = .returned v' ∧ Rw w' v' (putL l x) ∧ Below w.heap.size w w' := by
  rcases h with ⟨rfl, rfl⟩ | ⟨b, o, k, cs, rfl, h1, h2, h3, h4⟩
  · exact (put_nil x w).mono fun _ _ ⟨v', he, ho, hb⟩ => ⟨v', he, ho.rw, hb⟩
  · exact (put_some b o l.length k l x w rfl (by omega) h1 h2 (fun j u hu => by have := h4 j u hu; simp [World.cell?, h3, this])).mono fun _ _ ⟨v', he, ho, hb⟩ => ⟨v', he, ho.rw, hb⟩

set_option maxHeartbeats 2000000 in
set_option maxRecDepth 100000 in
theorem sortRw (A : Option Addr) (l : List (Int × Int)) (cap : Nat) (w : World) (hr : Row w A l) (hsz : l.length < 16777216) : Calls Tryd.prog 32 #[.slice A l.length cap] w fun e w' => ∃ v', e = .returned v' ∧ Rw w' v' (srt l) ∧ Below w.heap.size w w' := by
  obtain ⟨n, hn⟩ : ∃ n, n = l.length := ⟨_, rfl⟩
  rw [← hn]
  have HR := Lib.hid (And.intro hr (And.intro hn hsz))
  clear hr hn hsz
  go_enter Tryd.func32, Tryd.ntmps32
  go_wp2_with fail
  go_loopg [3, 4] n (fun k out i wr => ∃ j : Nat, i = .int .i64 (j : Int) ∧ j + k = n ∧ Rw wr out (sortTo l j) ∧ Below w.heap.size w wr)
  case atStart => exact ⟨0, rfl, by omega, Rw.none _, Below.refl _ _⟩
  case round =>
    obtain ⟨j, rfl, hj, hrow, hb⟩ := hrel
    by_cases hlt : j < n
    · have hkl : j < l.length := by rw [← HR.out.2.1]; exact hlt
      have hlen := sortTo_length l j (by omega)
      obtain ⟨b, o, rfl, hc⟩ := HR.out.1 (by omega)
      have e1 := row_at hc j hkl
      have ke0 : wr.cell? ⟨b, o + j * 2, none⟩ = some (.int .i64 l[j].1) := by rw [hb.cell (block_lt_of_cell e1.1)]; exact e1.1
      have ke1 : wr.cell? ⟨b, o + j * 2 + 1, none⟩ = some (.int .i64 l[j].2) := by rw [hb.cell (block_lt_of_cell e1.2)]; exact e1.2
      have hput := putRw _ (sortTo l j) l[j] wr hrow (by have := HR.out.2.2; omega)
      rw [← sortTo_succ l j hkl] at hput
      have HP := Lib.hid hput
      have HB := Lib.hid (And.intro hb hj)
      generalize l[j] = x at *
      have q1 : (j : Int) < (n : Int) := by omega
      have q2 : (0 : Int) ≤ (j : Int) := by omega
      have q3 : n < 16777216 := by have := HR.out; omega
      clear hput hlen e1 hb hrow hc hkl hj
      go_wp2_with fail
      ((with_reducible refine HP.out.mono ?_); rintro e w2 ⟨v', rfl, hr', hb'⟩)
      have HB' := Lib.hid (And.intro hr' (HB.out.1.trans (hb'.mono HB.out.1.size)))
      clear hr' hb' HP
      go_wp2_with fail
      go_roundg (n - 1 - j)
      case measure => have := HB.out.2; omega
      case rel => exact ⟨j + 1, by congr 1, by have := HB.out.2; omega, HB'.out.1, HB'.out.2⟩
    · have hjn : j = l.length := by have := HR.out.2.1; omega
      rw [hjn, sortTo_end] at hrow
      have X := Lib.hid (And.intro hrow hb)
      have hz : ¬ (j : Int) < (n : Int) := by omega
      clear hrow hb hjn hj
      go_wp2_with fail
      go_ret
      exact ⟨_, rfl, X.out.1, X.out.2⟩

set_option maxHeartbeats 2000000 in
set_option maxRecDepth 100000 in
theorem sumRw (u v : Value) (xs ys : List (Int × Int)) (w : World) (hx : Rw w u xs) (hy : Rw w v ys) (hs1 : xs.length < 16777216) (hs2 : ys.length < 16777216) : Calls Tryd.prog 35 #[u, v] w fun e w' => ∃ v', e = .returned v' ∧ Rw w' v' (ys.foldl putL xs) ∧ Below w.heap.size w w' := by
  obtain ⟨A, cap, rfl, hr, -⟩ := hy.form
  obtain ⟨n, hn⟩ : ∃ n, n = ys.length := ⟨_, rfl⟩
  rw [← hn]
  have HR := Lib.hid (And.intro hr (And.intro hn (And.intro hs1 (And.intro hs2 hx))))
  clear hr hn hs1 hs2 hx hy
  go_enter Tryd.func35, Tryd.ntmps35
  go_wp2_with fail
  go_loopg [5, 6] n (fun k out i wr => ∃ j : Nat, i = .int .i64 (j : Int) ∧ j + k = n ∧ Rw wr out ((ys.take j).foldl putL xs) ∧ Below w.heap.size w wr)
  case atStart => exact ⟨0, rfl, by omega, HR.out.2.2.2.2, Below.refl _ _⟩
  case round =>
    obtain ⟨j, rfl, hj, hrow, hb⟩ := hrel
    by_cases hlt : j < n
    · have hkl : j < ys.length := by rw [← HR.out.2.1]; exact hlt
      have hlen : ((ys.take j).foldl putL xs).length = j + xs.length := by
        have h1 : ∀ (l acc : List (Int × Int)), (l.foldl putL acc).length = l.length + acc.length := fun l => by
          induction l with
          | nil => intro acc; simp
          | cons y r ih => intro acc; rw [List.foldl_cons, ih, putL_length, List.length_cons]; omega
        rw [h1, List.length_take]; omega
      obtain ⟨b, o, rfl, hc⟩ := HR.out.1 (by omega)
      have e1 := row_at hc j hkl
      have ke0 : wr.cell? ⟨b, o + j * 2, none⟩ = some (.int .i64 ys[j].1) := by rw [hb.cell (block_lt_of_cell e1.1)]; exact e1.1
      have ke1 : wr.cell? ⟨b, o + j * 2 + 1, none⟩ = some (.int .i64 ys[j].2) := by rw [hb.cell (block_lt_of_cell e1.2)]; exact e1.2
      have hput := putRw _ ((ys.take j).foldl putL xs) ys[j] wr hrow (by have := HR.out.2.2; omega)
      rw [show putL ((ys.take j).foldl putL xs) ys[j] = (ys.take (j + 1)).foldl putL xs by rw [List.take_succ_eq_append_getElem hkl, List.foldl_append]; rfl] at hput
      have HP := Lib.hid hput
      have HB := Lib.hid (And.intro hb hj)
      generalize ys[j] = x at *
      have q1 : (j : Int) < (n : Int) := by omega
      have q2 : (0 : Int) ≤ (j : Int) := by omega
      have q3 : n < 16777216 := by have := HR.out; omega
      clear hput hlen e1 hb hrow hc hkl hj
      go_wp2_with fail
      ((with_reducible refine HP.out.mono ?_); rintro e w2 ⟨v', rfl, hr', hb'⟩)
      have HB' := Lib.hid (And.intro hr' (HB.out.1.trans (hb'.mono HB.out.1.size)))
      clear hr' hb' HP
      go_wp2_with fail
      go_roundg (n - 1 - j)
      case measure => have := HB.out.2; omega
      case rel => exact ⟨j + 1, by congr 1, by have := HB.out.2; omega, HB'.out.1, HB'.out.2⟩
    · have hjn : j = ys.length := by have := HR.out.2.1; omega
      rw [hjn, List.take_length] at hrow
      have X := Lib.hid (And.intro hrow hb)
      have hz : ¬ (j : Int) < (n : Int) := by omega
      clear hrow hb hjn hj
      go_wp2_with fail
      go_ret
      exact ⟨_, rfl, X.out.1, X.out.2⟩

theorem sameRw (u v : Value) (xs ys : List (Int × Int)) (w : World) (hx : Rw w u xs) (hy : Rw w v ys) (hs : xs.length < 16777216) : Calls Tryd.prog 34 #[u, v] w fun e w' => e = .returned (.bool (decide (xs = ys))) ∧ Below w.heap.size w w' := by
  obtain ⟨A, k, rfl, ha, -⟩ := hx.form
  obtain ⟨B, k', rfl, hb, -⟩ := hy.form
  exact same_any A B xs ys k k' w (by omega) ha hb

end Go.Proofs.YtliehednnhilkaaDoor
