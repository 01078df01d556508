/-
  The document's example of layer 11 holds: awake returns true, and nothing that was there has changed, in any world where the library's table is as it is laid.
  What BootAgain asks beside the contracts: a row turned by some places has the same elements; a row of the call's own where heaps' variables are written, and where it grows. No conditions beyond what each theorem says.
  Contract of boot.Of by a meter, for a row that was there ahead of the meter; of one element; variables beside each other; two meters. Conditions: fewer than 2 to the 24th elements, counts below 2 to the 56th.
-/
import Derived.Test.YtlmokendajgbdaaGreatDoorWb6
import Derived.Test.YtlmokendajgbdaaGreatDoorWd
namespace Go.Proofs.YtlmokendajgbdaaGreatDoor.Bo
open Go.Sort Go.RowKit

set_option maxRecDepth 100000 in
set_option maxHeartbeats 4000000 in
theorem awake_any (w : World) (he : Env w) : Calls Tryz.prog 13 #[] w fun e w' => e = .returned (.bool true) ∧ Below w.heap.size w w' := by
  have HE := Lib.hid he
  clear he
  go_enter Tryz.func13, Tryz.ntmps13
  go_wp2_with fail
  ((with_reducible refine (mNew _).mono ?_); rintro e w1 ⟨rfl, hm, hb⟩)
  obtain ⟨mb, hmb⟩ : ∃ mb, mb = w.heap.size := ⟨_, rfl⟩
  rw [← hmb] at hm ⊢
  have HMB := Lib.hid (Nat.le_of_eq hmb.symm)
  clear hmb
  have HM1 := Lib.hid hm
  have HR1 := Lib.hid (fun W (hb1 : Bt (some mb) w1 W) => Bas.bt ⟨hb, HE.out.below hb⟩ HE.out hb1 (fun b e => by cases e; exact HMB.out))
  clear hm hb
  go_wp2_with fail
  have HROW := Lib.hid (show Row (w1.alloc (.cells #[.int .i64 2, .int .i64 0, .int .i64 1, .int .i64 0, .int .i64 3, .int .i64 0] 32)) (some ⟨w1.heap.size, 0, none⟩) [(2, 0), (1, 0), (3, 0)] from row_new w1 [(2, 0), (1, 0), (3, 0)] 32)
  have HNE := Lib.hid (show ∀ b, some mb = some b → ∀ q, some (⟨w1.heap.size, 0, none⟩ : Addr) = some q → q.block ≠ b from fun b e q eq => by cases e; cases eq; have := HM1.out.lt; exact (Nat.ne_of_lt this).symm)
  have HM2 := Lib.hid (HM1.out.alloc (.cells #[.int .i64 2, .int .i64 0, .int .i64 1, .int .i64 0, .int .i64 3, .int .i64 0] 32))
  have HR2 := Lib.hid (fun W (hz : Bt (some mb) (w1.alloc (.cells #[.int .i64 2, .int .i64 0, .int .i64 1, .int .i64 0, .int .i64 3, .int .i64 0] 32)) W) => HR1.out W (((Bt.refl (some mb) w1).alloc (.cells #[.int .i64 2, .int .i64 0, .int .i64 1, .int .i64 0, .int .i64 3, .int .i64 0] 32)).trans hz))
  clear HR1 HM1 
  generalize w1.alloc (.cells #[.int .i64 2, .int .i64 0, .int .i64 1, .int .i64 0, .int .i64 3, .int .i64 0] 32) = w2 at *
  have HO : Calls Tryz.prog 23 #[mAddr (some mb), .slice (some ⟨w1.heap.size, 0, none⟩) 3 3] w2 (Gave (some mb) 2 7 exH w2) := by
    have h1 := of_any (some mb) 0 0 (some ⟨w1.heap.size, 0, none⟩) [(2, 0), (1, 0), (3, 0)] 3 w2 HM2.out (by decide) (by decide) (by decide) (by decide) HROW.out (by decide) (fun _ => HNE.out)
    rw [ex_of, ex_put.1, ex_put.2] at h1
    exact h1
  clear HROW HNE
  ((with_reducible refine (HO).mono ?_); rintro e w3 ⟨pH, rfl, ht, hm, hb⟩)
  have HM3 := Lib.hid hm
  have HR3 := Lib.hid (on_inv (mo := (some mb)) HR2.out hb (fun W hz => ht.bt hz HM3.out))
  clear HR2 HM2 
  clear ht hm hb HO
  go_wp2_with fail
  have HM4 := Lib.hid (HM3.out.alloc (.cells #[.pointer pH] 29))
  have HR4 := Lib.hid (on_inv (mo := (some mb)) HR3.out ((Bt.refl (some mb) w3).alloc (.cells #[.pointer pH] 29)) (fun W hz => (HVar.new w3 pH rfl).bt hz HM4.out))
  clear HR3 HM3 
  generalize w3.alloc (.cells #[.pointer pH] 29) = w4 at *
  obtain ⟨bH, hbH⟩ : ∃ b, b = w3.heap.size := ⟨_, rfl⟩
  rw [← hbH] at HR4 ⊢
  clear hbH
  ((with_reducible refine (mSteps mb 2 7 _ HM4.out (by decide) (by decide) (by decide) (by decide)).mono ?_); rintro e w5 ⟨rfl, hb⟩)
  have HM5 := Lib.hid (HM4.out.stay hb)
  have HR5 := Lib.hid (fun W (hz : Bt (some mb) w5 W) => HR4.out W ((Bt.ofBelow hb).trans hz))
  clear HR4 HM4 
  clear hb
  have c1 : w5.cell? ⟨bH, 0, none⟩ = some (.pointer pH) := (HR5.out _ (Bt.refl _ _)).1.c0
  go_wp2_with fail
  ((with_reducible refine (min_any exH pH _ _ (HR5.out _ (Bt.refl _ _)).2.1).mono ?_); rintro e w6 ⟨rfl, hb⟩)
  have HM6 := Lib.hid (HM5.out.stay hb)
  have HR6 := Lib.hid (fun W (hz : Bt (some mb) w6 W) => HR5.out W ((Bt.ofBelow hb).trans hz))
  clear HR5 HM5 c1
  clear hb
  rw [show minV exH = .tuple #[el (1, 0), .bool true] from rfl]
  have c2 : (w6.alloc (.cells #[.int .i64 1, .int .i64 0] 32)).cell? ⟨bH, 0, none⟩ = some (.pointer pH) := (HR6.out _ ((Bt.refl _ _).alloc _)).1.c0
  go_wp2_with fail
  have HM7 := Lib.hid (HM6.out.alloc (.cells #[.int .i64 1, .int .i64 0] 32))
  have HR7 := Lib.hid (on_inv (mo := (some mb)) HR6.out ((Bt.refl (some mb) w6).alloc (.cells #[.int .i64 1, .int .i64 0] 32)) (fun W hz => (EVar.new w6 1 0 rfl).bt hz HM7.out))
  clear HR6 HM6 c2
  generalize w6.alloc (.cells #[.int .i64 1, .int .i64 0] 32) = w7 at *
  obtain ⟨bX, hbX⟩ : ∃ b, b = w6.heap.size := ⟨_, rfl⟩
  rw [← hbX] at HR7 ⊢
  clear hbX
  ((with_reducible refine (pop_any (some mb) 2 7 exH pH _ (by rw [ex_size]; decide) HM7.out (by decide) (by decide) (by decide) (by decide) (HR7.out _ (Bt.refl _ _)).2.2.1).mono ?_); rintro e w8 ⟨pG, rfl, ht, hm, hb⟩)
  have HM8 := Lib.hid (show MAt w8 (some mb) 4 8 from by rw [ex_popN.1, ex_popN.2] at hm; exact hm)
  have HR8 := Lib.hid (on_inv (mo := (some mb)) HR7.out hb (fun W hz => ht.bt hz HM8.out))
  clear HR7 HM7 
  clear ht hm hb
  go_wp2_with fail
  have HM9 := Lib.hid (HM8.out.alloc (.cells #[.pointer pG] 29))
  have HR9 := Lib.hid (on_inv (mo := (some mb)) HR8.out ((Bt.refl (some mb) w8).alloc (.cells #[.pointer pG] 29)) (fun W hz => (HVar.new w8 pG rfl).bt hz HM9.out))
  clear HR8 HM8 
  generalize w8.alloc (.cells #[.pointer pG] 29) = w9 at *
  obtain ⟨bG, hbG⟩ : ∃ b, b = w8.heap.size := ⟨_, rfl⟩
  rw [← hbG] at HR9 ⊢
  clear hbG
  ((with_reducible refine (min_any exH.pop pG _ _ (HR9.out _ (Bt.refl _ _)).2.1).mono ?_); rintro e w10 ⟨rfl, hb⟩)
  have HM10 := Lib.hid (HM9.out.stay hb)
  have HR10 := Lib.hid (fun W (hz : Bt (some mb) w10 W) => HR9.out W ((Bt.ofBelow hb).trans hz))
  clear HR9 HM9 
  clear hb
  rw [show minV exH.pop = .tuple #[el (2, 0), .bool true] from by rw [ex_pop]; rfl]
  go_wp2_with fail
  have HM11 := Lib.hid (HM10.out.alloc (.cells #[.int .i64 2, .int .i64 0] 32))
  have HR11 := Lib.hid (on_inv (mo := (some mb)) HR10.out ((Bt.refl (some mb) w10).alloc (.cells #[.int .i64 2, .int .i64 0] 32)) (fun W hz => (EVar.new w10 2 0 rfl).bt hz HM11.out))
  clear HR10 HM10 
  generalize w10.alloc (.cells #[.int .i64 2, .int .i64 0] 32) = w11 at *
  obtain ⟨bY, hbY⟩ : ∃ b, b = w10.heap.size := ⟨_, rfl⟩
  rw [← hbY] at HR11 ⊢
  clear hbY
  rw [show (Value.pointer none) = .pointer none from rfl]
  ((with_reducible refine (pop_any (some mb) 4 8 .nil none _ (by rw [nil_size]; decide) HM11.out (by decide) (by decide) (by decide) (by decide) (LAt.none _)).mono ?_); rintro e w12 ⟨pN, rfl, ht, hm, hb⟩)
  have HM12 := Lib.hid (show MAt w12 (some mb) 4 8 from by simpa [Lh.popC, Lh.popM] using hm)
  have HR12 := Lib.hid (fun W (hz : Bt (some mb) w12 W) => HR11.out W (hb.trans hz))
  clear HR11 HM11 
  clear ht hm hb
  have c3 : (w12.alloc (.cells #[.pointer pN] 29)).cell? ⟨bH, 0, none⟩ = some (.pointer pH) := (HR12.out _ ((Bt.refl _ _).alloc _)).2.2.2.2.1.c0
  go_wp2_with fail
  have HM13 := Lib.hid (HM12.out.alloc (.cells #[.pointer pN] 29))
  have HR13 := Lib.hid (on_inv (mo := (some mb)) HR12.out ((Bt.refl (some mb) w12).alloc (.cells #[.pointer pN] 29)) (fun W hz => (HVar.new w12 pN rfl).bt hz HM13.out))
  clear HR12 HM12 c3
  generalize w12.alloc (.cells #[.pointer pN] 29) = w13 at *
  obtain ⟨bN, hbN⟩ : ∃ b, b = w12.heap.size := ⟨_, rfl⟩
  rw [← hbN] at HR13 ⊢
  clear hbN
  ((with_reducible refine (show_any exH pH _ (HR13.out _ (Bt.refl _ _)).2.2.2.2.2.2.2.env (HR13.out _ (Bt.refl _ _)).2.2.2.2.2.2.1 ex_fits (by rw [ex_size]; decide)).mono ?_); rintro e w14 ⟨rfl, hb⟩)
  have HM14 := Lib.hid (HM13.out.stay hb)
  have HR14 := Lib.hid (fun W (hz : Bt (some mb) w14 W) => HR13.out W ((Bt.ofBelow hb).trans hz))
  clear HR13 HM13 
  clear hb
  rw [ex_show]
  have c4 : w14.cell? ⟨bX, 0, none⟩ = some (.int .i64 1) := (HR14.out _ (Bt.refl _ _)).2.2.2.2.1.c0
  have c5 : w14.cell? ⟨bY, 0, none⟩ = some (.int .i64 2) := (HR14.out _ (Bt.refl _ _)).2.1.c0
  have c6 : w14.cell? ⟨bH, 0, none⟩ = some (.pointer pH) := (HR14.out _ (Bt.refl _ _)).2.2.2.2.2.1.c0
  simp only [Lh.some, Lh.min, exH]
  go_wp2_with fail
  ((with_reducible refine (size_any exH pH _ (HR14.out _ (Bt.refl _ _)).2.2.2.2.2.2.1).mono ?_); rintro e w15 ⟨rfl, hb⟩)
  have HM15 := Lib.hid (HM14.out.stay hb)
  have HR15 := Lib.hid (fun W (hz : Bt (some mb) w15 W) => HR14.out W ((Bt.ofBelow hb).trans hz))
  clear HR14 HM14 c4 c5 c6
  clear hb
  rw [show ((exH.size : Nat) : Int) = 3 from by rw [ex_size]; rfl]
  have c7 : w15.cell? ⟨bG, 0, none⟩ = some (.pointer pG) := (HR15.out _ (Bt.refl _ _)).2.2.1.c0
  go_wp2_with fail
  ((with_reducible refine (size_any exH.pop pG _ (HR15.out _ (Bt.refl _ _)).2.2.2.1).mono ?_); rintro e w16 ⟨rfl, hb⟩)
  have HM16 := Lib.hid (HM15.out.stay hb)
  have HR16 := Lib.hid (fun W (hz : Bt (some mb) w16 W) => HR15.out W ((Bt.ofBelow hb).trans hz))
  clear HR15 HM15 c7
  clear hb
  rw [show ((exH.pop.size : Nat) : Int) = 2 from by rw [ex_pop, exG_size]; rfl]
  go_wp2_with fail
  go_ret
  exact ⟨rfl, (HR16.out _ (Bt.refl _ _)).2.2.2.2.2.2.2.below⟩

end Go.Proofs.YtlmokendajgbdaaGreatDoor.Bo
namespace Go.Proofs.YtlmokendajgbdaaGreatDoor.Bo
open Go.Sort Go.RowKit

/-- The first k of a row turned by y places. -/
def rotTo (l : List (Int × Int)) (y k : Nat) : List (Int × Int) := (List.range k).map fun i => l.getD ((i + y) % l.length) (0, 0)
theorem rotTo_length (l : List (Int × Int)) (y k : Nat) : (rotTo l y k).length = k := by simp [rotTo]
theorem rotTo_succ (l : List (Int × Int)) (y k : Nat) (h : (k + y) % l.length < l.length) : rotTo l y (k + 1) = rotTo l y k ++ [l[(k + y) % l.length]] := by
  unfold rotTo
  rw [List.range_succ, List.map_append]
  simp [List.getD, List.getElem?_eq_getElem h]
theorem rot_eq (l : List (Int × Int)) (y : Nat) : rotTo l y l.length = l.drop (y % l.length) ++ l.take (y % l.length) := by
  by_cases h0 : l.length = 0
  · have e : l = [] := List.eq_nil_of_length_eq_zero h0
    subst e
    simp [rotTo]
  · have hr : y % l.length < l.length := Nat.mod_lt _ (by omega)
    apply List.ext_getElem
    · rw [rotTo_length, List.length_append, List.length_drop, List.length_take]; omega
    · intro i h1 h2
      rw [rotTo_length] at h1
      have hm : (i + y) % l.length = (i + y % l.length) % l.length := by simp
      have hlt : (i + y) % l.length < l.length := Nat.mod_lt _ (by omega)
      have hg : (rotTo l y l.length)[i]'(by rw [rotTo_length]; exact h1) = l[(i + y) % l.length] := by
        unfold rotTo
        simp [List.getD, List.getElem?_eq_getElem hlt]
      rw [hg]
      by_cases hi : i < l.length - y % l.length
      · rw [List.getElem_append_left (by rw [List.length_drop]; exact hi), List.getElem_drop]
        congr 1
        rw [hm, Nat.mod_eq_of_lt (by omega)]
        omega
      · rw [List.getElem_append_right (by rw [List.length_drop]; omega), List.getElem_take]
        congr 1
        rw [hm, List.length_drop]
        have e : i + y % l.length = (i + y % l.length - l.length) + l.length := by omega
        rw [e, Nat.add_mod_right, Nat.mod_eq_of_lt (by omega)]
        omega
theorem rot_perm (l : List (Int × Int)) (y : Nat) : (rotTo l y l.length).Perm l := by
  rw [rot_eq]
  refine List.perm_append_comm.trans ?_
  rw [List.take_append_drop]
/-- The last ones of a row, the last one first. -/
theorem rev_succ (l : List (Int × Int)) (k : Nat) (h : k < l.length) : l.reverse.take (k + 1) = l.reverse.take k ++ [l[l.length - 1 - k]] := by
  rw [List.take_succ_eq_append_getElem (by rw [List.length_reverse]; exact h), List.getElem_reverse]

section
variable {W W' : World} {base : Nat} {v : Value} {xs : List (Int × Int)} {mo : Option Nat} {c m : Int}
theorem _root_.Go.Proofs.YtlmokendajgbdaaGreatDoor.Own.bt (h : Own W base v xs) (hb : Bt mo W W') (hm : MAt W mo c m) : Own W' base v xs := by
  refine ⟨h.1, ?_⟩
  rcases h.2 with hn | ⟨g, cap, cur, rfl, hg1, hg, rest⟩
  · exact .inl hn
  · exact .inr ⟨g, cap, cur, rfl, hg1, hb.row hm hg (by decide), rest⟩
theorem _root_.Go.Proofs.YtlmokendajgbdaaGreatDoor.Own.set (h : Own W base v xs) {b : Nat} {q : Option Addr} (hv : HVar W b q) (u : Value) : Own (W.setCell ⟨b, 0, Option.none⟩ u) base v xs := by
  refine ⟨h.1, ?_⟩
  rcases h.2 with hn | ⟨g, cap, cur, rfl, hg1, hg, rest⟩
  · exact .inl hn
  · exact .inr ⟨g, cap, cur, rfl, hg1, (heap_other _ _ (fun e => by subst e; have hz := hg.symm.trans hv; injection hz with hz; injection hz with _ hz; exact absurd hz (by decide))).trans hg, rest⟩
/-- One element's two cells. -/
theorem _root_.Go.Proofs.YtlmokendajgbdaaGreatDoor.Own.at {A : Option Addr} {n k : Nat} (h : Own W base (.slice A n k) xs) (i : Nat) (hi : i < xs.length) : ∃ g, A = some ⟨g, 0, Option.none⟩ ∧ W.cell? ⟨g, i * 2, Option.none⟩ = some (.int .i64 xs[i].1) ∧ W.cell? ⟨g, i * 2 + 1, Option.none⟩ = some (.int .i64 xs[i].2) := by
  obtain ⟨A', c', e, hr, -⟩ := h.form
  cases e
  rcases h.2 with ⟨-, hn⟩ | ⟨g, cap, cur, e, -⟩
  · omega
  · cases e
    obtain ⟨b, o, e, hc⟩ := hr (by omega)
    cases e
    have hx := row_at hc i hi
    rw [Nat.zero_add] at hx
    exact ⟨g, rfl, hx.1, hx.2⟩
end

/-- One thing more behind a row of the call's own: every block of another type stays. -/
theorem append_keep (w : World) (base : Nat) (v : Value) (xs : List (Int × Int)) (x : Int × Int) (hown : Own w base v xs) (hlen : xs.length < 1073741824) (hb : base ≤ w.heap.size) :
    ∃ v' w', (Builtin.append_ #[37, 37] 37 #[v, .slice (some ⟨w.heap.size, 0, none⟩) 1 1]).run Tryz.prog (w.alloc (.cells #[.int .i64 x.1, .int .i64 x.2] 32)) = .ok v' w' ∧ Own w' base v' (xs ++ [x]) ∧ Below base w w' ∧
      ∀ (k : Nat) (cs : Array Value) (t : TypeId) (z : Nat × Nat), w.heap[k]? = some (.cells cs t z) → t ≠ 32 → w'.heap[k]? = some (.cells cs t z) := by
  have hb1 := (Below.refl w.heap.size w).alloc (Nat.le_refl _) (.cells #[.int .i64 x.1, .int .i64 x.2] 32)
  obtain ⟨v', w', h1, h2, h3⟩ := append_row (w.alloc (.cells #[.int .i64 x.1, .int .i64 x.2] 32)) base v xs [x] (some ⟨w.heap.size, 0, none⟩) 1 (hown.below hb1) (row_new w [x] _) (fun e => by cases e) (by simp; omega) (by simp; omega)
  refine ⟨v', w', h1, h2, below_grown ((Below.refl _ _).alloc hb _) h3 (by simp; omega) (fun g hg => hown.block g hg), fun k cs t z hk ht => ?_⟩
  have hk1 := (hb1.block k (lt_of_heap hk)).trans hk
  refine (h3.block k (lt_of_heap hk1) (fun e => ?_)).trans hk1
  obtain ⟨-, -, cs', hk2⟩ := (hown.below hb1).kind k e.symm
  rw [hk1] at hk2
  cases hk2
  exact ht rfl
/-- A row's first ones. -/
theorem rw_take {W : World} {b o n c : Nat} {xs : List (Int × Int)} (h : Rw W (.slice (some ⟨b, o, none⟩) n c) xs) (L : Nat) (hL : L ≤ xs.length) : Rw W (.slice (some ⟨b, o, none⟩) L c) (xs.take L) := by
  rcases h with ⟨h, -⟩ | ⟨b', o', c', cs, e, h1, h2, h3, h4⟩
  · cases h
  · cases e
    refine .inr ⟨b, o, c, cs, by rw [List.length_take, Nat.min_eq_left hL], by rw [List.length_take]; omega, h2, h3, fun j u hu => h4 j u ?_⟩
    rw [cellsE_take, List.getElem?_take] at hu
    split at hu
    · exact hu
    · cases hu

/-- The least one stands first. -/
theorem srt_head {t : Lh} (h : t.ok) {x : Int × Int} (hm : t.min = (x, true)) : srt t.all = [x] ++ (srt t.all).tail := by
  rw [ok_srt h (by rw [hm]), hm]
  rfl

/-- The numbers of a round. -/
theorem again_nums (i y L q r : Nat) (hi : i < L) (hL : L ≤ 40) (hy : y < 256) (hq : q = (i + y) % L) (hr : r = L - 1 - i) :
    ((i : Int) < (L : Int)) ∧ decide ((i : Int) < (L : Int)) = true ∧ ¬ L = 0 ∧ ((i : Int) + (y : Int)).tmod (L : Int) = (q : Int) ∧ (0 : Int) ≤ (q : Int) ∧ (q : Int) < (L : Int) ∧ (0 : Int) ≤ (r : Int) ∧ (r : Int) < (L : Int) ∧
    (L : Int) - 1 - (i : Int) = (r : Int) ∧ wrap64 ((L : Int) - 1 - (i : Int)) = (r : Int) ∧ (0 : Int) ≤ (i : Int) ∧ (L : Int) ≤ 40 ∧ (y : Int) < 256 ∧ IntKind.i64.wrap (r : Int) = (r : Int) ∧ IntKind.i64.wrap (q : Int) = (q : Int) ∧ wrap64 ((i : Int) + (y : Int)) = (i : Int) + (y : Int) ∧ wrap64 ((L : Int) - 1) = (L : Int) - 1 ∧ IntKind.i64.wrap (y : Int) = (y : Int) ∧ IntKind.i64.wrap ((i : Int) + (y : Int)) = (i : Int) + (y : Int) ∧ IntKind.i64.wrap ((L : Int) - 1) = (L : Int) - 1 ∧ IntKind.i64.wrap ((L : Int) - 1 - (i : Int)) = (r : Int) := by
  have h3 : ((i : Int) + (y : Int)).tmod (L : Int) = (((i + y) % L : Nat) : Int) := by rw [Int.tmod_eq_emod_of_nonneg (by omega), Int.natCast_emod, Int.natCast_add]
  have h4 : (i + y) % L < L := Nat.mod_lt _ (by omega)
  rw [← hq] at h3 h4
  clear hq
  refine ⟨by omega, by simp; omega, by omega, h3, by omega, by omega, ?_⟩
  clear h3
  refine ⟨by omega, by omega, by omega, by unfold wrap64; omega, by omega, by omega, by omega, by rw [IntKind.wrap_i64]; omega, by rw [IntKind.wrap_i64]; omega, by unfold wrap64; omega, by unfold wrap64; omega, by rw [IntKind.wrap_i64]; omega, by rw [IntKind.wrap_i64]; omega, by rw [IntKind.wrap_i64]; omega, by rw [IntKind.wrap_i64]; omega⟩

end Go.Proofs.YtlmokendajgbdaaGreatDoor.Bo
namespace Go.Proofs.YtlmokendajgbdaaGreatDoor.Bo
open Go.Sort Go.RowKit

/-- A meter, where another one turns. -/
theorem _root_.Go.Proofs.YtlmokendajgbdaaGreatDoor.MAt.bt2 {W W' : World} {a b : Nat} {c m : Int} (h : MAt W (some a) c m) (hb : Bt (some b) W W') (hne : a ≠ b) : MAt W' (some a) c m :=
  (hb.block a h.lt (fun e => hne (by injection e with e; exact e.symm))).trans h

theorem three_vars (W : World) (p q r : Option Addr) : HVar (((W.alloc (.cells #[.pointer p] 29)).alloc (.cells #[.pointer q] 29)).alloc (.cells #[.pointer r] 29)) W.heap.size p ∧
    HVar (((W.alloc (.cells #[.pointer p] 29)).alloc (.cells #[.pointer q] 29)).alloc (.cells #[.pointer r] 29)) (W.heap.size + 1) q ∧
    HVar (((W.alloc (.cells #[.pointer p] 29)).alloc (.cells #[.pointer q] 29)).alloc (.cells #[.pointer r] 29)) (W.heap.size + 1 + 1) r := by
  unfold HVar
  refine ⟨?_, ?_, ?_⟩
  · rw [alloc_old _ (by simp only [World.size_alloc]; omega), alloc_old _ (by simp only [World.size_alloc]; omega)]; exact new_at rfl
  · rw [alloc_old _ (by simp only [World.size_alloc]; omega)]; exact new_at (by simp)
  · exact new_at (by simp)
theorem two_vars (W : World) (p q : Option Addr) : HVar ((W.alloc (.cells #[.pointer p] 29)).alloc (.cells #[.pointer q] 29)) W.heap.size p ∧
    HVar ((W.alloc (.cells #[.pointer p] 29)).alloc (.cells #[.pointer q] 29)) (W.heap.size + 1) q := by
  unfold HVar
  refine ⟨?_, ?_⟩
  · rw [alloc_old _ (by simp only [World.size_alloc]; omega)]; exact new_at rfl
  · exact new_at (by simp)
/-- Of one element, that was laid for the call. -/
theorem ofOne (x1 x2 : Int) (w : World) : Calls Tryz.prog 23 #[.pointer none, .slice (some ⟨w.heap.size, 0, none⟩) 1 1] (w.alloc (.cells #[.int .i64 x1, .int .i64 x2] 32)) fun e w' => ∃ p, e = .returned (hp p) ∧ LAt w' (.one (x1, x2)) p ∧ Below w.heap.size w w' :=
  (ofN (some ⟨w.heap.size, 0, none⟩) [(x1, x2)] 1 _ (row_new w [(x1, x2)] 32) (by simp)).mono fun _ _ ⟨p, he, ht, hb⟩ => ⟨p, he, one_of (x1, x2) ▸ ht, ((Below.refl _ _).alloc (Nat.le_refl _) _).trans (hb.mono (by simp))⟩

/-- .. behind the draw of a region's order. -/
theorem ofOneD (x1 x2 : Int) (w : World) : Calls Tryz.prog 23 #[.pointer none, .slice (some ⟨w.heap.size, 0, none⟩) 1 1] (w.alloc (.cells #[.int .i64 x1, .int .i64 x2] 32)).drew fun e w' => ∃ p, e = .returned (hp p) ∧ LAt w' (.one (x1, x2)) p ∧ Below w.heap.size w w' :=
  (ofN (some ⟨w.heap.size, 0, none⟩) [(x1, x2)] 1 _ ((row_new w [(x1, x2)] 32).below ((Below.refl _ _).drew)) (by simp)).mono fun _ _ ⟨p, he, ht, hb⟩ => ⟨p, he, one_of (x1, x2) ▸ ht, (((Below.refl _ _).alloc (Nat.le_refl _) _).drew).trans (hb.mono (show w.heap.size ≤ (w.alloc _).heap.size by simp))⟩

theorem ofMeter (mb : Nat) (c m : Int) (A : Option Addr) (xs : List (Int × Int)) (n cap : Nat) (w W : World) (hr : Row w A xs) (hn : n = xs.length) (hs : n < 16777216) (hb : Below w.heap.size w W) (hB : w.heap.size ≤ mb) (hm : MAt W (some mb) c m)
    (h0 : 0 ≤ c) (h1 : c < 72057594037927936) (h2 : 0 ≤ m) (h3 : m < 72057594037927936) :
    Calls Tryz.prog 23 #[mAddr (some mb), .slice A n cap] W (Gave (some mb) (c + putC .nil xs) (m + putM .nil xs) (ofL xs) W) := by
  subst hn
  refine of_any (some mb) c m A xs cap W hm h0 h1 h2 h3 (hr.below hb) hs (fun hpos b e q eq => ?_)
  cases e
  obtain ⟨bb, o, rfl, hc⟩ := hr hpos
  cases eq
  have h5 := block_lt_of_cell (row_at hc 0 hpos).1
  show bb ≠ mb
  have h6 : bb < w.heap.size := h5
  omega

end Go.Proofs.YtlmokendajgbdaaGreatDoor.Bo
