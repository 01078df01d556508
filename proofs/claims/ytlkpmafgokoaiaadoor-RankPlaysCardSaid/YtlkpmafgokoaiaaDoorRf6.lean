/-
  Contract of the reference's All (slagheapref05): all things of a tree, or none. Condition: trees of fewer than 2 to the 28th things.
-/
import Derived.Test.YtlkpmafgokoaiaaDoorRf5
import Derived.Deep.LoopGhost
namespace Go.Proofs.YtlkpmafgokoaiaaDoor
open Go.Sort Go.RowKit

/-- A kid: its six cells, its value, and what is behind it. -/
theorem kid_at {F : Nat → Prop} {W : World} {Ak : Option Addr} {kc : List Value} {y : Int × Int} {cs : List (Int × Int)} {cks rest : Wood} {i : Nat} (hC : CAt F W Ak kc) (h : KL F W (.cons y cs cks rest) (kc.drop (i * 6))) :
    ∃ (kb ko : Nat) (Ab' Ak' : Option Addr) (cb' ck' : Nat), Ak = some ⟨kb, ko, none⟩ ∧
      (W.cell? ⟨kb, ko + i * 6, none⟩ = some (.int .i64 cks.len) ∧ W.cell? ⟨kb, ko + i * 6 + 1, none⟩ = some (.int .i64 y.1) ∧ W.cell? ⟨kb, ko + i * 6 + 2, none⟩ = some (.int .i64 y.2) ∧ W.cell? ⟨kb, ko + i * 6 + 3, none⟩ = some (.slice Ab' cs.length cb') ∧ W.cell? ⟨kb, ko + i * 6 + 4, none⟩ = some (.slice Ak' cks.len ck') ∧ W.cell? ⟨kb, ko + i * 6 + 5, none⟩ = some (.int .i64 ((Tre.mk y cs cks).size : Nat))) ∧
      RT F W (tV cks.len y (.slice Ab' cs.length cb') (.slice Ak' cks.len ck') ((Tre.mk y cs cks).size : Nat)) (some ⟨y, cs, cks⟩) ∧ KL F W rest (kc.drop ((i + 1) * 6)) := by
  obtain ⟨Ab', Ak', cb', ck', kc', cs', e, h1, h2, h3⟩ := h
  have hs : (cs.length + cks.size + 1 : Nat) = (Tre.mk y cs cks).size := by simp only [Tre.size]; omega
  rw [hs] at e
  have hlen : 0 < kc.length := by
    rcases Nat.eq_zero_or_pos kc.length with h0 | h0
    · rw [List.eq_nil_of_length_eq_zero h0] at e; simp at e
    · exact h0
  obtain ⟨kb, ko, rfl, -, hc⟩ := hC hlen
  have cell : ∀ (j : Nat) (v : Value), (kc.drop (i * 6))[j]? = some v → W.cell? ⟨kb, ko + i * 6 + j, none⟩ = some v := fun j v hj => by
    rw [List.getElem?_drop] at hj
    rw [Nat.add_assoc]
    exact hc _ _ hj
  rw [e] at cell
  have hd : kc.drop ((i + 1) * 6) = cs' := by
    have h6 := congrArg (List.drop 6) e
    rw [List.drop_drop] at h6
    rw [show (i + 1) * 6 = i * 6 + 6 by omega, h6]
    rfl
  exact ⟨kb, ko, Ab', Ak', cb', ck', rfl, ⟨cell 0 _ rfl, cell 1 _ rfl, cell 2 _ rfl, cell 3 _ rfl, cell 4 _ rfl, cell 5 _ rfl⟩, ⟨Ab', Ak', cb', ck', kc', rfl, h1, h2⟩, by rw [hd]; exact h3⟩

/-- What a call hands back: a row of things; nothing that was there has changed. -/
def GaveE (xs : List (Int × Int)) (w : World) (e : Ending) (w' : World) : Prop := ∃ A c, e = .returned (.slice A xs.length c) ∧ Row w' A xs ∧ (A = none → c = 0) ∧ Below w.heap.size w w'

theorem append_after (w : World) (o : Obj) (x : Int × Int) (bs : List (Int × Int)) (A : Option Addr) (c : Nat) (hr : Row (w.alloc o) A bs) (hA : A = none → c = 0) (hl : bs.length < 1000000000) :
    ∃ v' w', (Builtin.append_ #[29, 29] 29 #[.slice (some ⟨w.heap.size + 1, 0, none⟩) 1 1, .slice A bs.length c]).run Tryd.prog ((w.alloc o).alloc (.cells #[.int .i64 x.1, .int .i64 x.2] 28)) = .ok v' w' ∧
      Own w' (w.heap.size + 1) v' (x :: bs) ∧ Below (w.heap.size + 1) (w.alloc o) w' := by
  have e : (w.alloc o).heap.size = w.heap.size + 1 := by simp
  have hb := (Below.refl (w.alloc o).heap.size (w.alloc o)).alloc (Nat.le_refl _) (.cells #[.int .i64 x.1, .int .i64 x.2] 28)
  have hown : Own ((w.alloc o).alloc (.cells #[.int .i64 x.1, .int .i64 x.2] 28)) (w.alloc o).heap.size (.slice (some ⟨(w.alloc o).heap.size, 0, none⟩) 1 1) [x] :=
    ⟨rfl, .inr ⟨(w.alloc o).heap.size, 1, #[.int .i64 x.1, .int .i64 x.2], rfl, Nat.le_refl _, World.alloc_heap_new _ _, Nat.le_refl _, by unfold maxLen; omega, rfl, rfl⟩⟩
  obtain ⟨v', w', h1, h2, h3⟩ := append_row _ (w.alloc o).heap.size _ [x] bs A c hown (hr.below hb) hA (by simp; omega) hb.size
  have h4 := below_grown hb h3 hb.size (fun g e => by simp [Value.ownBlock] at e; omega)
  rw [e] at h1 h2 h4
  exact ⟨v', w', h1, h2, h4⟩

set_option maxRecDepth 100000 in
set_option maxHeartbeats 4000000 in
theorem refAll_step (F : Nat → Prop) (n : Nat) (ih : ∀ (t : Tre), t.size < n → ∀ (V : Value) (w : World), RT F w V (some t) → Calls Tryd.prog 27 #[V] w (GaveE t.all w))
    (x1 x2 : Int) (bs : List (Int × Int)) (ks : Wood) (hn : (Tre.mk (x1, x2) bs ks).size = n) (hl : n < 268435456) (V : Value) (w : World) (h : RT F w V (some ⟨(x1, x2), bs, ks⟩)) :
    Calls Tryd.prog 27 #[V] w (GaveE (Tre.all ⟨(x1, x2), bs, ks⟩) w) := by
  obtain ⟨Ab, Ak, cb, ck, kc, rfl, hB, hK, hC, hk0⟩ := h
  have h0 := (Tre.mk (x1, x2) bs ks).size_ne
  have hkl := ks.len_le
  unfold tV
  rw [hn] at h0 ⊢
  simp only []
  have hb0 := (Below.refl w.heap.size w).alloc (Nat.le_refl _) (.cells #[.int .i64 ks.len, .int .i64 x1, .int .i64 x2, .slice Ab bs.length cb, .slice Ak ks.len ck, .int .i64 (n : Nat)] 32)
  have hX := hex_at (new_at (W := w) (o := .cells #[.int .i64 ks.len, .int .i64 x1, .int .i64 x2, .slice Ab bs.length cb, .slice Ak ks.len ck, .int .i64 (n : Nat)] 32) rfl)
  obtain ⟨v2, w2, hrun, hown, hb2⟩ := append_after w (.cells #[.int .i64 ks.len, .int .i64 x1, .int .i64 x2, .slice Ab bs.length cb, .slice Ak ks.len ck, .int .i64 (n : Nat)] 32) (x1, x2) bs Ab cb (hB.1.row.below hb0) hB.2 (by simp only [Tre.size] at hn; omega)
  have hbn : bs.length + ks.size + 1 = n := by simp only [Tre.size] at hn; omega
  have H := Lib.hid (And.intro (hK.far (Far.below hb0)) (And.intro (hC.far (Far.below hb0)) (And.intro hb0 (And.intro hX (And.intro hown (And.intro hb2 (And.intro hbn (And.intro hl hkl))))))))
  have HI := Lib.hid ih
  clear hB hK hC hk0 hb0 hX hown hb2 hn hl hkl ih hbn
  go_enter Tryd.func27, Tryd.ntmps27
  go_wp2_with (at_builtin; refine wpList_append_run rfl _ _ _ rfl _ _ _ _ rfl rfl hrun ?_)
  have hsz : (w.alloc (.cells #[.int .i64 ks.len, .int .i64 x1, .int .i64 x2, .slice Ab bs.length cb, .slice Ak ks.len ck, .int .i64 (n : Nat)] 32)).heap.size = w.heap.size + 1 := by simp
  have HS := Lib.hid hsz
  clear hsz hrun h0
  generalize w.alloc (.cells #[.int .i64 ks.len, .int .i64 x1, .int .i64 x2, .slice Ab bs.length cb, .slice Ak ks.len ck, .int .i64 (n : Nat)] 32) = w1 at *
  go_loopg [3, 4] ks.len (fun m u a wr => ∃ (i : Nat) (xs : List (Int × Int)) (rest : Wood), a = .int .i64 (i : Int) ∧ i + rest.len = ks.len ∧ m = rest.len ∧ rest.size ≤ ks.size ∧ xs ++ rest.all = (x1, x2) :: (bs ++ ks.all) ∧ KL F w1 rest (kc.drop (i * 6)) ∧ Own wr (w.heap.size + 1) u xs ∧ Below (w.heap.size + 1) w1 wr)
  case atStart => exact ⟨0, (x1, x2) :: bs, ks, rfl, by omega, rfl, Nat.le_refl _, rfl, H.out.1, H.out.2.2.2.2.1, H.out.2.2.2.2.2.1⟩
  case round =>
    obtain ⟨i, xs, rest, rfl, hi, hm, hsz, hx, hk, hown, hbe⟩ := hrel
    have d4 := (hbe.cell (p := ⟨w.heap.size, 4, none⟩) (Nat.lt_succ_self _)).trans H.out.2.2.2.1.c4
    cases rest with
    | nil =>
      simp only [Wood.len, Nat.add_zero] at hi
      have g1 : decide ((i : Int) < (ks.len : Int)) = false := by simp; omega
      have g4 : ¬ i < ks.len := by omega
      have g5 : decide (i < ks.len) = false := by simp; omega
      have A := Lib.hid (And.intro hx (And.intro hown hbe))
      clear hx hown hbe hk hi hm hsz
      go_wp2_with fail
      go_ret
      obtain ⟨hx, hown, hbe⟩ := A.out
      obtain ⟨A', c', rfl, hr, -, -, hn'⟩ := hown.form
      rw [Wood.all, List.append_nil] at hx
      have hxx : (Tre.mk (x1, x2) bs ks).all = xs := hx.symm
      rw [hxx]
      exact ⟨A', c', rfl, hr, hn', H.out.2.2.1.trans (hbe.mono (Nat.le_succ _))⟩
    | cons y cs cks rest =>
      obtain ⟨y1, y2⟩ := y
      obtain ⟨kb, ko, Ab', Ak', cb', ck', rfl, ⟨e0, e1, e2, e3, e4, e5⟩, hR, hk'⟩ := kid_at H.out.2.1 hk
      have up : ∀ b o v, w1.cell? ⟨b, o, none⟩ = some v → wr.cell? ⟨b, o, none⟩ = some v := fun b o v h => (hbe.cell (p := ⟨b, o, none⟩) (by have h9 : b < w1.heap.size := block_lt_of_cell h; have := HS.out; show b < w.heap.size + 1; omega)).trans h
      have f0 := up _ _ _ e0
      have f1 := up _ _ _ e1
      have f2 := up _ _ _ e2
      have f3 := up _ _ _ e3
      have f4 := up _ _ _ e4
      have f5 := up _ _ _ e5
      have hbe' : Below w1.heap.size w1 wr := by rw [HS.out]; exact hbe
      have HR := Lib.hid (hR.far (Far.below hbe'))
      simp only [Wood.len] at hi
      have hlt : i < ks.len := by omega
      have hks : ks.len < 268435456 := by have := H.out; omega
      have g1 : decide ((i : Int) < (ks.len : Int)) = true := by simp; omega
      have g2 : (0 : Int) ≤ (i : Int) := by omega
      have g3 : (i : Int) < (ks.len : Int) := by omega
      have g4 : i < ks.len := hlt
      have g5 : decide (i < ks.len) = true := by simp; omega
      have w1' : IntKind.i64.wrap ((i : Int) + 1) = (i : Int) + 1 := by rw [IntKind.wrap_i64]; omega
      have hlen : (Tre.mk (y1, y2) cs cks).size < n ∧ xs.length + (Tre.mk (y1, y2) cs cks).all.length < 536870912 ∧ rest.size ≤ ks.size := by
        have h1 := congrArg List.length hx
        have h2 := H.out.2.2.2.2.2.2
        simp only [Wood.all, Wood.size, List.length_append, List.length_cons, Wood.all_length, Tre.size, Tre.all] at h1 hsz ⊢
        omega
      have HC := Lib.hid (HI.out ⟨(y1, y2), cs, cks⟩ hlen.1)
      have A := Lib.hid (And.intro hi (And.intro hm (And.intro hx (And.intro hk' (And.intro hown (And.intro hbe hlen))))))
      clear up hi hm hsz hx hk hk' hown hbe hlen e0 e1 e2 e3 e4 e5 hR hbe' hlt hks
      generalize hzz : (Tre.mk (y1, y2) cs cks).size = z at *
      have HZ := Lib.hid hzz
      clear hzz
      go_wp2_with fail
      ((with_reducible refine (HC.out _ _ (by have := HR.out; simp only [tV] at this; exact this)).mono ?_); rintro e w3 ⟨A3, c3, rfl, hr3, hn3, hb3⟩)
      obtain ⟨hi, hm, hx, hk', hown, hbe, hlen⟩ := A.out
      obtain ⟨v4, w4, hrun, hown4, hg4⟩ := append_row w3 (w.heap.size + 1) _ xs (Tre.mk (y1, y2) cs cks).all A3 c3 (hown.below hb3) hr3 hn3 (by omega) (by have := hbe.size; have := hb3.size; have := HS.out; omega)
      have hbw : w.heap.size + 1 ≤ wr.heap.size := by have := hbe.size; have := HS.out; omega
      have hb4 : Below (w.heap.size + 1) wr w4 := below_grown (hb3.mono hbw) hg4 (by have := hb3.size; omega) (fun g hg => hown.block g hg)
      have A4 := Lib.hid (And.intro hi (And.intro hm (And.intro hx (And.intro hk' (And.intro hown4 (And.intro (hbe.trans hb4) hlen))))))
      clear hi hm hx hk' hown hbe hlen hr3 hn3 hb3 hown4 hg4 hbw hb4 A HC HR f0 f1 f2 f3 f4 f5 d4
      go_wp2_with (at_builtin; refine wpList_append_run rfl _ _ _ rfl _ _ _ _ rfl rfl hrun ?_)
      obtain ⟨hi, hm, hx, hk', hown4, hbe, hlen⟩ := A4.out
      go_roundg rest.len
      case measure => rw [hm]; simp [Wood.len]
      case rel => exact ⟨i + 1, xs ++ (Tre.mk (y1, y2) cs cks).all, rest, by congr 1, by omega, rfl, hlen.2.2, by rw [← hx]; simp [Wood.all, Tre.all], hk', hown4, hbe⟩

/-- All things of a tree, or none. -/
theorem refAll_some (F : Nat → Prop) (n : Nat) : ∀ (t : Tre), t.size = n → n < 268435456 → ∀ (V : Value) (w : World), RT F w V (some t) → Calls Tryd.prog 27 #[V] w (GaveE t.all w) := by
  induction n using Nat.strongRecOn with
  | ind n ih =>
    intro t hn hl V w h
    obtain ⟨⟨x1, x2⟩, bs, ks⟩ := t
    exact refAll_step F n (fun t' hlt V' w' h' => ih _ hlt t' rfl (by omega) V' w' h') x1 x2 bs ks hn hl V w h
set_option maxRecDepth 100000 in
theorem refAll_any (F : Nat → Prop) (t : Option Tre) (hl : osize t < 268435456) (V : Value) (w : World) (h : RT F w V t) : Calls Tryd.prog 27 #[V] w (GaveE (oall t) w) := by
  cases t with
  | some t => exact refAll_some F _ t rfl hl V w h
  | none =>
    obtain rfl := h
    unfold tV
    go_enter Tryd.func27, Tryd.ntmps27
    go_wp2_with fail
    go_ret
    exact ⟨none, 0, rfl, Row.nil _ _, fun _ => rfl, (Below.refl _ _).alloc (Nat.le_refl _) _⟩

end Go.Proofs.YtlkpmafgokoaiaaDoor
