/-
  Contract of a skew binomial heap's Show: its text; nothing that was there has changed. Conditions: numbers of 64 bits, fewer than 2 to the 28th elements, the library's table as it is laid.
-/
import Derived.Test.YtaeainnkhjnlaaaGreatDoorSb3
import Derived.Test.YtaeainnkhjnlaaaGreatDoorTc
import Derived.Test.YtaeainnkhjnlaaaGreatDoorShelf
import Derived.Deep.AppendLies
import Derived.Deep.LoopGhost
namespace Go.Proofs.YtaeainnkhjnlaaaGreatDoor.Hp
open Go.Sort Go.RowKit

theorem tre_show_length (t : Tre) (h : fits t.all) : t.show.length ≤ 46 * t.size := by
  have h0 := h.cons
  have h1 := textOf_length t.x.1 t.x.2 h0.1.1 h0.1.2
  have h2 := besideText_length t.bs h0.2.append.1
  have h3 := t.ks.show_length h0.2.append.2
  simp only [Tre.show, Tre.size, List.length_append, List.length_cons, List.length_nil] at *
  omega
theorem bTail_length : ∀ l : List Tre, fits (bAll l) → (bTail l).length ≤ 47 * bSize l
  | [], _ => by simp [bTail]
  | t :: r, h => by
    have h1 := tre_show_length t h.append.1
    have h2 := bTail_length r h.append.2
    have h3 : 1 ≤ t.size := by simp only [Tre.size]; omega
    simp only [bTail, bSize, List.length_append, List.length_cons]
    omega
theorem join_show : ∀ (r : List Tre) (t : Tre), [32].intercalate ((t :: r).map Tre.show) = t.show ++ bTail r
  | [], t => by simp [List.intercalate, bTail]
  | u :: r, t => by
    have ih := join_show r u
    simp only [List.map_cons, List.intercalate] at ih ⊢
    rw [List.intersperse_cons_cons]
    simp only [List.flatten_cons] at ih ⊢
    rw [ih]
    simp [bTail]
/-- A tree's text as a value. -/
def strT (t : Tre) : Value := .string ⟨t.show.toArray⟩
/-- Texts in a slice of the call's own. -/
abbrev OwnS (w : World) (base : Nat) (v : Value) (ts : List Tre) : Prop := Mine strT 9 w base v ts
theorem infoStr : (Tryz.prog.info? 9).map (fun i => (i.zero, i.size, i.bytes)) = some (some (.string ⟨#[]⟩), 1, 16) := by kernel_rfl
theorem append_str (w : World) (base : Nat) (v : Value) (ts : List Tre) (t : Tre) (hown : OwnS w base v ts) (hlen : ts.length < 1073741824) (hb : base ≤ w.heap.size) :
    ∃ v' w', (Builtin.append_ #[124, 124] 124 #[v, .slice (some ⟨w.heap.size, 0, none⟩) 1 1]).run Tryz.prog (w.alloc (.cells #[.string ⟨t.show.toArray⟩] 9)) = .ok v' w' ∧ OwnS w' base v' (ts ++ [t]) ∧ Below base w w' := by
  obtain ⟨i0, hi, hz0, hz1, hz2⟩ := info_parts infoStr
  have hown' : (w.alloc (.cells #[.string ⟨t.show.toArray⟩] 9)).ownsRow base 9 1 v ts.length (ts.map strT) := World.ownsRow.alloc hown _
  obtain ⟨g, c, w', h1, h2, h3, -, -⟩ := run_append_lies (P := Tryz.prog) (w := w.alloc (.cells #[.string ⟨t.show.toArray⟩] 9)) 124 124 base 9 i0 _ 1 16 Tryz.underlying124 hi hz0 hz1 hz2 rfl (by omega)
    _ ts.length (ts.map strT) hown' ⟨w.heap.size, 0, none⟩ 1 1 [.string ⟨t.show.toArray⟩] rfl
    (fun j u hu => by
      rw [add_flat]
      have e1 : (w.alloc (.cells #[.string ⟨t.show.toArray⟩] 9)).heap[w.heap.size]? = some (.cells #[.string ⟨t.show.toArray⟩] 9 (0, 0)) := new_at rfl
      unfold World.cell?
      rw [e1]
      simpa using hu) (by intro u hu; simp at hu; subst hu; rfl) (by omega) (by unfold maxLen; omega) (by omega) (by simp; omega) _ rfl
  refine ⟨_, w', h1, ?_, below_grown ((Below.refl _ _).alloc hb _) h3 (by simp; omega) (fun g hg => hown.block g hg)⟩
  unfold OwnS Mine
  rw [List.length_append, List.map_append]
  exact h2

theorem fits_at {l : List Tre} (h : fits (bAll l)) {t : Tre} (ht : t ∈ l) : fits t.all := by
  induction l with
  | nil => cases ht
  | cons u r ih =>
    rcases List.mem_cons.1 ht with rfl | hr
    · exact h.append.1
    · exact ih h.append.2 hr
theorem size_at {l : List Tre} {t : Tre} (ht : t ∈ l) : t.size ≤ bSize l := by
  induction l with
  | nil => cases ht
  | cons u r ih =>
    simp only [bSize]
    rcases List.mem_cons.1 ht with rfl | hr
    · omega
    · have := ih hr; omega

theorem join_any (v : Value) (ts : List Tre) (base : Nat) (w : World) (hown : OwnS w base v ts) (hne : ts ≠ []) (hf : fits (bAll ts)) (hs : bSize ts < 268435456) :
    Calls Tryz.prog 71 #[v, .string ⟨#[32]⟩] w fun e w' => e = .returned (.string ⟨(bShow ts).toArray⟩) ∧ Below w.heap.size w w' := by
  obtain ⟨A, c, rfl, hr, hc, -, -⟩ := hown.form
  have hpos : 0 < ts.length := List.length_pos_iff.2 hne
  obtain ⟨b, o, rfl, hcell⟩ := hr hpos
  have hbs : bShow ts = [32].intercalate (ts.map Tre.show) := by
    cases ts with
    | nil => exact absurd rfl hne
    | cons t r => rw [join_show]; rfl
  have hmap : (ts.map (fun t => (⟨t.show.toArray⟩ : ByteArray))).map (·.data.toList) = ts.map Tre.show := by
    rw [List.map_map]; rfl
  have hlen : (bShow ts).length ≤ 47 * bSize ts := by
    cases ts with
    | nil => exact absurd rfl hne
    | cons t r =>
      have h1 := tre_show_length t hf.append.1
      have h2 := bTail_length r hf.append.2
      simp only [bShow, bSize, List.length_append]
      omega
  have hl := len_bSize ts
  have h := Tryz.strings_Join b o c (ts.map (fun t => (⟨t.show.toArray⟩ : ByteArray))) ⟨#[32]⟩ w
    (fun j x hx => by
      rw [List.getElem?_map] at hx
      cases ht : ts[j]? with
      | none => rw [ht] at hx; cases hx
      | some t =>
        rw [ht] at hx
        obtain ⟨hj, rfl⟩ := List.getElem?_eq_some_iff.1 ht
        cases hx
        exact hcell j hj)
    (block_lt_of_cell (hcell 0 hpos)) (by rw [List.length_map]; omega) (by rw [List.length_map]; exact hc)
    (by rw [hmap]; show ([32].intercalate (ts.map Tre.show)).length ≤ _; rw [← hbs]; omega)
  rw [hmap, List.length_map] at h
  refine h.mono fun e w' ⟨he, hb⟩ => ⟨?_, hb⟩
  rw [he, hbs]
  rfl

set_option maxRecDepth 100000 in
set_option maxHeartbeats 2000000 in
theorem show_any (t : Lh) (p : HP) (w : World) (he : Env w) (h : LAt w t p) (hf : fits t.all) (hs : t.size < 268435456) : Calls Tryz.prog 36 #[hp p] w fun e w' => e = .returned (.string ⟨t.show.toArray⟩) ∧ Below w.heap.size w w' := by
  obtain ⟨ts⟩ := t
  obtain ⟨ps, n, hn, hnl, hl, ht⟩ := h.list
  obtain ⟨q, pn⟩ := p
  change pn = (n : Int) at hn
  subst hn
  have hb1 : Below w.heap.size w (w.alloc (.cells #[.pointer q, .int .i64 (n : Int)] 73)) := (Below.refl _ w).alloc (Nat.le_refl _) _
  have hpl := ht.length
  have hlb := len_bSize ts
  have B1 := Lib.hid (Box2.new w 73 (.pointer q) (.int .i64 (n : Int)))
  have H := Lib.hid (And.intro (hl.stay hb1) (And.intro (ht.kp (Kpt.below hb1)) (And.intro hb1 (And.intro he (And.intro (show n = ts.length from hnl) (And.intro (show fits (bAll ts) from hf) (And.intro (show bSize ts < 268435456 from hs) (And.intro hpl hlb))))))))
  clear h hl ht hb1 he hf hs hnl hpl hlb
  go_enter Tryz.func36, Tryz.ntmps36
  go_wp2_with fail
  ((with_reducible refine (Lt.len_l (n := n)).mono ?_); rintro e w2 ⟨rfl, hb2⟩)
  by_cases h0 : n = 0
  · have q0 : ((n : Int) == 0) = true := by simp; omega
    have q1 : (n : Int) = 0 := by omega
    have hz : ts = [] := List.eq_nil_of_length_eq_zero (by have := H.out; omega)
    have Y := Lib.hid (And.intro hz (H.out.2.2.1.trans (hb2.mono H.out.2.2.1.size)))
    clear hz hb2
    go_wp2_with fail
    go_ret
    exact ⟨by have := Y.out.1; subst this; rfl, Y.out.2⟩
  have q0 : ((n : Int) == 0) = false := by simp; omega
  have q1 : ¬ (n : Int) = 0 := by omega
  have q2 : ¬ n = 0 := h0
  have B2 := Lib.hid (B1.out.stay hb2)
  have c0 := B2.out.c0
  have c1 := B2.out.c1
  have H2 := Lib.hid (And.intro (H.out.1.stay hb2) (And.intro (H.out.2.1.kp (Kpt.below hb2)) (H.out.2.2.1.trans (hb2.mono H.out.2.2.1.size))))
  clear hb2 h0
  go_wp2_with fail
  ((with_reducible refine (Lt.all_l H2.out.1).mono ?_); rintro e w3 ⟨A, cc, rfl, -, hr, hnc, hb3⟩)
  have hb3' := H2.out.2.2.trans (hb3.mono H2.out.2.2.size)
  obtain ⟨b, o, rfl⟩ := row_some hr (by have := H.out; omega)
  have X0 := Lib.hid (And.intro hr (And.intro (H2.out.2.1.kp (Kpt.below hb3)) hb3'))
  clear hr hnc hb3 hb3' c0 c1
  go_wp2_with fail
  go_loopg [3, 14] n (fun k v iv wr => ∃ i : Nat, iv = .int .i64 (i : Int) ∧ i + k = n ∧ OwnS wr w3.heap.size v (ts.take i) ∧ Below w3.heap.size w3 wr)
  case atStart => exact ⟨0, rfl, by omega, Mine.none _ _ _, Below.refl _ _⟩
  case round =>
    obtain ⟨i, rfl, hi, hown, hbe⟩ := hrel
    by_cases hlt : i < n
    · have hil : i < ts.length := by have := H.out.2.2.2.2.1; omega
      obtain ⟨a, ha, hta⟩ := X0.out.2.1.at (List.getElem?_eq_getElem hil)
      have hmem : ts[i] ∈ ts := List.getElem_mem hil
      have htk : ts.take (i + 1) = ts.take i ++ [ts[i]] := List.take_succ_eq_append_getElem hil
      have hx := (hbe.cell (block_lt_of_cell (row_ptr X0.out.1 ha))).trans (row_ptr X0.out.1 ha)
      have g1 : decide ((i : Int) < (n : Int)) = true := by simp; omega
      have g2 : (i : Int) < (n : Int) := by omega
      have g3 : (0 : Int) ≤ (i : Int) := by omega
      have hft := fits_at H.out.2.2.2.2.2.1 hmem
      have hsz := size_at hmem
      generalize ts[i] = t at *
      have X := Lib.hid (And.intro hown (And.intro hbe (And.intro hta (And.intro htk (And.intro (show fits (oall (some t)) from hft) (And.intro hsz hi))))))
      clear hown hbe hta htk hft hsz hi hil ha hmem
      go_wp2_with fail
      ((with_reducible refine (Go.Proofs.YtaeainnkhjnlaaaGreatDoor.show_any a (some t) _ ((H.out.2.2.2.1.below X0.out.2.2).below X.out.2.1) (X.out.2.2.1.stay X.out.2.1) X.out.2.2.2.2.1 (by have := X.out; have := H.out; simp only [osize]; omega)).mono ?_); rintro e w4 ⟨rfl, hb4⟩)
      rw [show oshow (some t) = t.show from rfl]
      have hlen : (ts.take i).length < 1073741824 := by rw [List.length_take]; have := H.out; omega
      have hb5 := X.out.2.1.trans (hb4.mono X.out.2.1.size)
      obtain ⟨v3, w5, hrun, hown3, hb6⟩ := append_str w4 w3.heap.size _ (ts.take i) t (X.out.1.stay hb4) hlen hb5.size
      have HR := Lib.hid hrun
      have Y := Lib.hid (And.intro hown3 (hb5.trans hb6))
      clear hb4 hlen hb5 hrun hown3 hb6
      go_wp2_with (at_builtin; refine wpList_append_run rfl _ _ _ rfl _ _ _ _ rfl rfl HR.out ?_)
      go_roundg (n - 1 - i)
      case measure => have := X.out.2.2.2.2.2.2; omega
      case rel => exact ⟨i + 1, by first | rfl | (congr 1; have := H.out; first | (unfold wrap64; omega) | (rw [IntKind.wrap_i64]; omega)), by have := X.out.2.2.2.2.2.2; omega, X.out.2.2.2.1 ▸ Y.out.1, Y.out.2⟩
    · have hin : i = n := by omega
      have g1 : decide ((i : Int) < (n : Int)) = false := by simp; omega
      have g2 : ¬ (i : Int) < (n : Int) := by omega
      have htk : ts.take i = ts := by rw [hin, H.out.2.2.2.2.1, List.take_length]
      rw [htk] at hown
      have hne : ts ≠ [] := by intro e; have := H.out.2.2.2.2.1; rw [e] at this; simp at this; omega
      have X := Lib.hid (And.intro hown (And.intro hbe hne))
      clear hne
      clear hown hbe htk hi
      go_wp2_with fail
      ((with_reducible refine (join_any _ ts w3.heap.size _ X.out.1 X.out.2.2 H.out.2.2.2.2.2.1 H.out.2.2.2.2.2.2.1).mono ?_); rintro e w4 ⟨rfl, hb4⟩)
      have Y := Lib.hid (X0.out.2.2.trans ((X.out.2.1.trans (hb4.mono X.out.2.1.size)).mono X0.out.2.2.size))
      clear hb4
      go_wp2_with fail
      go_ret
      exact ⟨rfl, Y.out⟩

end Go.Proofs.YtaeainnkhjnlaaaGreatDoor.Hp
