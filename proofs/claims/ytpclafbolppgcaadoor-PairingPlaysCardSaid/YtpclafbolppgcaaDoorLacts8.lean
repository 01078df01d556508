/-
  An argument that is a slice of acts (three bytes, an element and a row of elements each), opened to their numbers and rows; are acts few. No conditions.
-/
import Derived.Test.YtpclafbolppgcaaDoorMd
import Derived.Test.YtpclafbolppgcaaDoorPd7
import Derived.Lib.SmallJoins
import Derived.Deep.LoopGhost
namespace Go.Proofs.YtpclafbolppgcaaDoor
open Go.ChangeShapes Go.WideShapes Go.ChangeAt Go.RowKit Go.Deep Go.Joins Go.Sort

/-- An act: its kind, which two heaps, the element, the row of elements. -/
structure ActH where
  k : Nat
  a : Nat
  b : Nat
  x : Int × Int
  A : Option Addr
  l : List (Int × Int)
  c : Nat
deriving Inhabited
/-- What a byte, an element and a row may be. -/
def ActH.ok (y : ActH) : Prop := y.k < 256 ∧ y.a < 256 ∧ y.b < 256 ∧ fits [y.x] ∧ fits y.l

/-- The slice at A reads as n acts. -/
def ActRowH (w : World) (A : Option Addr) (n : Nat) (X : Nat → ActH) : Prop :=
  0 < n → ∃ b o, A = some ⟨b, o, none⟩ ∧ ∀ i, i < n → (w.cell? ⟨b, o + i * 6, none⟩ = some (.int .u8 (X i).k) ∧ w.cell? ⟨b, o + i * 6 + 1, none⟩ = some (.int .u8 (X i).a) ∧
    w.cell? ⟨b, o + i * 6 + 2, none⟩ = some (.int .u8 (X i).b) ∧ w.cell? ⟨b, o + i * 6 + 3, none⟩ = some (.int .i64 (X i).x.1) ∧ w.cell? ⟨b, o + i * 6 + 4, none⟩ = some (.int .i64 (X i).x.2) ∧
    w.cell? ⟨b, o + i * 6 + 5, none⟩ = some (.slice (X i).A (X i).l.length (X i).c)) ∧ Row w (X i).A (X i).l

section
variable {H : Type} {enc : TypeId × Value → H} {w : World} {base : Nat} {held : Bool}
set_option maxRecDepth 100000 in
/-- A row of elements in a cell, opened. -/
theorem rows_opens (fuel : Nat) (cs : List Value) (x : DataW H × List MemPlace) (hf : DataW.trod enc Tryd.prog w base (fun _ => true) held fuel 36 cs = some x) :
    ∃ (A : Option Addr) (xs : List (Int × Int)) (c : Nat), cs = [.slice A xs.length c] ∧ Row w A xs ∧ xs.length ≤ c ∧ c ≤ 9223372036854775807 ∧ (A = none → c = 0) ∧
      ∀ e ∈ xs, (-9223372036854775808 ≤ e.1 ∧ e.1 ≤ 9223372036854775807) ∧ (-9223372036854775808 ≤ e.2 ∧ e.2 ≤ 9223372036854775807) := by
  have hs := Tryd.underlying32
  rcases open_slice_pairs (enc := enc) (w := w) (base := base) (held := held) Tryd.underlying36 hs cellsElem (by kernel_rfl) (by kernel_rfl) (by kernel_rfl) (by kernel_rfl) hf with ⟨hcs, -⟩ | ⟨a, len, cap, m, n, V0, V1, D0, D1, P0, P1, hcs, -, hlc, hcm, hm, -, hall⟩
  · rw [hcs]
    exact ⟨none, [], 0, rfl, Row.nil _ _, Nat.le_refl _, by omega, fun _ => rfl, by simp⟩
  · rw [hcs]
    have hlm : len ≤ m := by rw [hm]; simp; exact hlc
    have hel : ∀ i, i < len → V0 i = .int .i64 (numV (V0 i)) ∧ V1 i = .int .i64 (numV (V1 i)) ∧ (-9223372036854775808 ≤ numV (V0 i) ∧ numV (V0 i) ≤ 9223372036854775807) ∧ (-9223372036854775808 ≤ numV (V1 i) ∧ numV (V1 i) ≤ 9223372036854775807) := by
      intro i hi
      obtain ⟨-, -, t0, t1⟩ := hall i (by omega)
      obtain ⟨x, ex, -, wx⟩ := DataW.trod_int Tryd.underlying2 t0
      obtain ⟨y, ey, -, wy⟩ := DataW.trod_int Tryd.underlying2 t1
      injection ex with ex
      injection ey with ey
      rw [ex, ey]
      exact ⟨rfl, rfl, in_of_wf wx, in_of_wf wy⟩
    refine ⟨some a, (List.range len).map fun i => (numV (V0 i), numV (V1 i)), cap, by simp, ?_, by simpa using hlc, by unfold maxLen at hcm; omega, (fun e => by cases e), ?_⟩
    · intro hpos
      have hpos' : 0 < len := by simpa using hpos
      have h0 := (hall 0 (by omega)).1
      have ea : a.add (0 * 2) = a := by unfold Addr.add; simp
      rw [ea] at h0
      have ha := plain_of_cell h0
      refine ⟨a.block, a.off, by rw [← ha], fun j v hj => ?_⟩
      have hjl : j < len * 2 := by
        have h1 := (List.getElem?_eq_some_iff.1 hj).1
        rw [cellsE_length] at h1
        simpa using h1
      have hi : j / 2 < len := by omega
      have hc := cellsE_at ((List.range len).map fun i => (numV (V0 i), numV (V1 i))) (j / 2) (by simpa using hi)
      obtain ⟨q0, q1, -, -⟩ := hall (j / 2) (by omega)
      obtain ⟨n0, n1, -, -⟩ := hel (j / 2) hi
      rw [ha, add_plain] at q0 q1
      simp only [List.getElem_map, List.getElem_range] at hc
      rcases Nat.mod_two_eq_zero_or_one j with hz | hz
      · have ej : j / 2 * 2 = j := by omega
        rw [ej] at hc q0
        have := hc.1.symm.trans hj
        injection this with this
        rw [← this, ← n0]
        exact q0
      · have ej : j / 2 * 2 + 1 = j := by omega
        rw [ej] at hc q1
        have := hc.2.symm.trans hj
        injection this with this
        rw [← this, ← n1]
        exact q1
    · intro e he
      simp only [List.mem_map, List.mem_range] at he
      obtain ⟨i, hi, rfl⟩ := he
      exact ⟨(hel i hi).2.2.1, (hel i hi).2.2.2⟩

theorem cellsI64 : Tryd.prog.cellsOf 2 = 1 := by kernel_rfl
theorem cellsByte : Tryd.prog.cellsOf 5 = 1 := by kernel_rfl
theorem cellsRow : Tryd.prog.cellsOf 36 = 1 := by kernel_rfl
theorem cellsAct : Tryd.prog.cellsOf 38 = 6 := by kernel_rfl

theorem act_opens (fuel : Nat) (cs : List Value) (x : DataW H × List MemPlace) (hl : cs.length = 6) (h : DataW.trod enc Tryd.prog w base (fun _ => true) held fuel 38 cs = some x) :
    ∃ y : ActH, cs = [.int .u8 y.k, .int .u8 y.a, .int .u8 y.b, .int .i64 y.x.1, .int .i64 y.x.2, .slice y.A y.l.length y.c] ∧ y.ok ∧ Row w y.A y.l := by
  match cs, hl with
  | [v0, v1, v2, v3, v4, v5], _ =>
  obtain ⟨xs, n, -, rfl, -, hlen, hf⟩ := DataW.trod_struct Tryd.underlying38 h
  match xs, hlen with
  | [y0, y1, y2, y3, y4], _ =>
  have h0 := hf 0 _ rfl
  have h1 := hf 1 _ rfl
  have h2 := hf 2 _ rfl
  have h3 := hf 3 _ rfl
  have h4 := hf 4 _ rfl
  simp [cellsElem, cellsByte, cellsRow] at h0 h1 h2 h3 h4
  obtain ⟨z0, z1, n0, -, -, k0, k1⟩ := trod_struct2 Tryd.underlying32 h3
  simp [cellsI64] at k0 k1
  obtain ⟨p, e0, -, w0⟩ := DataW.trod_int Tryd.underlying5 h0
  obtain ⟨q, e1, -, w1⟩ := DataW.trod_int Tryd.underlying5 h1
  obtain ⟨r, e2, -, w2⟩ := DataW.trod_int Tryd.underlying5 h2
  obtain ⟨s, e3, -, w3⟩ := DataW.trod_int Tryd.underlying2 k0
  obtain ⟨z, e4, -, w4⟩ := DataW.trod_int Tryd.underlying2 k1
  obtain ⟨Al, l, cl, e5, hr5, -, -, -, hf5⟩ := rows_opens _ _ _ h4
  obtain ⟨p, rfl, hp⟩ := byte_of_wf w0
  obtain ⟨q, rfl, hq⟩ := byte_of_wf w1
  obtain ⟨r, rfl, hr⟩ := byte_of_wf w2
  have hs := in_of_wf w3
  have hz := in_of_wf w4
  injection e0 with e0
  injection e1 with e1
  injection e2 with e2
  injection e3 with e3
  injection e4 with e4
  injection e5 with e5
  subst e0 e1 e2 e3 e4 e5
  exact ⟨⟨p, q, r, (s, z), Al, l, cl⟩, rfl, ⟨hp, hq, hr, fun e he => by simp at he; subst he; exact ⟨hs, hz⟩, hf5⟩, hr5⟩

set_option maxRecDepth 100000 in
theorem open_acts {r : Reach} {b0 : Nat} {v : Value} {d : DataW H} {p : List MemPlace} (hv : Value.okWide Tryd.prog w r b0 22 v) (h : DataW.Trod enc Tryd.prog w base (fun _ => true) held 22 v d p) :
    ∃ (A : Option Addr) (n c : Nat) (X : Nat → ActH), v = .slice A n c ∧ ActRowH w A n X ∧ n ≤ 9223372036854775807 ∧ ∀ i, i < n → (X i).ok := by
  obtain ⟨A, n, c, V, rfl, hr, hnc, hc, -, hg⟩ := open_flat 6 (by omega) Tryd.underlying22 cellsAct (fun cs => ∃ y : ActH, cs = [.int .u8 y.k, .int .u8 y.a, .int .u8 y.b, .int .i64 y.x.1, .int .i64 y.x.2, .slice y.A y.l.length y.c] ∧ y.ok ∧ Row w y.A y.l) (fun fuel cs x hl h => act_opens fuel cs x hl h) hv h
  obtain ⟨X, hX⟩ := choose_lt hg
  refine ⟨A, n, c, X, rfl, fun hpos => ?_, by omega, fun i hi => (hX i hi).2.1⟩
  obtain ⟨b, o, e, hcell⟩ := hr hpos
  refine ⟨b, o, e, fun i hi => ⟨?_, (hX i hi).2.2⟩⟩
  have hz := (hcell i hi).2
  rw [(hX i hi).1] at hz
  exact ⟨hz 0 _ rfl, hz 1 _ rfl, hz 2 _ rfl, hz 3 _ rfl, hz 4 _ rfl, hz 5 _ rfl⟩
end

/-- Are acts few: thirty at most, each with a row of forty at most? -/
def fewB (n : Nat) (X : Nat → ActH) : Bool := (List.range n).all (fun i => decide ((X i).l.length ≤ 40)) && decide (n ≤ 30)
theorem fewB_true {n : Nat} {X : Nat → ActH} (h : fewB n X = true) : n ≤ 30 ∧ ∀ i, i < n → (X i).l.length ≤ 40 := by
  unfold fewB at h
  simp at h
  exact ⟨h.2, h.1⟩
theorem fewB_all {n : Nat} {X : Nat → ActH} (h : ∀ i, i < n → (X i).l.length ≤ 40) : fewB n X = decide ((n : Int) ≤ 30) := by
  unfold fewB
  rw [show (List.range n).all (fun i => decide ((X i).l.length ≤ 40)) = true by simpa using h, Bool.true_and]
  congr 1
  simp; omega
theorem fewB_big {n j : Nat} {X : Nat → ActH} (hj : j < n) (h : 40 < (X j).l.length) : fewB n X = false := by
  unfold fewB
  rw [show (List.range n).all (fun i => decide ((X i).l.length ≤ 40)) = false by simp; exact ⟨j, hj, h⟩, Bool.false_and]

set_option maxRecDepth 100000 in
set_option maxHeartbeats 1000000 in
/-- Are acts few? -/
theorem few_any (A : Option Addr) (n c : Nat) (X : Nat → ActH) (w0 w : World) (hr : ActRowH w0 A n X) (hn : n ≤ 9223372036854775807) (hb : Below w0.heap.size w0 w) :
    Calls Tryd.prog 15 #[.slice A n c] w fun e w' => e = .returned (.bool (fewB n X)) ∧ Below w.heap.size w w' := by
  have HR := Lib.hid (And.intro hr hb)
  clear hr hb
  go_enter Tryd.func15, Tryd.ntmps15
  go_wp2_with fail
  go_loopg [3] n (fun k i wr => ∃ j : Nat, i = .int .i64 (j : Int) ∧ j + k = n ∧ w = wr ∧ ∀ i, i < j → (X i).l.length ≤ 40)
  case atStart => exact ⟨0, rfl, by omega, rfl, fun i hi => by omega⟩
  case round =>
    obtain ⟨j, rfl, hj, hw, hall⟩ := hrel
    subst hw
    by_cases hlt : j < n
    · obtain ⟨b0, o, rfl, hrow⟩ := HR.out.1 (by omega)
      have hc := (hrow j hlt).1.2.2.2.2.2
      have e5 := (HR.out.2.cell (p := ⟨b0, o + j * 6 + 5, none⟩) (block_lt_of_cell hc)).trans hc
      have q1 : (j : Int) < (n : Int) := by omega
      have q3 : decide ((j : Int) < (n : Int)) = true := by simp; omega
      have HA := Lib.hid hall
      obtain ⟨m, hm⟩ : ∃ m, m = (X j).l.length := ⟨_, rfl⟩
      rw [← hm] at e5
      have HM := Lib.hid hm
      clear hrow hc hm hall
      by_cases hbig : 40 < m
      · have r1 : decide ((40 : Int) < (m : Int)) = true := by simp; omega
        have r2 : (40 : Int) < (m : Int) := by omega
        go_wp2_with fail
        go_ret
        exact ⟨by rw [fewB_big hlt (by rw [← HM.out]; exact hbig)]; rfl, Below.refl _ _⟩
      · have r1 : decide ((40 : Int) < (m : Int)) = false := by simp; omega
        have r2 : ¬ (40 : Int) < (m : Int) := by omega
        go_wp2_with fail
        go_roundg (n - 1 - j)
        case measure => omega
        case rel => exact ⟨j + 1, by first | rfl | (congr 1; unfold wrap64; omega), by omega, rfl, fun i hi => by by_cases e : i = j; (subst e; have := HM.out; omega); exact HA.out i (by omega)⟩
    · have q1 : ¬ (j : Int) < (n : Int) := by omega
      have q3 : decide ((j : Int) < (n : Int)) = false := by simp; omega
      go_wp2_with fail
      go_ret
      exact ⟨by rw [fewB_all (X := X) (n := n) (fun i hi => hall i (by omega))]; rfl, Below.refl _ _⟩

theorem few_is (A : Option Addr) (n c : Nat) (X : Nat → ActH) (w0 w : World) (hr : ActRowH w0 A n X) (hn : n ≤ 9223372036854775807) (hb : Below w0.heap.size w0 w) (b : Bool) (h : fewB n X = b) :
    Calls Tryd.prog 15 #[.slice A n c] w fun e w' => e = .returned (.bool b) ∧ Below w.heap.size w w' := by
  subst h; exact few_any A n c X w0 w hr hn hb

end Go.Proofs.YtpclafbolppgcaaDoor
