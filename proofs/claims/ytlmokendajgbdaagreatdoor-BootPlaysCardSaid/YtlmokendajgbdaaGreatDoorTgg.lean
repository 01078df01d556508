/-
  An argument that is a slice of acts (three bytes, an element and a row of elements each), opened to their numbers and rows; are acts few. No conditions.
  Columns: slices of the call's own whose things, one cell each, are what some data so far are at: what keeps them, what stands at a place, one thing more. No conditions beyond what each theorem says.
  A cell of a column: what it holds, that it stays. No conditions beyond what each theorem says.
-/
import Derived.Test.YtlmokendajgbdaaGreatDoorMd
import Derived.Test.YtlmokendajgbdaaGreatDoorMc
import Derived.Test.YtlmokendajgbdaaGreatDoorMa
import Derived.Lib.SmallJoins
import Derived.Deep.LoopGhost
import Derived.Test.YtlmokendajgbdaaGreatDoorMb
import Derived.RangeFuncRecord
namespace Go.Proofs.YtlmokendajgbdaaGreatDoor
open Go.ChangeShapes Go.WideShapes Go.ChangeAt Go.RowKit Go.Deep Go.Joins Go.Sort

/-- An act: its kind, which two heaps, the element, the row of elements. -/
structure ActH where
  k : Nat
  a : Nat
  b : Nat
  x : Int × Int
  A : Option Addr
  l : List (Int × Int)
  c : Nat
deriving Inhabited
/-- What a byte, an element and a row may be. -/
def ActH.ok (y : ActH) : Prop := y.k < 256 ∧ y.a < 256 ∧ y.b < 256 ∧ fits [y.x] ∧ fits y.l

/-- The slice at A reads as n acts. -/
def ActRowH (w : World) (A : Option Addr) (n : Nat) (X : Nat → ActH) : Prop :=
  0 < n → ∃ b o, A = some ⟨b, o, none⟩ ∧ ∀ i, i < n → (w.cell? ⟨b, o + i * 6, none⟩ = some (.int .u8 (X i).k) ∧ w.cell? ⟨b, o + i * 6 + 1, none⟩ = some (.int .u8 (X i).a) ∧
    w.cell? ⟨b, o + i * 6 + 2, none⟩ = some (.int .u8 (X i).b) ∧ w.cell? ⟨b, o + i * 6 + 3, none⟩ = some (.int .i64 (X i).x.1) ∧ w.cell? ⟨b, o + i * 6 + 4, none⟩ = some (.int .i64 (X i).x.2) ∧
    w.cell? ⟨b, o + i * 6 + 5, none⟩ = some (.slice (X i).A (X i).l.length (X i).c)) ∧ Row w (X i).A (X i).l

section
variable {H : Type} {enc : TypeId × Value → H} {w : World} {base : Nat} {held : Bool}
set_option maxRecDepth 100000 in
/-- A row of elements in a cell, opened. -/
theorem rows_opens (fuel : Nat) (cs : List Value) (x : DataW H × List MemPlace) (hf : DataW.trod enc Tryz.prog w base (fun _ => true) held fuel 37 cs = some x) :
    ∃ (A : Option Addr) (xs : List (Int × Int)) (c : Nat), cs = [.slice A xs.length c] ∧ Row w A xs ∧ xs.length ≤ c ∧ c ≤ 9223372036854775807 ∧ (A = none → c = 0) ∧
      ∀ e ∈ xs, (-9223372036854775808 ≤ e.1 ∧ e.1 ≤ 9223372036854775807) ∧ (-9223372036854775808 ≤ e.2 ∧ e.2 ≤ 9223372036854775807) := by
  have hs := Tryz.underlying32
  rcases open_slice_pairs (enc := enc) (w := w) (base := base) (held := held) Tryz.underlying37 hs cellsElem (by kernel_rfl) (by kernel_rfl) (by kernel_rfl) (by kernel_rfl) hf with ⟨hcs, -⟩ | ⟨a, len, cap, m, n, V0, V1, D0, D1, P0, P1, hcs, -, hlc, hcm, hm, -, hall⟩
  · rw [hcs]
    exact ⟨none, [], 0, rfl, Row.nil _ _, Nat.le_refl _, by omega, fun _ => rfl, by simp⟩
  · rw [hcs]
    have hlm : len ≤ m := by rw [hm]; simp; exact hlc
    have hel : ∀ i, i < len → V0 i = .int .i64 (numV (V0 i)) ∧ V1 i = .int .i64 (numV (V1 i)) ∧ (-9223372036854775808 ≤ numV (V0 i) ∧ numV (V0 i) ≤ 9223372036854775807) ∧ (-9223372036854775808 ≤ numV (V1 i) ∧ numV (V1 i) ≤ 9223372036854775807) := by
      intro i hi
      obtain ⟨-, -, t0, t1⟩ := hall i (by omega)
      obtain ⟨x, ex, -, wx⟩ := DataW.trod_int Tryz.underlying2 t0
      obtain ⟨y, ey, -, wy⟩ := DataW.trod_int Tryz.underlying2 t1
      injection ex with ex
      injection ey with ey
      rw [ex, ey]
      exact ⟨rfl, rfl, in_of_wf wx, in_of_wf wy⟩
    refine ⟨some a, (List.range len).map fun i => (numV (V0 i), numV (V1 i)), cap, by simp, ?_, by simpa using hlc, by unfold maxLen at hcm; omega, (fun e => by cases e), ?_⟩
    · intro hpos
      have hpos' : 0 < len := by simpa using hpos
      have h0 := (hall 0 (by omega)).1
      have ea : a.add (0 * 2) = a := by unfold Addr.add; simp
      rw [ea] at h0
      have ha := plain_of_cell h0
      refine ⟨a.block, a.off, by rw [← ha], fun j v hj => ?_⟩
      have hjl : j < len * 2 := by
        have h1 := (List.getElem?_eq_some_iff.1 hj).1
        rw [cellsE_length] at h1
        simpa using h1
      have hi : j / 2 < len := by omega
      have hc := cellsE_at ((List.range len).map fun i => (numV (V0 i), numV (V1 i))) (j / 2) (by simpa using hi)
      obtain ⟨q0, q1, -, -⟩ := hall (j / 2) (by omega)
      obtain ⟨n0, n1, -, -⟩ := hel (j / 2) hi
      rw [ha, add_plain] at q0 q1
      simp only [List.getElem_map, List.getElem_range] at hc
      rcases Nat.mod_two_eq_zero_or_one j with hz | hz
      · have ej : j / 2 * 2 = j := by omega
        rw [ej] at hc q0
        have := hc.1.symm.trans hj
        injection this with this
        rw [← this, ← n0]
        exact q0
      · have ej : j / 2 * 2 + 1 = j := by omega
        rw [ej] at hc q1
        have := hc.2.symm.trans hj
        injection this with this
        rw [← this, ← n1]
        exact q1
    · intro e he
      simp only [List.mem_map, List.mem_range] at he
      obtain ⟨i, hi, rfl⟩ := he
      exact ⟨(hel i hi).2.2.1, (hel i hi).2.2.2⟩

theorem cellsI64 : Tryz.prog.cellsOf 2 = 1 := by kernel_rfl
theorem cellsByte : Tryz.prog.cellsOf 5 = 1 := by kernel_rfl
theorem cellsRow : Tryz.prog.cellsOf 37 = 1 := by kernel_rfl
theorem cellsAct : Tryz.prog.cellsOf 39 = 6 := by kernel_rfl

theorem act_opens (fuel : Nat) (cs : List Value) (x : DataW H × List MemPlace) (hl : cs.length = 6) (h : DataW.trod enc Tryz.prog w base (fun _ => true) held fuel 39 cs = some x) :
    ∃ y : ActH, cs = [.int .u8 y.k, .int .u8 y.a, .int .u8 y.b, .int .i64 y.x.1, .int .i64 y.x.2, .slice y.A y.l.length y.c] ∧ y.ok ∧ Row w y.A y.l := by
  match cs, hl with
  | [v0, v1, v2, v3, v4, v5], _ =>
  obtain ⟨xs, n, -, rfl, -, hlen, hf⟩ := DataW.trod_struct Tryz.underlying39 h
  match xs, hlen with
  | [y0, y1, y2, y3, y4], _ =>
  have h0 := hf 0 _ rfl
  have h1 := hf 1 _ rfl
  have h2 := hf 2 _ rfl
  have h3 := hf 3 _ rfl
  have h4 := hf 4 _ rfl
  simp [cellsElem, cellsByte, cellsRow] at h0 h1 h2 h3 h4
  obtain ⟨z0, z1, n0, -, -, k0, k1⟩ := trod_struct2 Tryz.underlying32 h3
  simp [cellsI64] at k0 k1
  obtain ⟨p, e0, -, w0⟩ := DataW.trod_int Tryz.underlying5 h0
  obtain ⟨q, e1, -, w1⟩ := DataW.trod_int Tryz.underlying5 h1
  obtain ⟨r, e2, -, w2⟩ := DataW.trod_int Tryz.underlying5 h2
  obtain ⟨s, e3, -, w3⟩ := DataW.trod_int Tryz.underlying2 k0
  obtain ⟨z, e4, -, w4⟩ := DataW.trod_int Tryz.underlying2 k1
  obtain ⟨Al, l, cl, e5, hr5, -, -, -, hf5⟩ := rows_opens _ _ _ h4
  obtain ⟨p, rfl, hp⟩ := byte_of_wf w0
  obtain ⟨q, rfl, hq⟩ := byte_of_wf w1
  obtain ⟨r, rfl, hr⟩ := byte_of_wf w2
  have hs := in_of_wf w3
  have hz := in_of_wf w4
  injection e0 with e0
  injection e1 with e1
  injection e2 with e2
  injection e3 with e3
  injection e4 with e4
  injection e5 with e5
  subst e0 e1 e2 e3 e4 e5
  exact ⟨⟨p, q, r, (s, z), Al, l, cl⟩, rfl, ⟨hp, hq, hr, fun e he => by simp at he; subst he; exact ⟨hs, hz⟩, hf5⟩, hr5⟩

set_option maxRecDepth 100000 in
theorem open_acts {r : Reach} {b0 : Nat} {v : Value} {d : DataW H} {p : List MemPlace} (hv : Value.okWide Tryz.prog w r b0 22 v) (h : DataW.Trod enc Tryz.prog w base (fun _ => true) held 22 v d p) :
    ∃ (A : Option Addr) (n c : Nat) (X : Nat → ActH), v = .slice A n c ∧ ActRowH w A n X ∧ n ≤ 9223372036854775807 ∧ ∀ i, i < n → (X i).ok := by
  obtain ⟨A, n, c, V, rfl, hr, hnc, hc, -, hg⟩ := open_flat 6 (by omega) Tryz.underlying22 cellsAct (fun cs => ∃ y : ActH, cs = [.int .u8 y.k, .int .u8 y.a, .int .u8 y.b, .int .i64 y.x.1, .int .i64 y.x.2, .slice y.A y.l.length y.c] ∧ y.ok ∧ Row w y.A y.l) (fun fuel cs x hl h => act_opens fuel cs x hl h) hv h
  obtain ⟨X, hX⟩ := choose_lt hg
  refine ⟨A, n, c, X, rfl, fun hpos => ?_, by omega, fun i hi => (hX i hi).2.1⟩
  obtain ⟨b, o, e, hcell⟩ := hr hpos
  refine ⟨b, o, e, fun i hi => ⟨?_, (hX i hi).2.2⟩⟩
  have hz := (hcell i hi).2
  rw [(hX i hi).1] at hz
  exact ⟨hz 0 _ rfl, hz 1 _ rfl, hz 2 _ rfl, hz 3 _ rfl, hz 4 _ rfl, hz 5 _ rfl⟩
end

/-- Are acts few: thirty at most, each with a row of forty at most? -/
def fewB (n : Nat) (X : Nat → ActH) : Bool := (List.range n).all (fun i => decide ((X i).l.length ≤ 40)) && decide (n ≤ 30)
theorem fewB_true {n : Nat} {X : Nat → ActH} (h : fewB n X = true) : n ≤ 30 ∧ ∀ i, i < n → (X i).l.length ≤ 40 := by
  unfold fewB at h
  simp at h
  exact ⟨h.2, h.1⟩
theorem fewB_all {n : Nat} {X : Nat → ActH} (h : ∀ i, i < n → (X i).l.length ≤ 40) : fewB n X = decide ((n : Int) ≤ 30) := by
  unfold fewB
  rw [show (List.range n).all (fun i => decide ((X i).l.length ≤ 40)) = true by simpa using h, Bool.true_and]
  congr 1
  simp; omega
theorem fewB_big {n j : Nat} {X : Nat → ActH} (hj : j < n) (h : 40 < (X j).l.length) : fewB n X = false := by
  unfold fewB
  rw [show (List.range n).all (fun i => decide ((X i).l.length ≤ 40)) = false by simp; exact ⟨j, hj, h⟩, Bool.false_and]

set_option maxRecDepth 100000 in
set_option maxHeartbeats 1000000 in
/-- Are acts few? -/
theorem few_any (A : Option Addr) (n c : Nat) (X : Nat → ActH) (w0 w : World) (hr : ActRowH w0 A n X) (hn : n ≤ 9223372036854775807) (hb : Below w0.heap.size w0 w) :
    Calls Tryz.prog 14 #[.slice A n c] w fun e w' => e = .returned (.bool (fewB n X)) ∧ Below w.heap.size w w' := by
  have HR := Lib.hid (And.intro hr hb)
  clear hr hb
  go_enter Tryz.func14, Tryz.ntmps14
  go_wp2_with fail
  go_loopg [3] n (fun k i wr => ∃ j : Nat, i = .int .i64 (j : Int) ∧ j + k = n ∧ w = wr ∧ ∀ i, i < j → (X i).l.length ≤ 40)
  case atStart => exact ⟨0, rfl, by omega, rfl, fun i hi => by omega⟩
  case round =>
    obtain ⟨j, rfl, hj, hw, hall⟩ := hrel
    subst hw
    by_cases hlt : j < n
    · obtain ⟨b0, o, rfl, hrow⟩ := HR.out.1 (by omega)
      have hc := (hrow j hlt).1.2.2.2.2.2
      have e5 := (HR.out.2.cell (p := ⟨b0, o + j * 6 + 5, none⟩) (block_lt_of_cell hc)).trans hc
      have q1 : (j : Int) < (n : Int) := by omega
      have q3 : decide ((j : Int) < (n : Int)) = true := by simp; omega
      have HA := Lib.hid hall
      obtain ⟨m, hm⟩ : ∃ m, m = (X j).l.length := ⟨_, rfl⟩
      rw [← hm] at e5
      have HM := Lib.hid hm
      clear hrow hc hm hall
      by_cases hbig : 40 < m
      · have r1 : decide ((40 : Int) < (m : Int)) = true := by simp; omega
        have r2 : (40 : Int) < (m : Int) := by omega
        go_wp2_with fail
        go_ret
        exact ⟨by rw [fewB_big hlt (by rw [← HM.out]; exact hbig)]; rfl, Below.refl _ _⟩
      · have r1 : decide ((40 : Int) < (m : Int)) = false := by simp; omega
        have r2 : ¬ (40 : Int) < (m : Int) := by omega
        go_wp2_with fail
        go_roundg (n - 1 - j)
        case measure => omega
        case rel => exact ⟨j + 1, by first | rfl | (congr 1; unfold wrap64; omega), by omega, rfl, fun i hi => by by_cases e : i = j; (subst e; have := HM.out; omega); exact HA.out i (by omega)⟩
    · have q1 : ¬ (j : Int) < (n : Int) := by omega
      have q3 : decide ((j : Int) < (n : Int)) = false := by simp; omega
      go_wp2_with fail
      go_ret
      exact ⟨by rw [fewB_all (X := X) (n := n) (fun i hi => hall i (by omega))]; rfl, Below.refl _ _⟩

theorem few_is (A : Option Addr) (n c : Nat) (X : Nat → ActH) (w0 w : World) (hr : ActRowH w0 A n X) (hn : n ≤ 9223372036854775807) (hb : Below w0.heap.size w0 w) (b : Bool) (h : fewB n X = b) :
    Calls Tryz.prog 14 #[.slice A n c] w fun e w' => e = .returned (.bool b) ∧ Below w.heap.size w w' := by
  subst h; exact few_any A n c X w0 w hr hn hb

end Go.Proofs.YtlmokendajgbdaaGreatDoor
namespace Go.Proofs.YtlmokendajgbdaaGreatDoor
open Go.Sort Go.RowKit

section
variable {α τ : Type} {one : α → Value} {e : TypeId} {at_ : World → α → τ → Prop} {W W' : World} {base : Nat} {v : Value} {ts : List τ}
/-- A slice of the call's own: its things are these heaps'. -/
def Col (one : α → Value) (e : TypeId) (at_ : World → α → τ → Prop) (W : World) (base : Nat) (v : Value) (ts : List τ) : Prop :=
  ∃ xs : List α, Mine one e W base v xs ∧ xs.length = ts.length ∧ ∀ (j : Nat) (t : τ), ts[j]? = some t → ∃ x, xs[j]? = some x ∧ at_ W x t

theorem Col.keep (h : Col one e at_ W base v ts) (hk : ∀ (g : Nat) (cur : Array Value), v.ownBlock = some g → W.heap[g]? = some (.cells cur e (0, 0)) → W'.heap[g]? = W.heap[g]?) (hat : ∀ x t, at_ W x t → at_ W' x t) : Col one e at_ W' base v ts := by
  obtain ⟨xs, hm, hl, ha⟩ := h
  refine ⟨xs, ⟨hm.1, ?_⟩, hl, fun j t ht => ?_⟩
  · rcases hm.2 with hn | ⟨g, cap, cur, rfl, hg1, hg, rest⟩
    · exact .inl hn
    · exact .inr ⟨g, cap, cur, rfl, hg1, (hk g cur rfl hg).trans hg, rest⟩
  · obtain ⟨x, h1, h2⟩ := ha j t ht
    exact ⟨x, h1, hat x t h2⟩
theorem Col.blk (h : Col one e at_ W base v ts) (hl : 0 < ts.length) : ∃ (g cap : Nat) (cur : Array Value), v = .slice (some ⟨g, 0, none⟩) ts.length cap ∧ base ≤ g ∧ g < W.heap.size ∧ ts.length ≤ cap ∧ cap ≤ 9223372036854775807 ∧ W.heap[g]? = some (.cells cur e (0, 0)) := by
  obtain ⟨xs, hm, hxl, -⟩ := h
  rcases hm.2 with ⟨-, h0⟩ | ⟨g, cap, cur, e, hb, hg, hc, hmx, -⟩
  · omega
  · exact ⟨g, cap, cur, by rw [← hxl]; exact e, hb, lt_of_heap hg, by omega, by unfold maxLen at hmx; omega, hg⟩
theorem Col.at {g n c : Nat} (h : Col one e at_ W base (.slice (some ⟨g, 0, none⟩) n c) ts) {j : Nat} {t : τ} (ht : ts[j]? = some t) : ∃ x, W.cell? ⟨g, j, none⟩ = some (one x) ∧ at_ W x t := by
  obtain ⟨xs, hm, hxl, ha⟩ := h
  obtain ⟨x, h1, h2⟩ := ha j t ht
  refine ⟨x, ?_, h2⟩
  have hn : n = xs.length := by
    rcases hm.2 with ⟨e, -⟩ | ⟨g', cap, cur, e, -⟩
    · cases e
    · cases e; rfl
  subst hn
  have := World.ownsRow.cells hm (g := g) rfl j (one x) (by rw [List.getElem?_map, h1]; rfl)
  rwa [add_flat, Nat.zero_add] at this
theorem Col.block (h : Col one e at_ W base v ts) : ∀ g, v.ownBlock = some g → base ≤ g := by
  obtain ⟨xs, hm, -⟩ := h
  exact hm.block
/-- The first one. -/
theorem Col.first (one : α → Value) (e : TypeId) (at_ : World → α → τ → Prop) (W : World) (base : Nat) (hb : base ≤ W.heap.size) (x : α) (t : τ) (h : at_ (W.alloc (.cells #[one x] e)) x t) : Col one e at_ (W.alloc (.cells #[one x] e)) base (.slice (some ⟨W.heap.size, 0, none⟩) 1 1) [t] := by
  refine ⟨[x], ⟨rfl, .inr ⟨W.heap.size, 1, #[one x], rfl, hb, World.alloc_heap_new W _, Nat.le_refl _, by unfold maxLen; simp, rfl, rfl⟩⟩, rfl, fun j u hu => ?_⟩
  cases j with
  | zero => simp at hu; subst hu; exact ⟨x, rfl, h⟩
  | succ j => simp at hu

/-- What has stayed where the block g has grown. -/
def Grew (W : World) (g : Nat) (W' : World) : Prop := W.grownBy W' (some g)
theorem Grew.heap {g : Nat} (h : Grew W g W') {k : Nat} {o : Obj} (hk : W.heap[k]? = some o) (hne : k ≠ g) : W'.heap[k]? = some o :=
  (World.grownBy.block h k (lt_of_heap hk) (fun e => by injection e with e; exact hne (by first | exact e | exact e.symm))).trans hk
theorem Grew.below {B g : Nat} {w0 : World} (h : Grew W g W') (hb : Below B w0 W) (hB : B ≤ W.heap.size) (hg : B ≤ g) : Below B w0 W' := below_grown hb h hB (fun k e => by injection e with e; omega)
/-- One thing more. -/
theorem Col.push {st : TypeId} {i0 : TypeInfo} {z : Value} {bytes g L c : Nat} (hst : Tryz.prog.underlying st = some (.slice e)) (hi : Tryz.prog.info? e = some i0) (hz0 : i0.zero = some z) (hz1 : i0.size = 1) (hz2 : i0.bytes = bytes) (hzs : z.cells.size = 1) (hby : bytes ≤ 24)
    (h : Col one e at_ W base (.slice (some ⟨g, 0, none⟩) L c) ts) (hb : base ≤ W.heap.size) (hl : L < 1000000) (x : α) (t : τ) (hx1 : (one x).oneCell' = true) (hx : at_ W x t)
    (hat : ∀ W', Grew W g W' → ∀ x t, at_ W x t → at_ W' x t) :
    ∃ g' c' W', (Builtin.append_ #[st, st] st #[.slice (some ⟨g, 0, none⟩) L c, .slice (some ⟨W.heap.size, 0, none⟩) 1 1]).run Tryz.prog (W.alloc (.cells #[one x] e)) = .ok (.slice (some ⟨g', 0, none⟩) (L + 1) c') W' ∧
      Col one e at_ W' base (.slice (some ⟨g', 0, none⟩) (L + 1) c') (ts ++ [t]) ∧ Grew W g W' ∧ (g' = g ∨ W.heap.size ≤ g') ∧ g' < W'.heap.size := by
  have hal := (Below.refl W.heap.size W).alloc (Nat.le_refl _) (.cells #[one x] e)
  obtain ⟨xs, hm, hxl, ha⟩ := h
  have hL : L = xs.length := by
    rcases hm.2 with ⟨e, -⟩ | ⟨g', cap, cur, e, -⟩
    · cases e
    · cases e; rfl
  subst hL
  have hm1 : Mine one e (W.alloc (.cells #[one x] e)) base (.slice (some ⟨g, 0, none⟩) xs.length c) xs := hm.stay hal
  obtain ⟨v', W', h1, h2, h3, h4, h5⟩ := run_append_own_at (P := Tryz.prog) (W.alloc (.cells #[one x] e)) base st st e i0 z 1 bytes hst hi hz0 hz1 hz2 hzs (by omega)
    (.slice (some ⟨g, 0, none⟩) xs.length c) xs.length (xs.map one) hm1 ⟨W.heap.size, 0, none⟩ 1 1 [one x] rfl
    (fun j u hu => by
      rw [add_flat, Nat.zero_add]
      have e1 : (W.alloc (.cells #[one x] e)).heap[W.heap.size]? = some (.cells #[one x] e (0, 0)) := new_at rfl
      unfold World.cell?
      rw [e1]
      simpa using hu) (by intro u hu; simp at hu; subst hu; exact hx1) (by unfold maxLen; omega) (by have : (xs.length + 1) * bytes ≤ 1000000 * 24 := Nat.mul_le_mul (by omega) hby; omega) (Nat.le_trans hb hal.size)
  have hg : Grew W g W' := by
    have hgs : g < W.heap.size := by
      rcases hm.2 with ⟨e, -⟩ | ⟨g', cap, cur, e, -, hh, -⟩
      · cases e
      · cases e; exact lt_of_heap hh
    exact ⟨h3.os.trans hal.os, h3.tape.trans hal.tape, h3.output.trans hal.output, Nat.le_trans hal.size h3.size, fun k hk hne => (h3.block k (by have := hal.size; omega) hne).trans (hal.block k hk)⟩
  have hM : Mine one e W' base v' (xs ++ [x]) := by
    unfold Mine
    rw [List.length_append, List.map_append]
    exact h2
  have hC : Col one e at_ W' base v' (ts ++ [t]) := by
    refine ⟨xs ++ [x], hM, by simp [hxl], fun j u hu => ?_⟩
    by_cases hj : j < ts.length
    · rw [List.getElem?_append_left hj] at hu
      obtain ⟨y, k1, k2⟩ := ha j u hu
      exact ⟨y, by rw [List.getElem?_append_left (by omega)]; exact k1, hat W' hg y u k2⟩
    · have h9 := (List.getElem?_eq_some_iff.1 hu).1
      simp at h9
      have ej : j = ts.length := by omega
      subst ej
      rw [List.getElem?_append_right (Nat.le_refl _)] at hu
      simp at hu
      subst hu
      exact ⟨x, by rw [← hxl, List.getElem?_append_right (Nat.le_refl _)]; simp, hat W' hg x t hx⟩
  obtain ⟨g', c', cur, e', -, hlt, -⟩ := hC.blk (by simp)
  have el : (ts ++ [t]).length = xs.length + 1 := by simp [hxl]
  rw [el] at e'
  subst e'
  refine ⟨g', c', W', h1, hC, hg, ?_, hlt⟩
  rcases h5 with h5 | h5
  · simp only [Value.ownBlock, Option.some.injEq] at h5; exact .inl h5
  · simp only [Value.ownBlock, Option.some.injEq] at h5; have := hal.size; exact .inr (by omega)
end

end Go.Proofs.YtlmokendajgbdaaGreatDoor
namespace Go.Proofs.YtlmokendajgbdaaGreatDoor
open Go.Sort Go.RowKit

/-- A cell of a column. -/
def BCell (W : World) (g : Nat) (e : TypeId) (j : Nat) (v : Value) : Prop := ∃ cur, W.heap[g]? = some (.cells cur e (0, 0)) ∧ cur[j]? = some v
section
variable {W W' : World} {g j : Nat} {e : TypeId} {v : Value} {mo : Option Nat} {cm mm : Int}
theorem BCell.c (h : BCell W g e j v) : W.cell? ⟨g, j, none⟩ = some v := by obtain ⟨cur, h1, h2⟩ := h; simp [World.cell?, h1, h2]
theorem BCell.bt (h : BCell W g e j v) (hb : Bt mo W W') (hm : MAt W mo cm mm) (ht : e ≠ 78 := by decide) : BCell W' g e j v := by obtain ⟨cur, h1, h2⟩ := h; exact ⟨cur, hb.row hm h1 ht, h2⟩
theorem BCell.keep (h : BCell W g e j v) (hk : W'.heap[g]? = W.heap[g]?) : BCell W' g e j v := by obtain ⟨cur, h1, h2⟩ := h; exact ⟨cur, hk.trans h1, h2⟩
theorem BCell.lt (h : BCell W g e j v) : g < W.heap.size := by obtain ⟨cur, h1, -⟩ := h; exact lt_of_heap h1
theorem Col.cell {α τ : Type} {one : α → Value} {at_ : World → α → τ → Prop} {base n k : Nat} {ts : List τ} (h : Col one e at_ W base (.slice (some ⟨g, 0, none⟩) n k) ts) {t : τ} (ht : ts[j]? = some t) : ∃ x, BCell W g e j (one x) ∧ at_ W x t := by
  obtain ⟨xs, hm, hxl, ha⟩ := h
  obtain ⟨x, h1, h2⟩ := ha j t ht
  refine ⟨x, ?_, h2⟩
  rcases hm.2 with ⟨e, -⟩ | ⟨g', cap, cur, e, -, hg, -, -, -, hc⟩
  · cases e
  · cases e
    refine ⟨cur, hg, ?_⟩
    have h3 : (xs.map one)[j]? = some (one x) := by rw [List.getElem?_map, h1]; rfl
    rw [← hc, List.getElem?_take] at h3
    split at h3
    · simpa using h3
    · cases h3
end

end Go.Proofs.YtlmokendajgbdaaGreatDoor
