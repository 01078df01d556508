/-
  What the walks of layer 8's statements carry on: heaps, elements, rows and variables, wherever only a meter's block turns; contracts in the one form that they use. No conditions beyond what each theorem says.
-/
import Derived.Test.YtpclafbolppgcaaDoorPd5
import Derived.Test.YtpclafbolppgcaaDoorPd6
import Derived.Test.YtpclafbolppgcaaDoorMc
namespace Go.Proofs.YtpclafbolppgcaaDoor
open Go.Sort Go.RowKit

section
variable {W W' : World} {mo : Option Nat} {c m : Int}
/-- A variable that holds an element. -/
def EVar (W : World) (b : Nat) (x : Int × Int) : Prop := W.heap[b]? = some (.cells #[.int .i64 x.1, .int .i64 x.2] 32 (0, 0))
theorem EVar.bt {b : Nat} {x : Int × Int} (h : EVar W b x) (hb : Bt mo W W') (hm : MAt W mo c m) : EVar W' b x := hb.row hm h (by decide)
theorem EVar.c0 {b : Nat} {x : Int × Int} (h : EVar W b x) : W.cell? ⟨b, 0, none⟩ = some (.int .i64 x.1) := by unfold EVar at h; simp [World.cell?, h]
theorem EVar.c1 {b : Nat} {x : Int × Int} (h : EVar W b x) : W.cell? ⟨b, 1, none⟩ = some (.int .i64 x.2) := by unfold EVar at h; simp [World.cell?, h]
theorem EVar.z0 {b : Nat} {x : Int × Int} (h : EVar W b x) : W.frozen? ⟨b, 0, none⟩ = false := by unfold EVar at h; simp [World.frozen?, h]
theorem EVar.z1 {b : Nat} {x : Int × Int} (h : EVar W b x) : W.frozen? ⟨b, 1, none⟩ = false := by unfold EVar at h; simp [World.frozen?, h]
theorem HVar.new (W : World) (p : Option Addr) {n : Nat} (h : n = W.heap.size) : HVar (W.alloc (.cells #[.pointer p] 29)) n p := new_at h
theorem EVar.new (W : World) (x1 x2 : Int) {n : Nat} (h : n = W.heap.size) : EVar (W.alloc (.cells #[.int .i64 x1, .int .i64 x2] 32)) n (x1, x2) := new_at h
theorem HVar.lt {b : Nat} {p : Option Addr} (h : HVar W b p) : b < W.heap.size := lt_of_heap h
theorem EVar.lt {b : Nat} {x : Int × Int} (h : EVar W b x) : b < W.heap.size := lt_of_heap h
theorem EVar.put {b : Nat} {x : Int × Int} (h : EVar W b x) (y1 y2 : Int) : EVar ((W.setCell ⟨b, 0, none⟩ (.int .i64 y1)).setCell ⟨b, 1, none⟩ (.int .i64 y2)) b (y1, y2) := heap_put (j := 1) (heap_put (j := 0) h _) _

/-- What stays where a heap's variable is written. -/
theorem LAt.set {t : Lh} {p : Option Addr} (h : LAt W t p) {b : Nat} {q : Option Addr} (hv : HVar W b q) (u : Value) : LAt (W.setCell ⟨b, 0, Option.none⟩ u) t p := h.kp (Kpt.set hv heapT_ne 0 u)
theorem Rw.set {v : Value} {xs : List (Int × Int)} (h : Rw W v xs) {b : Nat} {q : Option Addr} (hv : HVar W b q) (u : Value) : Rw (W.setCell ⟨b, 0, Option.none⟩ u) v xs := by
  rcases h with h | ⟨g, o, k, cs, hv', h1, h2, h3, h4⟩
  · exact .inl h
  · exact .inr ⟨g, o, k, cs, hv', h1, h2, (heap_other _ _ (fun e => by subst e; have hz := h3.symm.trans hv; injection hz with hz; injection hz with _ hz; exact absurd hz (by decide))).trans h3, h4⟩
theorem EVar.set {b' : Nat} {x : Int × Int} (h : EVar W b' x) {b : Nat} (hne : b' ≠ b) (off : Nat) (u : Value) : EVar (W.setCell ⟨b, off, none⟩ u) b' x := (heap_other _ _ hne).trans h
theorem MAt.set (h : MAt W mo c m) {b : Nat} {q : Option Addr} (hv : HVar W b q) (u : Value) : MAt (W.setCell ⟨b, 0, none⟩ u) mo c m := h.other hv (by decide) 0 u
/-- .. an element's variable. -/
theorem LAt.setE {t : Lh} {p : Option Addr} (h : LAt W t p) {b : Nat} {x : Int × Int} (hv : EVar W b x) (u u' : Value) : LAt ((W.setCell ⟨b, 0, Option.none⟩ u).setCell ⟨b, 1, Option.none⟩ u') t p :=
  (h.kp (Kpt.set hv elemT_ne 0 u)).kp (Kpt.set (heap_put (j := 0) hv u) elemT_ne 1 u')
/-- What holds from here on, and what is new. -/
theorem on_inv {P Q : World → Prop} {w1 w2 : World} (h : ∀ W, Bt mo w1 W → P W) (hb : Bt mo w1 w2) (new : ∀ W, Bt mo w2 W → Q W) : ∀ W, Bt mo w2 W → Q W ∧ P W := fun W k => ⟨new W k, h W (hb.trans k)⟩

/-- What was there ahead of the call, and the library's table. -/
structure Bas (w W : World) : Prop where
  below : Below w.heap.size w W
  env : Env W
theorem Bas.bt {w : World} (h : Bas w W) (he : Env w) (hb : Bt mo W W') (hB : ∀ b, mo = some b → w.heap.size ≤ b) : Bas w W' :=
  ⟨hb.below h.below hB h.below.size, he.below (hb.below h.below hB h.below.size)⟩
theorem Bas.set {w : World} (h : Bas w W) (he : Env w) {b : Nat} (hb : w.heap.size ≤ b) (off : Nat) (u : Value) : Bas w (W.setCell ⟨b, off, none⟩ u) :=
  ⟨h.below.setCell (p := ⟨b, off, none⟩) hb u, he.below (h.below.setCell (p := ⟨b, off, none⟩) hb u)⟩
theorem Bas.first {w : World} (he : Env w) : Bas w w := ⟨Below.refl _ _, he⟩
end

theorem drainRw (t : Lh) (p : Option Addr) (N : Int) (w : World) (h : LAt w t p) (hok : t.ok) (hn : (t.size : Int) ≤ N) (hN : N < 1073741824) (hs : t.size < 16777216) :
    Calls Tryd.prog 33 #[hp p, .int .i64 N] w fun e w' => ∃ v, e = .returned v ∧ Rw w' v (srt t.all) ∧ Below w.heap.size w w' :=
  (drain_any t p N w h hok hn hN hs).mono fun _ _ ⟨v, he, ho, hb⟩ => ⟨v, he, ho.rw, hb⟩

theorem ofRow (A : Option Addr) (xs : List (Int × Int)) (n cap : Nat) (w W : World) (hr : Row w A xs) (hn : n = xs.length) (hs : n < 16777216) (hb : Below w.heap.size w W) : Calls Tryd.prog 24 #[.pointer none, .slice A n cap] W (GaveN (ofL xs) W) := by
  subst hn; exact ofN A xs cap W (hr.below hb) hs
theorem sortRow (A : Option Addr) (xs : List (Int × Int)) (n cap : Nat) (w W : World) (hr : Row w A xs) (hn : n = xs.length) (hs : n < 16777216) (hb : Below w.heap.size w W) : Calls Tryd.prog 32 #[.slice A n cap] W fun e w' => ∃ v', e = .returned v' ∧ Rw w' v' (srt xs) ∧ Below W.heap.size W w' := by
  subst hn; exact sortRw A xs cap W (hr.below hb) hs
/-- Same, of rows that are the same. -/
theorem sameIs (u v : Value) (xs ys : List (Int × Int)) (w : World) (hx : Rw w u xs) (hy : Rw w v ys) (hs : xs.length < 16777216) (h : xs = ys) : Calls Tryd.prog 34 #[u, v] w fun e w' => e = .returned (.bool true) ∧ Below w.heap.size w w' :=
  (sameRw u v xs ys w hx hy hs).mono fun _ _ ⟨he, hb⟩ => ⟨by rw [he]; simp [h], hb⟩

theorem text_d (d : Nat) (h : d < 10) : textOf (d : Int) 0 = [UInt8.ofNat (48 + d), 58, 48] := by
  unfold textOf Lib.itoa
  rw [if_neg (by omega), if_neg (by omega)]
  rw [show (d : Int).toNat = d from by omega, show (0 : Int).toNat = 0 from rfl, Lib.decDigits_one h, Lib.decDigits_one (by omega)]
  rfl
/-- The example's heap. -/
def exH : Lh := .node (1, 0) (.cons (3, 0) .nil (.cons (2, 0) .nil .nil))
theorem ex_of : ofL [(2, 0), (1, 0), (3, 0)] = exH := by
  have h1 : ltE (2, 0) (1, 0) = false := by rw [ltE_not]; simp
  have h2 : ltE (1, 0) (3, 0) = true := by rw [ltE_iff]; simp
  simp only [ofL, List.foldl_cons, List.foldl_nil, Lh.insert, meld_right]
  rw [show meld (.one (1, 0)) (.one (2, 0)) = .node (1, 0) (.cons (2, 0) .nil .nil) from meld_ge h1]
  exact meld_lt h2
theorem ex_put : putN .nil [(2, 0), (1, 0), (3, 0)] = 2 := by
  have h1 : ltE (2, 0) (1, 0) = false := by rw [ltE_not]; simp
  simp only [putN, Lh.insert, meld_right, meldN_right]
  rw [show meld (.one (1, 0)) (.one (2, 0)) = .node (1, 0) (.cons (2, 0) .nil .nil) from meld_ge h1]
  rfl
theorem ex_pop : exH.pop = .node (2, 0) (.cons (3, 0) .nil .nil) := by
  have h1 : ltE (2, 0) (3, 0) = true := by rw [ltE_iff]; simp
  show meld (meld (.node (3, 0) .nil) (.node (2, 0) .nil)) .nil = _
  rw [meld_right]
  exact meld_lt h1
theorem ex_popN : exH.popN = 1 := by
  show meldN (.node (3, 0) .nil) (.node (2, 0) .nil) + 0 + meldN (meld (.node (3, 0) .nil) (.node (2, 0) .nil)) .nil = 1
  rw [meldN_right]; rfl
theorem ex_show : exH.show = [40, 49, 58, 48, 32, 40, 51, 58, 48, 41, 32, 40, 50, 58, 48, 41, 41] := by
  have h1 := text_d 1 (by omega)
  have h2 := text_d 2 (by omega)
  have h3 := text_d 3 (by omega)
  simp only [exH, Lh.show, Kd.show]
  rw [show ((1 : Nat) : Int) = 1 from rfl] at h1
  rw [show ((2 : Nat) : Int) = 2 from rfl] at h2
  rw [show ((3 : Nat) : Int) = 3 from rfl] at h3
  rw [h1, h2, h3]
  rfl
theorem ex_fits : fits exH.all := by
  intro e he
  simp [exH, Lh.all, Kd.all] at he
  rcases he with rfl | rfl | rfl <;> simp [in64]

end Go.Proofs.YtpclafbolppgcaaDoor
