/-
  What the walks of layer 9's statements carry on: heaps, elements, rows and variables, wherever only a meter's block turns; contracts in the one form that they use. No conditions beyond what each theorem says.
-/
import Derived.Test.YtlaohkflnkjamaaGreatDoorSb8
import Derived.Test.YtlaohkflnkjamaaGreatDoorSb9
import Derived.Test.YtlaohkflnkjamaaGreatDoorSb9b
import Derived.Test.YtlaohkflnkjamaaGreatDoorMc
namespace Go.Proofs.YtlaohkflnkjamaaGreatDoor.Hp
open Go.Sort Go.RowKit

section
variable {W W' : World} {mo : Option Nat} {c m : Int}
/-- A variable that holds a heap. -/
def HVar (W : World) (b : Nat) (p : HP) : Prop := W.heap[b]? = some (.cells #[.pointer p.q, .int .i64 p.n] 31 (0, 0))
/-- A variable that holds an element. -/
def EVar (W : World) (b : Nat) (x : Int × Int) : Prop := W.heap[b]? = some (.cells #[.int .i64 x.1, .int .i64 x.2] 38 (0, 0))
theorem HVar.bt {b : Nat} {p : HP} (h : HVar W b p) (hb : Bt mo W W') (hm : MAt W mo c m) : HVar W' b p := hb.row hm h (by decide)
theorem EVar.bt {b : Nat} {x : Int × Int} (h : EVar W b x) (hb : Bt mo W W') (hm : MAt W mo c m) : EVar W' b x := hb.row hm h (by decide)
theorem HVar.c0 {b : Nat} {p : HP} (h : HVar W b p) : W.cell? ⟨b, 0, none⟩ = some (.pointer p.q) := by unfold HVar at h; simp [World.cell?, h]
theorem HVar.c1 {b : Nat} {p : HP} (h : HVar W b p) : W.cell? ⟨b, 1, none⟩ = some (.int .i64 p.n) := by unfold HVar at h; simp [World.cell?, h]
theorem HVar.z0 {b : Nat} {p : HP} (h : HVar W b p) : W.frozen? ⟨b, 0, none⟩ = false := by unfold HVar at h; simp [World.frozen?, h]
theorem HVar.z1 {b : Nat} {p : HP} (h : HVar W b p) : W.frozen? ⟨b, 1, none⟩ = false := by unfold HVar at h; simp [World.frozen?, h]
theorem EVar.c0 {b : Nat} {x : Int × Int} (h : EVar W b x) : W.cell? ⟨b, 0, none⟩ = some (.int .i64 x.1) := by unfold EVar at h; simp [World.cell?, h]
theorem EVar.c1 {b : Nat} {x : Int × Int} (h : EVar W b x) : W.cell? ⟨b, 1, none⟩ = some (.int .i64 x.2) := by unfold EVar at h; simp [World.cell?, h]
theorem EVar.z0 {b : Nat} {x : Int × Int} (h : EVar W b x) : W.frozen? ⟨b, 0, none⟩ = false := by unfold EVar at h; simp [World.frozen?, h]
theorem EVar.z1 {b : Nat} {x : Int × Int} (h : EVar W b x) : W.frozen? ⟨b, 1, none⟩ = false := by unfold EVar at h; simp [World.frozen?, h]
theorem HVar.new (W : World) (p : HP) {n : Nat} (h : n = W.heap.size) : HVar (W.alloc (.cells #[.pointer p.q, .int .i64 p.n] 31)) n p := new_at h
theorem EVar.new (W : World) (x1 x2 : Int) {n : Nat} (h : n = W.heap.size) : EVar (W.alloc (.cells #[.int .i64 x1, .int .i64 x2] 38)) n (x1, x2) := new_at h
theorem HVar.lt {b : Nat} {p : HP} (h : HVar W b p) : b < W.heap.size := lt_of_heap h
theorem EVar.lt {b : Nat} {x : Int × Int} (h : EVar W b x) : b < W.heap.size := lt_of_heap h
theorem HVar.put {b : Nat} {p : HP} (h : HVar W b p) (q : HP) : HVar ((W.setCell ⟨b, 0, none⟩ (.pointer q.q)).setCell ⟨b, 1, none⟩ (.int .i64 q.n)) b q := heap_put (j := 1) (heap_put (j := 0) h _) _
theorem EVar.put {b : Nat} {x : Int × Int} (h : EVar W b x) (y1 y2 : Int) : EVar ((W.setCell ⟨b, 0, none⟩ (.int .i64 y1)).setCell ⟨b, 1, none⟩ (.int .i64 y2)) b (y1, y2) := heap_put (j := 1) (heap_put (j := 0) h _) _

theorem heap_size_set (W : World) (a : Addr) (u : Value) : (W.setCell a u).heap.size = W.heap.size := by simp [World.setCell]
/-- What stays where a heap's variable is written. -/
theorem LAt.set {t : Lh} {p : HP} (h : LAt W t p) {b : Nat} {q : HP} (hv : HVar W b q) (u u' : Value) : LAt ((W.setCell ⟨b, 0, Option.none⟩ u).setCell ⟨b, 1, Option.none⟩ u') t p :=
  (h.kps (Kpt.set hv heapT_ne 0 u) (by rw [heap_size_set]; exact Nat.le_refl _)).kps (Kpt.set (heap_put (j := 0) hv u) heapT_ne 1 u') (by rw [heap_size_set _ _ u']; exact Nat.le_refl _)
theorem Rw.set1 {v : Value} {xs : List (Int × Int)} (h : Rw W v xs) {b off : Nat} {cs : Array Value} (hv : W.heap[b]? = some (.cells cs 31 (0, 0))) (u : Value) : Rw (W.setCell ⟨b, off, Option.none⟩ u) v xs := by
  rcases h with h | ⟨g, o, k, cs, hv', h1, h2, h3, h4⟩
  · exact .inl h
  · exact .inr ⟨g, o, k, cs, hv', h1, h2, (heap_other _ _ (fun e => by subst e; have hz := h3.symm.trans hv; injection hz with hz; injection hz with _ hz; exact absurd hz (by decide))).trans h3, h4⟩
theorem _root_.Go.Proofs.YtlaohkflnkjamaaGreatDoor.Rw.set {v : Value} {xs : List (Int × Int)} (h : Rw W v xs) {b : Nat} {q : HP} (hv : HVar W b q) (u u' : Value) : Rw ((W.setCell ⟨b, 0, Option.none⟩ u).setCell ⟨b, 1, Option.none⟩ u') v xs :=
  Rw.set1 (Rw.set1 h hv u) (heap_put (j := 0) hv u) u'
theorem HVar.set {b' : Nat} {p : HP} (h : HVar W b' p) {b : Nat} (hne : b' ≠ b) (u u' : Value) : HVar ((W.setCell ⟨b, 0, none⟩ u).setCell ⟨b, 1, none⟩ u') b' p := (heap_other _ _ hne).trans ((heap_other _ _ hne).trans h)
theorem EVar.set {b' : Nat} {x : Int × Int} (h : EVar W b' x) {b : Nat} (hne : b' ≠ b) (u u' : Value) : EVar ((W.setCell ⟨b, 0, none⟩ u).setCell ⟨b, 1, none⟩ u') b' x := (heap_other _ _ hne).trans ((heap_other _ _ hne).trans h)
theorem _root_.Go.Proofs.YtlaohkflnkjamaaGreatDoor.MAt.set (h : MAt W mo c m) {b : Nat} {q : HP} (hv : HVar W b q) (u u' : Value) : MAt ((W.setCell ⟨b, 0, none⟩ u).setCell ⟨b, 1, none⟩ u') mo c m := (h.other hv (by decide) 0 u).other (heap_put (j := 0) hv u) (by decide) 1 u'
/-- .. an element's variable. -/
theorem LAt.setE {t : Lh} {p : HP} (h : LAt W t p) {b : Nat} {x : Int × Int} (hv : EVar W b x) (u u' : Value) : LAt ((W.setCell ⟨b, 0, Option.none⟩ u).setCell ⟨b, 1, Option.none⟩ u') t p :=
  (h.kps (Kpt.set hv elemT_ne 0 u) (by rw [heap_size_set]; exact Nat.le_refl _)).kps (Kpt.set (heap_put (j := 0) hv u) elemT_ne 1 u') (by rw [heap_size_set _ _ u']; exact Nat.le_refl _)
/-- What holds from here on, and what is new. -/
theorem on_inv {P Q : World → Prop} {w1 w2 : World} (h : ∀ W, Bt mo w1 W → P W) (hb : Bt mo w1 w2) (new : ∀ W, Bt mo w2 W → Q W) : ∀ W, Bt mo w2 W → Q W ∧ P W := fun W k => ⟨new W k, h W (hb.trans k)⟩

/-- What was there ahead of the call, and the library's table. -/
structure Bas (w W : World) : Prop where
  below : Below w.heap.size w W
  env : Env W
theorem Bas.bt {w : World} (h : Bas w W) (he : Env w) (hb : Bt mo W W') (hB : ∀ b, mo = some b → w.heap.size ≤ b) : Bas w W' :=
  ⟨hb.below h.below hB h.below.size, he.below (hb.below h.below hB h.below.size)⟩
theorem Bas.set1 {w : World} (h : Bas w W) (he : Env w) {b : Nat} (hb : w.heap.size ≤ b) (off : Nat) (u : Value) : Bas w (W.setCell ⟨b, off, none⟩ u) :=
  ⟨h.below.setCell (p := ⟨b, off, none⟩) hb u, he.below (h.below.setCell (p := ⟨b, off, none⟩) hb u)⟩
theorem Bas.set {w : World} (h : Bas w W) (he : Env w) {b : Nat} (hb : w.heap.size ≤ b) (u u' : Value) : Bas w ((W.setCell ⟨b, 0, none⟩ u).setCell ⟨b, 1, none⟩ u') := (h.set1 he hb 0 u).set1 he hb 1 u'
theorem Bas.first {w : World} (he : Env w) : Bas w w := ⟨Below.refl _ _, he⟩
end

/-- How many are left. -/
theorem pop_size {h : Lh} (_ : h.ok) : h.pop.size = h.size - 1 := Go.Proofs.YtlaohkflnkjamaaGreatDoor.pop_size h
theorem ofRow (A : Option Addr) (xs : List (Int × Int)) (n cap : Nat) (w W : World) (hr : Row w A xs) (hn : n = xs.length) (hs : n < 16777216) (hb : Below w.heap.size w W) : Calls Tryz.prog 14 #[.pointer none, .slice A n cap] W (GaveN (ofL xs) W) := by
  subst hn; exact ofN A xs cap W (hr.below hb) hs
theorem text_d (d : Nat) (h : d < 10) : textOf (d : Int) 0 = [UInt8.ofNat (48 + d), 58, 48] := by
  unfold textOf Lib.itoa
  rw [if_neg (by omega), if_neg (by omega)]
  rw [show (d : Int).toNat = d from by omega, show (0 : Int).toNat = 0 from rfl, Lib.decDigits_one h, Lib.decDigits_one (by omega)]
  rfl
/-- The example's heap. -/
def exL : Tre := ⟨(1, 0), [], .cons (2, 0) [] .nil .nil⟩
def exT : Tre := ⟨(1, 0), [(3, 0)], .cons (2, 0) [] .nil .nil⟩
def exH : Lh := ⟨[exT]⟩
theorem ex_lnk : lnk (leafT (1, 0)) (leafT (2, 0)) = exL := by
  have h1 : ltE (2, 0) (1, 0) = false := by rw [ltE_not]; simp
  exact lnk_ge h1
theorem ex_of : ofL [(2, 0), (1, 0), (3, 0)] = exH := by
  have h : (sIns (sIns (sIns [] (2, 0)) (1, 0)) (3, 0)) = [exT] := by
    rw [show sIns [] (2, 0) = [leafT (2, 0)] from rfl, show sIns [leafT (2, 0)] (1, 0) = [leafT (1, 0), leafT (2, 0)] from rfl, sIns_eq _ (by rfl)]
    show [skw (3, 0) (lnk (leafT (1, 0)) (leafT (2, 0)))] = _
    rw [ex_lnk]
    have h2 : ltE (1, 0) (3, 0) = true := by rw [ltE_iff]; simp
    unfold skw
    rw [if_pos (show ltE exL.x (3, 0) = true from h2)]
    rfl
  exact congrArg Lh.mk h
theorem ex_put : putC .nil [(2, 0), (1, 0), (3, 0)] = 2 ∧ putM .nil [(2, 0), (1, 0), (3, 0)] = 4 := by
  have h1 : sIns [] (2, 0) = [leafT (2, 0)] := rfl
  have h2 : sIns [leafT (2, 0)] (1, 0) = [leafT (1, 0), leafT (2, 0)] := rfl
  refine ⟨?_, ?_⟩
  · show sInsN [] + (sInsN [leafT (2, 0)] + (sInsN [leafT (1, 0), leafT (2, 0)] + 0)) = 2; rfl
  · show sInsM [] + (sInsM [leafT (2, 0)] + (sInsM [leafT (1, 0), leafT (2, 0)] + 0)) = 4; rfl
theorem ex_min : exH.min = ((1, 0), true) := rfl
theorem ex_tell : exH.tellN = 0 := rfl
/-- .. without its least element. -/
def exG : Lh := ⟨[leafT (3, 0), leafT (2, 0)]⟩
theorem ex_pop : exH.pop = exG := by
  have h : exH.pop.ts = [leafT (3, 0), leafT (2, 0)] := by
    show [(3, 0)].foldl sIns (bmeld [leafT (2, 0)] []) = _
    rw [bmeld_right]; rfl
  exact congrArg Lh.mk h
theorem ex_glt : ltE (rootAt [leafT (3, 0), leafT (2, 0)] 1) (rootAt [leafT (3, 0), leafT (2, 0)] 0) = true := by
  show ltE (2, 0) (3, 0) = true
  rw [ltE_iff]; simp
theorem ex_gmin : exG.min = ((2, 0), true) := by
  have h : leastI [leafT (3, 0), leafT (2, 0)] = 1 := by
    show leastK _ 1 = 1
    unfold leastK leastK
    rw [if_pos ex_glt]
  show (rootAt [leafT (3, 0), leafT (2, 0)] (leastI [leafT (3, 0), leafT (2, 0)]), true) = _
  rw [h]; rfl
theorem ex_popN : exH.popC = 0 ∧ exH.popM = 1 := by
  have h1 : sBase [exT] 0 = [leafT (2, 0)] := by show bmeld [leafT (2, 0)] [] = _; rw [bmeld_right]
  have h2 : sBaseN [exT] 0 = 0 := by show 0 + bmeldN [leafT (2, 0)] [] = _; rw [bmeldN_right]
  refine ⟨?_, ?_⟩
  · show sBaseN [exT] 0 + sPutN (sBase [exT] 0) [(3, 0)] = 0; rw [h1, h2]; rfl
  · show sBaseN [exT] 0 + sPutM (sBase [exT] 0) [(3, 0)] = 1; rw [h1, h2]; rfl
theorem ex_show : exH.show = [40, 49, 58, 48, 32, 43, 51, 58, 48, 32, 40, 50, 58, 48, 41, 41] := by
  have h1 := text_d 1 (by omega)
  have h2 := text_d 2 (by omega)
  have h3 := text_d 3 (by omega)
  simp only [exH, exT, Lh.show, bShow, bTail, Tre.show, Wood.show, besideText, List.flatMap_nil, List.flatMap_cons, List.nil_append, List.append_nil]
  rw [show ((1 : Nat) : Int) = 1 from rfl] at h1
  rw [show ((2 : Nat) : Int) = 2 from rfl] at h2
  rw [show ((3 : Nat) : Int) = 3 from rfl] at h3
  rw [h1, h2, h3]
  rfl
theorem ex_fits : fits exH.all := by
  intro e he
  simp [exH, exT, Lh.all, bAll, Tre.all, Wood.all] at he
  rcases he with rfl | rfl | rfl <;> simp [in64]

end Go.Proofs.YtlaohkflnkjamaaGreatDoor.Hp
