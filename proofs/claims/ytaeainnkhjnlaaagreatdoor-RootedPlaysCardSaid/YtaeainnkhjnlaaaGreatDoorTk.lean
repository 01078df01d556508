/-
  Contract of rank.Skew: of a thing and two trees, or none: which tree it makes, how many steps the meter counts, and that only the meter's block has turned. Conditions: fewer than 2 to the 28th things each, counts below 2 to the 60th.
  Contract of rank.Skew, of a thing and two trees, one, or none. Conditions: fewer than 2 to the 28th things each, counts below 2 to the 60th.
-/
import Derived.Test.YtaeainnkhjnlaaaGreatDoorTb
namespace Go.Proofs.YtaeainnkhjnlaaaGreatDoor
open Go.Sort Go.RowKit

theorem Bt.pair {mo : Option Nat} {w w' : World} {b : Nat} {x y : Int} (h : Bt mo w w') (hp : PairAt w b x y) (hb : ∀ k, mo = some k → b ≠ k) : PairAt w' b x y := by
  obtain ⟨k, l, m, n, o⟩ := hp
  have e : w'.heap[b]? = w.heap[b]? := h.block b o (fun e => hb b e rfl)
  exact ⟨(World.cell?_of_block (w := w) e).trans k, (World.cell?_of_block (w := w) e).trans l, (World.frozen?_of_block (w := w) e).trans m, (World.frozen?_of_block (w := w) e).trans n, Nat.lt_of_lt_of_le o h.size⟩

theorem cell_oldT {w : World} {a : Addr} {v : Value} (h : w.cell? a = some v) (o : Obj) : (w.alloc o).cell? a = some v := by
  have hl : a.block < w.heap.size := by
    unfold World.cell? at h
    cases hh : w.heap[a.block]? with
    | none => rw [hh] at h; cases h
    | some o => exact lt_of_heap hh
  exact (((Below.refl w.heap.size w).alloc (Nat.le_refl _) o).cell hl).trans h

theorem tree_kp {W W' : World} {b : Nat} {x : Int × Int} {bp kp : Option Addr} {r o : Int} (h : W.heap[b]? = some (treeObj x bp r kp o)) (hk : Kp W W') : W'.heap[b]? = some (treeObj x bp r kp o) := hk b _ _ (.inl rfl) h

/-- A variable of the call's own: two numbers at a block that is not the meter's. -/
structure Loc (mo : Option Nat) (w : World) (b : Nat) (x y : Int) : Prop where
  blk : w.heap[b]? = some (.cells #[.int .i64 x, .int .i64 y] 32 (0, 0))
  ne : ∀ k, mo = some k → b ≠ k
section
variable {mo : Option Nat} {w w' w0 : World} {b : Nat} {x y c m : Int}
theorem Loc.lt (h : Loc mo w b x y) : b < w.heap.size := lt_of_heap h.blk
theorem Loc.pair (h : Loc mo w b x y) : PairAt w b x y := by
  have h' := h.blk
  exact ⟨by simp [World.cell?, h'], by simp [World.cell?, h'], by simp [World.frozen?, h'], by simp [World.frozen?, h'], lt_of_heap h'⟩
theorem Loc.stay (h : Loc mo w b x y) (hb : Below w.heap.size w w') : Loc mo w' b x y := ⟨(hb.block b h.lt).trans h.blk, h.ne⟩
theorem Loc.alloc (h : Loc mo w b x y) (o : Obj) : Loc mo (w.alloc o) b x y := h.stay ((Below.refl _ _).alloc (Nat.le_refl _) o)
theorem Loc.drew (h : Loc mo w b x y) : Loc mo w.drew b x y := h.stay ((Below.refl _ _).drew)
theorem Loc.turn (h : Loc mo w b x y) (hb : Bt mo w w') : Loc mo w' b x y := ⟨(hb.block b h.lt (fun e => h.ne b e rfl)).trans h.blk, h.ne⟩
theorem Loc.new (h : MAt w mo c m) (x y : Int) : Loc mo (w.alloc (.cells #[.int .i64 x, .int .i64 y] 32)) w.heap.size x y := ⟨new_at rfl, fun k e => by subst e; have := h.lt; omega⟩
theorem Loc.other (h : Loc mo w b x y) {g j : Nat} (hp : g ≠ b) (u : Value) : Loc mo (w.setCell ⟨g, j, none⟩ u) b x y := ⟨(Below.heap_setCell w ⟨g, j, none⟩ u b (fun e => hp e.symm)).trans h.blk, h.ne⟩
theorem Loc.set (h : Loc mo w b x y) (x' y' : Int) : Loc mo ((w.setCell ⟨b, 0, none⟩ (.int .i64 x')).setCell ⟨b, 1, none⟩ (.int .i64 y')) b x' y' := ⟨heap_put (heap_put h.blk _) _, h.ne⟩
theorem Bt.setT {g j : Nat} (h : Bt mo w0 w) (hg : w0.heap.size ≤ g) (u : Value) : Bt mo w0 (w.setCell ⟨g, j, none⟩ u) :=
  ⟨h.os, h.tape, h.output, by simpa [World.setCell] using h.size, fun k hk hm => (Below.heap_setCell w ⟨g, j, none⟩ u k (fun e => by have : k = g := e; omega)).trans (h.block k hk hm)⟩
theorem MAt.otherT {g j : Nat} (h : MAt w mo c m) (hg : ∀ k, mo = some k → g ≠ k) (u : Value) : MAt (w.setCell ⟨g, j, none⟩ u) mo c m := by
  cases mo with
  | none => trivial
  | some k => exact (Below.heap_setCell w ⟨g, j, none⟩ u k (fun e => hg k rfl e.symm)).trans h
/-- Behind a write of both numbers. -/
theorem Loc.kp (h : Loc mo w b x y) (x' y' : Int) : Kp w ((w.setCell ⟨b, 0, none⟩ (.int .i64 x')).setCell ⟨b, 1, none⟩ (.int .i64 y')) :=
  (Kpt.set h.blk (by unfold TreeT; decide) 0 _).trans (Kpt.set (heap_put h.blk _) (by unfold TreeT; decide) 1 _)
theorem Tkk.put (h : Tkk mo w0 c m w) (hL : Loc mo w b x y) (hb : w0.heap.size ≤ b) (x' y' : Int) : Tkk mo w0 c m ((w.setCell ⟨b, 0, none⟩ (.int .i64 x')).setCell ⟨b, 1, none⟩ (.int .i64 y')) :=
  ⟨(h.bt.setT hb _).setT hb _, (h.mt.otherT hL.ne _).otherT hL.ne _, h.kp.trans (hL.kp x' y')⟩
end

set_option maxHeartbeats 2000000 in
/-- No trees: a leaf. -/
theorem skew_none (mo : Option Nat) (c m : Int) (y : Int × Int) (w : World) (hm : MAt w mo c m) (h2 : 0 ≤ m) (h3 : m < 1152921504606846976) :
    Calls Tryz.prog 48 #[mAddr mo, el y, .pointer none, .pointer none] w (Gave mo c (m + 1) (some (leafT y)) w) := by
  obtain ⟨y1, y2⟩ := y
  have HM := Lib.hid hm
  have hp := PairAt.new w y1 y2 32
  have b0 := hp.c0
  have b1 := hp.c1
  clear hm hp
  go_enter Tryz.func48, Tryz.ntmps48
  go_wp2_with fail
  ((with_reducible refine (link_left mo none _).mono ?_); rintro e w1 ⟨rfl, rfl⟩)
  go_wp2_with fail
  ((with_reducible refine (leaf_any mo c m (y1, y2) _ (HM.out.alloc _) h2 (by omega)).mono ?_); rintro e w1 ⟨p, rfl, ht, hm1, hb1⟩)
  have H := Lib.hid (And.intro ht (And.intro hm1 hb1))
  clear ht hm1 hb1 b0 b1
  go_wp2_with fail
  go_ret
  exact ⟨_, rfl, H.out.1, H.out.2.1, ((Bt.refl mo w).alloc _).trans H.out.2.2⟩

set_option maxRecDepth 100000 in
set_option maxHeartbeats 4000000 in
theorem skew_true (mo : Option Nat) (c m : Int) (y1 y2 : Int) (p q : Option Addr) (ta tb : Option Tre) (x1 x2 : Int) (bs : List (Int × Int)) (ks : Wood) (ht : olnk ta tb = some ⟨(x1, x2), bs, ks⟩) (w : World) (hm : MAt w mo c m) (h0 : 0 ≤ c) (h1 : c < 1152921504606846976) (h2 : 0 ≤ m) (h3 : m < 1152921504606846976)
    (ha : TAt w p ta) (hb : TAt w q tb) (ka : osize ta < 268435456) (kb : osize tb < 268435456) (hv : ltE (x1, x2) (y1, y2) = true) :
    Calls Tryz.prog 48 #[mAddr mo, el (y1, y2), .pointer p, .pointer q] w (Gave mo (c + lnkN ta tb + 1) (m + lnkN ta tb + 1) (some ⟨(x1, x2), (y1, y2) :: bs, ks⟩) w) := by
  have hsz : 1 + bs.length + ks.size < 536870912 := by have := olnk_size ta tb; rw [ht] at this; simp only [osize, Tre.size] at this ka kb; omega
  have hN : (lnkN ta tb : Int) ≤ 1 ∧ 0 ≤ (lnkN ta tb : Int) := by cases ta <;> cases tb <;> simp [lnkN]
  have HLink := Lib.hid (fun W (h : MAt W mo c m) ha hb => link_any mo c m p q ta tb W h h0 (by omega) h2 (by omega) ha hb (by omega) (by omega))
  generalize (lnkN ta tb : Int) = n at *
  rw [ht] at HLink
  have HM := Lib.hid hm
  have HT := Lib.hid (And.intro ha hb)
  have HV := Lib.hid hv
  have HS := Lib.hid hsz
  have hp := PairAt.new w y1 y2 32
  have PX := Lib.hid (Loc.new hm y1 y2)
  have b0 := hp.c0
  have b1 := hp.c1
  clear hm ha hb hv hsz hp ht ka kb
  go_enter Tryz.func48, Tryz.ntmps48
  go_wp2_with fail
  ((with_reducible refine (HLink.out _ (HM.out.alloc _) (HT.out.1.stay ((Below.refl _ _).alloc (Nat.le_refl _) _)) (HT.out.2.stay ((Below.refl _ _).alloc (Nat.le_refl _) _))).mono ?_); rintro e w1 ⟨pt, rfl, ⟨t, rfl, tbp, tkp, hh, hhb, hhk⟩, hm1, hb1⟩)
  have PX1 := Lib.hid (PX.out.turn hb1)
  have K1 := Lib.hid (((Tkk.refl HM.out).alloc _).turn hm1 hb1)
  have HH := Lib.hid hh
  have HL := Lib.hid (And.intro hhb hhk)
  have s6 := six_kp hh (Kpt.refl w1)
  have c0 := fun o => cell_oldT s6.c0 o
  have c1 := fun o => cell_oldT s6.c1 o
  have d0 := PX1.out.pair.c0
  have d1 := PX1.out.pair.c1
  have c2 := fun o o' => cell_oldT (c0 o) o'
  have c3 := fun o o' => cell_oldT (c1 o) o'
  have g0 := s6.c0
  have g1 := s6.c1
  have d2 := fun o => cell_oldT d0 o
  have d3 := fun o => cell_oldT d1 o
  have d4 := fun o o' => cell_oldT (d2 o) o'
  have d5 := fun o o' => cell_oldT (d3 o) o'
  clear b0 b1 hh hhb hhk hm1 hb1 s6 PX HM HT HLink
  go_wp2_with fail
  go_region
  · have L1 := Lib.hid ((PX1.out.alloc (.cells #[.int .i64 y1, .int .i64 y2] 32)).alloc (.cells #[.int .i64 x1, .int .i64 x2] 32)).drew
    have L2 := Lib.hid ((Loc.new (K1.out.mt) y1 y2).alloc (.cells #[.int .i64 x1, .int .i64 x2] 32)).drew
    have L3 := Lib.hid (Loc.new (K1.out.mt.alloc (.cells #[.int .i64 y1, .int .i64 y2] 32)) x1 x2).drew
    have K2 := Lib.hid ((K1.out.alloc (.cells #[.int .i64 y1, .int .i64 y2] 32)).alloc (.cells #[.int .i64 x1, .int .i64 x2] 32)).drew
    have KH := Lib.hid (Kp.below (((Below.refl w1.heap.size w1).alloc (Nat.le_refl _) (.cells #[.int .i64 y1, .int .i64 y2] 32)).alloc (by simp) (.cells #[.int .i64 x1, .int .i64 x2] 32)).drew)
    rw [World.size_alloc] at L3
    have NE := Lib.hid (show w1.heap.size ≠ w1.heap.size + 1 ∧ w.heap.size < w1.heap.size ∧ w.heap.size < w1.heap.size + 1 by have := PX1.out.lt; omega)
    generalize w1.heap.size + 1 = o at *
    generalize ((w1.alloc (.cells #[.int .i64 y1, .int .i64 y2] 32)).alloc (.cells #[.int .i64 x1, .int .i64 x2] 32)).drew = w2 at *
    generalize w1.heap.size = r at *
    clear g0 g1 d0 d1 c0 c1 c2 c3 d2 d3 d4 d5 K1 PX1
    have HH2 := Lib.hid (tree_kp HH.out KH.out)
    have HL2 := Lib.hid (And.intro (HL.out.1.kp KH.out) (HL.out.2.kp KH.out))
    clear HH HL KH
    go_wp2_with fail
    have s6 := six_kp HH2.out (Kpt.refl w2)
    have c0 := s6.c0
    have c1 := s6.c1
    have d0 := L1.out.pair.c0
    have d1 := L1.out.pair.c1
    clear s6
    go_region_held3 (fun w' => w'.cell? ⟨t, 0, none⟩ = some (.int .i64 x1) ∧ w'.cell? ⟨t, 1, none⟩ = some (.int .i64 x2) ∧ w'.cell? ⟨w.heap.size, 0, none⟩ = some (.int .i64 y1) ∧ w'.cell? ⟨w.heap.size, 1, none⟩ = some (.int .i64 y2)) (go_keep)
      (first | (go_at_call 42; ((with_reducible refine (mLess mo (c + n) (m + n) (x1, x2) (y1, y2) _ K4.out.1.mt (by omega) (by omega)).mono ?_); rintro e w5 ⟨rfl, hm5, hb5⟩; rw [HV.out]; have K5 := Lib.hid (And.intro (K4.out.1.turn hm5 hb5) (And.intro (K4.out.2.1.turn hb5) (And.intro (K4.out.2.2.1.turn hb5) (And.intro (K4.out.2.2.2.1.turn hb5) (K4.out.2.2.2.2.trans (hb5.kpt K4.out.1.mt tree_ne)))))); have f0 := (six_kp HH2.out K5.out.2.2.2.2).c0; have f1 := (six_kp HH2.out K5.out.2.2.2.2).c1; have f2 := K5.out.2.1.pair.c0; have f3 := K5.out.2.1.pair.c1; clear hm5 hb5)) | (go_at_call 78; ((with_reducible refine (key_any (x1, x2) _).mono ?_); rintro e w3 ⟨rfl, hb3⟩; have K3 := Lib.hid (And.intro (K2.out.drew.stay hb3) (And.intro (L1.out.drew.stay hb3) (And.intro (L2.out.drew.stay hb3) (And.intro (L3.out.drew.stay hb3) (Kpt.trans (Kp.below (Below.refl _ w2).drew) (Kp.below hb3)))))); have e0 := (six_kp HH2.out K3.out.2.2.2.2).c0; have e1 := (six_kp HH2.out K3.out.2.2.2.2).c1; have e2 := K3.out.2.1.pair.c0; have e3 := K3.out.2.1.pair.c1; clear hb3)) | (go_at_call 78; ((with_reducible refine (key_any (y1, y2) _).mono ?_); rintro e w4 ⟨rfl, hb4⟩; have K4 := Lib.hid (And.intro (K3.out.1.stay hb4) (And.intro (K3.out.2.1.stay hb4) (And.intro (K3.out.2.2.1.stay hb4) (And.intro (K3.out.2.2.2.1.stay hb4) (K3.out.2.2.2.2.trans (Kp.below hb4)))))); have i0 := (six_kp HH2.out K4.out.2.2.2.2).c0; have i1 := (six_kp HH2.out K4.out.2.2.2.2).c1; have i2 := K4.out.2.1.pair.c0; have i3 := K4.out.2.1.pair.c1; clear hb4)))
    clear c0 c1 d0 d1 e0 e1 e2 e3 f0 f1 f2 f3 i0 i1 i2 i3 K2 K3 K4 L1 L2 L3
    have HH5 := Lib.hid (tree_kp HH2.out K5.out.2.2.2.2)
    have HL5 := Lib.hid (And.intro (HL2.out.1.kp K5.out.2.2.2.2) (HL2.out.2.kp K5.out.2.2.2.2))
    have T5 := Lib.hid K5.out.1
    have L1 := Lib.hid K5.out.2.1
    have L2 := Lib.hid K5.out.2.2.1
    have L3 := Lib.hid K5.out.2.2.2.1
    clear K5 HH2 HL2
    have s6 := six_kp HH5.out (Kpt.refl _)
    have c0 := s6.c0
    have c1 := s6.c1
    have d0 := L1.out.pair.c0
    have d1 := L1.out.pair.c1
    have e0 := L2.out.pair.c0
    have e1 := L2.out.pair.c1
    have e2 := L2.out.pair.z0
    have e3 := L2.out.pair.z1
    have i0 := L3.out.pair.c0
    have i1 := L3.out.pair.c1
    have i2 := L3.out.pair.z0
    have i3 := L3.out.pair.z1
    have ne1 := NE.out.1
    have ne2 := NE.out.2.1
    have ne3 := NE.out.2.2
    clear s6
    go_wp2_with fail
    go_region
    clear c0 c1 d0 d1 e0 e1 e2 e3 i0 i1 i2 i3
    have KA := (L2.out).kp x1 x2
    have L3a := ((L3.out).other (g := r) (j := 0) NE.out.1 (.int .i64 x1)).other (g := r) (j := 1) NE.out.1 (.int .i64 x2)
    have KB := L3a.kp y1 y2
    have T6 := Lib.hid ((T5.out.put L2.out (by omega) x1 x2).put L3a (by omega) y1 y2).drew
    have L6 := Lib.hid ((((L2.out).set x1 x2).other (g := o) (j := 0) (fun e => NE.out.1 e.symm) (.int .i64 y1)).other (g := o) (j := 1) (fun e => NE.out.1 e.symm) (.int .i64 y2)).drew
    have M6 := Lib.hid (L3a.set y1 y2).drew
    have KK := (KA.trans KB).trans (Kp.below ((Below.refl _ _).drew))
    have HH6 := Lib.hid (tree_kp HH5.out KK)
    have HL6 := Lib.hid (And.intro (HL5.out.1.kp KK) (HL5.out.2.kp KK))
    clear KA KB KK L3a L1 L2 L3 T5 HH5 HL5 ne1 ne2 ne3
    generalize ((((w5.setCell { block := r, off := 0 } (Value.int IntKind.i64 x1)).setCell { block := r, off := 1 } (Value.int IntKind.i64 x2)).setCell { block := o, off := 0 } (Value.int IntKind.i64 y1)).setCell { block := o, off := 1 } (Value.int IntKind.i64 y2)).drew = w6 at *
    go_wp2_with fail
    ((with_reducible refine (mMade mo (c + n + 1) (m + n) _ T6.out.mt (by omega) (by omega)).mono ?_); rintro e w7 ⟨rfl, hm7, hb7⟩)
    have T7 := Lib.hid (T6.out.turn hm7 hb7)
    have L7 := Lib.hid (L6.out.turn hb7)
    have M7 := Lib.hid (M6.out.turn hb7)
    have HH7 := Lib.hid (tree_kp HH6.out (hb7.kpt T6.out.mt tree_ne))
    have HL7 := Lib.hid (And.intro (HL6.out.1.kp (hb7.kpt T6.out.mt tree_ne)) (HL6.out.2.kp (hb7.kpt T6.out.mt tree_ne)))
    clear hm7 hb7 T6 L6 M6 HH6 HL6
    have s6 := six_kp HH7.out (Kpt.refl _)
    have c2 := s6.c2
    have c3 := s6.c3
    have c4 := s6.c4
    have c5 := s6.c5
    have d0 := L7.out.pair.c0
    have d1 := L7.out.pair.c1
    have e0 := M7.out.pair.c0
    have e1 := M7.out.pair.c1
    clear s6
    go_wp2_with fail
    go_region_held3 (fun w' => w'.cell? ⟨r, 0, none⟩ = some (.int .i64 x1) ∧ w'.cell? ⟨r, 1, none⟩ = some (.int .i64 x2) ∧ w'.cell? ⟨o, 0, none⟩ = some (.int .i64 y1) ∧ w'.cell? ⟨o, 1, none⟩ = some (.int .i64 y2) ∧ w'.cell? ⟨t, 2, none⟩ = some (.pointer tbp) ∧ w'.cell? ⟨t, 3, none⟩ = some (.int .i64 (ks.len : Int)) ∧ w'.cell? ⟨t, 4, none⟩ = some (.pointer tkp) ∧ w'.cell? ⟨t, 5, none⟩ = some (.int .i64 (bs.length + ks.size : Nat))) (go_keep)
      (first | (go_at_call 79; ((with_reducible refine (pushE_any (y1, y2) tbp _).mono ?_); rintro e w8 ⟨nb, rfl, hn8, hb8⟩; have T8 := Lib.hid (T7.out.drew.stay hb8); have P8 := Lib.hid hn8; have K8 := Lib.hid (Kpt.trans (Kp.below (Below.refl _ w7).drew) (Kp.below hb8)); have s6 := six_kp HH7.out K8.out; have f2 := s6.c2; have f3 := s6.c3; have f4 := s6.c4; have f5 := s6.c5; have h8 := L7.out.drew.stay hb8; have j8 := M7.out.drew.stay hb8; have f0 := h8.pair.c0; have f1 := h8.pair.c1; have g0 := j8.pair.c0; have g1 := j8.pair.c1; clear hb8 hn8 s6 h8 j8)))
    clear c2 c3 c4 c5 d0 d1 e0 e1 f0 f1 f2 f3 f4 f5 g0 g1
    go_wp2_with fail
    go_ret
    have hs := HS.out
    have e2 : IntKind.i64.wrap (((bs.length : Int) + ks.size) + 1) = (((y1, y2) :: bs).length + ks.size : Nat) := by rw [IntKind.wrap_i64]; simp only [List.length_cons]; omega
    rw [e2]
    have hk := (T8.out.alloc (treeObj (x1, x2) (some ⟨nb, 0, none⟩) (ks.len : Int) tkp (((y1, y2) :: bs).length + ks.size : Nat)))
    have hk8 := K8.out.trans (Kp.below ((Below.refl _ w8).alloc (Nat.le_refl _) (treeObj (x1, x2) (some ⟨nb, 0, none⟩) (ks.len : Int) tkp (((y1, y2) :: bs).length + ks.size : Nat))))
    refine ⟨_, rfl, ⟨w8.heap.size, rfl, some ⟨nb, 0, none⟩, tkp, new_at rfl, ⟨nb, tbp, rfl, ?_, HL7.out.1.kp hk8⟩, HL7.out.2.kp hk8⟩, hk.mt, hk.bt⟩
    exact (Kp.below ((Below.refl _ w8).alloc (Nat.le_refl _) _)) _ _ _ (.inr (.inl rfl)) P8.out
  · have L1 := Lib.hid ((PX1.out.alloc (.cells #[.int .i64 x1, .int .i64 x2] 32)).alloc (.cells #[.int .i64 y1, .int .i64 y2] 32)).drew
    have L3 := Lib.hid ((Loc.new (K1.out.mt) x1 x2).alloc (.cells #[.int .i64 y1, .int .i64 y2] 32)).drew
    have L2 := Lib.hid (Loc.new (K1.out.mt.alloc (.cells #[.int .i64 x1, .int .i64 x2] 32)) y1 y2).drew
    have K2 := Lib.hid ((K1.out.alloc (.cells #[.int .i64 x1, .int .i64 x2] 32)).alloc (.cells #[.int .i64 y1, .int .i64 y2] 32)).drew
    have KH := Lib.hid (Kp.below (((Below.refl w1.heap.size w1).alloc (Nat.le_refl _) (.cells #[.int .i64 x1, .int .i64 x2] 32)).alloc (by simp) (.cells #[.int .i64 y1, .int .i64 y2] 32)).drew)
    rw [World.size_alloc] at L2
    have NE := Lib.hid (show w1.heap.size + 1 ≠ w1.heap.size ∧ w.heap.size < w1.heap.size + 1 ∧ w.heap.size < w1.heap.size by have := PX1.out.lt; omega)
    generalize w1.heap.size + 1 = r at *
    generalize ((w1.alloc (.cells #[.int .i64 x1, .int .i64 x2] 32)).alloc (.cells #[.int .i64 y1, .int .i64 y2] 32)).drew = w2 at *
    generalize w1.heap.size = o at *
    clear g0 g1 d0 d1 c0 c1 c2 c3 d2 d3 d4 d5 K1 PX1
    have HH2 := Lib.hid (tree_kp HH.out KH.out)
    have HL2 := Lib.hid (And.intro (HL.out.1.kp KH.out) (HL.out.2.kp KH.out))
    clear HH HL KH
    go_wp2_with fail
    have s6 := six_kp HH2.out (Kpt.refl w2)
    have c0 := s6.c0
    have c1 := s6.c1
    have d0 := L1.out.pair.c0
    have d1 := L1.out.pair.c1
    clear s6
    go_region_held3 (fun w' => w'.cell? ⟨t, 0, none⟩ = some (.int .i64 x1) ∧ w'.cell? ⟨t, 1, none⟩ = some (.int .i64 x2) ∧ w'.cell? ⟨w.heap.size, 0, none⟩ = some (.int .i64 y1) ∧ w'.cell? ⟨w.heap.size, 1, none⟩ = some (.int .i64 y2)) (go_keep)
      (first | (go_at_call 42; ((with_reducible refine (mLess mo (c + n) (m + n) (x1, x2) (y1, y2) _ K4.out.1.mt (by omega) (by omega)).mono ?_); rintro e w5 ⟨rfl, hm5, hb5⟩; rw [HV.out]; have K5 := Lib.hid (And.intro (K4.out.1.turn hm5 hb5) (And.intro (K4.out.2.1.turn hb5) (And.intro (K4.out.2.2.1.turn hb5) (And.intro (K4.out.2.2.2.1.turn hb5) (K4.out.2.2.2.2.trans (hb5.kpt K4.out.1.mt tree_ne)))))); have f0 := (six_kp HH2.out K5.out.2.2.2.2).c0; have f1 := (six_kp HH2.out K5.out.2.2.2.2).c1; have f2 := K5.out.2.1.pair.c0; have f3 := K5.out.2.1.pair.c1; clear hm5 hb5)) | (go_at_call 78; ((with_reducible refine (key_any (x1, x2) _).mono ?_); rintro e w3 ⟨rfl, hb3⟩; have K3 := Lib.hid (And.intro (K2.out.drew.stay hb3) (And.intro (L1.out.drew.stay hb3) (And.intro (L2.out.drew.stay hb3) (And.intro (L3.out.drew.stay hb3) (Kpt.trans (Kp.below (Below.refl _ w2).drew) (Kp.below hb3)))))); have e0 := (six_kp HH2.out K3.out.2.2.2.2).c0; have e1 := (six_kp HH2.out K3.out.2.2.2.2).c1; have e2 := K3.out.2.1.pair.c0; have e3 := K3.out.2.1.pair.c1; clear hb3)) | (go_at_call 78; ((with_reducible refine (key_any (y1, y2) _).mono ?_); rintro e w4 ⟨rfl, hb4⟩; have K4 := Lib.hid (And.intro (K3.out.1.stay hb4) (And.intro (K3.out.2.1.stay hb4) (And.intro (K3.out.2.2.1.stay hb4) (And.intro (K3.out.2.2.2.1.stay hb4) (K3.out.2.2.2.2.trans (Kp.below hb4)))))); have i0 := (six_kp HH2.out K4.out.2.2.2.2).c0; have i1 := (six_kp HH2.out K4.out.2.2.2.2).c1; have i2 := K4.out.2.1.pair.c0; have i3 := K4.out.2.1.pair.c1; clear hb4)))
    clear c0 c1 d0 d1 e0 e1 e2 e3 f0 f1 f2 f3 i0 i1 i2 i3 K2 K3 K4 L1 L2 L3
    have HH5 := Lib.hid (tree_kp HH2.out K5.out.2.2.2.2)
    have HL5 := Lib.hid (And.intro (HL2.out.1.kp K5.out.2.2.2.2) (HL2.out.2.kp K5.out.2.2.2.2))
    have T5 := Lib.hid K5.out.1
    have L1 := Lib.hid K5.out.2.1
    have L2 := Lib.hid K5.out.2.2.1
    have L3 := Lib.hid K5.out.2.2.2.1
    clear K5 HH2 HL2
    have s6 := six_kp HH5.out (Kpt.refl _)
    have c0 := s6.c0
    have c1 := s6.c1
    have d0 := L1.out.pair.c0
    have d1 := L1.out.pair.c1
    have e0 := L2.out.pair.c0
    have e1 := L2.out.pair.c1
    have e2 := L2.out.pair.z0
    have e3 := L2.out.pair.z1
    have i0 := L3.out.pair.c0
    have i1 := L3.out.pair.c1
    have i2 := L3.out.pair.z0
    have i3 := L3.out.pair.z1
    have ne1 := NE.out.1
    have ne2 := NE.out.2.1
    have ne3 := NE.out.2.2
    clear s6
    go_wp2_with fail
    go_region
    clear c0 c1 d0 d1 e0 e1 e2 e3 i0 i1 i2 i3
    have KA := (L2.out).kp x1 x2
    have L3a := ((L3.out).other (g := r) (j := 0) NE.out.1 (.int .i64 x1)).other (g := r) (j := 1) NE.out.1 (.int .i64 x2)
    have KB := L3a.kp y1 y2
    have T6 := Lib.hid ((T5.out.put L2.out (by omega) x1 x2).put L3a (by omega) y1 y2).drew
    have L6 := Lib.hid ((((L2.out).set x1 x2).other (g := o) (j := 0) (fun e => NE.out.1 e.symm) (.int .i64 y1)).other (g := o) (j := 1) (fun e => NE.out.1 e.symm) (.int .i64 y2)).drew
    have M6 := Lib.hid (L3a.set y1 y2).drew
    have KK := (KA.trans KB).trans (Kp.below ((Below.refl _ _).drew))
    have HH6 := Lib.hid (tree_kp HH5.out KK)
    have HL6 := Lib.hid (And.intro (HL5.out.1.kp KK) (HL5.out.2.kp KK))
    clear KA KB KK L3a L1 L2 L3 T5 HH5 HL5 ne1 ne2 ne3
    generalize ((((w5.setCell { block := r, off := 0 } (Value.int IntKind.i64 x1)).setCell { block := r, off := 1 } (Value.int IntKind.i64 x2)).setCell { block := o, off := 0 } (Value.int IntKind.i64 y1)).setCell { block := o, off := 1 } (Value.int IntKind.i64 y2)).drew = w6 at *
    go_wp2_with fail
    ((with_reducible refine (mMade mo (c + n + 1) (m + n) _ T6.out.mt (by omega) (by omega)).mono ?_); rintro e w7 ⟨rfl, hm7, hb7⟩)
    have T7 := Lib.hid (T6.out.turn hm7 hb7)
    have L7 := Lib.hid (L6.out.turn hb7)
    have M7 := Lib.hid (M6.out.turn hb7)
    have HH7 := Lib.hid (tree_kp HH6.out (hb7.kpt T6.out.mt tree_ne))
    have HL7 := Lib.hid (And.intro (HL6.out.1.kp (hb7.kpt T6.out.mt tree_ne)) (HL6.out.2.kp (hb7.kpt T6.out.mt tree_ne)))
    clear hm7 hb7 T6 L6 M6 HH6 HL6
    have s6 := six_kp HH7.out (Kpt.refl _)
    have c2 := s6.c2
    have c3 := s6.c3
    have c4 := s6.c4
    have c5 := s6.c5
    have d0 := L7.out.pair.c0
    have d1 := L7.out.pair.c1
    have e0 := M7.out.pair.c0
    have e1 := M7.out.pair.c1
    clear s6
    go_wp2_with fail
    go_region_held3 (fun w' => w'.cell? ⟨r, 0, none⟩ = some (.int .i64 x1) ∧ w'.cell? ⟨r, 1, none⟩ = some (.int .i64 x2) ∧ w'.cell? ⟨o, 0, none⟩ = some (.int .i64 y1) ∧ w'.cell? ⟨o, 1, none⟩ = some (.int .i64 y2) ∧ w'.cell? ⟨t, 2, none⟩ = some (.pointer tbp) ∧ w'.cell? ⟨t, 3, none⟩ = some (.int .i64 (ks.len : Int)) ∧ w'.cell? ⟨t, 4, none⟩ = some (.pointer tkp) ∧ w'.cell? ⟨t, 5, none⟩ = some (.int .i64 (bs.length + ks.size : Nat))) (go_keep)
      (first | (go_at_call 79; ((with_reducible refine (pushE_any (y1, y2) tbp _).mono ?_); rintro e w8 ⟨nb, rfl, hn8, hb8⟩; have T8 := Lib.hid (T7.out.drew.stay hb8); have P8 := Lib.hid hn8; have K8 := Lib.hid (Kpt.trans (Kp.below (Below.refl _ w7).drew) (Kp.below hb8)); have s6 := six_kp HH7.out K8.out; have f2 := s6.c2; have f3 := s6.c3; have f4 := s6.c4; have f5 := s6.c5; have h8 := L7.out.drew.stay hb8; have j8 := M7.out.drew.stay hb8; have f0 := h8.pair.c0; have f1 := h8.pair.c1; have g0 := j8.pair.c0; have g1 := j8.pair.c1; clear hb8 hn8 s6 h8 j8)))
    clear c2 c3 c4 c5 d0 d1 e0 e1 f0 f1 f2 f3 f4 f5 g0 g1
    go_wp2_with fail
    go_ret
    have hs := HS.out
    have e2 : IntKind.i64.wrap (((bs.length : Int) + ks.size) + 1) = (((y1, y2) :: bs).length + ks.size : Nat) := by rw [IntKind.wrap_i64]; simp only [List.length_cons]; omega
    rw [e2]
    have hk := (T8.out.alloc (treeObj (x1, x2) (some ⟨nb, 0, none⟩) (ks.len : Int) tkp (((y1, y2) :: bs).length + ks.size : Nat)))
    have hk8 := K8.out.trans (Kp.below ((Below.refl _ w8).alloc (Nat.le_refl _) (treeObj (x1, x2) (some ⟨nb, 0, none⟩) (ks.len : Int) tkp (((y1, y2) :: bs).length + ks.size : Nat))))
    refine ⟨_, rfl, ⟨w8.heap.size, rfl, some ⟨nb, 0, none⟩, tkp, new_at rfl, ⟨nb, tbp, rfl, ?_, HL7.out.1.kp hk8⟩, HL7.out.2.kp hk8⟩, hk.mt, hk.bt⟩
    exact (Kp.below ((Below.refl _ w8).alloc (Nat.le_refl _) _)) _ _ _ (.inr (.inl rfl)) P8.out

set_option maxRecDepth 100000 in
set_option maxHeartbeats 4000000 in
theorem skew_false (mo : Option Nat) (c m : Int) (y1 y2 : Int) (p q : Option Addr) (ta tb : Option Tre) (x1 x2 : Int) (bs : List (Int × Int)) (ks : Wood) (ht : olnk ta tb = some ⟨(x1, x2), bs, ks⟩) (w : World) (hm : MAt w mo c m) (h0 : 0 ≤ c) (h1 : c < 1152921504606846976) (h2 : 0 ≤ m) (h3 : m < 1152921504606846976)
    (ha : TAt w p ta) (hb : TAt w q tb) (ka : osize ta < 268435456) (kb : osize tb < 268435456) (hv : ltE (x1, x2) (y1, y2) = false) :
    Calls Tryz.prog 48 #[mAddr mo, el (y1, y2), .pointer p, .pointer q] w (Gave mo (c + lnkN ta tb + 1) (m + lnkN ta tb + 1) (some ⟨(y1, y2), (x1, x2) :: bs, ks⟩) w) := by
  have hsz : 1 + bs.length + ks.size < 536870912 := by have := olnk_size ta tb; rw [ht] at this; simp only [osize, Tre.size] at this ka kb; omega
  have hN : (lnkN ta tb : Int) ≤ 1 ∧ 0 ≤ (lnkN ta tb : Int) := by cases ta <;> cases tb <;> simp [lnkN]
  have HLink := Lib.hid (fun W (h : MAt W mo c m) ha hb => link_any mo c m p q ta tb W h h0 (by omega) h2 (by omega) ha hb (by omega) (by omega))
  generalize (lnkN ta tb : Int) = n at *
  rw [ht] at HLink
  have HM := Lib.hid hm
  have HT := Lib.hid (And.intro ha hb)
  have HV := Lib.hid hv
  have HS := Lib.hid hsz
  have hp := PairAt.new w y1 y2 32
  have PX := Lib.hid (Loc.new hm y1 y2)
  have b0 := hp.c0
  have b1 := hp.c1
  clear hm ha hb hv hsz hp ht ka kb
  go_enter Tryz.func48, Tryz.ntmps48
  go_wp2_with fail
  ((with_reducible refine (HLink.out _ (HM.out.alloc _) (HT.out.1.stay ((Below.refl _ _).alloc (Nat.le_refl _) _)) (HT.out.2.stay ((Below.refl _ _).alloc (Nat.le_refl _) _))).mono ?_); rintro e w1 ⟨pt, rfl, ⟨t, rfl, tbp, tkp, hh, hhb, hhk⟩, hm1, hb1⟩)
  have PX1 := Lib.hid (PX.out.turn hb1)
  have K1 := Lib.hid (((Tkk.refl HM.out).alloc _).turn hm1 hb1)
  have HH := Lib.hid hh
  have HL := Lib.hid (And.intro hhb hhk)
  have s6 := six_kp hh (Kpt.refl w1)
  have c0 := fun o => cell_oldT s6.c0 o
  have c1 := fun o => cell_oldT s6.c1 o
  have d0 := PX1.out.pair.c0
  have d1 := PX1.out.pair.c1
  have c2 := fun o o' => cell_oldT (c0 o) o'
  have c3 := fun o o' => cell_oldT (c1 o) o'
  have g0 := s6.c0
  have g1 := s6.c1
  have d2 := fun o => cell_oldT d0 o
  have d3 := fun o => cell_oldT d1 o
  have d4 := fun o o' => cell_oldT (d2 o) o'
  have d5 := fun o o' => cell_oldT (d3 o) o'
  clear b0 b1 hh hhb hhk hm1 hb1 s6 PX HM HT HLink
  go_wp2_with fail
  go_region
  · have L1 := Lib.hid ((PX1.out.alloc (.cells #[.int .i64 y1, .int .i64 y2] 32)).alloc (.cells #[.int .i64 x1, .int .i64 x2] 32)).drew
    have L2 := Lib.hid ((Loc.new (K1.out.mt) y1 y2).alloc (.cells #[.int .i64 x1, .int .i64 x2] 32)).drew
    have L3 := Lib.hid (Loc.new (K1.out.mt.alloc (.cells #[.int .i64 y1, .int .i64 y2] 32)) x1 x2).drew
    have K2 := Lib.hid ((K1.out.alloc (.cells #[.int .i64 y1, .int .i64 y2] 32)).alloc (.cells #[.int .i64 x1, .int .i64 x2] 32)).drew
    have KH := Lib.hid (Kp.below (((Below.refl w1.heap.size w1).alloc (Nat.le_refl _) (.cells #[.int .i64 y1, .int .i64 y2] 32)).alloc (by simp) (.cells #[.int .i64 x1, .int .i64 x2] 32)).drew)
    rw [World.size_alloc] at L3
    have NE := Lib.hid (show w1.heap.size ≠ w1.heap.size + 1 ∧ w.heap.size < w1.heap.size ∧ w.heap.size < w1.heap.size + 1 by have := PX1.out.lt; omega)
    generalize w1.heap.size + 1 = o at *
    generalize ((w1.alloc (.cells #[.int .i64 y1, .int .i64 y2] 32)).alloc (.cells #[.int .i64 x1, .int .i64 x2] 32)).drew = w2 at *
    generalize w1.heap.size = r at *
    clear g0 g1 d0 d1 c0 c1 c2 c3 d2 d3 d4 d5 K1 PX1
    have HH2 := Lib.hid (tree_kp HH.out KH.out)
    have HL2 := Lib.hid (And.intro (HL.out.1.kp KH.out) (HL.out.2.kp KH.out))
    clear HH HL KH
    go_wp2_with fail
    have s6 := six_kp HH2.out (Kpt.refl w2)
    have c0 := s6.c0
    have c1 := s6.c1
    have d0 := L1.out.pair.c0
    have d1 := L1.out.pair.c1
    clear s6
    go_region_held3 (fun w' => w'.cell? ⟨t, 0, none⟩ = some (.int .i64 x1) ∧ w'.cell? ⟨t, 1, none⟩ = some (.int .i64 x2) ∧ w'.cell? ⟨w.heap.size, 0, none⟩ = some (.int .i64 y1) ∧ w'.cell? ⟨w.heap.size, 1, none⟩ = some (.int .i64 y2)) (go_keep)
      (first | (go_at_call 42; ((with_reducible refine (mLess mo (c + n) (m + n) (x1, x2) (y1, y2) _ K4.out.1.mt (by omega) (by omega)).mono ?_); rintro e w5 ⟨rfl, hm5, hb5⟩; rw [HV.out]; have K5 := Lib.hid (And.intro (K4.out.1.turn hm5 hb5) (And.intro (K4.out.2.1.turn hb5) (And.intro (K4.out.2.2.1.turn hb5) (And.intro (K4.out.2.2.2.1.turn hb5) (K4.out.2.2.2.2.trans (hb5.kpt K4.out.1.mt tree_ne)))))); have f0 := (six_kp HH2.out K5.out.2.2.2.2).c0; have f1 := (six_kp HH2.out K5.out.2.2.2.2).c1; have f2 := K5.out.2.1.pair.c0; have f3 := K5.out.2.1.pair.c1; clear hm5 hb5)) | (go_at_call 78; ((with_reducible refine (key_any (x1, x2) _).mono ?_); rintro e w3 ⟨rfl, hb3⟩; have K3 := Lib.hid (And.intro (K2.out.drew.stay hb3) (And.intro (L1.out.drew.stay hb3) (And.intro (L2.out.drew.stay hb3) (And.intro (L3.out.drew.stay hb3) (Kpt.trans (Kp.below (Below.refl _ w2).drew) (Kp.below hb3)))))); have e0 := (six_kp HH2.out K3.out.2.2.2.2).c0; have e1 := (six_kp HH2.out K3.out.2.2.2.2).c1; have e2 := K3.out.2.1.pair.c0; have e3 := K3.out.2.1.pair.c1; clear hb3)) | (go_at_call 78; ((with_reducible refine (key_any (y1, y2) _).mono ?_); rintro e w4 ⟨rfl, hb4⟩; have K4 := Lib.hid (And.intro (K3.out.1.stay hb4) (And.intro (K3.out.2.1.stay hb4) (And.intro (K3.out.2.2.1.stay hb4) (And.intro (K3.out.2.2.2.1.stay hb4) (K3.out.2.2.2.2.trans (Kp.below hb4)))))); have i0 := (six_kp HH2.out K4.out.2.2.2.2).c0; have i1 := (six_kp HH2.out K4.out.2.2.2.2).c1; have i2 := K4.out.2.1.pair.c0; have i3 := K4.out.2.1.pair.c1; clear hb4)))
    clear c0 c1 d0 d1 e0 e1 e2 e3 f0 f1 f2 f3 i0 i1 i2 i3 K2 K3 K4 L1 L2 L3
    have HH5 := Lib.hid (tree_kp HH2.out K5.out.2.2.2.2)
    have HL5 := Lib.hid (And.intro (HL2.out.1.kp K5.out.2.2.2.2) (HL2.out.2.kp K5.out.2.2.2.2))
    have T5 := Lib.hid K5.out.1
    have L1 := Lib.hid K5.out.2.1
    have L2 := Lib.hid K5.out.2.2.1
    have L3 := Lib.hid K5.out.2.2.2.1
    clear K5 HH2 HL2
    clear L1
    have T6 := T5
    have L6 := L2
    have M6 := L3
    have HH6 := HH5
    have HL6 := HL5
    clear T5 L2 L3 HH5 HL5
    go_wp2_with fail
    ((with_reducible refine (mMade mo (c + n + 1) (m + n) _ T6.out.mt (by omega) (by omega)).mono ?_); rintro e w7 ⟨rfl, hm7, hb7⟩)
    have T7 := Lib.hid (T6.out.turn hm7 hb7)
    have L7 := Lib.hid (L6.out.turn hb7)
    have M7 := Lib.hid (M6.out.turn hb7)
    have HH7 := Lib.hid (tree_kp HH6.out (hb7.kpt T6.out.mt tree_ne))
    have HL7 := Lib.hid (And.intro (HL6.out.1.kp (hb7.kpt T6.out.mt tree_ne)) (HL6.out.2.kp (hb7.kpt T6.out.mt tree_ne)))
    clear hm7 hb7 T6 L6 M6 HH6 HL6
    have s6 := six_kp HH7.out (Kpt.refl _)
    have c2 := s6.c2
    have c3 := s6.c3
    have c4 := s6.c4
    have c5 := s6.c5
    have d0 := L7.out.pair.c0
    have d1 := L7.out.pair.c1
    have e0 := M7.out.pair.c0
    have e1 := M7.out.pair.c1
    clear s6
    go_wp2_with fail
    go_region_held3 (fun w' => w'.cell? ⟨r, 0, none⟩ = some (.int .i64 y1) ∧ w'.cell? ⟨r, 1, none⟩ = some (.int .i64 y2) ∧ w'.cell? ⟨o, 0, none⟩ = some (.int .i64 x1) ∧ w'.cell? ⟨o, 1, none⟩ = some (.int .i64 x2) ∧ w'.cell? ⟨t, 2, none⟩ = some (.pointer tbp) ∧ w'.cell? ⟨t, 3, none⟩ = some (.int .i64 (ks.len : Int)) ∧ w'.cell? ⟨t, 4, none⟩ = some (.pointer tkp) ∧ w'.cell? ⟨t, 5, none⟩ = some (.int .i64 (bs.length + ks.size : Nat))) (go_keep)
      (first | (go_at_call 79; ((with_reducible refine (pushE_any (x1, x2) tbp _).mono ?_); rintro e w8 ⟨nb, rfl, hn8, hb8⟩; have T8 := Lib.hid (T7.out.drew.stay hb8); have P8 := Lib.hid hn8; have K8 := Lib.hid (Kpt.trans (Kp.below (Below.refl _ w7).drew) (Kp.below hb8)); have s6 := six_kp HH7.out K8.out; have f2 := s6.c2; have f3 := s6.c3; have f4 := s6.c4; have f5 := s6.c5; have h8 := L7.out.drew.stay hb8; have j8 := M7.out.drew.stay hb8; have f0 := h8.pair.c0; have f1 := h8.pair.c1; have g0 := j8.pair.c0; have g1 := j8.pair.c1; clear hb8 hn8 s6 h8 j8)))
    clear c2 c3 c4 c5 d0 d1 e0 e1 f0 f1 f2 f3 f4 f5 g0 g1
    go_wp2_with fail
    go_ret
    have hs := HS.out
    have e2 : IntKind.i64.wrap (((bs.length : Int) + ks.size) + 1) = (((x1, x2) :: bs).length + ks.size : Nat) := by rw [IntKind.wrap_i64]; simp only [List.length_cons]; omega
    rw [e2]
    have hk := (T8.out.alloc (treeObj (y1, y2) (some ⟨nb, 0, none⟩) (ks.len : Int) tkp (((x1, x2) :: bs).length + ks.size : Nat)))
    have hk8 := K8.out.trans (Kp.below ((Below.refl _ w8).alloc (Nat.le_refl _) (treeObj (y1, y2) (some ⟨nb, 0, none⟩) (ks.len : Int) tkp (((x1, x2) :: bs).length + ks.size : Nat))))
    refine ⟨_, rfl, ⟨w8.heap.size, rfl, some ⟨nb, 0, none⟩, tkp, new_at rfl, ⟨nb, tbp, rfl, ?_, HL7.out.1.kp hk8⟩, HL7.out.2.kp hk8⟩, hk.mt, hk.bt⟩
    exact (Kp.below ((Below.refl _ w8).alloc (Nat.le_refl _) _)) _ _ _ (.inr (.inl rfl)) P8.out
  · have L1 := Lib.hid ((PX1.out.alloc (.cells #[.int .i64 x1, .int .i64 x2] 32)).alloc (.cells #[.int .i64 y1, .int .i64 y2] 32)).drew
    have L3 := Lib.hid ((Loc.new (K1.out.mt) x1 x2).alloc (.cells #[.int .i64 y1, .int .i64 y2] 32)).drew
    have L2 := Lib.hid (Loc.new (K1.out.mt.alloc (.cells #[.int .i64 x1, .int .i64 x2] 32)) y1 y2).drew
    have K2 := Lib.hid ((K1.out.alloc (.cells #[.int .i64 x1, .int .i64 x2] 32)).alloc (.cells #[.int .i64 y1, .int .i64 y2] 32)).drew
    have KH := Lib.hid (Kp.below (((Below.refl w1.heap.size w1).alloc (Nat.le_refl _) (.cells #[.int .i64 x1, .int .i64 x2] 32)).alloc (by simp) (.cells #[.int .i64 y1, .int .i64 y2] 32)).drew)
    rw [World.size_alloc] at L2
    have NE := Lib.hid (show w1.heap.size + 1 ≠ w1.heap.size ∧ w.heap.size < w1.heap.size + 1 ∧ w.heap.size < w1.heap.size by have := PX1.out.lt; omega)
    generalize w1.heap.size + 1 = r at *
    generalize ((w1.alloc (.cells #[.int .i64 x1, .int .i64 x2] 32)).alloc (.cells #[.int .i64 y1, .int .i64 y2] 32)).drew = w2 at *
    generalize w1.heap.size = o at *
    clear g0 g1 d0 d1 c0 c1 c2 c3 d2 d3 d4 d5 K1 PX1
    have HH2 := Lib.hid (tree_kp HH.out KH.out)
    have HL2 := Lib.hid (And.intro (HL.out.1.kp KH.out) (HL.out.2.kp KH.out))
    clear HH HL KH
    go_wp2_with fail
    have s6 := six_kp HH2.out (Kpt.refl w2)
    have c0 := s6.c0
    have c1 := s6.c1
    have d0 := L1.out.pair.c0
    have d1 := L1.out.pair.c1
    clear s6
    go_region_held3 (fun w' => w'.cell? ⟨t, 0, none⟩ = some (.int .i64 x1) ∧ w'.cell? ⟨t, 1, none⟩ = some (.int .i64 x2) ∧ w'.cell? ⟨w.heap.size, 0, none⟩ = some (.int .i64 y1) ∧ w'.cell? ⟨w.heap.size, 1, none⟩ = some (.int .i64 y2)) (go_keep)
      (first | (go_at_call 42; ((with_reducible refine (mLess mo (c + n) (m + n) (x1, x2) (y1, y2) _ K4.out.1.mt (by omega) (by omega)).mono ?_); rintro e w5 ⟨rfl, hm5, hb5⟩; rw [HV.out]; have K5 := Lib.hid (And.intro (K4.out.1.turn hm5 hb5) (And.intro (K4.out.2.1.turn hb5) (And.intro (K4.out.2.2.1.turn hb5) (And.intro (K4.out.2.2.2.1.turn hb5) (K4.out.2.2.2.2.trans (hb5.kpt K4.out.1.mt tree_ne)))))); have f0 := (six_kp HH2.out K5.out.2.2.2.2).c0; have f1 := (six_kp HH2.out K5.out.2.2.2.2).c1; have f2 := K5.out.2.1.pair.c0; have f3 := K5.out.2.1.pair.c1; clear hm5 hb5)) | (go_at_call 78; ((with_reducible refine (key_any (x1, x2) _).mono ?_); rintro e w3 ⟨rfl, hb3⟩; have K3 := Lib.hid (And.intro (K2.out.drew.stay hb3) (And.intro (L1.out.drew.stay hb3) (And.intro (L2.out.drew.stay hb3) (And.intro (L3.out.drew.stay hb3) (Kpt.trans (Kp.below (Below.refl _ w2).drew) (Kp.below hb3)))))); have e0 := (six_kp HH2.out K3.out.2.2.2.2).c0; have e1 := (six_kp HH2.out K3.out.2.2.2.2).c1; have e2 := K3.out.2.1.pair.c0; have e3 := K3.out.2.1.pair.c1; clear hb3)) | (go_at_call 78; ((with_reducible refine (key_any (y1, y2) _).mono ?_); rintro e w4 ⟨rfl, hb4⟩; have K4 := Lib.hid (And.intro (K3.out.1.stay hb4) (And.intro (K3.out.2.1.stay hb4) (And.intro (K3.out.2.2.1.stay hb4) (And.intro (K3.out.2.2.2.1.stay hb4) (K3.out.2.2.2.2.trans (Kp.below hb4)))))); have i0 := (six_kp HH2.out K4.out.2.2.2.2).c0; have i1 := (six_kp HH2.out K4.out.2.2.2.2).c1; have i2 := K4.out.2.1.pair.c0; have i3 := K4.out.2.1.pair.c1; clear hb4)))
    clear c0 c1 d0 d1 e0 e1 e2 e3 f0 f1 f2 f3 i0 i1 i2 i3 K2 K3 K4 L1 L2 L3
    have HH5 := Lib.hid (tree_kp HH2.out K5.out.2.2.2.2)
    have HL5 := Lib.hid (And.intro (HL2.out.1.kp K5.out.2.2.2.2) (HL2.out.2.kp K5.out.2.2.2.2))
    have T5 := Lib.hid K5.out.1
    have L1 := Lib.hid K5.out.2.1
    have L2 := Lib.hid K5.out.2.2.1
    have L3 := Lib.hid K5.out.2.2.2.1
    clear K5 HH2 HL2
    clear L1
    have T6 := T5
    have L6 := L2
    have M6 := L3
    have HH6 := HH5
    have HL6 := HL5
    clear T5 L2 L3 HH5 HL5
    go_wp2_with fail
    ((with_reducible refine (mMade mo (c + n + 1) (m + n) _ T6.out.mt (by omega) (by omega)).mono ?_); rintro e w7 ⟨rfl, hm7, hb7⟩)
    have T7 := Lib.hid (T6.out.turn hm7 hb7)
    have L7 := Lib.hid (L6.out.turn hb7)
    have M7 := Lib.hid (M6.out.turn hb7)
    have HH7 := Lib.hid (tree_kp HH6.out (hb7.kpt T6.out.mt tree_ne))
    have HL7 := Lib.hid (And.intro (HL6.out.1.kp (hb7.kpt T6.out.mt tree_ne)) (HL6.out.2.kp (hb7.kpt T6.out.mt tree_ne)))
    clear hm7 hb7 T6 L6 M6 HH6 HL6
    have s6 := six_kp HH7.out (Kpt.refl _)
    have c2 := s6.c2
    have c3 := s6.c3
    have c4 := s6.c4
    have c5 := s6.c5
    have d0 := L7.out.pair.c0
    have d1 := L7.out.pair.c1
    have e0 := M7.out.pair.c0
    have e1 := M7.out.pair.c1
    clear s6
    go_wp2_with fail
    go_region_held3 (fun w' => w'.cell? ⟨r, 0, none⟩ = some (.int .i64 y1) ∧ w'.cell? ⟨r, 1, none⟩ = some (.int .i64 y2) ∧ w'.cell? ⟨o, 0, none⟩ = some (.int .i64 x1) ∧ w'.cell? ⟨o, 1, none⟩ = some (.int .i64 x2) ∧ w'.cell? ⟨t, 2, none⟩ = some (.pointer tbp) ∧ w'.cell? ⟨t, 3, none⟩ = some (.int .i64 (ks.len : Int)) ∧ w'.cell? ⟨t, 4, none⟩ = some (.pointer tkp) ∧ w'.cell? ⟨t, 5, none⟩ = some (.int .i64 (bs.length + ks.size : Nat))) (go_keep)
      (first | (go_at_call 79; ((with_reducible refine (pushE_any (x1, x2) tbp _).mono ?_); rintro e w8 ⟨nb, rfl, hn8, hb8⟩; have T8 := Lib.hid (T7.out.drew.stay hb8); have P8 := Lib.hid hn8; have K8 := Lib.hid (Kpt.trans (Kp.below (Below.refl _ w7).drew) (Kp.below hb8)); have s6 := six_kp HH7.out K8.out; have f2 := s6.c2; have f3 := s6.c3; have f4 := s6.c4; have f5 := s6.c5; have h8 := L7.out.drew.stay hb8; have j8 := M7.out.drew.stay hb8; have f0 := h8.pair.c0; have f1 := h8.pair.c1; have g0 := j8.pair.c0; have g1 := j8.pair.c1; clear hb8 hn8 s6 h8 j8)))
    clear c2 c3 c4 c5 d0 d1 e0 e1 f0 f1 f2 f3 f4 f5 g0 g1
    go_wp2_with fail
    go_ret
    have hs := HS.out
    have e2 : IntKind.i64.wrap (((bs.length : Int) + ks.size) + 1) = (((x1, x2) :: bs).length + ks.size : Nat) := by rw [IntKind.wrap_i64]; simp only [List.length_cons]; omega
    rw [e2]
    have hk := (T8.out.alloc (treeObj (y1, y2) (some ⟨nb, 0, none⟩) (ks.len : Int) tkp (((x1, x2) :: bs).length + ks.size : Nat)))
    have hk8 := K8.out.trans (Kp.below ((Below.refl _ w8).alloc (Nat.le_refl _) (treeObj (y1, y2) (some ⟨nb, 0, none⟩) (ks.len : Int) tkp (((x1, x2) :: bs).length + ks.size : Nat))))
    refine ⟨_, rfl, ⟨w8.heap.size, rfl, some ⟨nb, 0, none⟩, tkp, new_at rfl, ⟨nb, tbp, rfl, ?_, HL7.out.1.kp hk8⟩, HL7.out.2.kp hk8⟩, hk.mt, hk.bt⟩
    exact (Kp.below ((Below.refl _ w8).alloc (Nat.le_refl _) _)) _ _ _ (.inr (.inl rfl)) P8.out

end Go.Proofs.YtaeainnkhjnlaaaGreatDoor
namespace Go.Proofs.YtaeainnkhjnlaaaGreatDoor
open Go.Sort Go.RowKit

/-- How many comparisons Skew makes beside those of Link. -/
def skwN : Option Tre → Option Tre → Nat
  | none, none => 0
  | _, _ => 1

/-- Skew of a thing and two trees, one, or none. -/
theorem skew_any (mo : Option Nat) (c m : Int) (y : Int × Int) (p q : Option Addr) (ta tb : Option Tre) (w : World) (hm : MAt w mo c m) (h0 : 0 ≤ c) (h1 : c < 1152921504606846976) (h2 : 0 ≤ m) (h3 : m < 1152921504606846976)
    (ha : TAt w p ta) (hb : TAt w q tb) (ka : osize ta < 268435456) (kb : osize tb < 268435456) :
    Calls Tryz.prog 48 #[mAddr mo, el y, .pointer p, .pointer q] w (Gave mo (c + lnkN ta tb + skwN ta tb) (m + lnkN ta tb + 1) (oskw y ta tb) w) := by
  cases hl : olnk ta tb with
  | none =>
    have hn : ta = none ∧ tb = none := by cases ta <;> cases tb <;> simp_all [olnk]
    obtain ⟨rfl, rfl⟩ := hn
    obtain rfl := ha
    obtain rfl := hb
    have := skew_none mo c m y w hm h2 h3
    simpa [lnkN, skwN, oskw, olnk] using this
  | some t =>
    have hn : (skwN ta tb : Int) = 1 := by cases ta <;> cases tb <;> simp_all [olnk, skwN]
    rw [hn]
    obtain ⟨⟨x1, x2⟩, bs, ks⟩ := t
    obtain ⟨y1, y2⟩ := y
    unfold oskw
    rw [hl]
    show Calls Tryz.prog 48 _ w (Gave mo _ _ (some (skw (y1, y2) ⟨(x1, x2), bs, ks⟩)) w)
    cases hv : ltE (x1, x2) (y1, y2) with
    | true =>
      rw [show skw (y1, y2) ⟨(x1, x2), bs, ks⟩ = ⟨(x1, x2), (y1, y2) :: bs, ks⟩ from by unfold skw; simp only [hv, if_true]]
      exact skew_true mo c m y1 y2 p q ta tb x1 x2 bs ks hl w hm h0 h1 h2 h3 ha hb ka kb hv
    | false =>
      rw [show skw (y1, y2) ⟨(x1, x2), bs, ks⟩ = ⟨(y1, y2), (x1, x2) :: bs, ks⟩ from by unfold skw; simp [hv]]
      exact skew_false mo c m y1 y2 p q ta tb x1 x2 bs ks hl w hm h0 h1 h2 h3 ha hb ka kb hv

end Go.Proofs.YtaeainnkhjnlaaaGreatDoor
