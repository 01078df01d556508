/-
  The document's example of layer 9 holds: awake returns true, and nothing that was there has changed, in any world where the library's table is as it is laid.
-/
import Derived.Test.YtlaohkflnkjamaaGreatDoorSbits
namespace Go.Proofs.YtlaohkflnkjamaaGreatDoor.Hp
open Go.Sort Go.RowKit

set_option maxRecDepth 100000 in
set_option maxHeartbeats 4000000 in
theorem awake_any (w : World) (he : Env w) : Calls Tryz.prog 4 #[] w fun e w' => e = .returned (.bool true) ∧ Below w.heap.size w w' := by
  have HE := Lib.hid he
  clear he
  go_enter Tryz.func4, Tryz.ntmps4
  go_wp2_with fail
  ((with_reducible refine (mNew _).mono ?_); rintro e w1 ⟨rfl, hm, hb⟩)
  obtain ⟨mb, hmb⟩ : ∃ mb, mb = w.heap.size := ⟨_, rfl⟩
  rw [← hmb] at hm ⊢
  have HMB := Lib.hid (Nat.le_of_eq hmb.symm)
  clear hmb
  have HM1 := Lib.hid hm
  have HR1 := Lib.hid (fun W (hb1 : Bt (some mb) w1 W) => Bas.bt ⟨hb, HE.out.below hb⟩ HE.out hb1 (fun b e => by cases e; exact HMB.out))
  clear hm hb
  go_wp2_with fail
  have HROW := Lib.hid (show Row (w1.alloc (.cells #[.int .i64 2, .int .i64 0, .int .i64 1, .int .i64 0, .int .i64 3, .int .i64 0] 38)) (some ⟨w1.heap.size, 0, none⟩) [(2, 0), (1, 0), (3, 0)] from row_new w1 [(2, 0), (1, 0), (3, 0)] 38)
  have HNE := Lib.hid (show ∀ b, some mb = some b → ∀ q, some (⟨w1.heap.size, 0, none⟩ : Addr) = some q → q.block ≠ b from fun b e q eq => by cases e; cases eq; have := HM1.out.lt; exact (Nat.ne_of_lt this).symm)
  have HM2 := Lib.hid (HM1.out.alloc (.cells #[.int .i64 2, .int .i64 0, .int .i64 1, .int .i64 0, .int .i64 3, .int .i64 0] 38))
  have HR2 := Lib.hid (fun W (hz : Bt (some mb) (w1.alloc (.cells #[.int .i64 2, .int .i64 0, .int .i64 1, .int .i64 0, .int .i64 3, .int .i64 0] 38)) W) => HR1.out W (((Bt.refl (some mb) w1).alloc (.cells #[.int .i64 2, .int .i64 0, .int .i64 1, .int .i64 0, .int .i64 3, .int .i64 0] 38)).trans hz))
  clear HR1 HM1 
  generalize w1.alloc (.cells #[.int .i64 2, .int .i64 0, .int .i64 1, .int .i64 0, .int .i64 3, .int .i64 0] 38) = w2 at *
  have HO : Calls Tryz.prog 14 #[mAddr (some mb), .slice (some ⟨w1.heap.size, 0, none⟩) 3 3] w2 (Gave (some mb) 2 4 exH w2) := by
    have h1 := of_any (some mb) 0 0 (some ⟨w1.heap.size, 0, none⟩) [(2, 0), (1, 0), (3, 0)] 3 w2 HM2.out (by decide) (by decide) (by decide) (by decide) HROW.out (by decide) (fun _ => HNE.out)
    rw [ex_of, ex_put.1, ex_put.2] at h1
    exact h1
  clear HROW HNE
  ((with_reducible refine (HO).mono ?_); rintro e w3 ⟨pH, rfl, ht, hm, hb⟩)
  have HM3 := Lib.hid hm
  have HR3 := Lib.hid (on_inv (mo := (some mb)) HR2.out hb (fun W hz => ht.bt hz HM3.out))
  clear HR2 HM2 
  clear ht hm hb HO
  go_wp2_with fail
  have hs_bH := (HR3.out _ (Bt.refl _ _)).2.below.size
  have HM4 := Lib.hid (HM3.out.alloc (.cells #[.pointer pH.q, .int .i64 pH.n] 31))
  have HR4 := Lib.hid (on_inv (mo := (some mb)) HR3.out ((Bt.refl (some mb) w3).alloc (.cells #[.pointer pH.q, .int .i64 pH.n] 31)) (fun W hz => (HVar.new w3 pH rfl).bt hz HM4.out))
  clear HR3 HM3 
  generalize w3.alloc (.cells #[.pointer pH.q, .int .i64 pH.n] 31) = w4 at *
  obtain ⟨bH, hbH⟩ : ∃ b, b = w3.heap.size := ⟨_, rfl⟩
  rw [← hbH] at HR4 ⊢
  have B_bH := Lib.hid (show w.heap.size ≤ bH by rw [hbH]; exact hs_bH)
  clear hbH hs_bH 
  ((with_reducible refine (mSteps mb 2 4 _ HM4.out (by decide) (by decide) (by decide) (by decide)).mono ?_); rintro e w5 ⟨rfl, hb⟩)
  have HM5 := Lib.hid (HM4.out.stay hb)
  have HR5 := Lib.hid (fun W (hz : Bt (some mb) w5 W) => HR4.out W ((Bt.ofBelow hb).trans hz))
  clear HR4 HM4 
  clear hb
  have c1 : w5.cell? ⟨bH, 0, none⟩ = some (.pointer pH.q) := (HR5.out _ (Bt.refl _ _)).1.c0
  have c2 : w5.cell? ⟨bH, 1, none⟩ = some (.int .i64 pH.n) := (HR5.out _ (Bt.refl _ _)).1.c1
  go_wp2_with fail
  ((with_reducible refine (min_any (some mb) 2 4 exH pH _ HM5.out (by decide) (by decide) (HR5.out _ (Bt.refl _ _)).2.1).mono ?_); rintro e w6 ⟨rfl, hm, hb⟩)
  have HM6 := Lib.hid (show MAt w6 (some mb) 2 4 from by rw [ex_tell] at hm; exact hm)
  have HR6 := Lib.hid (fun W (hz : Bt (some mb) w6 W) => HR5.out W (hb.trans hz))
  clear HR5 HM5 c1 c2
  clear hm hb
  rw [show minV exH = .tuple #[el (1, 0), .bool true] from by unfold minV; rw [ex_min]]
  have c3 : (w6.alloc (.cells #[.int .i64 1, .int .i64 0] 38)).cell? ⟨bH, 0, none⟩ = some (.pointer pH.q) := (HR6.out _ ((Bt.refl _ _).alloc _)).1.c0
  have c4 : (w6.alloc (.cells #[.int .i64 1, .int .i64 0] 38)).cell? ⟨bH, 1, none⟩ = some (.int .i64 pH.n) := (HR6.out _ ((Bt.refl _ _).alloc _)).1.c1
  go_wp2_with fail
  have hs_bX := (HR6.out _ (Bt.refl _ _)).2.2.below.size
  have HM7 := Lib.hid (HM6.out.alloc (.cells #[.int .i64 1, .int .i64 0] 38))
  have HR7 := Lib.hid (on_inv (mo := (some mb)) HR6.out ((Bt.refl (some mb) w6).alloc (.cells #[.int .i64 1, .int .i64 0] 38)) (fun W hz => (EVar.new w6 1 0 rfl).bt hz HM7.out))
  clear HR6 HM6 c3 c4
  generalize w6.alloc (.cells #[.int .i64 1, .int .i64 0] 38) = w7 at *
  obtain ⟨bX, hbX⟩ : ∃ b, b = w6.heap.size := ⟨_, rfl⟩
  rw [← hbX] at HR7 ⊢
  have B_bX := Lib.hid (show w.heap.size ≤ bX by rw [hbX]; exact hs_bX)
  clear hbX hs_bX 
  ((with_reducible refine (pop_any (some mb) 2 4 exH pH _ (by decide) HM7.out (by decide) (by decide) (by decide) (by decide) (HR7.out _ (Bt.refl _ _)).2.2.1).mono ?_); rintro e w8 ⟨pG, rfl, ht, hm, hb⟩)
  have HM8 := Lib.hid (show MAt w8 (some mb) 2 5 from by rw [ex_popN.1, ex_popN.2, ex_tell] at hm; exact hm)
  have HR8 := Lib.hid (on_inv (mo := (some mb)) HR7.out hb (fun W hz => ht.bt hz HM8.out))
  clear HR7 HM7 
  clear ht hm hb
  go_wp2_with fail
  have hs_bG := (HR8.out _ (Bt.refl _ _)).2.2.2.2.below.size
  have HM9 := Lib.hid (HM8.out.alloc (.cells #[.pointer pG.q, .int .i64 pG.n] 31))
  have HR9 := Lib.hid (on_inv (mo := (some mb)) HR8.out ((Bt.refl (some mb) w8).alloc (.cells #[.pointer pG.q, .int .i64 pG.n] 31)) (fun W hz => (HVar.new w8 pG rfl).bt hz HM9.out))
  clear HR8 HM8 
  generalize w8.alloc (.cells #[.pointer pG.q, .int .i64 pG.n] 31) = w9 at *
  obtain ⟨bG, hbG⟩ : ∃ b, b = w8.heap.size := ⟨_, rfl⟩
  rw [← hbG] at HR9 ⊢
  have B_bG := Lib.hid (show w.heap.size ≤ bG by rw [hbG]; exact hs_bG)
  clear hbG hs_bG 
  ((with_reducible refine (min_any (some mb) 2 5 exH.pop pG _ HM9.out (by decide) (by decide) (HR9.out _ (Bt.refl _ _)).2.1).mono ?_); rintro e w10 ⟨rfl, hm, hb⟩)
  have HM10 := Lib.hid (show MAt w10 (some mb) 3 5 from by rw [ex_pop] at hm; exact hm)
  have HR10 := Lib.hid (fun W (hz : Bt (some mb) w10 W) => HR9.out W (hb.trans hz))
  clear HR9 HM9 
  clear hm hb
  rw [show minV exH.pop = .tuple #[el (2, 0), .bool true] from by unfold minV; rw [ex_pop, ex_gmin]]
  go_wp2_with fail
  have hs_bY := (HR10.out _ (Bt.refl _ _)).2.2.2.2.2.below.size
  have HM11 := Lib.hid (HM10.out.alloc (.cells #[.int .i64 2, .int .i64 0] 38))
  have HR11 := Lib.hid (on_inv (mo := (some mb)) HR10.out ((Bt.refl (some mb) w10).alloc (.cells #[.int .i64 2, .int .i64 0] 38)) (fun W hz => (EVar.new w10 2 0 rfl).bt hz HM11.out))
  clear HR10 HM10 
  generalize w10.alloc (.cells #[.int .i64 2, .int .i64 0] 38) = w11 at *
  obtain ⟨bY, hbY⟩ : ∃ b, b = w10.heap.size := ⟨_, rfl⟩
  rw [← hbY] at HR11 ⊢
  have B_bY := Lib.hid (show w.heap.size ≤ bY by rw [hbY]; exact hs_bY)
  clear hbY hs_bY 
  ((with_reducible refine (pop_any (some mb) 3 5 .nil ⟨none, 0⟩ _ (by decide) HM11.out (by decide) (by decide) (by decide) (by decide) (LAt.nil _)).mono ?_); rintro e w12 ⟨pN, rfl, ht, hm, hb⟩)
  have HM12 := Lib.hid (show MAt w12 (some mb) 3 5 from hm)
  have HR12 := Lib.hid (fun W (hz : Bt (some mb) w12 W) => HR11.out W (hb.trans hz))
  clear HR11 HM11 
  clear ht hm hb
  have c5 : (w12.alloc (.cells #[.pointer pN.q, .int .i64 pN.n] 31)).cell? ⟨bH, 0, none⟩ = some (.pointer pH.q) := (HR12.out _ ((Bt.refl _ _).alloc _)).2.2.2.2.1.c0
  have c6 : (w12.alloc (.cells #[.pointer pN.q, .int .i64 pN.n] 31)).cell? ⟨bH, 1, none⟩ = some (.int .i64 pH.n) := (HR12.out _ ((Bt.refl _ _).alloc _)).2.2.2.2.1.c1
  go_wp2_with fail
  have hs_bN := (HR12.out _ (Bt.refl _ _)).2.2.2.2.2.2.below.size
  have HM13 := Lib.hid (HM12.out.alloc (.cells #[.pointer pN.q, .int .i64 pN.n] 31))
  have HR13 := Lib.hid (on_inv (mo := (some mb)) HR12.out ((Bt.refl (some mb) w12).alloc (.cells #[.pointer pN.q, .int .i64 pN.n] 31)) (fun W hz => (HVar.new w12 pN rfl).bt hz HM13.out))
  clear HR12 HM12 c5 c6
  generalize w12.alloc (.cells #[.pointer pN.q, .int .i64 pN.n] 31) = w13 at *
  obtain ⟨bN, hbN⟩ : ∃ b, b = w12.heap.size := ⟨_, rfl⟩
  rw [← hbN] at HR13 ⊢
  have B_bN := Lib.hid (show w.heap.size ≤ bN by rw [hbN]; exact hs_bN)
  clear hbN hs_bN 
  ((with_reducible refine (show_any exH pH _ (HR13.out _ (Bt.refl _ _)).2.2.2.2.2.2.2.env (HR13.out _ (Bt.refl _ _)).2.2.2.2.2.2.1 ex_fits (by decide)).mono ?_); rintro e w14 ⟨rfl, hb⟩)
  have HM14 := Lib.hid (HM13.out.stay hb)
  have HR14 := Lib.hid (fun W (hz : Bt (some mb) w14 W) => HR13.out W ((Bt.ofBelow hb).trans hz))
  clear HR13 HM13 
  clear hb
  rw [ex_show]
  have c7 : w14.cell? ⟨bX, 0, none⟩ = some (.int .i64 1) := (HR14.out _ (Bt.refl _ _)).2.2.2.2.1.c0
  have c8 : w14.cell? ⟨bY, 0, none⟩ = some (.int .i64 2) := (HR14.out _ (Bt.refl _ _)).2.1.c0
  have c9 : w14.cell? ⟨bH, 0, none⟩ = some (.pointer pH.q) := (HR14.out _ (Bt.refl _ _)).2.2.2.2.2.1.c0
  have c10 : w14.cell? ⟨bH, 1, none⟩ = some (.int .i64 pH.n) := (HR14.out _ (Bt.refl _ _)).2.2.2.2.2.1.c1
  try rw [show exH.some = true from by unfold Lh.some; rw [ex_min]]
  try rw [show Lh.nil.some = false from rfl]
  go_wp2_with fail
  ((with_reducible refine (size_any exH pH _ (HR14.out _ (Bt.refl _ _)).2.2.2.2.2.2.1).mono ?_); rintro e w15 ⟨rfl, hb⟩)
  have HM15 := Lib.hid (HM14.out.stay hb)
  have HR15 := Lib.hid (fun W (hz : Bt (some mb) w15 W) => HR14.out W ((Bt.ofBelow hb).trans hz))
  clear HR14 HM14 c7 c8 c9 c10
  clear hb
  rw [show ((exH.size : Nat) : Int) = 3 from rfl]
  have c11 : w15.cell? ⟨bG, 0, none⟩ = some (.pointer pG.q) := (HR15.out _ (Bt.refl _ _)).2.2.1.c0
  have c12 : w15.cell? ⟨bG, 1, none⟩ = some (.int .i64 pG.n) := (HR15.out _ (Bt.refl _ _)).2.2.1.c1
  go_wp2_with fail
  ((with_reducible refine (size_any exH.pop pG _ (HR15.out _ (Bt.refl _ _)).2.2.2.1).mono ?_); rintro e w16 ⟨rfl, hb⟩)
  have HM16 := Lib.hid (HM15.out.stay hb)
  have HR16 := Lib.hid (fun W (hz : Bt (some mb) w16 W) => HR15.out W ((Bt.ofBelow hb).trans hz))
  clear HR15 HM15 c11 c12
  clear hb
  rw [show ((exH.pop.size : Nat) : Int) = 2 from by rw [ex_pop]; rfl]
  go_wp2_with fail
  go_ret
  exact ⟨rfl, (HR16.out _ (Bt.refl _ _)).2.2.2.2.2.2.2.below⟩

end Go.Proofs.YtlaohkflnkjamaaGreatDoor.Hp
