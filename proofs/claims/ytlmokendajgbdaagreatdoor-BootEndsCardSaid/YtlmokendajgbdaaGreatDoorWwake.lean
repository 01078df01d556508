/-
  The document's example of layer 11 holds: awake returns true, and nothing that was there has changed, in any world where the library's table is as it is laid.
-/
import Derived.Test.YtlmokendajgbdaaGreatDoorWb6
import Derived.Test.YtlmokendajgbdaaGreatDoorWw
namespace Go.Proofs.YtlmokendajgbdaaGreatDoor.Bo
open Go.Sort Go.RowKit

set_option maxRecDepth 100000 in
set_option maxHeartbeats 4000000 in
theorem awake_any (w : World) (he : Env w) : Calls Tryz.prog 13 #[] w fun e w' => e = .returned (.bool true) ∧ Below w.heap.size w w' := by
  have HE := Lib.hid he
  clear he
  go_enter Tryz.func13, Tryz.ntmps13
  go_wp2_with fail
  ((with_reducible refine (mNew _).mono ?_); rintro e w1 ⟨rfl, hm, hb⟩)
  obtain ⟨mb, hmb⟩ : ∃ mb, mb = w.heap.size := ⟨_, rfl⟩
  rw [← hmb] at hm ⊢
  have HMB := Lib.hid (Nat.le_of_eq hmb.symm)
  clear hmb
  have HM1 := Lib.hid hm
  have HR1 := Lib.hid (fun W (hb1 : Bt (some mb) w1 W) => Bas.bt ⟨hb, HE.out.below hb⟩ HE.out hb1 (fun b e => by cases e; exact HMB.out))
  clear hm hb
  go_wp2_with fail
  have HROW := Lib.hid (show Row (w1.alloc (.cells #[.int .i64 2, .int .i64 0, .int .i64 1, .int .i64 0, .int .i64 3, .int .i64 0] 32)) (some ⟨w1.heap.size, 0, none⟩) [(2, 0), (1, 0), (3, 0)] from row_new w1 [(2, 0), (1, 0), (3, 0)] 32)
  have HNE := Lib.hid (show ∀ b, some mb = some b → ∀ q, some (⟨w1.heap.size, 0, none⟩ : Addr) = some q → q.block ≠ b from fun b e q eq => by cases e; cases eq; have := HM1.out.lt; exact (Nat.ne_of_lt this).symm)
  have HM2 := Lib.hid (HM1.out.alloc (.cells #[.int .i64 2, .int .i64 0, .int .i64 1, .int .i64 0, .int .i64 3, .int .i64 0] 32))
  have HR2 := Lib.hid (fun W (hz : Bt (some mb) (w1.alloc (.cells #[.int .i64 2, .int .i64 0, .int .i64 1, .int .i64 0, .int .i64 3, .int .i64 0] 32)) W) => HR1.out W (((Bt.refl (some mb) w1).alloc (.cells #[.int .i64 2, .int .i64 0, .int .i64 1, .int .i64 0, .int .i64 3, .int .i64 0] 32)).trans hz))
  clear HR1 HM1 
  generalize w1.alloc (.cells #[.int .i64 2, .int .i64 0, .int .i64 1, .int .i64 0, .int .i64 3, .int .i64 0] 32) = w2 at *
  have HO : Calls Tryz.prog 23 #[mAddr (some mb), .slice (some ⟨w1.heap.size, 0, none⟩) 3 3] w2 (Gave (some mb) 2 7 exH w2) := by
    have h1 := of_any (some mb) 0 0 (some ⟨w1.heap.size, 0, none⟩) [(2, 0), (1, 0), (3, 0)] 3 w2 HM2.out (by decide) (by decide) (by decide) (by decide) HROW.out (by decide) (fun _ => HNE.out)
    rw [ex_of, ex_put.1, ex_put.2] at h1
    exact h1
  clear HROW HNE
  ((with_reducible refine (HO).mono ?_); rintro e w3 ⟨pH, rfl, ht, hm, hb⟩)
  have HM3 := Lib.hid hm
  have HR3 := Lib.hid (on_inv (mo := (some mb)) HR2.out hb (fun W hz => ht.bt hz HM3.out))
  clear HR2 HM2 
  clear ht hm hb HO
  go_wp2_with fail
  have HM4 := Lib.hid (HM3.out.alloc (.cells #[.pointer pH] 29))
  have HR4 := Lib.hid (on_inv (mo := (some mb)) HR3.out ((Bt.refl (some mb) w3).alloc (.cells #[.pointer pH] 29)) (fun W hz => (HVar.new w3 pH rfl).bt hz HM4.out))
  clear HR3 HM3 
  generalize w3.alloc (.cells #[.pointer pH] 29) = w4 at *
  obtain ⟨bH, hbH⟩ : ∃ b, b = w3.heap.size := ⟨_, rfl⟩
  rw [← hbH] at HR4 ⊢
  clear hbH
  ((with_reducible refine (mSteps mb 2 7 _ HM4.out (by decide) (by decide) (by decide) (by decide)).mono ?_); rintro e w5 ⟨rfl, hb⟩)
  have HM5 := Lib.hid (HM4.out.stay hb)
  have HR5 := Lib.hid (fun W (hz : Bt (some mb) w5 W) => HR4.out W ((Bt.ofBelow hb).trans hz))
  clear HR4 HM4 
  clear hb
  have c1 : w5.cell? ⟨bH, 0, none⟩ = some (.pointer pH) := (HR5.out _ (Bt.refl _ _)).1.c0
  go_wp2_with fail
  ((with_reducible refine (min_any exH pH _ _ (HR5.out _ (Bt.refl _ _)).2.1).mono ?_); rintro e w6 ⟨rfl, hb⟩)
  have HM6 := Lib.hid (HM5.out.stay hb)
  have HR6 := Lib.hid (fun W (hz : Bt (some mb) w6 W) => HR5.out W ((Bt.ofBelow hb).trans hz))
  clear HR5 HM5 c1
  clear hb
  rw [show minV exH = .tuple #[el (1, 0), .bool true] from rfl]
  have c2 : (w6.alloc (.cells #[.int .i64 1, .int .i64 0] 32)).cell? ⟨bH, 0, none⟩ = some (.pointer pH) := (HR6.out _ ((Bt.refl _ _).alloc _)).1.c0
  go_wp2_with fail
  have HM7 := Lib.hid (HM6.out.alloc (.cells #[.int .i64 1, .int .i64 0] 32))
  have HR7 := Lib.hid (on_inv (mo := (some mb)) HR6.out ((Bt.refl (some mb) w6).alloc (.cells #[.int .i64 1, .int .i64 0] 32)) (fun W hz => (EVar.new w6 1 0 rfl).bt hz HM7.out))
  clear HR6 HM6 c2
  generalize w6.alloc (.cells #[.int .i64 1, .int .i64 0] 32) = w7 at *
  obtain ⟨bX, hbX⟩ : ∃ b, b = w6.heap.size := ⟨_, rfl⟩
  rw [← hbX] at HR7 ⊢
  clear hbX
  ((with_reducible refine (pop_any (some mb) 2 7 exH pH _ (by rw [ex_size]; decide) HM7.out (by decide) (by decide) (by decide) (by decide) (HR7.out _ (Bt.refl _ _)).2.2.1).mono ?_); rintro e w8 ⟨pG, rfl, ht, hm, hb⟩)
  have HM8 := Lib.hid (show MAt w8 (some mb) 4 8 from by rw [ex_popN.1, ex_popN.2] at hm; exact hm)
  have HR8 := Lib.hid (on_inv (mo := (some mb)) HR7.out hb (fun W hz => ht.bt hz HM8.out))
  clear HR7 HM7 
  clear ht hm hb
  go_wp2_with fail
  have HM9 := Lib.hid (HM8.out.alloc (.cells #[.pointer pG] 29))
  have HR9 := Lib.hid (on_inv (mo := (some mb)) HR8.out ((Bt.refl (some mb) w8).alloc (.cells #[.pointer pG] 29)) (fun W hz => (HVar.new w8 pG rfl).bt hz HM9.out))
  clear HR8 HM8 
  generalize w8.alloc (.cells #[.pointer pG] 29) = w9 at *
  obtain ⟨bG, hbG⟩ : ∃ b, b = w8.heap.size := ⟨_, rfl⟩
  rw [← hbG] at HR9 ⊢
  clear hbG
  ((with_reducible refine (min_any exH.pop pG _ _ (HR9.out _ (Bt.refl _ _)).2.1).mono ?_); rintro e w10 ⟨rfl, hb⟩)
  have HM10 := Lib.hid (HM9.out.stay hb)
  have HR10 := Lib.hid (fun W (hz : Bt (some mb) w10 W) => HR9.out W ((Bt.ofBelow hb).trans hz))
  clear HR9 HM9 
  clear hb
  rw [show minV exH.pop = .tuple #[el (2, 0), .bool true] from by rw [ex_pop]; rfl]
  go_wp2_with fail
  have HM11 := Lib.hid (HM10.out.alloc (.cells #[.int .i64 2, .int .i64 0] 32))
  have HR11 := Lib.hid (on_inv (mo := (some mb)) HR10.out ((Bt.refl (some mb) w10).alloc (.cells #[.int .i64 2, .int .i64 0] 32)) (fun W hz => (EVar.new w10 2 0 rfl).bt hz HM11.out))
  clear HR10 HM10 
  generalize w10.alloc (.cells #[.int .i64 2, .int .i64 0] 32) = w11 at *
  obtain ⟨bY, hbY⟩ : ∃ b, b = w10.heap.size := ⟨_, rfl⟩
  rw [← hbY] at HR11 ⊢
  clear hbY
  rw [show (Value.pointer none) = .pointer none from rfl]
  ((with_reducible refine (pop_any (some mb) 4 8 .nil none _ (by rw [nil_size]; decide) HM11.out (by decide) (by decide) (by decide) (by decide) (LAt.none _)).mono ?_); rintro e w12 ⟨pN, rfl, ht, hm, hb⟩)
  have HM12 := Lib.hid (show MAt w12 (some mb) 4 8 from by simpa [Lh.popC, Lh.popM] using hm)
  have HR12 := Lib.hid (fun W (hz : Bt (some mb) w12 W) => HR11.out W (hb.trans hz))
  clear HR11 HM11 
  clear ht hm hb
  have c3 : (w12.alloc (.cells #[.pointer pN] 29)).cell? ⟨bH, 0, none⟩ = some (.pointer pH) := (HR12.out _ ((Bt.refl _ _).alloc _)).2.2.2.2.1.c0
  go_wp2_with fail
  have HM13 := Lib.hid (HM12.out.alloc (.cells #[.pointer pN] 29))
  have HR13 := Lib.hid (on_inv (mo := (some mb)) HR12.out ((Bt.refl (some mb) w12).alloc (.cells #[.pointer pN] 29)) (fun W hz => (HVar.new w12 pN rfl).bt hz HM13.out))
  clear HR12 HM12 c3
  generalize w12.alloc (.cells #[.pointer pN] 29) = w13 at *
  obtain ⟨bN, hbN⟩ : ∃ b, b = w12.heap.size := ⟨_, rfl⟩
  rw [← hbN] at HR13 ⊢
  clear hbN
  ((with_reducible refine (show_any exH pH _ (HR13.out _ (Bt.refl _ _)).2.2.2.2.2.2.2.env (HR13.out _ (Bt.refl _ _)).2.2.2.2.2.2.1 ex_fits (by rw [ex_size]; decide)).mono ?_); rintro e w14 ⟨rfl, hb⟩)
  have HM14 := Lib.hid (HM13.out.stay hb)
  have HR14 := Lib.hid (fun W (hz : Bt (some mb) w14 W) => HR13.out W ((Bt.ofBelow hb).trans hz))
  clear HR13 HM13 
  clear hb
  rw [ex_show]
  have c4 : w14.cell? ⟨bX, 0, none⟩ = some (.int .i64 1) := (HR14.out _ (Bt.refl _ _)).2.2.2.2.1.c0
  have c5 : w14.cell? ⟨bY, 0, none⟩ = some (.int .i64 2) := (HR14.out _ (Bt.refl _ _)).2.1.c0
  have c6 : w14.cell? ⟨bH, 0, none⟩ = some (.pointer pH) := (HR14.out _ (Bt.refl _ _)).2.2.2.2.2.1.c0
  simp only [Lh.some, Lh.min, exH]
  go_wp2_with fail
  ((with_reducible refine (size_any exH pH _ (HR14.out _ (Bt.refl _ _)).2.2.2.2.2.2.1).mono ?_); rintro e w15 ⟨rfl, hb⟩)
  have HM15 := Lib.hid (HM14.out.stay hb)
  have HR15 := Lib.hid (fun W (hz : Bt (some mb) w15 W) => HR14.out W ((Bt.ofBelow hb).trans hz))
  clear HR14 HM14 c4 c5 c6
  clear hb
  rw [show ((exH.size : Nat) : Int) = 3 from by rw [ex_size]; rfl]
  have c7 : w15.cell? ⟨bG, 0, none⟩ = some (.pointer pG) := (HR15.out _ (Bt.refl _ _)).2.2.1.c0
  go_wp2_with fail
  ((with_reducible refine (size_any exH.pop pG _ (HR15.out _ (Bt.refl _ _)).2.2.2.1).mono ?_); rintro e w16 ⟨rfl, hb⟩)
  have HM16 := Lib.hid (HM15.out.stay hb)
  have HR16 := Lib.hid (fun W (hz : Bt (some mb) w16 W) => HR15.out W ((Bt.ofBelow hb).trans hz))
  clear HR15 HM15 c7
  clear hb
  rw [show ((exH.pop.size : Nat) : Int) = 2 from by rw [ex_pop, exG_size]; rfl]
  go_wp2_with fail
  go_ret
  exact ⟨rfl, (HR16.out _ (Bt.refl _ _)).2.2.2.2.2.2.2.below⟩

end Go.Proofs.YtlmokendajgbdaaGreatDoor.Bo
