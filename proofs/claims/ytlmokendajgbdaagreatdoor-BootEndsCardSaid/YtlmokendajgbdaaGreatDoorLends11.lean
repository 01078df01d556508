/-
  The walk of the statement BootEnds: for any three numbers of 64 bits it returns true, and nothing that was there has changed, in any world where the library's table is as it is laid.
-/
import Derived.Test.YtlmokendajgbdaaGreatDoorWb6
import Derived.Test.YtlmokendajgbdaaGreatDoorWwake
namespace Go.Proofs.YtlmokendajgbdaaGreatDoor.Bo
open Go.Sort Go.RowKit

theorem four_elems (W : World) (p1 p2 q1 q2 r1 r2 s1 s2 : Int) (L : List (Int × Int)) :
    EVar (((((W.alloc (.cells #[.int .i64 p1, .int .i64 p2] 32)).alloc (.cells #[.int .i64 q1, .int .i64 q2] 32)).alloc (.cells #[.int .i64 r1, .int .i64 r2] 32)).alloc (.cells #[.int .i64 s1, .int .i64 s2] 32)).alloc (.cells (cellsE L).toArray 32)) W.heap.size (p1, p2) ∧
    EVar (((((W.alloc (.cells #[.int .i64 p1, .int .i64 p2] 32)).alloc (.cells #[.int .i64 q1, .int .i64 q2] 32)).alloc (.cells #[.int .i64 r1, .int .i64 r2] 32)).alloc (.cells #[.int .i64 s1, .int .i64 s2] 32)).alloc (.cells (cellsE L).toArray 32)) (W.heap.size + 1) (q1, q2) ∧
    EVar (((((W.alloc (.cells #[.int .i64 p1, .int .i64 p2] 32)).alloc (.cells #[.int .i64 q1, .int .i64 q2] 32)).alloc (.cells #[.int .i64 r1, .int .i64 r2] 32)).alloc (.cells #[.int .i64 s1, .int .i64 s2] 32)).alloc (.cells (cellsE L).toArray 32)) (W.heap.size + 1 + 1) (r1, r2) ∧
    EVar (((((W.alloc (.cells #[.int .i64 p1, .int .i64 p2] 32)).alloc (.cells #[.int .i64 q1, .int .i64 q2] 32)).alloc (.cells #[.int .i64 r1, .int .i64 r2] 32)).alloc (.cells #[.int .i64 s1, .int .i64 s2] 32)).alloc (.cells (cellsE L).toArray 32)) (W.heap.size + 1 + 1 + 1) (s1, s2) ∧
    Row (((((W.alloc (.cells #[.int .i64 p1, .int .i64 p2] 32)).alloc (.cells #[.int .i64 q1, .int .i64 q2] 32)).alloc (.cells #[.int .i64 r1, .int .i64 r2] 32)).alloc (.cells #[.int .i64 s1, .int .i64 s2] 32)).alloc (.cells (cellsE L).toArray 32)) (some ⟨W.heap.size + 1 + 1 + 1 + 1, 0, none⟩) L := by
  refine ⟨?_, ?_, ?_, ?_, ?_⟩
  · exact (alloc_old _ (by simp only [World.size_alloc]; omega)).trans ((alloc_old _ (by simp only [World.size_alloc]; omega)).trans ((alloc_old _ (by simp only [World.size_alloc]; omega)).trans ((alloc_old _ (by simp only [World.size_alloc]; omega)).trans (new_at rfl))))
  · exact (alloc_old _ (by simp only [World.size_alloc]; omega)).trans ((alloc_old _ (by simp only [World.size_alloc]; omega)).trans ((alloc_old _ (by simp only [World.size_alloc]; omega)).trans (new_at (by simp))))
  · exact (alloc_old _ (by simp only [World.size_alloc]; omega)).trans ((alloc_old _ (by simp only [World.size_alloc]; omega)).trans (new_at (by simp)))
  · exact (alloc_old _ (by simp only [World.size_alloc]; omega)).trans (new_at (by simp))
  · have h := row_new ((((W.alloc (.cells #[.int .i64 p1, .int .i64 p2] 32)).alloc (.cells #[.int .i64 q1, .int .i64 q2] 32)).alloc (.cells #[.int .i64 r1, .int .i64 r2] 32)).alloc (.cells #[.int .i64 s1, .int .i64 s2] 32)) L 32
    simp only [World.size_alloc] at h
    exact h
theorem heap_row (W : World) (p : Option Addr) (L : List (Int × Int)) : HVar ((W.alloc (.cells #[.pointer p] 29)).alloc (.cells (cellsE L).toArray 32)) W.heap.size p ∧
    Row ((W.alloc (.cells #[.pointer p] 29)).alloc (.cells (cellsE L).toArray 32)) (some ⟨W.heap.size + 1, 0, none⟩) L := by
  refine ⟨(alloc_old _ (by simp only [World.size_alloc]; omega)).trans (new_at rfl), ?_⟩
  have h := row_new (W.alloc (.cells #[.pointer p] 29)) L 32
  simp only [World.size_alloc] at h
  exact h
theorem five_perm (h y x l b : Int × Int) : [h, y, x, l, b].Perm [l, h, x, y, b] := by
  have e1 : ([h, y, x] ++ l :: [b]).Perm (l :: ([h, y, x] ++ [b])) := List.perm_middle
  refine e1.trans (List.Perm.cons l (List.Perm.cons h ?_))
  exact List.Perm.swap x y [b]

set_option maxRecDepth 100000 in
set_option maxHeartbeats 4000000 in
theorem ends_any (a b i : Int) (w : World) (he : Env w) (ha : in64 a) (hb0 : in64 b) (hi : in64 i) :
    Calls Tryz.prog 10 #[.int .i64 a, .int .i64 b, .int .i64 i] w fun e w' => e = .returned (.bool true) ∧ Below w.heap.size w w' := by
  have HF := Lib.hid (And.intro ha (And.intro hb0 hi))
  clear ha hb0 hi
  have HE := Lib.hid he
  have HM0 := Lib.hid (show MAt w (none : Option Nat) 0 0 from trivial)
  have HR0 := Lib.hid (fun W (hb : Bt none w W) => Bas.bt (Bas.first he) he hb (fun _ e => by cases e))
  clear he
  go_enter Tryz.func10, Tryz.ntmps10
  go_wp2_with fail
  ((with_reducible refine (awake_any _ HE.out).mono ?_); rintro e w1 ⟨rfl, hb⟩)
  have HM1 := Lib.hid (show MAt w1 (none : Option Nat) 0 0 from trivial)
  have HR1 := Lib.hid (fun W (hz : Bt none w1 W) => HR0.out W ((Bt.ofBelow hb).trans hz))
  clear HR0 HM0 
  clear hb
  go_wp2_with fail
  have fe := four_elems w1 (-9223372036854775808) i 9223372036854775807 i a (-9223372036854775808) a 9223372036854775807 [(9223372036854775807, i), (a, 9223372036854775807), (a, (-9223372036854775808)), ((-9223372036854775808), i), (b, i)]
  have hs0 := (HR1.out _ (Bt.refl _ _)).below.size
  have HROW := Lib.hid (show Row (((((w1.alloc (.cells #[.int .i64 (-9223372036854775808), .int .i64 i] 32)).alloc (.cells #[.int .i64 9223372036854775807, .int .i64 i] 32)).alloc (.cells #[.int .i64 a, .int .i64 (-9223372036854775808)] 32)).alloc (.cells #[.int .i64 a, .int .i64 9223372036854775807] 32)).alloc (.cells #[.int .i64 9223372036854775807, .int .i64 i, .int .i64 a, .int .i64 9223372036854775807, .int .i64 a, .int .i64 (-9223372036854775808), .int .i64 (-9223372036854775808), .int .i64 i, .int .i64 b, .int .i64 i] 32)) (some ⟨w1.heap.size + 1 + 1 + 1 + 1, 0, none⟩) [(9223372036854775807, i), (a, 9223372036854775807), (a, (-9223372036854775808)), ((-9223372036854775808), i), (b, i)] from fe.2.2.2.2)
  have HM2 := Lib.hid (show MAt (((((w1.alloc (.cells #[.int .i64 (-9223372036854775808), .int .i64 i] 32)).alloc (.cells #[.int .i64 9223372036854775807, .int .i64 i] 32)).alloc (.cells #[.int .i64 a, .int .i64 (-9223372036854775808)] 32)).alloc (.cells #[.int .i64 a, .int .i64 9223372036854775807] 32)).alloc (.cells #[.int .i64 9223372036854775807, .int .i64 i, .int .i64 a, .int .i64 9223372036854775807, .int .i64 a, .int .i64 (-9223372036854775808), .int .i64 (-9223372036854775808), .int .i64 i, .int .i64 b, .int .i64 i] 32)) (none : Option Nat) 0 0 from trivial)
  have HR2 := Lib.hid (fun W (hz : Bt none (((((w1.alloc (.cells #[.int .i64 (-9223372036854775808), .int .i64 i] 32)).alloc (.cells #[.int .i64 9223372036854775807, .int .i64 i] 32)).alloc (.cells #[.int .i64 a, .int .i64 (-9223372036854775808)] 32)).alloc (.cells #[.int .i64 a, .int .i64 9223372036854775807] 32)).alloc (.cells #[.int .i64 9223372036854775807, .int .i64 i, .int .i64 a, .int .i64 9223372036854775807, .int .i64 a, .int .i64 (-9223372036854775808), .int .i64 (-9223372036854775808), .int .i64 i, .int .i64 b, .int .i64 i] 32)) W) => And.intro (EVar.bt (show EVar (((((w1.alloc (.cells #[.int .i64 (-9223372036854775808), .int .i64 i] 32)).alloc (.cells #[.int .i64 9223372036854775807, .int .i64 i] 32)).alloc (.cells #[.int .i64 a, .int .i64 (-9223372036854775808)] 32)).alloc (.cells #[.int .i64 a, .int .i64 9223372036854775807] 32)).alloc (.cells #[.int .i64 9223372036854775807, .int .i64 i, .int .i64 a, .int .i64 9223372036854775807, .int .i64 a, .int .i64 (-9223372036854775808), .int .i64 (-9223372036854775808), .int .i64 i, .int .i64 b, .int .i64 i] 32)) _ _ from fe.1) hz HM2.out) (And.intro (EVar.bt (show EVar (((((w1.alloc (.cells #[.int .i64 (-9223372036854775808), .int .i64 i] 32)).alloc (.cells #[.int .i64 9223372036854775807, .int .i64 i] 32)).alloc (.cells #[.int .i64 a, .int .i64 (-9223372036854775808)] 32)).alloc (.cells #[.int .i64 a, .int .i64 9223372036854775807] 32)).alloc (.cells #[.int .i64 9223372036854775807, .int .i64 i, .int .i64 a, .int .i64 9223372036854775807, .int .i64 a, .int .i64 (-9223372036854775808), .int .i64 (-9223372036854775808), .int .i64 i, .int .i64 b, .int .i64 i] 32)) _ _ from fe.2.1) hz HM2.out) (And.intro (EVar.bt (show EVar (((((w1.alloc (.cells #[.int .i64 (-9223372036854775808), .int .i64 i] 32)).alloc (.cells #[.int .i64 9223372036854775807, .int .i64 i] 32)).alloc (.cells #[.int .i64 a, .int .i64 (-9223372036854775808)] 32)).alloc (.cells #[.int .i64 a, .int .i64 9223372036854775807] 32)).alloc (.cells #[.int .i64 9223372036854775807, .int .i64 i, .int .i64 a, .int .i64 9223372036854775807, .int .i64 a, .int .i64 (-9223372036854775808), .int .i64 (-9223372036854775808), .int .i64 i, .int .i64 b, .int .i64 i] 32)) _ _ from fe.2.2.1) hz HM2.out) (And.intro (EVar.bt (show EVar (((((w1.alloc (.cells #[.int .i64 (-9223372036854775808), .int .i64 i] 32)).alloc (.cells #[.int .i64 9223372036854775807, .int .i64 i] 32)).alloc (.cells #[.int .i64 a, .int .i64 (-9223372036854775808)] 32)).alloc (.cells #[.int .i64 a, .int .i64 9223372036854775807] 32)).alloc (.cells #[.int .i64 9223372036854775807, .int .i64 i, .int .i64 a, .int .i64 9223372036854775807, .int .i64 a, .int .i64 (-9223372036854775808), .int .i64 (-9223372036854775808), .int .i64 i, .int .i64 b, .int .i64 i] 32)) _ _ from fe.2.2.2.1) hz HM2.out) (HR1.out W (((((((Bt.refl none w1).alloc (.cells #[.int .i64 (-9223372036854775808), .int .i64 i] 32)).alloc (.cells #[.int .i64 9223372036854775807, .int .i64 i] 32)).alloc (.cells #[.int .i64 a, .int .i64 (-9223372036854775808)] 32)).alloc (.cells #[.int .i64 a, .int .i64 9223372036854775807] 32)).alloc (.cells #[.int .i64 9223372036854775807, .int .i64 i, .int .i64 a, .int .i64 9223372036854775807, .int .i64 a, .int .i64 (-9223372036854775808), .int .i64 (-9223372036854775808), .int .i64 i, .int .i64 b, .int .i64 i] 32)).trans hz))))))
  clear HR1 HM1 fe
  generalize ((((w1.alloc (.cells #[.int .i64 (-9223372036854775808), .int .i64 i] 32)).alloc (.cells #[.int .i64 9223372036854775807, .int .i64 i] 32)).alloc (.cells #[.int .i64 a, .int .i64 (-9223372036854775808)] 32)).alloc (.cells #[.int .i64 a, .int .i64 9223372036854775807] 32)).alloc (.cells #[.int .i64 9223372036854775807, .int .i64 i, .int .i64 a, .int .i64 9223372036854775807, .int .i64 a, .int .i64 (-9223372036854775808), .int .i64 (-9223372036854775808), .int .i64 i, .int .i64 b, .int .i64 i] 32) = w2 at *
  obtain ⟨bl, h0⟩ : ∃ b, b = w1.heap.size := ⟨_, rfl⟩
  rw [← h0] at HR2 HROW ⊢
  obtain ⟨bh, h1⟩ : ∃ b, b = bl + 1 := ⟨_, rfl⟩
  rw [← h1] at HR2 HROW ⊢
  obtain ⟨bx, h2⟩ : ∃ b, b = bh + 1 := ⟨_, rfl⟩
  rw [← h2] at HR2 HROW ⊢
  obtain ⟨bq, h3⟩ : ∃ b, b = bx + 1 := ⟨_, rfl⟩
  rw [← h3] at HR2 HROW ⊢
  obtain ⟨bs, h4⟩ : ∃ b, b = bq + 1 := ⟨_, rfl⟩
  rw [← h4] at HROW ⊢
  clear h0 h1 h2 h3 h4 hs0
  have HO : Calls Tryz.prog 23 #[.pointer none, .slice (some ⟨bs, 0, none⟩) 5 5] w2 (GaveN (ofL [(9223372036854775807, i), (a, 9223372036854775807), (a, (-9223372036854775808)), ((-9223372036854775808), i), (b, i)]) w2) := ofN (some ⟨bs, 0, none⟩) [(9223372036854775807, i), (a, 9223372036854775807), (a, (-9223372036854775808)), ((-9223372036854775808), i), (b, i)] 5 w2 HROW.out (by simp)
  ((with_reducible refine (HO).mono ?_); rintro e w3 ⟨pH, rfl, ht, hb⟩)
  have HM3 := Lib.hid (show MAt w3 (none : Option Nat) 0 0 from trivial)
  have HR3 := Lib.hid (on_inv (mo := none) HR2.out (Bt.ofBelow hb) (fun W hz => ht.bt hz HM3.out))
  clear HR2 HM2 
  clear ht hb HO HROW
  have HH := Lib.hid (show (ofL [(9223372036854775807, i), (a, 9223372036854775807), (a, (-9223372036854775808)), ((-9223372036854775808), i), (b, i)]).ok ∧ (ofL [(9223372036854775807, i), (a, 9223372036854775807), (a, (-9223372036854775808)), ((-9223372036854775808), i), (b, i)]).size = 5 ∧ srt (ofL [(9223372036854775807, i), (a, 9223372036854775807), (a, (-9223372036854775808)), ((-9223372036854775808), i), (b, i)]).all = srt [((-9223372036854775808), i), (9223372036854775807, i), (a, (-9223372036854775808)), (a, 9223372036854775807), (b, i)] from ⟨ofL_ok _, by rw [ofL_size]; rfl, srt_perm ((ofL_all _).trans (five_perm _ _ _ _ _))⟩)
  generalize ofL [(9223372036854775807, i), (a, 9223372036854775807), (a, (-9223372036854775808)), ((-9223372036854775808), i), (b, i)] = tH at *
  have c1 : (w3.alloc (.cells #[.pointer pH] 29)).cell? ⟨bl, 0, none⟩ = some (.int .i64 (-9223372036854775808)) := (HR3.out _ ((Bt.refl _ _).alloc _)).2.1.c0
  have c2 : (w3.alloc (.cells #[.pointer pH] 29)).cell? ⟨bl, 1, none⟩ = some (.int .i64 i) := (HR3.out _ ((Bt.refl _ _).alloc _)).2.1.c1
  have c3 : (w3.alloc (.cells #[.pointer pH] 29)).cell? ⟨bh, 0, none⟩ = some (.int .i64 9223372036854775807) := (HR3.out _ ((Bt.refl _ _).alloc _)).2.2.1.c0
  have c4 : (w3.alloc (.cells #[.pointer pH] 29)).cell? ⟨bh, 1, none⟩ = some (.int .i64 i) := (HR3.out _ ((Bt.refl _ _).alloc _)).2.2.1.c1
  have c5 : (w3.alloc (.cells #[.pointer pH] 29)).cell? ⟨bx, 0, none⟩ = some (.int .i64 a) := (HR3.out _ ((Bt.refl _ _).alloc _)).2.2.2.1.c0
  have c6 : (w3.alloc (.cells #[.pointer pH] 29)).cell? ⟨bx, 1, none⟩ = some (.int .i64 (-9223372036854775808)) := (HR3.out _ ((Bt.refl _ _).alloc _)).2.2.2.1.c1
  have c7 : (w3.alloc (.cells #[.pointer pH] 29)).cell? ⟨bq, 0, none⟩ = some (.int .i64 a) := (HR3.out _ ((Bt.refl _ _).alloc _)).2.2.2.2.1.c0
  have c8 : (w3.alloc (.cells #[.pointer pH] 29)).cell? ⟨bq, 1, none⟩ = some (.int .i64 9223372036854775807) := (HR3.out _ ((Bt.refl _ _).alloc _)).2.2.2.2.1.c1
  go_wp2_with fail
  have fe := heap_row w3 pH [((-9223372036854775808), i), (9223372036854775807, i), (a, (-9223372036854775808)), (a, 9223372036854775807), (b, i)]
  have HROW := Lib.hid (show Row ((w3.alloc (.cells #[.pointer pH] 29)).alloc (.cells #[.int .i64 (-9223372036854775808), .int .i64 i, .int .i64 9223372036854775807, .int .i64 i, .int .i64 a, .int .i64 (-9223372036854775808), .int .i64 a, .int .i64 9223372036854775807, .int .i64 b, .int .i64 i] 32)) (some ⟨w3.heap.size + 1, 0, none⟩) [((-9223372036854775808), i), (9223372036854775807, i), (a, (-9223372036854775808)), (a, 9223372036854775807), (b, i)] from fe.2)
  have HM4 := Lib.hid (show MAt ((w3.alloc (.cells #[.pointer pH] 29)).alloc (.cells #[.int .i64 (-9223372036854775808), .int .i64 i, .int .i64 9223372036854775807, .int .i64 i, .int .i64 a, .int .i64 (-9223372036854775808), .int .i64 a, .int .i64 9223372036854775807, .int .i64 b, .int .i64 i] 32)) (none : Option Nat) 0 0 from trivial)
  have HR4 := Lib.hid (fun W (hz : Bt none ((w3.alloc (.cells #[.pointer pH] 29)).alloc (.cells #[.int .i64 (-9223372036854775808), .int .i64 i, .int .i64 9223372036854775807, .int .i64 i, .int .i64 a, .int .i64 (-9223372036854775808), .int .i64 a, .int .i64 9223372036854775807, .int .i64 b, .int .i64 i] 32)) W) => And.intro (HVar.bt (show HVar ((w3.alloc (.cells #[.pointer pH] 29)).alloc (.cells #[.int .i64 (-9223372036854775808), .int .i64 i, .int .i64 9223372036854775807, .int .i64 i, .int .i64 a, .int .i64 (-9223372036854775808), .int .i64 a, .int .i64 9223372036854775807, .int .i64 b, .int .i64 i] 32)) _ _ from fe.1) hz HM4.out) (HR3.out W ((((Bt.refl none w3).alloc (.cells #[.pointer pH] 29)).alloc (.cells #[.int .i64 (-9223372036854775808), .int .i64 i, .int .i64 9223372036854775807, .int .i64 i, .int .i64 a, .int .i64 (-9223372036854775808), .int .i64 a, .int .i64 9223372036854775807, .int .i64 b, .int .i64 i] 32)).trans hz)))
  clear HR3 HM3 fe c1 c2 c3 c4 c5 c6 c7 c8
  generalize (w3.alloc (.cells #[.pointer pH] 29)).alloc (.cells #[.int .i64 (-9223372036854775808), .int .i64 i, .int .i64 9223372036854775807, .int .i64 i, .int .i64 a, .int .i64 (-9223372036854775808), .int .i64 a, .int .i64 9223372036854775807, .int .i64 b, .int .i64 i] 32) = w4 at *
  obtain ⟨bH, h0⟩ : ∃ b, b = w3.heap.size := ⟨_, rfl⟩
  rw [← h0] at HR4 HROW ⊢
  clear h0
  have HO : Calls Tryz.prog 31 #[.slice (some ⟨bH + 1, 0, none⟩) 5 5] w4 (fun e w' => ∃ v', e = .returned v' ∧ Rw w' v' (srt [((-9223372036854775808), i), (9223372036854775807, i), (a, (-9223372036854775808)), (a, 9223372036854775807), (b, i)]) ∧ Below w4.heap.size w4 w') := sortRw (some ⟨bH + 1, 0, none⟩) [((-9223372036854775808), i), (9223372036854775807, i), (a, (-9223372036854775808)), (a, 9223372036854775807), (b, i)] 5 w4 HROW.out (by simp)
  ((with_reducible refine (HO).mono ?_); rintro e w5 ⟨vw, rfl, ht, hb⟩)
  have HM5 := Lib.hid (show MAt w5 (none : Option Nat) 0 0 from trivial)
  have HR5 := Lib.hid (on_inv (mo := none) HR4.out (Bt.ofBelow hb) (fun W hz => ht.bt hz HM5.out))
  clear HR4 HM4 
  clear ht hb HO HROW
  have HL5 := Lib.hid (show (srt [((-9223372036854775808), i), (9223372036854775807, i), (a, (-9223372036854775808)), (a, 9223372036854775807), (b, i)]).length = 5 by rw [srt_length]; rfl)
  obtain ⟨S5, hS5⟩ : ∃ S, S = srt [((-9223372036854775808), i), (9223372036854775807, i), (a, (-9223372036854775808)), (a, 9223372036854775807), (b, i)] := ⟨_, rfl⟩
  rw [← hS5] at HH HL5 HR5
  clear hS5
  go_wp2_with fail
  have hs_bN := (HR5.out _ (Bt.refl _ _)).2.2.2.2.2.2.2.below.size
  have HM6 := Lib.hid (show MAt (w5.alloc (.cells #[.pointer none] 29)) (none : Option Nat) 0 0 from trivial)
  have HR6 := Lib.hid (on_inv (mo := none) HR5.out ((Bt.refl none w5).alloc (.cells #[.pointer none] 29)) (fun W hz => (HVar.new w5 none rfl).bt hz HM6.out))
  clear HR5 HM5 
  generalize w5.alloc (.cells #[.pointer none] 29) = w6 at *
  obtain ⟨bN, hbN⟩ : ∃ b, b = w5.heap.size := ⟨_, rfl⟩
  rw [← hbN] at HR6 ⊢
  have B_bN := Lib.hid (show w.heap.size ≤ bN by rw [hbN]; exact hs_bN)
  clear hbN hs_bN 
  ((with_reducible refine (min_any .nil none _ _ (LAt.none _)).mono ?_); rintro e w7 ⟨rfl, hb⟩)
  have HM7 := Lib.hid (show MAt w7 (none : Option Nat) 0 0 from trivial)
  have HR7 := Lib.hid (fun W (hz : Bt none w7 W) => HR6.out W ((Bt.ofBelow hb).trans hz))
  clear HR6 HM6 
  clear hb
  rw [show minV .nil = .tuple #[el (0, 0), .bool false] from rfl]
  have c9 : (w7.alloc (.cells #[.int .i64 0, .int .i64 0] 32)).cell? ⟨bN, 0, none⟩ = some (.pointer none) := (HR7.out _ ((Bt.refl _ _).alloc _)).1.c0
  go_wp2_with fail
  have hs_bu := (HR7.out _ (Bt.refl _ _)).2.2.2.2.2.2.2.2.below.size
  have HM8 := Lib.hid (show MAt (w7.alloc (.cells #[.int .i64 0, .int .i64 0] 32)) (none : Option Nat) 0 0 from trivial)
  have HR8 := Lib.hid (on_inv (mo := none) HR7.out ((Bt.refl none w7).alloc (.cells #[.int .i64 0, .int .i64 0] 32)) (fun W hz => (EVar.new w7 0 0 rfl).bt hz HM8.out))
  clear HR7 HM7 c9
  generalize w7.alloc (.cells #[.int .i64 0, .int .i64 0] 32) = w8 at *
  obtain ⟨bu, hbu⟩ : ∃ b, b = w7.heap.size := ⟨_, rfl⟩
  rw [← hbu] at HR8 ⊢
  have B_bu := Lib.hid (show w.heap.size ≤ bu by rw [hbu]; exact hs_bu)
  clear hbu hs_bu 
  ((with_reducible refine (popN .nil none _ (LAt.none _) (by decide)).mono ?_); rintro e w9 ⟨pg, rfl, ht, hb⟩)
  have HM9 := Lib.hid (show MAt w9 (none : Option Nat) 0 0 from trivial)
  have HR9 := Lib.hid (on_inv (mo := none) HR8.out (Bt.ofBelow hb) (fun W hz => ht.bt hz HM9.out))
  clear HR8 HM8 
  rw [show Lh.some .nil = false from rfl]
  clear ht hb
  have c10 : (w9.alloc (.cells #[.pointer pg] 29)).cell? ⟨bN, 0, none⟩ = some (.pointer none) := (HR9.out _ ((Bt.refl _ _).alloc _)).2.2.1.c0
  have c11 : (w9.alloc (.cells #[.pointer pg] 29)).cell? ⟨bx, 0, none⟩ = some (.int .i64 a) := (HR9.out _ ((Bt.refl _ _).alloc _)).2.2.2.2.2.2.2.2.1.c0
  have c12 : (w9.alloc (.cells #[.pointer pg] 29)).cell? ⟨bx, 1, none⟩ = some (.int .i64 (-9223372036854775808)) := (HR9.out _ ((Bt.refl _ _).alloc _)).2.2.2.2.2.2.2.2.1.c1
  go_wp2_with fail
  have hs_bG := (HR9.out _ (Bt.refl _ _)).2.2.2.2.2.2.2.2.2.2.below.size
  have HM10 := Lib.hid (show MAt (w9.alloc (.cells #[.pointer pg] 29)) (none : Option Nat) 0 0 from trivial)
  have HR10 := Lib.hid (on_inv (mo := none) HR9.out ((Bt.refl none w9).alloc (.cells #[.pointer pg] 29)) (fun W hz => (HVar.new w9 pg rfl).bt hz HM10.out))
  clear HR9 HM9 c10 c11 c12
  generalize w9.alloc (.cells #[.pointer pg] 29) = w10 at *
  obtain ⟨bG, hbG⟩ : ∃ b, b = w9.heap.size := ⟨_, rfl⟩
  rw [← hbG] at HR10 ⊢
  have B_bG := Lib.hid (show w.heap.size ≤ bG by rw [hbG]; exact hs_bG)
  clear hbG hs_bG 
  ((with_reducible refine (insertNm .nil (a, (-9223372036854775808)) none _ (LAt.none _) (by decide)).mono ?_); rintro e w11 ⟨po, rfl, ht, hb⟩)
  have HM11 := Lib.hid (show MAt w11 (none : Option Nat) 0 0 from trivial)
  have HR11 := Lib.hid (on_inv (mo := none) HR10.out (Bt.ofBelow hb) (fun W hz => ht.bt hz HM11.out))
  clear HR10 HM10 
  have HOne := Lib.hid (show Lh.insert .nil (a, (-9223372036854775808)) = .one (a, (-9223372036854775808)) from rfl)
  clear ht hb
  rw [HOne.out] at HR11
  go_wp2_with fail
  have hs_bO := (HR11.out _ (Bt.refl _ _)).2.2.2.2.2.2.2.2.2.2.2.2.below.size
  have HM12 := Lib.hid (show MAt (w11.alloc (.cells #[.pointer po] 29)) (none : Option Nat) 0 0 from trivial)
  have HR12 := Lib.hid (on_inv (mo := none) HR11.out ((Bt.refl none w11).alloc (.cells #[.pointer po] 29)) (fun W hz => (HVar.new w11 po rfl).bt hz HM12.out))
  clear HR11 HM11 
  generalize w11.alloc (.cells #[.pointer po] 29) = w12 at *
  obtain ⟨bO, hbO⟩ : ∃ b, b = w11.heap.size := ⟨_, rfl⟩
  rw [← hbO] at HR12 ⊢
  have B_bO := Lib.hid (show w.heap.size ≤ bO by rw [hbO]; exact hs_bO)
  clear hbO hs_bO 
  ((with_reducible refine (min_any (.one (a, (-9223372036854775808))) po _ _ (HR12.out _ (Bt.refl _ _)).2.1).mono ?_); rintro e w13 ⟨rfl, hb⟩)
  have HM13 := Lib.hid (show MAt w13 (none : Option Nat) 0 0 from trivial)
  have HR13 := Lib.hid (fun W (hz : Bt none w13 W) => HR12.out W ((Bt.ofBelow hb).trans hz))
  clear HR12 HM12 
  clear hb
  rw [show minV (.one (a, (-9223372036854775808))) = .tuple #[el (a, (-9223372036854775808)), .bool true] from rfl]
  have c13 : (w13.alloc (.cells #[.int .i64 a, .int .i64 (-9223372036854775808)] 32)).cell? ⟨bO, 0, none⟩ = some (.pointer po) := (HR13.out _ ((Bt.refl _ _).alloc _)).1.c0
  go_wp2_with fail
  have hs_bz := (HR13.out _ (Bt.refl _ _)).2.2.2.2.2.2.2.2.2.2.2.2.2.below.size
  have HM14 := Lib.hid (show MAt (w13.alloc (.cells #[.int .i64 a, .int .i64 (-9223372036854775808)] 32)) (none : Option Nat) 0 0 from trivial)
  have HR14 := Lib.hid (on_inv (mo := none) HR13.out ((Bt.refl none w13).alloc (.cells #[.int .i64 a, .int .i64 (-9223372036854775808)] 32)) (fun W hz => (EVar.new w13 a (-9223372036854775808) rfl).bt hz HM14.out))
  clear HR13 HM13 c13
  generalize w13.alloc (.cells #[.int .i64 a, .int .i64 (-9223372036854775808)] 32) = w14 at *
  obtain ⟨bz, hbz⟩ : ∃ b, b = w13.heap.size := ⟨_, rfl⟩
  rw [← hbz] at HR14 ⊢
  have B_bz := Lib.hid (show w.heap.size ≤ bz by rw [hbz]; exact hs_bz)
  clear hbz hs_bz 
  ((with_reducible refine (popN (.one (a, (-9223372036854775808))) po _ (HR14.out _ (Bt.refl _ _)).2.2.1 (by rw [one_size]; decide)).mono ?_); rintro e w15 ⟨pe, rfl, ht, hb⟩)
  have HM15 := Lib.hid (show MAt w15 (none : Option Nat) 0 0 from trivial)
  have HR15 := Lib.hid (on_inv (mo := none) HR14.out (Bt.ofBelow hb) (fun W hz => ht.bt hz HM15.out))
  clear HR14 HM14 
  rw [show Lh.some (.one (a, (-9223372036854775808))) = true from rfl]
  clear ht hb
  rw [show Lh.pop (.one (a, (-9223372036854775808))) = .nil from one_pop _] at HR15
  go_wp2_with fail
  have hs_bE := (HR15.out _ (Bt.refl _ _)).2.2.2.2.2.2.2.2.2.2.2.2.2.2.2.below.size
  have HM16 := Lib.hid (show MAt (w15.alloc (.cells #[.pointer pe] 29)) (none : Option Nat) 0 0 from trivial)
  have HR16 := Lib.hid (on_inv (mo := none) HR15.out ((Bt.refl none w15).alloc (.cells #[.pointer pe] 29)) (fun W hz => (HVar.new w15 pe rfl).bt hz HM16.out))
  clear HR15 HM15 
  generalize w15.alloc (.cells #[.pointer pe] 29) = w16 at *
  obtain ⟨bE, hbE⟩ : ∃ b, b = w15.heap.size := ⟨_, rfl⟩
  rw [← hbE] at HR16 ⊢
  have B_bE := Lib.hid (show w.heap.size ≤ bE by rw [hbE]; exact hs_bE)
  clear hbE hs_bE 
  dsimp only [List.append]
  have FO := Lib.hid (show fits (Lh.one (a, (-9223372036854775808))).all from (good_one (x := (a, (-9223372036854775808))) ⟨HF.out.1, by unfold in64; omega⟩).fit)
  have FN := Lib.hid (show fits Lh.nil.all from fits.nil)
  have FM := Lib.hid (show fits (meld .nil (.one (a, (-9223372036854775808)))).all ∧ fits (meld (.one (a, (-9223372036854775808))) .nil).all from ⟨by rw [meld_nil]; exact FO.out, by rw [meld_right]; exact FO.out⟩)
  have s16_0 := (HR16.out _ (Bt.refl _ _)).2.2.2.2.2.2.2.2.2.2.1.c0
  have s16_1 := (HR16.out _ (Bt.refl _ _)).2.2.2.2.2.1.c0
  have s16_2 := (HR16.out _ (Bt.refl _ _)).2.2.2.2.2.2.2.2.1.c0
  have s16_3 := (HR16.out _ (Bt.refl _ _)).2.2.2.1.c0
  have s16_4 := (HR16.out _ (Bt.refl _ _)).2.2.1.c0
  have s16_5 := (HR16.out _ (Bt.refl _ _)).2.2.1.c1
  have s16_6 := (HR16.out _ (Bt.refl _ _)).2.2.2.2.2.2.2.2.2.2.2.2.2.2.1.c0
  have s16_7 := (HR16.out _ (Bt.refl _ _)).2.2.2.2.2.2.2.2.2.2.2.2.2.2.1.c1
  have s16_8 := (HR16.out _ (Bt.refl _ _)).1.c0
  go_region_held3 (fun w' => w'.cell? ⟨bH, 0, none⟩ = some (.pointer pH) ∧ w'.cell? ⟨bG, 0, none⟩ = some (.pointer pg) ∧ w'.cell? ⟨bN, 0, none⟩ = some (.pointer none) ∧ w'.cell? ⟨bO, 0, none⟩ = some (.pointer po) ∧ w'.cell? ⟨bz, 0, none⟩ = some (.int .i64 a) ∧ w'.cell? ⟨bz, 1, none⟩ = some (.int .i64 (-9223372036854775808)) ∧ w'.cell? ⟨bx, 0, none⟩ = some (.int .i64 a) ∧ w'.cell? ⟨bx, 1, none⟩ = some (.int .i64 (-9223372036854775808)) ∧ w'.cell? ⟨bE, 0, none⟩ = some (.pointer pe)) (go_keep)
    (first | (go_at_call 27; ((with_reducible refine (show_any .nil none _ (HR30.out _ (Bt.refl _ _)).2.2.2.2.2.2.2.2.2.2.2.2.2.2.2.2.2.2.2.2.env (LAt.none _) FN.out (by decide)).mono ?_); rintro e w31 ⟨rfl, hb⟩); have HM31 := Lib.hid (show MAt w31 (none : Option Nat) 0 0 from trivial); have HR31 := Lib.hid (fun W (hz : Bt none w31 W) => HR30.out W ((Bt.ofBelow hb).trans hz)); have s31_0 := (HR31.out _ (Bt.refl _ _)).2.2.2.2.2.2.2.2.2.2.2.2.2.2.1.c0; have s31_1 := (HR31.out _ (Bt.refl _ _)).2.2.2.2.2.2.2.2.2.1.c0; have s31_2 := (HR31.out _ (Bt.refl _ _)).2.2.2.2.2.2.2.2.2.2.2.2.1.c0; have s31_3 := (HR31.out _ (Bt.refl _ _)).2.2.2.2.2.2.2.1.c0; have s31_4 := (HR31.out _ (Bt.refl _ _)).2.2.2.2.2.2.1.c0; have s31_5 := (HR31.out _ (Bt.refl _ _)).2.2.2.2.2.2.1.c1; have s31_6 := (HR31.out _ (Bt.refl _ _)).2.2.2.2.2.2.2.2.2.2.2.2.2.2.2.2.2.2.1.c0; have s31_7 := (HR31.out _ (Bt.refl _ _)).2.2.2.2.2.2.2.2.2.2.2.2.2.2.2.2.2.2.1.c1; have s31_8 := (HR31.out _ (Bt.refl _ _)).2.2.2.2.1.c0; clear hb) | (go_at_call 32; ((with_reducible refine (drainRw tH pH 9 _ (HR16.out _ ((Bt.refl _ _).drew)).2.2.2.2.2.2.2.2.2.2.2.1 HH.out.1 (by rw [HH.out.2.1]; decide) (by decide) (by rw [HH.out.2.1]; decide)).mono ?_); rintro e w17 ⟨vs, rfl, ht, hb⟩); have HM17 := Lib.hid (show MAt w17 (none : Option Nat) 0 0 from trivial); have HR17 := Lib.hid (on_inv (mo := none) HR16.out (((Bt.refl none w16).drew).trans (Bt.ofBelow hb)) (fun W hz => ht.bt hz HM17.out)); have s17_0 := (HR17.out _ (Bt.refl _ _)).2.2.2.2.2.2.2.2.2.2.2.1.c0; have s17_1 := (HR17.out _ (Bt.refl _ _)).2.2.2.2.2.2.1.c0; have s17_2 := (HR17.out _ (Bt.refl _ _)).2.2.2.2.2.2.2.2.2.1.c0; have s17_3 := (HR17.out _ (Bt.refl _ _)).2.2.2.2.1.c0; have s17_4 := (HR17.out _ (Bt.refl _ _)).2.2.2.1.c0; have s17_5 := (HR17.out _ (Bt.refl _ _)).2.2.2.1.c1; have s17_6 := (HR17.out _ (Bt.refl _ _)).2.2.2.2.2.2.2.2.2.2.2.2.2.2.2.1.c0; have s17_7 := (HR17.out _ (Bt.refl _ _)).2.2.2.2.2.2.2.2.2.2.2.2.2.2.2.1.c1; have s17_8 := (HR17.out _ (Bt.refl _ _)).2.1.c0; clear hb ht) | (go_at_call 33; ((with_reducible refine (sameIs vs vw _ _ _ (HR17.out _ (Bt.refl _ _)).1 (HR17.out _ (Bt.refl _ _)).2.2.2.2.2.2.2.2.2.2.1 (by rw [HH.out.2.2, HL5.out]; decide) HH.out.2.2).mono ?_); rintro e w18 ⟨rfl, hb⟩); have HM18 := Lib.hid (show MAt w18 (none : Option Nat) 0 0 from trivial); have HR18 := Lib.hid (fun W (hz : Bt none w18 W) => HR17.out W ((Bt.ofBelow hb).trans hz)); have s18_0 := (HR18.out _ (Bt.refl _ _)).2.2.2.2.2.2.2.2.2.2.2.1.c0; have s18_1 := (HR18.out _ (Bt.refl _ _)).2.2.2.2.2.2.1.c0; have s18_2 := (HR18.out _ (Bt.refl _ _)).2.2.2.2.2.2.2.2.2.1.c0; have s18_3 := (HR18.out _ (Bt.refl _ _)).2.2.2.2.1.c0; have s18_4 := (HR18.out _ (Bt.refl _ _)).2.2.2.1.c0; have s18_5 := (HR18.out _ (Bt.refl _ _)).2.2.2.1.c1; have s18_6 := (HR18.out _ (Bt.refl _ _)).2.2.2.2.2.2.2.2.2.2.2.2.2.2.2.1.c0; have s18_7 := (HR18.out _ (Bt.refl _ _)).2.2.2.2.2.2.2.2.2.2.2.2.2.2.2.1.c1; have s18_8 := (HR18.out _ (Bt.refl _ _)).2.1.c0; clear hb) | (go_at_call 29; ((with_reducible refine (size_any .nil pg _ (HR18.out _ (Bt.refl _ _)).2.2.2.2.2.2.2.1).mono ?_); rintro e w19 ⟨rfl, hb⟩); rw [show ((Lh.nil.size : Nat) : Int) = 0 from rfl]; have HM19 := Lib.hid (show MAt w19 (none : Option Nat) 0 0 from trivial); have HR19 := Lib.hid (fun W (hz : Bt none w19 W) => HR18.out W ((Bt.ofBelow hb).trans hz)); have s19_0 := (HR19.out _ (Bt.refl _ _)).2.2.2.2.2.2.2.2.2.2.2.1.c0; have s19_1 := (HR19.out _ (Bt.refl _ _)).2.2.2.2.2.2.1.c0; have s19_2 := (HR19.out _ (Bt.refl _ _)).2.2.2.2.2.2.2.2.2.1.c0; have s19_3 := (HR19.out _ (Bt.refl _ _)).2.2.2.2.1.c0; have s19_4 := (HR19.out _ (Bt.refl _ _)).2.2.2.1.c0; have s19_5 := (HR19.out _ (Bt.refl _ _)).2.2.2.1.c1; have s19_6 := (HR19.out _ (Bt.refl _ _)).2.2.2.2.2.2.2.2.2.2.2.2.2.2.2.1.c0; have s19_7 := (HR19.out _ (Bt.refl _ _)).2.2.2.2.2.2.2.2.2.2.2.2.2.2.2.1.c1; have s19_8 := (HR19.out _ (Bt.refl _ _)).2.1.c0; clear hb) | (go_at_call 29; ((with_reducible refine (size_any .nil none _ (LAt.none _)).mono ?_); rintro e w20 ⟨rfl, hb⟩); rw [show ((Lh.nil.size : Nat) : Int) = 0 from rfl]; have HM20 := Lib.hid (show MAt w20 (none : Option Nat) 0 0 from trivial); have HR20 := Lib.hid (fun W (hz : Bt none w20 W) => HR19.out W ((Bt.ofBelow hb).trans hz)); have s20_0 := (HR20.out _ (Bt.refl _ _)).2.2.2.2.2.2.2.2.2.2.2.1.c0; have s20_1 := (HR20.out _ (Bt.refl _ _)).2.2.2.2.2.2.1.c0; have s20_2 := (HR20.out _ (Bt.refl _ _)).2.2.2.2.2.2.2.2.2.1.c0; have s20_3 := (HR20.out _ (Bt.refl _ _)).2.2.2.2.1.c0; have s20_4 := (HR20.out _ (Bt.refl _ _)).2.2.2.1.c0; have s20_5 := (HR20.out _ (Bt.refl _ _)).2.2.2.1.c1; have s20_6 := (HR20.out _ (Bt.refl _ _)).2.2.2.2.2.2.2.2.2.2.2.2.2.2.2.1.c0; have s20_7 := (HR20.out _ (Bt.refl _ _)).2.2.2.2.2.2.2.2.2.2.2.2.2.2.2.1.c1; have s20_8 := (HR20.out _ (Bt.refl _ _)).2.1.c0; clear hb) | (go_at_call 19; ((with_reducible refine (meldNm .nil .nil none none _ (LAt.none _) (LAt.none _) (by decide)).mono ?_); rintro e w21 ⟨pm, rfl, ht, hb⟩); have HM21 := Lib.hid (show MAt w21 (none : Option Nat) 0 0 from trivial); have HR21 := Lib.hid (on_inv (mo := none) HR20.out (Bt.ofBelow hb) (fun W hz => ht.bt hz HM21.out)); have s21_0 := (HR21.out _ (Bt.refl _ _)).2.2.2.2.2.2.2.2.2.2.2.2.1.c0; have s21_1 := (HR21.out _ (Bt.refl _ _)).2.2.2.2.2.2.2.1.c0; have s21_2 := (HR21.out _ (Bt.refl _ _)).2.2.2.2.2.2.2.2.2.2.1.c0; have s21_3 := (HR21.out _ (Bt.refl _ _)).2.2.2.2.2.1.c0; have s21_4 := (HR21.out _ (Bt.refl _ _)).2.2.2.2.1.c0; have s21_5 := (HR21.out _ (Bt.refl _ _)).2.2.2.2.1.c1; have s21_6 := (HR21.out _ (Bt.refl _ _)).2.2.2.2.2.2.2.2.2.2.2.2.2.2.2.2.1.c0; have s21_7 := (HR21.out _ (Bt.refl _ _)).2.2.2.2.2.2.2.2.2.2.2.2.2.2.2.2.1.c1; have s21_8 := (HR21.out _ (Bt.refl _ _)).2.2.1.c0; clear hb ht) | (go_at_call 29; ((with_reducible refine (size_any (meld .nil .nil) pm _ (HR21.out _ (Bt.refl _ _)).1).mono ?_); rintro e w22 ⟨rfl, hb⟩); rw [show (((meld .nil .nil).size : Nat) : Int) = 0 from (by rw [meld_nil]; rfl)]; have HM22 := Lib.hid (show MAt w22 (none : Option Nat) 0 0 from trivial); have HR22 := Lib.hid (fun W (hz : Bt none w22 W) => HR21.out W ((Bt.ofBelow hb).trans hz)); have s22_0 := (HR22.out _ (Bt.refl _ _)).2.2.2.2.2.2.2.2.2.2.2.2.1.c0; have s22_1 := (HR22.out _ (Bt.refl _ _)).2.2.2.2.2.2.2.1.c0; have s22_2 := (HR22.out _ (Bt.refl _ _)).2.2.2.2.2.2.2.2.2.2.1.c0; have s22_3 := (HR22.out _ (Bt.refl _ _)).2.2.2.2.2.1.c0; have s22_4 := (HR22.out _ (Bt.refl _ _)).2.2.2.2.1.c0; have s22_5 := (HR22.out _ (Bt.refl _ _)).2.2.2.2.1.c1; have s22_6 := (HR22.out _ (Bt.refl _ _)).2.2.2.2.2.2.2.2.2.2.2.2.2.2.2.2.1.c0; have s22_7 := (HR22.out _ (Bt.refl _ _)).2.2.2.2.2.2.2.2.2.2.2.2.2.2.2.2.1.c1; have s22_8 := (HR22.out _ (Bt.refl _ _)).2.2.1.c0; clear hb) | (go_at_call 29; ((with_reducible refine (size_any .nil pe _ (HR22.out _ (Bt.refl _ _)).2.2.2.1).mono ?_); rintro e w23 ⟨rfl, hb⟩); rw [show ((Lh.nil.size : Nat) : Int) = 0 from rfl]; have HM23 := Lib.hid (show MAt w23 (none : Option Nat) 0 0 from trivial); have HR23 := Lib.hid (fun W (hz : Bt none w23 W) => HR22.out W ((Bt.ofBelow hb).trans hz)); have s23_0 := (HR23.out _ (Bt.refl _ _)).2.2.2.2.2.2.2.2.2.2.2.2.1.c0; have s23_1 := (HR23.out _ (Bt.refl _ _)).2.2.2.2.2.2.2.1.c0; have s23_2 := (HR23.out _ (Bt.refl _ _)).2.2.2.2.2.2.2.2.2.2.1.c0; have s23_3 := (HR23.out _ (Bt.refl _ _)).2.2.2.2.2.1.c0; have s23_4 := (HR23.out _ (Bt.refl _ _)).2.2.2.2.1.c0; have s23_5 := (HR23.out _ (Bt.refl _ _)).2.2.2.2.1.c1; have s23_6 := (HR23.out _ (Bt.refl _ _)).2.2.2.2.2.2.2.2.2.2.2.2.2.2.2.2.1.c0; have s23_7 := (HR23.out _ (Bt.refl _ _)).2.2.2.2.2.2.2.2.2.2.2.2.2.2.2.2.1.c1; have s23_8 := (HR23.out _ (Bt.refl _ _)).2.2.1.c0; clear hb) | (go_at_call 19; ((with_reducible refine (meldNm .nil (.one (a, (-9223372036854775808))) none po _ (LAt.none _) (HR23.out _ (Bt.refl _ _)).2.2.2.2.2.2.1 (by rw [one_size]; decide)).mono ?_); rintro e w24 ⟨pa, rfl, ht, hb⟩); have HM24 := Lib.hid (show MAt w24 (none : Option Nat) 0 0 from trivial); have HR24 := Lib.hid (on_inv (mo := none) HR23.out (Bt.ofBelow hb) (fun W hz => ht.bt hz HM24.out)); have s24_0 := (HR24.out _ (Bt.refl _ _)).2.2.2.2.2.2.2.2.2.2.2.2.2.1.c0; have s24_1 := (HR24.out _ (Bt.refl _ _)).2.2.2.2.2.2.2.2.1.c0; have s24_2 := (HR24.out _ (Bt.refl _ _)).2.2.2.2.2.2.2.2.2.2.2.1.c0; have s24_3 := (HR24.out _ (Bt.refl _ _)).2.2.2.2.2.2.1.c0; have s24_4 := (HR24.out _ (Bt.refl _ _)).2.2.2.2.2.1.c0; have s24_5 := (HR24.out _ (Bt.refl _ _)).2.2.2.2.2.1.c1; have s24_6 := (HR24.out _ (Bt.refl _ _)).2.2.2.2.2.2.2.2.2.2.2.2.2.2.2.2.2.1.c0; have s24_7 := (HR24.out _ (Bt.refl _ _)).2.2.2.2.2.2.2.2.2.2.2.2.2.2.2.2.2.1.c1; have s24_8 := (HR24.out _ (Bt.refl _ _)).2.2.2.1.c0; clear hb ht) | (go_at_call 27; ((with_reducible refine (show_any (meld .nil (.one (a, (-9223372036854775808)))) pa _ (HR24.out _ (Bt.refl _ _)).2.2.2.2.2.2.2.2.2.2.2.2.2.2.2.2.2.2.2.env (HR24.out _ (Bt.refl _ _)).1 FM.out.1 (by rw [meld_size, one_size]; decide)).mono ?_); rintro e w25 ⟨rfl, hb⟩); rw [show (meld .nil (.one (a, (-9223372036854775808)))).show = (Lh.one (a, (-9223372036854775808))).show from (by rw [meld_nil])]; have HM25 := Lib.hid (show MAt w25 (none : Option Nat) 0 0 from trivial); have HR25 := Lib.hid (fun W (hz : Bt none w25 W) => HR24.out W ((Bt.ofBelow hb).trans hz)); have s25_0 := (HR25.out _ (Bt.refl _ _)).2.2.2.2.2.2.2.2.2.2.2.2.2.1.c0; have s25_1 := (HR25.out _ (Bt.refl _ _)).2.2.2.2.2.2.2.2.1.c0; have s25_2 := (HR25.out _ (Bt.refl _ _)).2.2.2.2.2.2.2.2.2.2.2.1.c0; have s25_3 := (HR25.out _ (Bt.refl _ _)).2.2.2.2.2.2.1.c0; have s25_4 := (HR25.out _ (Bt.refl _ _)).2.2.2.2.2.1.c0; have s25_5 := (HR25.out _ (Bt.refl _ _)).2.2.2.2.2.1.c1; have s25_6 := (HR25.out _ (Bt.refl _ _)).2.2.2.2.2.2.2.2.2.2.2.2.2.2.2.2.2.1.c0; have s25_7 := (HR25.out _ (Bt.refl _ _)).2.2.2.2.2.2.2.2.2.2.2.2.2.2.2.2.2.1.c1; have s25_8 := (HR25.out _ (Bt.refl _ _)).2.2.2.1.c0; clear hb) | (go_at_call 27; ((with_reducible refine (show_any (.one (a, (-9223372036854775808))) po _ (HR25.out _ (Bt.refl _ _)).2.2.2.2.2.2.2.2.2.2.2.2.2.2.2.2.2.2.2.env (HR25.out _ (Bt.refl _ _)).2.2.2.2.2.2.2.1 FO.out (by rw [one_size]; decide)).mono ?_); rintro e w26 ⟨rfl, hb⟩); have HM26 := Lib.hid (show MAt w26 (none : Option Nat) 0 0 from trivial); have HR26 := Lib.hid (fun W (hz : Bt none w26 W) => HR25.out W ((Bt.ofBelow hb).trans hz)); have s26_0 := (HR26.out _ (Bt.refl _ _)).2.2.2.2.2.2.2.2.2.2.2.2.2.1.c0; have s26_1 := (HR26.out _ (Bt.refl _ _)).2.2.2.2.2.2.2.2.1.c0; have s26_2 := (HR26.out _ (Bt.refl _ _)).2.2.2.2.2.2.2.2.2.2.2.1.c0; have s26_3 := (HR26.out _ (Bt.refl _ _)).2.2.2.2.2.2.1.c0; have s26_4 := (HR26.out _ (Bt.refl _ _)).2.2.2.2.2.1.c0; have s26_5 := (HR26.out _ (Bt.refl _ _)).2.2.2.2.2.1.c1; have s26_6 := (HR26.out _ (Bt.refl _ _)).2.2.2.2.2.2.2.2.2.2.2.2.2.2.2.2.2.1.c0; have s26_7 := (HR26.out _ (Bt.refl _ _)).2.2.2.2.2.2.2.2.2.2.2.2.2.2.2.2.2.1.c1; have s26_8 := (HR26.out _ (Bt.refl _ _)).2.2.2.1.c0; clear hb) | (go_at_call 19; ((with_reducible refine (meldNm (.one (a, (-9223372036854775808))) .nil po none _ (HR26.out _ (Bt.refl _ _)).2.2.2.2.2.2.2.1 (LAt.none _) (by rw [one_size]; decide)).mono ?_); rintro e w27 ⟨pb, rfl, ht, hb⟩); have HM27 := Lib.hid (show MAt w27 (none : Option Nat) 0 0 from trivial); have HR27 := Lib.hid (on_inv (mo := none) HR26.out (Bt.ofBelow hb) (fun W hz => ht.bt hz HM27.out)); have s27_0 := (HR27.out _ (Bt.refl _ _)).2.2.2.2.2.2.2.2.2.2.2.2.2.2.1.c0; have s27_1 := (HR27.out _ (Bt.refl _ _)).2.2.2.2.2.2.2.2.2.1.c0; have s27_2 := (HR27.out _ (Bt.refl _ _)).2.2.2.2.2.2.2.2.2.2.2.2.1.c0; have s27_3 := (HR27.out _ (Bt.refl _ _)).2.2.2.2.2.2.2.1.c0; have s27_4 := (HR27.out _ (Bt.refl _ _)).2.2.2.2.2.2.1.c0; have s27_5 := (HR27.out _ (Bt.refl _ _)).2.2.2.2.2.2.1.c1; have s27_6 := (HR27.out _ (Bt.refl _ _)).2.2.2.2.2.2.2.2.2.2.2.2.2.2.2.2.2.2.1.c0; have s27_7 := (HR27.out _ (Bt.refl _ _)).2.2.2.2.2.2.2.2.2.2.2.2.2.2.2.2.2.2.1.c1; have s27_8 := (HR27.out _ (Bt.refl _ _)).2.2.2.2.1.c0; clear hb ht) | (go_at_call 27; ((with_reducible refine (show_any (meld (.one (a, (-9223372036854775808))) .nil) pb _ (HR27.out _ (Bt.refl _ _)).2.2.2.2.2.2.2.2.2.2.2.2.2.2.2.2.2.2.2.2.env (HR27.out _ (Bt.refl _ _)).1 FM.out.2 (by rw [meld_size, one_size]; decide)).mono ?_); rintro e w28 ⟨rfl, hb⟩); rw [show (meld (.one (a, (-9223372036854775808))) .nil).show = (Lh.one (a, (-9223372036854775808))).show from (by rw [meld_right])]; have HM28 := Lib.hid (show MAt w28 (none : Option Nat) 0 0 from trivial); have HR28 := Lib.hid (fun W (hz : Bt none w28 W) => HR27.out W ((Bt.ofBelow hb).trans hz)); have s28_0 := (HR28.out _ (Bt.refl _ _)).2.2.2.2.2.2.2.2.2.2.2.2.2.2.1.c0; have s28_1 := (HR28.out _ (Bt.refl _ _)).2.2.2.2.2.2.2.2.2.1.c0; have s28_2 := (HR28.out _ (Bt.refl _ _)).2.2.2.2.2.2.2.2.2.2.2.2.1.c0; have s28_3 := (HR28.out _ (Bt.refl _ _)).2.2.2.2.2.2.2.1.c0; have s28_4 := (HR28.out _ (Bt.refl _ _)).2.2.2.2.2.2.1.c0; have s28_5 := (HR28.out _ (Bt.refl _ _)).2.2.2.2.2.2.1.c1; have s28_6 := (HR28.out _ (Bt.refl _ _)).2.2.2.2.2.2.2.2.2.2.2.2.2.2.2.2.2.2.1.c0; have s28_7 := (HR28.out _ (Bt.refl _ _)).2.2.2.2.2.2.2.2.2.2.2.2.2.2.2.2.2.2.1.c1; have s28_8 := (HR28.out _ (Bt.refl _ _)).2.2.2.2.1.c0; clear hb) | (go_at_call 27; ((with_reducible refine (show_any (.one (a, (-9223372036854775808))) po _ (HR28.out _ (Bt.refl _ _)).2.2.2.2.2.2.2.2.2.2.2.2.2.2.2.2.2.2.2.2.env (HR28.out _ (Bt.refl _ _)).2.2.2.2.2.2.2.2.1 FO.out (by rw [one_size]; decide)).mono ?_); rintro e w29 ⟨rfl, hb⟩); have HM29 := Lib.hid (show MAt w29 (none : Option Nat) 0 0 from trivial); have HR29 := Lib.hid (fun W (hz : Bt none w29 W) => HR28.out W ((Bt.ofBelow hb).trans hz)); have s29_0 := (HR29.out _ (Bt.refl _ _)).2.2.2.2.2.2.2.2.2.2.2.2.2.2.1.c0; have s29_1 := (HR29.out _ (Bt.refl _ _)).2.2.2.2.2.2.2.2.2.1.c0; have s29_2 := (HR29.out _ (Bt.refl _ _)).2.2.2.2.2.2.2.2.2.2.2.2.1.c0; have s29_3 := (HR29.out _ (Bt.refl _ _)).2.2.2.2.2.2.2.1.c0; have s29_4 := (HR29.out _ (Bt.refl _ _)).2.2.2.2.2.2.1.c0; have s29_5 := (HR29.out _ (Bt.refl _ _)).2.2.2.2.2.2.1.c1; have s29_6 := (HR29.out _ (Bt.refl _ _)).2.2.2.2.2.2.2.2.2.2.2.2.2.2.2.2.2.2.1.c0; have s29_7 := (HR29.out _ (Bt.refl _ _)).2.2.2.2.2.2.2.2.2.2.2.2.2.2.2.2.2.2.1.c1; have s29_8 := (HR29.out _ (Bt.refl _ _)).2.2.2.2.1.c0; clear hb) | (go_at_call 27; ((with_reducible refine (show_any .nil pe _ (HR29.out _ (Bt.refl _ _)).2.2.2.2.2.2.2.2.2.2.2.2.2.2.2.2.2.2.2.2.env (HR29.out _ (Bt.refl _ _)).2.2.2.2.2.1 FN.out (by decide)).mono ?_); rintro e w30 ⟨rfl, hb⟩); have HM30 := Lib.hid (show MAt w30 (none : Option Nat) 0 0 from trivial); have HR30 := Lib.hid (fun W (hz : Bt none w30 W) => HR29.out W ((Bt.ofBelow hb).trans hz)); have s30_0 := (HR30.out _ (Bt.refl _ _)).2.2.2.2.2.2.2.2.2.2.2.2.2.2.1.c0; have s30_1 := (HR30.out _ (Bt.refl _ _)).2.2.2.2.2.2.2.2.2.1.c0; have s30_2 := (HR30.out _ (Bt.refl _ _)).2.2.2.2.2.2.2.2.2.2.2.2.1.c0; have s30_3 := (HR30.out _ (Bt.refl _ _)).2.2.2.2.2.2.2.1.c0; have s30_4 := (HR30.out _ (Bt.refl _ _)).2.2.2.2.2.2.1.c0; have s30_5 := (HR30.out _ (Bt.refl _ _)).2.2.2.2.2.2.1.c1; have s30_6 := (HR30.out _ (Bt.refl _ _)).2.2.2.2.2.2.2.2.2.2.2.2.2.2.2.2.2.2.1.c0; have s30_7 := (HR30.out _ (Bt.refl _ _)).2.2.2.2.2.2.2.2.2.2.2.2.2.2.2.2.2.2.1.c1; have s30_8 := (HR30.out _ (Bt.refl _ _)).2.2.2.2.1.c0; clear hb))
  clear s16_0 s16_1 s16_2 s16_3 s16_4 s16_5 s16_6 s16_7 s16_8 s17_0 s17_1 s17_2 s17_3 s17_4 s17_5 s17_6 s17_7 s17_8 s18_0 s18_1 s18_2 s18_3 s18_4 s18_5 s18_6 s18_7 s18_8 s19_0 s19_1 s19_2 s19_3 s19_4 s19_5 s19_6 s19_7 s19_8 s20_0 s20_1 s20_2 s20_3 s20_4 s20_5 s20_6 s20_7 s20_8 s21_0 s21_1 s21_2 s21_3 s21_4 s21_5 s21_6 s21_7 s21_8 s22_0 s22_1 s22_2 s22_3 s22_4 s22_5 s22_6 s22_7 s22_8 s23_0 s23_1 s23_2 s23_3 s23_4 s23_5 s23_6 s23_7 s23_8 s24_0 s24_1 s24_2 s24_3 s24_4 s24_5 s24_6 s24_7 s24_8 s25_0 s25_1 s25_2 s25_3 s25_4 s25_5 s25_6 s25_7 s25_8 s26_0 s26_1 s26_2 s26_3 s26_4 s26_5 s26_6 s26_7 s26_8 s27_0 s27_1 s27_2 s27_3 s27_4 s27_5 s27_6 s27_7 s27_8 s28_0 s28_1 s28_2 s28_3 s28_4 s28_5 s28_6 s28_7 s28_8 s29_0 s29_1 s29_2 s29_3 s29_4 s29_5 s29_6 s29_7 s29_8 s30_0 s30_1 s30_2 s30_3 s30_4 s30_5 s30_6 s30_7 s30_8 s31_0 s31_1 s31_2 s31_3 s31_4 s31_5 s31_6 s31_7 s31_8 HR16 HM16 HR17 HM17 HR18 HM18 HR19 HM19 HR20 HM20 HR21 HM21 HR22 HM22 HR23 HM23 HR24 HM24 HR25 HM25 HR26 HM26 HR27 HM27 HR28 HM28 HR29 HM29 HR30 HM30
  go_wp2_with fail
  go_ret
  exact ⟨rfl, (HR31.out _ (Bt.refl _ _)).2.2.2.2.2.2.2.2.2.2.2.2.2.2.2.2.2.2.2.2.below⟩

end Go.Proofs.YtlmokendajgbdaaGreatDoor.Bo
