/-
  Contract of a pairing heap's Meld, by a meter or none: which heap it makes, how many comparisons and nodes the meter counts; what was there stays, but for the meter's block. Conditions: fewer than 2 to the 28th elements, counts below 2 to the 60th.
-/
import Derived.Test.YtpclafbolppgcaaDoorPd2
namespace Go.Proofs.YtpclafbolppgcaaDoor
open Go.Sort Go.RowKit

set_option maxHeartbeats 1000000 in
/-- The first one is none: the other one, as it is. -/
theorem meld_first (mo : Option Nat) (q : Option Addr) (w : World) : Calls Tryd.prog 20 #[hp none, mAddr mo, hp q] w fun e w' => e = .returned (hp q) ∧ Below w.heap.size w w' := by
  go_enter Tryd.func20, Tryd.ntmps20
  go_wp2_with fail
  refine bodyPost_ret (v := hp q) (by simp [results, Tryd.results20, go_sem]) rfl ⟨rfl, ?_⟩
  exact (((Below.refl _ _).alloc (Nat.le_refl _) _).alloc (by simp) _).alloc (by simp only [World.size_alloc]; omega) _

set_option maxHeartbeats 1000000 in
/-- The second one is none. -/
theorem meld_second (mo : Option Nat) (b : Nat) (w : World) : Calls Tryd.prog 20 #[hp (some ⟨b, 0, none⟩), mAddr mo, hp none] w fun e w' => e = .returned (hp (some ⟨b, 0, none⟩)) ∧ Below w.heap.size w w' := by
  go_enter Tryd.func20, Tryd.ntmps20
  go_wp2_with fail
  refine bodyPost_ret (v := hp (some ⟨b, 0, none⟩)) (by simp [results, Tryd.results20, go_sem]) rfl ⟨rfl, ?_⟩
  exact (((Below.refl _ _).alloc (Nat.le_refl _) _).alloc (by simp) _).alloc (by simp only [World.size_alloc]; omega) _

/-- A variable that holds a heap. -/
def HVar (W : World) (b : Nat) (p : Option Addr) : Prop := W.heap[b]? = some (.cells #[.pointer p] 29 (0, 0))
/-- The variables of Meld: two heaps, what it hands back, the winner, the loser. -/
structure Fm (W : World) (a bw bl : Nat) (pa pb pw pl : Option Addr) : Prop where
  h : HVar W a pa
  o : HVar W (a + 1) pb
  r : HVar W (a + 1 + 1) none
  w : HVar W bw pw
  l : HVar W bl pl
  ne : bw ≠ bl
  gw : a + 1 + 1 < bw
  gl : a + 1 + 1 < bl
section
variable {W W' : World} {a bw bl : Nat} {pa pb pw pl : Option Addr} {mo : Option Nat} {c m : Int}
theorem vars_three (w : World) (pa pb : Option Addr) : HVar (((w.alloc (.cells #[.pointer pa] 29)).alloc (.cells #[.pointer pb] 29)).alloc (.cells #[.pointer none] 29)) w.heap.size pa ∧ HVar (((w.alloc (.cells #[.pointer pa] 29)).alloc (.cells #[.pointer pb] 29)).alloc (.cells #[.pointer none] 29)) (w.heap.size + 1) pb ∧ HVar (((w.alloc (.cells #[.pointer pa] 29)).alloc (.cells #[.pointer pb] 29)).alloc (.cells #[.pointer none] 29)) (w.heap.size + 1 + 1) none := by
  unfold HVar
  refine ⟨?_, ?_, ?_⟩
  · rw [alloc_old _ (by simp only [World.size_alloc]; omega), alloc_old _ (by simp only [World.size_alloc]; omega)]; exact new_at rfl
  · rw [alloc_old _ (by simp only [World.size_alloc]; omega)]; exact new_at (by simp)
  · exact new_at (by simp)
theorem HVar.alloc {b : Nat} {p : Option Addr} (h : HVar W b p) (o : Obj) : HVar (W.alloc o) b p := (alloc_old o (lt_of_heap h)).trans h
theorem HVar.at {b : Nat} {p : Option Addr} (h : b = W.heap.size) : HVar (W.alloc (.cells #[.pointer p] 29)) b p := new_at h
theorem fm_new (w : World) (pa pb p q : Option Addr) : Fm (((((w.alloc (.cells #[.pointer pa] 29)).alloc (.cells #[.pointer pb] 29)).alloc (.cells #[.pointer none] 29)).alloc (.cells #[.pointer p] 29)).alloc (.cells #[.pointer q] 29)).drew w.heap.size (w.heap.size + 1 + 1 + 1) (w.heap.size + 1 + 1 + 1 + 1) pa pb p q := by
  obtain ⟨h1, h2, h3⟩ := vars_three w pa pb
  exact ⟨(h1.alloc _).alloc _, (h2.alloc _).alloc _, (h3.alloc _).alloc _, HVar.alloc (HVar.at (by simp)) _, HVar.at (by simp), by omega, by omega, by omega⟩
theorem Fm.swap (h : Fm W a bw bl pa pb pw pl) : Fm W a bl bw pa pb pl pw := ⟨h.h, h.o, h.r, h.l, h.w, fun e => h.ne e.symm, h.gl, h.gw⟩
theorem Fm.turn (h : Fm W a bw bl pa pb pw pl) (hb : Bt mo W W') (hm : MAt W mo c m) : Fm W' a bw bl pa pb pw pl :=
  ⟨hb.row hm h.h (by decide), hb.row hm h.o (by decide), hb.row hm h.r (by decide), hb.row hm h.w (by decide), hb.row hm h.l (by decide), h.ne, h.gw, h.gl⟩
theorem Fm.stay (h : Fm W a bw bl pa pb pw pl) (hb : Below W.heap.size W W') : Fm W' a bw bl pa pb pw pl :=
  ⟨(hb.block _ (lt_of_heap h.h)).trans h.h, (hb.block _ (lt_of_heap h.o)).trans h.o, (hb.block _ (lt_of_heap h.r)).trans h.r, (hb.block _ (lt_of_heap h.w)).trans h.w, (hb.block _ (lt_of_heap h.l)).trans h.l, h.ne, h.gw, h.gl⟩
theorem HVar.c0 {b : Nat} {p : Option Addr} (h : HVar W b p) : W.cell? ⟨b, 0, none⟩ = some (.pointer p) := by unfold HVar at h; simp [World.cell?, h]
theorem HVar.z0 {b : Nat} {p : Option Addr} (h : HVar W b p) : W.frozen? ⟨b, 0, none⟩ = false := by unfold HVar at h; simp [World.frozen?, h]
/-- .. the winner is the second one. -/
theorem Fm.put (h : Fm W a bw bl pa pb pw pl) (p q : Option Addr) : Fm ((W.setCell ⟨bw, 0, none⟩ (.pointer p)).setCell ⟨bl, 0, none⟩ (.pointer q)) a bw bl pa pb p q := by
  have h1 := h.ne
  have h2 := h.gw
  have h3 := h.gl
  refine ⟨?_, ?_, ?_, ?_, ?_, h1, h2, h3⟩
  · exact (heap_other _ _ (by omega)).trans ((heap_other _ _ (by omega)).trans h.h)
  · exact (heap_other _ _ (by omega)).trans ((heap_other _ _ (by omega)).trans h.o)
  · exact (heap_other _ _ (by omega)).trans ((heap_other _ _ (by omega)).trans h.r)
  · exact (heap_other _ _ (by omega)).trans (heap_put (j := 0) h.w _)
  · exact heap_put (j := 0) ((heap_other _ _ (by omega)).trans h.l) _
end


section
variable {w : World} {ks : Kd} {p : Option Addr} {n : Nat}
theorem push_kn {x : Int × Int} {ls : Kd} {q : Option Addr} (h : KAt w ks p) (hq : LAt w (.node x ls) q) (hn : n = ks.len) (hs : n + 1 < 2147483648) : Calls Tryd.prog 40 #[Lt.lst p n, hp q] w fun e w' => ∃ (q' : Option Addr) (n' : Nat), e = .returned (Lt.lst q' n') ∧ KAt w' (.cons x ls ks) q' ∧ n' = n + 1 ∧ Below w.heap.size w w' := by
  subst hn; exact (push_k h hq hs).mono fun _ _ ⟨q', he, hk, hb⟩ => ⟨q', _, he, hk, rfl, hb⟩
end

set_option maxRecDepth 100000 in
set_option maxHeartbeats 4000000 in
theorem meld_true (mo : Option Nat) (x1 x2 y1 y2 : Int) (ks ls : Kd) (hs : (Lh.node (x1, x2) ks).size + (Lh.node (y1, y2) ls).size < 268435456) (hv : ltE (y1, y2) (x1, x2) = true) (c m : Int) (pa pb : Nat) (w : World)
    (hm : MAt w mo c m) (h0 : 0 ≤ c) (h1 : c < 1152921504606846976) (h2 : 0 ≤ m) (h3 : m < 1152921504606846976) (ha : LAt w (.node (x1, x2) ks) (some ⟨pa, 0, none⟩)) (hb : LAt w (.node (y1, y2) ls) (some ⟨pb, 0, none⟩)) :
    Calls Tryd.prog 20 #[hp (some ⟨pa, 0, none⟩), mAddr mo, hp (some ⟨pb, 0, none⟩)] w (Gave mo (c + 1) (m + 1) (meld (.node (x1, x2) ks) (.node (y1, y2) ls)) w) := by
  rw [meld_lt hv]
  have HA0 := Lib.hid ha
  have HB0 := Lib.hid hb
  obtain ⟨_, kp, ea, hah, hak⟩ := ha
  cases ea
  obtain ⟨_, lp, eb, hbh, hbk⟩ := hb
  cases eb
  obtain ⟨sa, hsa⟩ : ∃ n, n = 1 + ks.size := ⟨_, rfl⟩
  obtain ⟨sb, hsb⟩ : ∃ n, n = 1 + ls.size := ⟨_, rfl⟩
  obtain ⟨na, hna⟩ : ∃ n, n = ks.len := ⟨_, rfl⟩
  obtain ⟨nb, hnb⟩ : ∃ n, n = ls.len := ⟨_, rfl⟩
  rw [← hsa, ← hna] at hah
  rw [← hsb, ← hnb] at hbh
  have HC := Lib.hid (And.intro hah hbh)
  have HK := Lib.hid (And.intro hak hbk)
  have HN := Lib.hid (show 0 ≤ c ∧ c < 1152921504606846976 ∧ 0 ≤ m ∧ m < 1152921504606846976 ∧ pa < w.heap.size ∧ pb < w.heap.size ∧ sa + sb < 268435456 ∧ sa = 1 + ks.size ∧ sb = 1 + ls.size ∧ na = ks.len ∧ nb = ls.len ∧ na ≤ sa ∧ nb ≤ sb from ⟨h0, h1, h2, h3, lt_of_heap hah, lt_of_heap hbh, by simp only [Lh.size] at hs; omega, hsa, hsb, hna, hnb, by have := ks.len_le; omega, by have := ls.len_le; omega⟩)
  have HV := Lib.hid hv
  have HM := Lib.hid hm
  clear hah hbh hak hbk hs h0 h1 h2 h3 hv hm hsa hsb hna hnb
  go_enter Tryd.func20, Tryd.ntmps20
  go_wp2_with fail
  go_region
  · have hb1 : Below w.heap.size w ((((((w.alloc (.cells #[.pointer (some ⟨pa, 0, none⟩)] 29)).alloc (.cells #[.pointer (some ⟨pb, 0, none⟩)] 29)).alloc (.cells #[.pointer none] 29)).alloc (.cells #[.pointer (some ⟨pa, 0, none⟩)] 29)).alloc (.cells #[.pointer (some ⟨pb, 0, none⟩)] 29)).drew) := (((((Below.refl _ _).alloc (Nat.le_refl _) _).alloc (by simp) _).alloc (by simp only [World.size_alloc]; omega) _).alloc (by simp only [World.size_alloc]; omega) _).alloc (by simp only [World.size_alloc]; omega) _ |>.drew
    have HF := Lib.hid (fm_new w (some ⟨pa, 0, none⟩) (some ⟨pb, 0, none⟩) (some ⟨pa, 0, none⟩) (some ⟨pb, 0, none⟩))
    have KK := Lib.hid (Trk.below (N := NodeT) (mo := mo) HM.out hb1)
    clear hb1
    generalize (((((w.alloc (.cells #[.pointer (some ⟨pa, 0, none⟩)] 29)).alloc (.cells #[.pointer (some ⟨pb, 0, none⟩)] 29)).alloc (.cells #[.pointer none] 29)).alloc (.cells #[.pointer (some ⟨pa, 0, none⟩)] 29)).alloc (.cells #[.pointer (some ⟨pb, 0, none⟩)] 29)).drew = w1 at *
    obtain ⟨a, ha⟩ : ∃ a, a = w.heap.size := ⟨_, rfl⟩
    rw [← ha] at HF ⊢
    have HA := Lib.hid ha
    clear ha
    generalize a + 1 + 1 + 1 + 1 = bl at *
    generalize a + 1 + 1 + 1 = bw at *
    have f0 := HF.out.h.c0
    have f1 := HF.out.o.c0
    have a0 := (five_kp HC.out.1 KK.out.kp).c0
    have a1 := (five_kp HC.out.1 KK.out.kp).c1
    have b0 := (five_kp HC.out.2 KK.out.kp).c0
    have b1 := (five_kp HC.out.2 KK.out.kp).c1
    go_wp2_with fail
    go_region_held3 (fun w' => w'.cell? ⟨a, 0, none⟩ = some (.pointer (some ⟨pa, 0, none⟩)) ∧ w'.cell? ⟨a + 1, 0, none⟩ = some (.pointer (some ⟨pb, 0, none⟩)) ∧ w'.cell? ⟨pa, 0, none⟩ = some (.int .i64 x1) ∧ w'.cell? ⟨pa, 1, none⟩ = some (.int .i64 x2) ∧ w'.cell? ⟨pb, 0, none⟩ = some (.int .i64 y1) ∧ w'.cell? ⟨pb, 1, none⟩ = some (.int .i64 y2)) (go_keep)
      (first | (go_at_call 39; ((with_reducible refine (mLess mo c m (y1, y2) (x1, x2) _ KK.out.drew.mt HN.out.1 (by have := HN.out.2.1; omega)).mono ?_); rintro e w2 ⟨rfl, hm2, hb2⟩; rw [HV.out]; have F2 := Lib.hid ((HF.out.stay ((Below.refl _ _).drew)).turn hb2 KK.out.drew.mt); have K2 := Lib.hid (KK.out.drew.turn hm2 hb2 node_ne); have g0 := F2.out.h.c0; have g1 := F2.out.o.c0; have c0 := (five_kp HC.out.1 K2.out.kp).c0; have c1 := (five_kp HC.out.1 K2.out.kp).c1; have d0 := (five_kp HC.out.2 K2.out.kp).c0; have d1 := (five_kp HC.out.2 K2.out.kp).c1; clear hm2 hb2)))
    clear f0 f1 a0 a1 b0 b1 c0 c1 d0 d1
    have z1 := F2.out.w.z0
    have y1 := F2.out.w.c0
    have y2 := F2.out.l.c0
    have z2 := F2.out.l.z0
    have n1 : ¬ bw = bl := by have := F2.out.ne; have := F2.out.gw; have := F2.out.gl; omega
    have n1b : ¬ bl = bw := fun e => n1 e.symm
    have n3 : ¬ a = bw := by have := F2.out.ne; have := F2.out.gw; have := F2.out.gl; omega
    have n3b : ¬ bw = a := fun e => n3 e.symm
    have n4 : ¬ a + 1 = bw := by have := F2.out.ne; have := F2.out.gw; have := F2.out.gl; omega
    have n4b : ¬ bw = a + 1 := fun e => n4 e.symm
    have n5 : ¬ a = bl := by have := F2.out.ne; have := F2.out.gw; have := F2.out.gl; omega
    have n5b : ¬ bl = a := fun e => n5 e.symm
    have n6 : ¬ a + 1 = bl := by have := F2.out.ne; have := F2.out.gw; have := F2.out.gl; omega
    have n6b : ¬ bl = a + 1 := fun e => n6 e.symm
    go_wp2_with fail
    go_region
    clear g0 g1 z1 z2 y1 y2 n1 n1b n3 n3b n4 n4b n5 n5b n6 n6b
    have F3 := Lib.hid (F2.out.put (some ⟨pb, 0, none⟩) (some ⟨pa, 0, none⟩) |>.stay ((Below.refl _ _).drew))
    have K3 := Lib.hid (((K2.out.put F2.out.w heapT_ne (by decide) (by rw [← HA.out]; have := F2.out.gw; omega) 0 (.pointer (some ⟨pb, 0, none⟩))).put ((heap_other (b := bw) 0 (.pointer (some ⟨pb, 0, none⟩)) (fun e => F2.out.ne e.symm)).trans F2.out.l) heapT_ne (by decide) (by rw [← HA.out]; have := F2.out.gl; omega) 0 (.pointer (some ⟨pa, 0, none⟩))).drew)
    generalize ((w2.setCell ⟨bw, 0, none⟩ (.pointer (some ⟨pb, 0, none⟩))).setCell ⟨bl, 0, none⟩ (.pointer (some ⟨pa, 0, none⟩))).drew = w3 at *
    have e0 := F3.out.w.c0
    have e1 := F3.out.l.c0
    have w0' := (five_kp HC.out.2 K3.out.kp).c0
    have w1' := (five_kp HC.out.2 K3.out.kp).c1
    have w2' := (five_kp HC.out.2 K3.out.kp).c2
    have w3' := (five_kp HC.out.2 K3.out.kp).c3
    have w4' := (five_kp HC.out.2 K3.out.kp).c4
    have l4' := (five_kp HC.out.1 K3.out.kp).c4
    obtain ⟨st, hst⟩ : ∃ n, n = sb + sa := ⟨_, rfl⟩
    have HST := Lib.hid hst
    have ew : IntKind.i64.wrap ((sb : Int) + (sa : Int)) = (st : Int) := by have := HN.out; rw [IntKind.wrap_i64]; omega
    clear hst
    have n1 : ¬ pb = a + 1 + 1 := by have h7 := HA.out; have h8 := HN.out; have := F3.out.gw; have := F3.out.gl; omega
    have n1b : ¬ a + 1 + 1 = pb := fun e => n1 e.symm
    have n2 : ¬ pa = a + 1 + 1 := by have h7 := HA.out; have h8 := HN.out; have := F3.out.gw; have := F3.out.gl; omega
    have n2b : ¬ a + 1 + 1 = pa := fun e => n2 e.symm
    have n3 : ¬ bw = a + 1 + 1 := by have h7 := HA.out; have h8 := HN.out; have := F3.out.gw; have := F3.out.gl; omega
    have n3b : ¬ a + 1 + 1 = bw := fun e => n3 e.symm
    have n4 : ¬ bl = a + 1 + 1 := by have h7 := HA.out; have h8 := HN.out; have := F3.out.gw; have := F3.out.gl; omega
    have n4b : ¬ a + 1 + 1 = bl := fun e => n4 e.symm
    go_wp2_with fail
    go_region_held3 (fun w' => w'.cell? ⟨bw, 0, none⟩ = some (.pointer (some ⟨pb, 0, none⟩)) ∧ w'.cell? ⟨bl, 0, none⟩ = some (.pointer (some ⟨pa, 0, none⟩)) ∧ w'.cell? ⟨pb, 0, none⟩ = some (.int .i64 y1) ∧ w'.cell? ⟨pb, 1, none⟩ = some (.int .i64 y2) ∧ w'.cell? ⟨pb, 2, none⟩ = some (.pointer lp) ∧ w'.cell? ⟨pb, 3, none⟩ = some (.int .i64 (nb : Int)) ∧ w'.cell? ⟨pb, 4, none⟩ = some (.int .i64 (sb : Int)) ∧ w'.cell? ⟨pa, 4, none⟩ = some (.int .i64 (sa : Int))) (go_keep)
      (first | (go_at_call 38; ((with_reducible refine (build_any mo (c + 1) m y1 y2 (.cons (x1, x2) ks ls) q4 n4 st _ K4.out.mt (by have := HN.out; omega) (by have := HN.out; omega) T4.out (by have := HN.out; have := HN4.out; simp only [Kd.len]; omega) (by have := HN.out; have := HST.out; simp only [Kd.size]; omega)).mono ?_); rintro e w5 ⟨p5, rfl, ht5, hm5, hb5⟩; have F5 := Lib.hid (F4.out.turn hb5 K4.out.mt); have K5 := Lib.hid (K4.out.turn hm5 hb5 node_ne); have T5 := Lib.hid ht5; have q0 := F5.out.w.c0; have q1 := F5.out.l.c0; have qw0 := (five_kp HC.out.2 K5.out.kp).c0; have qw1 := (five_kp HC.out.2 K5.out.kp).c1; have qw2 := (five_kp HC.out.2 K5.out.kp).c2; have qw3 := (five_kp HC.out.2 K5.out.kp).c3; have qw4 := (five_kp HC.out.2 K5.out.kp).c4; have ql4 := (five_kp HC.out.1 K5.out.kp).c4; have r5 := F5.out.r.c0; have z5 := F5.out.r.z0; clear ht5 hm5 hb5)) | (go_at_call 40; ((with_reducible refine (push_kn (ks := ls) (ls := ks) (n := nb) (x := (x1, x2)) (HK.out.2.kp K3.out.drew.kp) (HA0.out.kp K3.out.drew.kp) (by have := HN.out; omega) (by have := HN.out; omega)).mono ?_); rintro e w4 ⟨q4, n4, rfl, hq4, hn4, hb4⟩; have HN4 := Lib.hid hn4; have F4 := Lib.hid ((F3.out.stay ((Below.refl _ _).drew)).stay hb4); have K4 := Lib.hid (K3.out.drew.stay hb4); have T4 := Lib.hid hq4; have p0 := F4.out.w.c0; have p1 := F4.out.l.c0; have pw0 := (five_kp HC.out.2 K4.out.kp).c0; have pw1 := (five_kp HC.out.2 K4.out.kp).c1; have pw2 := (five_kp HC.out.2 K4.out.kp).c2; have pw3 := (five_kp HC.out.2 K4.out.kp).c3; have pw4 := (five_kp HC.out.2 K4.out.kp).c4; have pl4 := (five_kp HC.out.1 K4.out.kp).c4; clear hq4 hn4 hb4)))
    go_wp2_with fail
    have hk := (K5.out.put F5.out.r heapT_ne (by decide) (by rw [← HA.out]; omega) 0 (.pointer p5))
    exact bodyPost_ret (v := hp p5) (by simp [results, Tryd.results20, go_sem, r5]) rfl ⟨_, rfl, T5.out.kp (Kpt.set F5.out.r heapT_ne 0 _), hk.mt, hk.bt⟩
  · have hb1 : Below w.heap.size w ((((((w.alloc (.cells #[.pointer (some ⟨pa, 0, none⟩)] 29)).alloc (.cells #[.pointer (some ⟨pb, 0, none⟩)] 29)).alloc (.cells #[.pointer none] 29)).alloc (.cells #[.pointer (some ⟨pb, 0, none⟩)] 29)).alloc (.cells #[.pointer (some ⟨pa, 0, none⟩)] 29)).drew) := (((((Below.refl _ _).alloc (Nat.le_refl _) _).alloc (by simp) _).alloc (by simp only [World.size_alloc]; omega) _).alloc (by simp only [World.size_alloc]; omega) _).alloc (by simp only [World.size_alloc]; omega) _ |>.drew
    have HF := Lib.hid (fm_new w (some ⟨pa, 0, none⟩) (some ⟨pb, 0, none⟩) (some ⟨pb, 0, none⟩) (some ⟨pa, 0, none⟩))
    have HF := Lib.hid HF.out.swap
    have KK := Lib.hid (Trk.below (N := NodeT) (mo := mo) HM.out hb1)
    clear hb1
    generalize (((((w.alloc (.cells #[.pointer (some ⟨pa, 0, none⟩)] 29)).alloc (.cells #[.pointer (some ⟨pb, 0, none⟩)] 29)).alloc (.cells #[.pointer none] 29)).alloc (.cells #[.pointer (some ⟨pb, 0, none⟩)] 29)).alloc (.cells #[.pointer (some ⟨pa, 0, none⟩)] 29)).drew = w1 at *
    obtain ⟨a, ha⟩ : ∃ a, a = w.heap.size := ⟨_, rfl⟩
    rw [← ha] at HF ⊢
    have HA := Lib.hid ha
    clear ha
    generalize a + 1 + 1 + 1 + 1 = bw at *
    generalize a + 1 + 1 + 1 = bl at *
    have f0 := HF.out.h.c0
    have f1 := HF.out.o.c0
    have a0 := (five_kp HC.out.1 KK.out.kp).c0
    have a1 := (five_kp HC.out.1 KK.out.kp).c1
    have b0 := (five_kp HC.out.2 KK.out.kp).c0
    have b1 := (five_kp HC.out.2 KK.out.kp).c1
    go_wp2_with fail
    go_region_held3 (fun w' => w'.cell? ⟨a, 0, none⟩ = some (.pointer (some ⟨pa, 0, none⟩)) ∧ w'.cell? ⟨a + 1, 0, none⟩ = some (.pointer (some ⟨pb, 0, none⟩)) ∧ w'.cell? ⟨pa, 0, none⟩ = some (.int .i64 x1) ∧ w'.cell? ⟨pa, 1, none⟩ = some (.int .i64 x2) ∧ w'.cell? ⟨pb, 0, none⟩ = some (.int .i64 y1) ∧ w'.cell? ⟨pb, 1, none⟩ = some (.int .i64 y2)) (go_keep)
      (first | (go_at_call 39; ((with_reducible refine (mLess mo c m (y1, y2) (x1, x2) _ KK.out.drew.mt HN.out.1 (by have := HN.out.2.1; omega)).mono ?_); rintro e w2 ⟨rfl, hm2, hb2⟩; rw [HV.out]; have F2 := Lib.hid ((HF.out.stay ((Below.refl _ _).drew)).turn hb2 KK.out.drew.mt); have K2 := Lib.hid (KK.out.drew.turn hm2 hb2 node_ne); have g0 := F2.out.h.c0; have g1 := F2.out.o.c0; have c0 := (five_kp HC.out.1 K2.out.kp).c0; have c1 := (five_kp HC.out.1 K2.out.kp).c1; have d0 := (five_kp HC.out.2 K2.out.kp).c0; have d1 := (five_kp HC.out.2 K2.out.kp).c1; clear hm2 hb2)))
    clear f0 f1 a0 a1 b0 b1 c0 c1 d0 d1
    have z1 := F2.out.w.z0
    have y1 := F2.out.w.c0
    have y2 := F2.out.l.c0
    have z2 := F2.out.l.z0
    have n1 : ¬ bw = bl := by have := F2.out.ne; have := F2.out.gw; have := F2.out.gl; omega
    have n1b : ¬ bl = bw := fun e => n1 e.symm
    have n3 : ¬ a = bw := by have := F2.out.ne; have := F2.out.gw; have := F2.out.gl; omega
    have n3b : ¬ bw = a := fun e => n3 e.symm
    have n4 : ¬ a + 1 = bw := by have := F2.out.ne; have := F2.out.gw; have := F2.out.gl; omega
    have n4b : ¬ bw = a + 1 := fun e => n4 e.symm
    have n5 : ¬ a = bl := by have := F2.out.ne; have := F2.out.gw; have := F2.out.gl; omega
    have n5b : ¬ bl = a := fun e => n5 e.symm
    have n6 : ¬ a + 1 = bl := by have := F2.out.ne; have := F2.out.gw; have := F2.out.gl; omega
    have n6b : ¬ bl = a + 1 := fun e => n6 e.symm
    go_wp2_with fail
    go_region
    clear g0 g1 z1 z2 y1 y2 n1 n1b n3 n3b n4 n4b n5 n5b n6 n6b
    have F3 := Lib.hid (F2.out.put (some ⟨pb, 0, none⟩) (some ⟨pa, 0, none⟩) |>.stay ((Below.refl _ _).drew))
    have K3 := Lib.hid (((K2.out.put F2.out.w heapT_ne (by decide) (by rw [← HA.out]; have := F2.out.gw; omega) 0 (.pointer (some ⟨pb, 0, none⟩))).put ((heap_other (b := bw) 0 (.pointer (some ⟨pb, 0, none⟩)) (fun e => F2.out.ne e.symm)).trans F2.out.l) heapT_ne (by decide) (by rw [← HA.out]; have := F2.out.gl; omega) 0 (.pointer (some ⟨pa, 0, none⟩))).drew)
    generalize ((w2.setCell ⟨bw, 0, none⟩ (.pointer (some ⟨pb, 0, none⟩))).setCell ⟨bl, 0, none⟩ (.pointer (some ⟨pa, 0, none⟩))).drew = w3 at *
    have e0 := F3.out.w.c0
    have e1 := F3.out.l.c0
    have w0' := (five_kp HC.out.2 K3.out.kp).c0
    have w1' := (five_kp HC.out.2 K3.out.kp).c1
    have w2' := (five_kp HC.out.2 K3.out.kp).c2
    have w3' := (five_kp HC.out.2 K3.out.kp).c3
    have w4' := (five_kp HC.out.2 K3.out.kp).c4
    have l4' := (five_kp HC.out.1 K3.out.kp).c4
    obtain ⟨st, hst⟩ : ∃ n, n = sb + sa := ⟨_, rfl⟩
    have HST := Lib.hid hst
    have ew : IntKind.i64.wrap ((sb : Int) + (sa : Int)) = (st : Int) := by have := HN.out; rw [IntKind.wrap_i64]; omega
    clear hst
    have n1 : ¬ pb = a + 1 + 1 := by have h7 := HA.out; have h8 := HN.out; have := F3.out.gw; have := F3.out.gl; omega
    have n1b : ¬ a + 1 + 1 = pb := fun e => n1 e.symm
    have n2 : ¬ pa = a + 1 + 1 := by have h7 := HA.out; have h8 := HN.out; have := F3.out.gw; have := F3.out.gl; omega
    have n2b : ¬ a + 1 + 1 = pa := fun e => n2 e.symm
    have n3 : ¬ bw = a + 1 + 1 := by have h7 := HA.out; have h8 := HN.out; have := F3.out.gw; have := F3.out.gl; omega
    have n3b : ¬ a + 1 + 1 = bw := fun e => n3 e.symm
    have n4 : ¬ bl = a + 1 + 1 := by have h7 := HA.out; have h8 := HN.out; have := F3.out.gw; have := F3.out.gl; omega
    have n4b : ¬ a + 1 + 1 = bl := fun e => n4 e.symm
    go_wp2_with fail
    go_region_held3 (fun w' => w'.cell? ⟨bw, 0, none⟩ = some (.pointer (some ⟨pb, 0, none⟩)) ∧ w'.cell? ⟨bl, 0, none⟩ = some (.pointer (some ⟨pa, 0, none⟩)) ∧ w'.cell? ⟨pb, 0, none⟩ = some (.int .i64 y1) ∧ w'.cell? ⟨pb, 1, none⟩ = some (.int .i64 y2) ∧ w'.cell? ⟨pb, 2, none⟩ = some (.pointer lp) ∧ w'.cell? ⟨pb, 3, none⟩ = some (.int .i64 (nb : Int)) ∧ w'.cell? ⟨pb, 4, none⟩ = some (.int .i64 (sb : Int)) ∧ w'.cell? ⟨pa, 4, none⟩ = some (.int .i64 (sa : Int))) (go_keep)
      (first | (go_at_call 38; ((with_reducible refine (build_any mo (c + 1) m y1 y2 (.cons (x1, x2) ks ls) q4 n4 st _ K4.out.mt (by have := HN.out; omega) (by have := HN.out; omega) T4.out (by have := HN.out; have := HN4.out; simp only [Kd.len]; omega) (by have := HN.out; have := HST.out; simp only [Kd.size]; omega)).mono ?_); rintro e w5 ⟨p5, rfl, ht5, hm5, hb5⟩; have F5 := Lib.hid (F4.out.turn hb5 K4.out.mt); have K5 := Lib.hid (K4.out.turn hm5 hb5 node_ne); have T5 := Lib.hid ht5; have q0 := F5.out.w.c0; have q1 := F5.out.l.c0; have qw0 := (five_kp HC.out.2 K5.out.kp).c0; have qw1 := (five_kp HC.out.2 K5.out.kp).c1; have qw2 := (five_kp HC.out.2 K5.out.kp).c2; have qw3 := (five_kp HC.out.2 K5.out.kp).c3; have qw4 := (five_kp HC.out.2 K5.out.kp).c4; have ql4 := (five_kp HC.out.1 K5.out.kp).c4; have r5 := F5.out.r.c0; have z5 := F5.out.r.z0; clear ht5 hm5 hb5)) | (go_at_call 40; ((with_reducible refine (push_kn (ks := ls) (ls := ks) (n := nb) (x := (x1, x2)) (HK.out.2.kp K3.out.drew.kp) (HA0.out.kp K3.out.drew.kp) (by have := HN.out; omega) (by have := HN.out; omega)).mono ?_); rintro e w4 ⟨q4, n4, rfl, hq4, hn4, hb4⟩; have HN4 := Lib.hid hn4; have F4 := Lib.hid ((F3.out.stay ((Below.refl _ _).drew)).stay hb4); have K4 := Lib.hid (K3.out.drew.stay hb4); have T4 := Lib.hid hq4; have p0 := F4.out.w.c0; have p1 := F4.out.l.c0; have pw0 := (five_kp HC.out.2 K4.out.kp).c0; have pw1 := (five_kp HC.out.2 K4.out.kp).c1; have pw2 := (five_kp HC.out.2 K4.out.kp).c2; have pw3 := (five_kp HC.out.2 K4.out.kp).c3; have pw4 := (five_kp HC.out.2 K4.out.kp).c4; have pl4 := (five_kp HC.out.1 K4.out.kp).c4; clear hq4 hn4 hb4)))
    go_wp2_with fail
    have hk := (K5.out.put F5.out.r heapT_ne (by decide) (by rw [← HA.out]; omega) 0 (.pointer p5))
    exact bodyPost_ret (v := hp p5) (by simp [results, Tryd.results20, go_sem, r5]) rfl ⟨_, rfl, T5.out.kp (Kpt.set F5.out.r heapT_ne 0 _), hk.mt, hk.bt⟩

set_option maxRecDepth 100000 in
set_option maxHeartbeats 4000000 in
theorem meld_false (mo : Option Nat) (x1 x2 y1 y2 : Int) (ks ls : Kd) (hs : (Lh.node (x1, x2) ks).size + (Lh.node (y1, y2) ls).size < 268435456) (hv : ltE (y1, y2) (x1, x2) = false) (c m : Int) (pa pb : Nat) (w : World)
    (hm : MAt w mo c m) (h0 : 0 ≤ c) (h1 : c < 1152921504606846976) (h2 : 0 ≤ m) (h3 : m < 1152921504606846976) (ha : LAt w (.node (x1, x2) ks) (some ⟨pa, 0, none⟩)) (hb : LAt w (.node (y1, y2) ls) (some ⟨pb, 0, none⟩)) :
    Calls Tryd.prog 20 #[hp (some ⟨pa, 0, none⟩), mAddr mo, hp (some ⟨pb, 0, none⟩)] w (Gave mo (c + 1) (m + 1) (meld (.node (x1, x2) ks) (.node (y1, y2) ls)) w) := by
  rw [meld_ge hv]
  have HA0 := Lib.hid ha
  have HB0 := Lib.hid hb
  obtain ⟨_, kp, ea, hah, hak⟩ := ha
  cases ea
  obtain ⟨_, lp, eb, hbh, hbk⟩ := hb
  cases eb
  obtain ⟨sa, hsa⟩ : ∃ n, n = 1 + ks.size := ⟨_, rfl⟩
  obtain ⟨sb, hsb⟩ : ∃ n, n = 1 + ls.size := ⟨_, rfl⟩
  obtain ⟨na, hna⟩ : ∃ n, n = ks.len := ⟨_, rfl⟩
  obtain ⟨nb, hnb⟩ : ∃ n, n = ls.len := ⟨_, rfl⟩
  rw [← hsa, ← hna] at hah
  rw [← hsb, ← hnb] at hbh
  have HC := Lib.hid (And.intro hah hbh)
  have HK := Lib.hid (And.intro hak hbk)
  have HN := Lib.hid (show 0 ≤ c ∧ c < 1152921504606846976 ∧ 0 ≤ m ∧ m < 1152921504606846976 ∧ pa < w.heap.size ∧ pb < w.heap.size ∧ sa + sb < 268435456 ∧ sa = 1 + ks.size ∧ sb = 1 + ls.size ∧ na = ks.len ∧ nb = ls.len ∧ na ≤ sa ∧ nb ≤ sb from ⟨h0, h1, h2, h3, lt_of_heap hah, lt_of_heap hbh, by simp only [Lh.size] at hs; omega, hsa, hsb, hna, hnb, by have := ks.len_le; omega, by have := ls.len_le; omega⟩)
  have HV := Lib.hid hv
  have HM := Lib.hid hm
  clear hah hbh hak hbk hs h0 h1 h2 h3 hv hm hsa hsb hna hnb
  go_enter Tryd.func20, Tryd.ntmps20
  go_wp2_with fail
  go_region
  · have hb1 : Below w.heap.size w ((((((w.alloc (.cells #[.pointer (some ⟨pa, 0, none⟩)] 29)).alloc (.cells #[.pointer (some ⟨pb, 0, none⟩)] 29)).alloc (.cells #[.pointer none] 29)).alloc (.cells #[.pointer (some ⟨pa, 0, none⟩)] 29)).alloc (.cells #[.pointer (some ⟨pb, 0, none⟩)] 29)).drew) := (((((Below.refl _ _).alloc (Nat.le_refl _) _).alloc (by simp) _).alloc (by simp only [World.size_alloc]; omega) _).alloc (by simp only [World.size_alloc]; omega) _).alloc (by simp only [World.size_alloc]; omega) _ |>.drew
    have HF := Lib.hid (fm_new w (some ⟨pa, 0, none⟩) (some ⟨pb, 0, none⟩) (some ⟨pa, 0, none⟩) (some ⟨pb, 0, none⟩))
    have KK := Lib.hid (Trk.below (N := NodeT) (mo := mo) HM.out hb1)
    clear hb1
    generalize (((((w.alloc (.cells #[.pointer (some ⟨pa, 0, none⟩)] 29)).alloc (.cells #[.pointer (some ⟨pb, 0, none⟩)] 29)).alloc (.cells #[.pointer none] 29)).alloc (.cells #[.pointer (some ⟨pa, 0, none⟩)] 29)).alloc (.cells #[.pointer (some ⟨pb, 0, none⟩)] 29)).drew = w1 at *
    obtain ⟨a, ha⟩ : ∃ a, a = w.heap.size := ⟨_, rfl⟩
    rw [← ha] at HF ⊢
    have HA := Lib.hid ha
    clear ha
    generalize a + 1 + 1 + 1 + 1 = bl at *
    generalize a + 1 + 1 + 1 = bw at *
    have f0 := HF.out.h.c0
    have f1 := HF.out.o.c0
    have a0 := (five_kp HC.out.1 KK.out.kp).c0
    have a1 := (five_kp HC.out.1 KK.out.kp).c1
    have b0 := (five_kp HC.out.2 KK.out.kp).c0
    have b1 := (five_kp HC.out.2 KK.out.kp).c1
    go_wp2_with fail
    go_region_held3 (fun w' => w'.cell? ⟨a, 0, none⟩ = some (.pointer (some ⟨pa, 0, none⟩)) ∧ w'.cell? ⟨a + 1, 0, none⟩ = some (.pointer (some ⟨pb, 0, none⟩)) ∧ w'.cell? ⟨pa, 0, none⟩ = some (.int .i64 x1) ∧ w'.cell? ⟨pa, 1, none⟩ = some (.int .i64 x2) ∧ w'.cell? ⟨pb, 0, none⟩ = some (.int .i64 y1) ∧ w'.cell? ⟨pb, 1, none⟩ = some (.int .i64 y2)) (go_keep)
      (first | (go_at_call 39; ((with_reducible refine (mLess mo c m (y1, y2) (x1, x2) _ KK.out.drew.mt HN.out.1 (by have := HN.out.2.1; omega)).mono ?_); rintro e w2 ⟨rfl, hm2, hb2⟩; rw [HV.out]; have F2 := Lib.hid ((HF.out.stay ((Below.refl _ _).drew)).turn hb2 KK.out.drew.mt); have K2 := Lib.hid (KK.out.drew.turn hm2 hb2 node_ne); have g0 := F2.out.h.c0; have g1 := F2.out.o.c0; have c0 := (five_kp HC.out.1 K2.out.kp).c0; have c1 := (five_kp HC.out.1 K2.out.kp).c1; have d0 := (five_kp HC.out.2 K2.out.kp).c0; have d1 := (five_kp HC.out.2 K2.out.kp).c1; clear hm2 hb2)))
    clear f0 f1 a0 a1 b0 b1 c0 c1 d0 d1
    clear g0 g1
    have F3 := F2
    have K3 := K2
    generalize w2 = w3 at *
    have e0 := F3.out.w.c0
    have e1 := F3.out.l.c0
    have w0' := (five_kp HC.out.1 K3.out.kp).c0
    have w1' := (five_kp HC.out.1 K3.out.kp).c1
    have w2' := (five_kp HC.out.1 K3.out.kp).c2
    have w3' := (five_kp HC.out.1 K3.out.kp).c3
    have w4' := (five_kp HC.out.1 K3.out.kp).c4
    have l4' := (five_kp HC.out.2 K3.out.kp).c4
    obtain ⟨st, hst⟩ : ∃ n, n = sa + sb := ⟨_, rfl⟩
    have HST := Lib.hid hst
    have ew : IntKind.i64.wrap ((sa : Int) + (sb : Int)) = (st : Int) := by have := HN.out; rw [IntKind.wrap_i64]; omega
    clear hst
    have n1 : ¬ pa = a + 1 + 1 := by have h7 := HA.out; have h8 := HN.out; have := F3.out.gw; have := F3.out.gl; omega
    have n1b : ¬ a + 1 + 1 = pa := fun e => n1 e.symm
    have n2 : ¬ pb = a + 1 + 1 := by have h7 := HA.out; have h8 := HN.out; have := F3.out.gw; have := F3.out.gl; omega
    have n2b : ¬ a + 1 + 1 = pb := fun e => n2 e.symm
    have n3 : ¬ bw = a + 1 + 1 := by have h7 := HA.out; have h8 := HN.out; have := F3.out.gw; have := F3.out.gl; omega
    have n3b : ¬ a + 1 + 1 = bw := fun e => n3 e.symm
    have n4 : ¬ bl = a + 1 + 1 := by have h7 := HA.out; have h8 := HN.out; have := F3.out.gw; have := F3.out.gl; omega
    have n4b : ¬ a + 1 + 1 = bl := fun e => n4 e.symm
    go_wp2_with fail
    go_region_held3 (fun w' => w'.cell? ⟨bw, 0, none⟩ = some (.pointer (some ⟨pa, 0, none⟩)) ∧ w'.cell? ⟨bl, 0, none⟩ = some (.pointer (some ⟨pb, 0, none⟩)) ∧ w'.cell? ⟨pa, 0, none⟩ = some (.int .i64 x1) ∧ w'.cell? ⟨pa, 1, none⟩ = some (.int .i64 x2) ∧ w'.cell? ⟨pa, 2, none⟩ = some (.pointer kp) ∧ w'.cell? ⟨pa, 3, none⟩ = some (.int .i64 (na : Int)) ∧ w'.cell? ⟨pa, 4, none⟩ = some (.int .i64 (sa : Int)) ∧ w'.cell? ⟨pb, 4, none⟩ = some (.int .i64 (sb : Int))) (go_keep)
      (first | (go_at_call 38; ((with_reducible refine (build_any mo (c + 1) m x1 x2 (.cons (y1, y2) ls ks) q4 n4 st _ K4.out.mt (by have := HN.out; omega) (by have := HN.out; omega) T4.out (by have := HN.out; have := HN4.out; simp only [Kd.len]; omega) (by have := HN.out; have := HST.out; simp only [Kd.size]; omega)).mono ?_); rintro e w5 ⟨p5, rfl, ht5, hm5, hb5⟩; have F5 := Lib.hid (F4.out.turn hb5 K4.out.mt); have K5 := Lib.hid (K4.out.turn hm5 hb5 node_ne); have T5 := Lib.hid ht5; have q0 := F5.out.w.c0; have q1 := F5.out.l.c0; have qw0 := (five_kp HC.out.1 K5.out.kp).c0; have qw1 := (five_kp HC.out.1 K5.out.kp).c1; have qw2 := (five_kp HC.out.1 K5.out.kp).c2; have qw3 := (five_kp HC.out.1 K5.out.kp).c3; have qw4 := (five_kp HC.out.1 K5.out.kp).c4; have ql4 := (five_kp HC.out.2 K5.out.kp).c4; have r5 := F5.out.r.c0; have z5 := F5.out.r.z0; clear ht5 hm5 hb5)) | (go_at_call 40; ((with_reducible refine (push_kn (ks := ks) (ls := ls) (n := na) (x := (y1, y2)) (HK.out.1.kp K3.out.drew.kp) (HB0.out.kp K3.out.drew.kp) (by have := HN.out; omega) (by have := HN.out; omega)).mono ?_); rintro e w4 ⟨q4, n4, rfl, hq4, hn4, hb4⟩; have HN4 := Lib.hid hn4; have F4 := Lib.hid ((F3.out.stay ((Below.refl _ _).drew)).stay hb4); have K4 := Lib.hid (K3.out.drew.stay hb4); have T4 := Lib.hid hq4; have p0 := F4.out.w.c0; have p1 := F4.out.l.c0; have pw0 := (five_kp HC.out.1 K4.out.kp).c0; have pw1 := (five_kp HC.out.1 K4.out.kp).c1; have pw2 := (five_kp HC.out.1 K4.out.kp).c2; have pw3 := (five_kp HC.out.1 K4.out.kp).c3; have pw4 := (five_kp HC.out.1 K4.out.kp).c4; have pl4 := (five_kp HC.out.2 K4.out.kp).c4; clear hq4 hn4 hb4)))
    go_wp2_with fail
    have hk := (K5.out.put F5.out.r heapT_ne (by decide) (by rw [← HA.out]; omega) 0 (.pointer p5))
    exact bodyPost_ret (v := hp p5) (by simp [results, Tryd.results20, go_sem, r5]) rfl ⟨_, rfl, T5.out.kp (Kpt.set F5.out.r heapT_ne 0 _), hk.mt, hk.bt⟩
  · have hb1 : Below w.heap.size w ((((((w.alloc (.cells #[.pointer (some ⟨pa, 0, none⟩)] 29)).alloc (.cells #[.pointer (some ⟨pb, 0, none⟩)] 29)).alloc (.cells #[.pointer none] 29)).alloc (.cells #[.pointer (some ⟨pb, 0, none⟩)] 29)).alloc (.cells #[.pointer (some ⟨pa, 0, none⟩)] 29)).drew) := (((((Below.refl _ _).alloc (Nat.le_refl _) _).alloc (by simp) _).alloc (by simp only [World.size_alloc]; omega) _).alloc (by simp only [World.size_alloc]; omega) _).alloc (by simp only [World.size_alloc]; omega) _ |>.drew
    have HF := Lib.hid (fm_new w (some ⟨pa, 0, none⟩) (some ⟨pb, 0, none⟩) (some ⟨pb, 0, none⟩) (some ⟨pa, 0, none⟩))
    have HF := Lib.hid HF.out.swap
    have KK := Lib.hid (Trk.below (N := NodeT) (mo := mo) HM.out hb1)
    clear hb1
    generalize (((((w.alloc (.cells #[.pointer (some ⟨pa, 0, none⟩)] 29)).alloc (.cells #[.pointer (some ⟨pb, 0, none⟩)] 29)).alloc (.cells #[.pointer none] 29)).alloc (.cells #[.pointer (some ⟨pb, 0, none⟩)] 29)).alloc (.cells #[.pointer (some ⟨pa, 0, none⟩)] 29)).drew = w1 at *
    obtain ⟨a, ha⟩ : ∃ a, a = w.heap.size := ⟨_, rfl⟩
    rw [← ha] at HF ⊢
    have HA := Lib.hid ha
    clear ha
    generalize a + 1 + 1 + 1 + 1 = bw at *
    generalize a + 1 + 1 + 1 = bl at *
    have f0 := HF.out.h.c0
    have f1 := HF.out.o.c0
    have a0 := (five_kp HC.out.1 KK.out.kp).c0
    have a1 := (five_kp HC.out.1 KK.out.kp).c1
    have b0 := (five_kp HC.out.2 KK.out.kp).c0
    have b1 := (five_kp HC.out.2 KK.out.kp).c1
    go_wp2_with fail
    go_region_held3 (fun w' => w'.cell? ⟨a, 0, none⟩ = some (.pointer (some ⟨pa, 0, none⟩)) ∧ w'.cell? ⟨a + 1, 0, none⟩ = some (.pointer (some ⟨pb, 0, none⟩)) ∧ w'.cell? ⟨pa, 0, none⟩ = some (.int .i64 x1) ∧ w'.cell? ⟨pa, 1, none⟩ = some (.int .i64 x2) ∧ w'.cell? ⟨pb, 0, none⟩ = some (.int .i64 y1) ∧ w'.cell? ⟨pb, 1, none⟩ = some (.int .i64 y2)) (go_keep)
      (first | (go_at_call 39; ((with_reducible refine (mLess mo c m (y1, y2) (x1, x2) _ KK.out.drew.mt HN.out.1 (by have := HN.out.2.1; omega)).mono ?_); rintro e w2 ⟨rfl, hm2, hb2⟩; rw [HV.out]; have F2 := Lib.hid ((HF.out.stay ((Below.refl _ _).drew)).turn hb2 KK.out.drew.mt); have K2 := Lib.hid (KK.out.drew.turn hm2 hb2 node_ne); have g0 := F2.out.h.c0; have g1 := F2.out.o.c0; have c0 := (five_kp HC.out.1 K2.out.kp).c0; have c1 := (five_kp HC.out.1 K2.out.kp).c1; have d0 := (five_kp HC.out.2 K2.out.kp).c0; have d1 := (five_kp HC.out.2 K2.out.kp).c1; clear hm2 hb2)))
    clear f0 f1 a0 a1 b0 b1 c0 c1 d0 d1
    clear g0 g1
    have F3 := F2
    have K3 := K2
    generalize w2 = w3 at *
    have e0 := F3.out.w.c0
    have e1 := F3.out.l.c0
    have w0' := (five_kp HC.out.1 K3.out.kp).c0
    have w1' := (five_kp HC.out.1 K3.out.kp).c1
    have w2' := (five_kp HC.out.1 K3.out.kp).c2
    have w3' := (five_kp HC.out.1 K3.out.kp).c3
    have w4' := (five_kp HC.out.1 K3.out.kp).c4
    have l4' := (five_kp HC.out.2 K3.out.kp).c4
    obtain ⟨st, hst⟩ : ∃ n, n = sa + sb := ⟨_, rfl⟩
    have HST := Lib.hid hst
    have ew : IntKind.i64.wrap ((sa : Int) + (sb : Int)) = (st : Int) := by have := HN.out; rw [IntKind.wrap_i64]; omega
    clear hst
    have n1 : ¬ pa = a + 1 + 1 := by have h7 := HA.out; have h8 := HN.out; have := F3.out.gw; have := F3.out.gl; omega
    have n1b : ¬ a + 1 + 1 = pa := fun e => n1 e.symm
    have n2 : ¬ pb = a + 1 + 1 := by have h7 := HA.out; have h8 := HN.out; have := F3.out.gw; have := F3.out.gl; omega
    have n2b : ¬ a + 1 + 1 = pb := fun e => n2 e.symm
    have n3 : ¬ bw = a + 1 + 1 := by have h7 := HA.out; have h8 := HN.out; have := F3.out.gw; have := F3.out.gl; omega
    have n3b : ¬ a + 1 + 1 = bw := fun e => n3 e.symm
    have n4 : ¬ bl = a + 1 + 1 := by have h7 := HA.out; have h8 := HN.out; have := F3.out.gw; have := F3.out.gl; omega
    have n4b : ¬ a + 1 + 1 = bl := fun e => n4 e.symm
    go_wp2_with fail
    go_region_held3 (fun w' => w'.cell? ⟨bw, 0, none⟩ = some (.pointer (some ⟨pa, 0, none⟩)) ∧ w'.cell? ⟨bl, 0, none⟩ = some (.pointer (some ⟨pb, 0, none⟩)) ∧ w'.cell? ⟨pa, 0, none⟩ = some (.int .i64 x1) ∧ w'.cell? ⟨pa, 1, none⟩ = some (.int .i64 x2) ∧ w'.cell? ⟨pa, 2, none⟩ = some (.pointer kp) ∧ w'.cell? ⟨pa, 3, none⟩ = some (.int .i64 (na : Int)) ∧ w'.cell? ⟨pa, 4, none⟩ = some (.int .i64 (sa : Int)) ∧ w'.cell? ⟨pb, 4, none⟩ = some (.int .i64 (sb : Int))) (go_keep)
      (first | (go_at_call 38; ((with_reducible refine (build_any mo (c + 1) m x1 x2 (.cons (y1, y2) ls ks) q4 n4 st _ K4.out.mt (by have := HN.out; omega) (by have := HN.out; omega) T4.out (by have := HN.out; have := HN4.out; simp only [Kd.len]; omega) (by have := HN.out; have := HST.out; simp only [Kd.size]; omega)).mono ?_); rintro e w5 ⟨p5, rfl, ht5, hm5, hb5⟩; have F5 := Lib.hid (F4.out.turn hb5 K4.out.mt); have K5 := Lib.hid (K4.out.turn hm5 hb5 node_ne); have T5 := Lib.hid ht5; have q0 := F5.out.w.c0; have q1 := F5.out.l.c0; have qw0 := (five_kp HC.out.1 K5.out.kp).c0; have qw1 := (five_kp HC.out.1 K5.out.kp).c1; have qw2 := (five_kp HC.out.1 K5.out.kp).c2; have qw3 := (five_kp HC.out.1 K5.out.kp).c3; have qw4 := (five_kp HC.out.1 K5.out.kp).c4; have ql4 := (five_kp HC.out.2 K5.out.kp).c4; have r5 := F5.out.r.c0; have z5 := F5.out.r.z0; clear ht5 hm5 hb5)) | (go_at_call 40; ((with_reducible refine (push_kn (ks := ks) (ls := ls) (n := na) (x := (y1, y2)) (HK.out.1.kp K3.out.drew.kp) (HB0.out.kp K3.out.drew.kp) (by have := HN.out; omega) (by have := HN.out; omega)).mono ?_); rintro e w4 ⟨q4, n4, rfl, hq4, hn4, hb4⟩; have HN4 := Lib.hid hn4; have F4 := Lib.hid ((F3.out.stay ((Below.refl _ _).drew)).stay hb4); have K4 := Lib.hid (K3.out.drew.stay hb4); have T4 := Lib.hid hq4; have p0 := F4.out.w.c0; have p1 := F4.out.l.c0; have pw0 := (five_kp HC.out.1 K4.out.kp).c0; have pw1 := (five_kp HC.out.1 K4.out.kp).c1; have pw2 := (five_kp HC.out.1 K4.out.kp).c2; have pw3 := (five_kp HC.out.1 K4.out.kp).c3; have pw4 := (five_kp HC.out.1 K4.out.kp).c4; have pl4 := (five_kp HC.out.2 K4.out.kp).c4; clear hq4 hn4 hb4)))
    go_wp2_with fail
    have hk := (K5.out.put F5.out.r heapT_ne (by decide) (by rw [← HA.out]; omega) 0 (.pointer p5))
    exact bodyPost_ret (v := hp p5) (by simp [results, Tryd.results20, go_sem, r5]) rfl ⟨_, rfl, T5.out.kp (Kpt.set F5.out.r heapT_ne 0 _), hk.mt, hk.bt⟩

/-- Meld, of any two heaps. -/
theorem meld_any (mo : Option Nat) (a b : Lh) (c m : Int) (p q : Option Addr) (w : World) (hs : a.size + b.size < 268435456) (hm : MAt w mo c m) (h0 : 0 ≤ c) (h1 : c < 1152921504606846976) (h2 : 0 ≤ m) (h3 : m < 1152921504606846976) (ha : LAt w a p) (hb : LAt w b q) :
    Calls Tryd.prog 20 #[hp p, mAddr mo, hp q] w (Gave mo (c + meldN a b) (m + meldN a b) (meld a b) w) := by
  cases a with
  | nil =>
    obtain rfl := ha
    exact (meld_first mo q w).mono fun _ _ ⟨he, hw⟩ => ⟨q, he, by rw [meld_nil]; exact hb.stay hw, by rw [meldN_nil]; simpa using hm.stay hw, Bt.ofBelow hw⟩
  | node x ks =>
    obtain ⟨x1, x2⟩ := x
    have ha' := ha
    obtain ⟨pa, kp, rfl, -⟩ := ha'
    cases b with
    | nil =>
      obtain rfl := hb
      exact (meld_second mo pa w).mono fun _ _ ⟨he, hw⟩ => ⟨_, he, ha.stay hw, by simpa [meldN] using hm.stay hw, Bt.ofBelow hw⟩
    | node y ls =>
      obtain ⟨y1, y2⟩ := y
      have hb' := hb
      obtain ⟨pb, lp, rfl, -⟩ := hb'
      rw [meldN_two]
      cases hv : ltE (y1, y2) (x1, x2) with
      | true => exact meld_true mo x1 x2 y1 y2 ks ls hs hv c m pa pb w hm h0 h1 h2 h3 ha hb
      | false => exact meld_false mo x1 x2 y1 y2 ks ls hs hv c m pa pb w hm h0 h1 h2 h3 ha hb

end Go.Proofs.YtpclafbolppgcaaDoor
