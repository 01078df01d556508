/-
  Contract of a skew binomial heap's with: things put in one by one: which heap, how many comparisons and trees the meter counts, that what was there stays but for the meter's block. Conditions: fewer than 2 to the 27th elements, counts below 2 to the 58th, a row that lies in another block than the meter.
-/
import Derived.Test.YtlmokendajgbdaaGreatDoorV6
import Derived.Test.YtlmokendajgbdaaGreatDoorMb
import Derived.Deep.LoopGhost
namespace Go.Proofs.YtlmokendajgbdaaGreatDoor.Hp
open Go.Sort Go.RowKit Go.Proofs.YtlmokendajgbdaaGreatDoor.Gn

theorem alloc_old {w : World} {k : Nat} (o : Obj) (h : k < w.heap.size) : (w.alloc o).heap[k]? = w.heap[k]? := ((Below.refl w.heap.size w).alloc (Nat.le_refl _) o).block k h
theorem heap_other {W : World} {b k : Nat} (j : Nat) (v : Value) (h : k ≠ b) : (W.setCell ⟨b, j, none⟩ v).heap[k]? = W.heap[k]? := Below.heap_setCell W ⟨b, j, none⟩ v k h
theorem cell_old {w : World} {q : Addr} {v : Value} (h : w.cell? q = some v) (o : Obj) : (w.alloc o).cell? q = some v := (((Below.refl w.heap.size w).alloc (Nat.le_refl _) o).cell (block_lt_of_cell h)).trans h
/-- A variable of one cell. -/
structure Vr (W : World) (b : Nat) (t : TypeId) (v : Value) : Prop where
  blk : W.heap[b]? = some (.cells #[v] t (0, 0))
section
variable {W W' : World} {b : Nat} {t : TypeId} {v : Value} {mo : Option Nat} {c m : Int}
theorem Vr.new (w : World) (t : TypeId) (v : Value) : Vr (w.alloc (.cells #[v] t)) w.heap.size t v := ⟨new_at rfl⟩
theorem Vr.stay (h : Vr W b t v) (hb : Below W.heap.size W W') : Vr W' b t v := ⟨(hb.block b (lt_of_heap h.blk)).trans h.blk⟩
theorem Vr.alloc (h : Vr W b t v) (o : Obj) : Vr (W.alloc o) b t v := h.stay ((Below.refl _ _).alloc (Nat.le_refl _) o)
theorem Vr.bt (h : Vr W b t v) (hb : Bt mo W W') (hm : MAt W mo c m) (ht : t ≠ 78) : Vr W' b t v := ⟨hb.row hm h.blk ht⟩
theorem Vr.c0 (h : Vr W b t v) : W.cell? ⟨b, 0, none⟩ = some v := box1_cell h.blk
theorem Vr.z0 (h : Vr W b t v) : W.frozen? ⟨b, 0, none⟩ = false := box1_free h.blk
theorem Vr.set (h : Vr W b t v) (u : Value) : Vr (W.setCell ⟨b, 0, none⟩ u) b t u := ⟨heap_put (j := 0) h.blk _⟩
theorem hvT_ne : ¬ NodeT 27 := by unfold NodeT TreeT; decide
/-- The keys of what stands beside a root. -/
theorem BAt.keys : ∀ {xs : List Thing} {p : Option Addr}, BAt W xs p → ∀ x ∈ xs, KeyC W x
  | [], _, _, _, h => by cases h
  | y :: ys, _, ⟨_, _, _, _, hy, hr⟩, x, h => by
    rcases List.mem_cons.1 h with rfl | h
    · exact hy
    · exact BAt.keys hr x h
theorem beside_keys {p : Option Addr} {t : Tre} (h : TAt W p (some t)) : ∀ x ∈ t.bs, KeyC W x := by
  obtain ⟨b, rfl, bp, kp, -, -, hb, -⟩ := h
  exact BAt.keys hb
end
/-- A heap with a row put in. -/
abbrev puts (h : Lh) (xs : List Thing) : Lh := xs.foldl Lh.insert h
theorem puts_size : ∀ (xs : List Thing) (h : Lh), (puts h xs).size = h.size + xs.length
  | [], _ => rfl
  | x :: r, h => by
    show (puts (h.insert x) r).size = _
    rw [puts_size r (h.insert x), insert_size, List.length_cons]; omega
theorem putC_take (h : Lh) (xs : List Thing) (k : Nat) (hk : k < xs.length) : putC h (xs.take (k + 1)) = putC h (xs.take k) + (puts h (xs.take k)).insC ∧ putM h (xs.take (k + 1)) = putM h (xs.take k) + (puts h (xs.take k)).insM := by
  rw [List.take_succ_eq_append_getElem hk]
  exact ⟨putC_snoc _ _ _, putM_snoc _ _ _⟩
theorem puts_take (h : Lh) (xs : List Thing) (k : Nat) (hk : k < xs.length) : puts h (xs.take (k + 1)) = (puts h (xs.take k)).insert xs[k] := by
  rw [List.take_succ_eq_append_getElem hk, puts, List.foldl_append]; rfl

set_option maxRecDepth 100000 in
set_option maxHeartbeats 4000000 in
theorem with_any (mo : Option Nat) (c m : Int) (h : Lh) (p0 : HP) (A : Option Addr) (xs : List Thing) (cap : Nat) (w : World) (hm : MAt w mo c m) (h0 : 0 ≤ c) (h1 : c < 288230376151711744) (h2 : 0 ≤ m) (h3 : m < 288230376151711744) (hr : Row1 one0 w A xs) (hkx : ∀ x ∈ xs, KeyC w x) (hn : h.size + xs.length < 134217728)
    (hne : 0 < xs.length → ∀ b, mo = some b → ∀ q, A = some q → q.block ≠ b) (hh : LAt w h p0) :
    Calls Tryz.prog 76 #[hp p0, mAddr mo, .slice A xs.length cap] w (Gave mo (c + putC h xs) (m + putM h xs) (puts h xs) w) := by
  have HF := Lib.hid (F2.new w p0)
  have KK := Lib.hid ((Trk.refl (N := NodeT) hm).stay (new2_below w (.cells #[.pointer p0.q, .int .i64 p0.n] 85) (.cells #[.pointer none, .int .i64 0] 85)))
  have HL := Lib.hid (hh.stay (new2_below w (.cells #[.pointer p0.q, .int .i64 p0.n] 85) (.cells #[.pointer none, .int .i64 0] 85)))
  have HR := Lib.hid (And.intro hr hne)
  have HKX := Lib.hid hkx
  have HN := Lib.hid (And.intro h0 (And.intro h1 (And.intro h2 h3)))
  obtain ⟨n, hnn⟩ : ∃ n, n = xs.length := ⟨_, rfl⟩
  rw [← hnn] at hn ⊢
  have HX := Lib.hid (And.intro hnn hn)
  clear hr hne hkx h0 h1 h2 h3 hm hnn hn hh
  go_enter Tryz.func76, Tryz.ntmps76
  go_wp2_with fail
  generalize (w.alloc (.cells #[.pointer p0.q, .int .i64 p0.n] 85)).alloc (.cells #[.pointer none, .int .i64 0] 85) = w1 at *
  obtain ⟨a, ha⟩ : ∃ a, a = w.heap.size := ⟨_, rfl⟩
  rw [← ha] at HF ⊢
  have HA := Lib.hid ha
  clear ha
  go_loopg [11] n (fun k i wr => ∃ (j : Nat) (p : HP), i = .int .i64 (j : Int) ∧ j + k = n ∧ Box2 wr a 85 (.pointer p.q) (.int .i64 p.n) ∧ Box2 wr (a + 1) 85 (.pointer none) (.int .i64 0) ∧ LAt wr (puts h (xs.take j)) p ∧ Trk NodeT mo w (c + putC h (xs.take j)) (m + putM h (xs.take j)) wr)
  case atStart => exact ⟨0, p0, rfl, by omega, HF.out.h, HF.out.r, HL.out, by simpa [putC, putM] using KK.out⟩
  case round =>
    obtain ⟨j, p, rfl, hj, hra, hrb, ht, hk⟩ := hrel
    by_cases hlt : j < n
    · have hjx : j < xs.length := by rw [← HX.out.1]; exact hlt
      obtain ⟨b, o, rfl, hc⟩ := HR.out.1 (by omega)
      have hx := hc j hjx
      have hne := fun bb (eb : mo = some bb) => HR.out.2 (by omega) bb eb _ rfl
      have x0 : wr.cell? ⟨b, o + j, none⟩ = some (.pointer (some ⟨xs[j].a, 0, none⟩)) := hk.bt.cell hx hne
      have hkj : KeyC wr xs[j] := (HKX.out _ (List.getElem_mem hjx)).kp (Kp.tree hk.kp)
      have hpl := put_le (xs.take j) h
      have htl : (xs.take j).length = j := by rw [List.length_take]; omega
      rw [htl] at hpl
      have hsz : (puts h (xs.take j)).size = h.size + j := by rw [puts_size, htl]
      have eP := putC_take h xs j hjx
      have eO := puts_take h xs j hjx
      generalize xs[j] = x at *
      have HKJ := Lib.hid hkj
      have q1 : (j : Int) < (n : Int) := by omega
      have q2 : (0 : Int) ≤ (j : Int) := by omega
      have h1c := hra.c0
      have h1d := hra.c1
      have X := Lib.hid (And.intro hra (And.intro hrb (And.intro ht (And.intro hk (And.intro eP (And.intro eO (And.intro hpl (And.intro hsz hj))))))))
      clear hra hrb ht hk eP eO hpl htl hsz hj hc hx hne hjx hkj
      go_wp2_with fail
      clear h1c h1d x0
      ((with_reducible refine (insert_any mo _ _ (puts h (xs.take j)) x p _ HKJ.out (by rw [X.out.2.2.2.2.2.2.2.1]; have := HX.out; omega) X.out.2.2.2.1.mt (by have := HN.out; omega) (by have := HN.out; have := X.out.2.2.2.2.2.2.1; have := HX.out; omega) (by have := HN.out; omega) (by have := HN.out; have := X.out.2.2.2.2.2.2.1; have := HX.out; omega) X.out.2.2.1).mono ?_); rintro e w2 ⟨p2, rfl, ht2, hm2, hb2⟩)
      obtain ⟨hra, hrb, ht, hk, eP, eO, hpl, hsz, hj⟩ := X.out
      have hk2 := hk.turn hm2 hb2 node_ne
      have ra2 := hra.bt hb2 hk.mt (by decide)
      have rb2 := hrb.bt hb2 hk.mt (by decide)
      have e1 : c + ((putC h (xs.take (j + 1)) : Nat) : Int) = c + (putC h (xs.take j) : Nat) + ((puts h (xs.take j)).insC : Nat) := by rw [eP.1]; omega
      have e2 : m + ((putM h (xs.take (j + 1)) : Nat) : Int) = m + (putM h (xs.take j) : Nat) + ((puts h (xs.take j)).insM : Nat) := by rw [eP.2]; omega
      rw [← e1, ← e2] at hk2
      rw [← eO] at ht2
      have z2 := ra2.z0
      have z3 := ra2.z1
      have r2 := ra2.c0
      have r3 := ra2.c1
      have Y := Lib.hid (And.intro (ra2.set (.pointer p2.q) (.int .i64 p2.n)) (And.intro (rb2.aside (g := a) (by omega) (.pointer p2.q) (.int .i64 p2.n)) (And.intro (ht2.set2 ra2 heapT_ne (.pointer p2.q) (.int .i64 p2.n)) (hk2.put2 ra2 heapT_ne (by decide) (by rw [← HA.out]; omega) (.pointer p2.q) (.int .i64 p2.n)))))
      clear hra hrb ht hk eP eO hpl hsz hk2 ra2 rb2 e1 e2 ht2 hm2 hb2 X
      go_wp2_with fail
      go_roundg (n - 1 - j)
      case measure => omega
      case rel => exact ⟨j + 1, p2, by have h5 := HX.out; congr 1; unfold wrap64; omega, by omega, Y.out.1, Y.out.2.1, Y.out.2.2.1, Y.out.2.2.2⟩
    · have hjn : j = n := by omega
      subst hjn
      rw [HX.out.1, List.take_length] at ht hk
      have h1c := hra.c0
      have h1d := hra.c1
      have r6 := hrb.c0
      have r7 := hrb.c1
      have z6 := hrb.z0
      have z7 := hrb.z1
      have s0 := (hrb.set (.pointer p.q) (.int .i64 p.n)).c0
      have s1 := (hrb.set (.pointer p.q) (.int .i64 p.n)).c1
      have hk2 := hk.put2 hrb heapT_ne (by decide) (by rw [← HA.out]; omega) (.pointer p.q) (.int .i64 p.n)
      have X := Lib.hid (And.intro (ht.set2 hrb heapT_ne (.pointer p.q) (.int .i64 p.n)) hk2)
      clear hra hrb ht hk hk2 hlt hj
      go_wp2_with fail
      exact bodyPost_ret (v := hp p) (by simp [results, Tryz.results76, go_sem, s0, s1]) rfl ⟨p, rfl, X.out.1, X.out.2.mt, X.out.2.bt⟩

end Go.Proofs.YtlmokendajgbdaaGreatDoor.Hp
