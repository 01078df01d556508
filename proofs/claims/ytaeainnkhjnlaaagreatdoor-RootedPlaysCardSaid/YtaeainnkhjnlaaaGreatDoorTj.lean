/-
  Contract of the reference's Skew (slagheapref05). A struct of two cells loaded from, and stored to, a block whole. Condition: trees of fewer than 2 to the 28th things. Contract of the reference's Skew (slagheapref05). Condition: trees of fewer than 2 to the 27th things.
-/
import Derived.Test.YtaeainnkhjnlaaaGreatDoorTd
namespace Go.Proofs.YtaeainnkhjnlaaaGreatDoor
open Go.Sort Go.RowKit

theorem infoE2 : (Tryz.prog.info? 32).map (·.size) = some 2 := by kernel_rfl
theorem undE : ∃ d, Tryz.prog.underlying 32 = some d ∧ d.isRow = true := ⟨_, Tryz.underlying32, rfl⟩
theorem wpList_load_pair {ops : Array Oper} {rest : List Oper} {op : Oper} {a : Act} {w : World} {Q : Exit → Act → World → Prop} (hgd : op.guard = none) (x : Operand) (ho : op.op = .load 32 x)
    (b : Nat) (hx : a.eval x = .pointer (some ⟨b, 0, none⟩)) {p q : Int} (H : PairAt w b p q)
    (h : wpList Tryz.prog ops Q rest (a.put op.dst (el (p, q))) w) : wpList Tryz.prog ops Q (op :: rest) a w := by
  obtain ⟨d, h1, h2⟩ := undE
  refine wpList_load_mid hgd _ x ho b 0 hx [.int .i64 p, .int .i64 q] d (fun j v hj => ?_) h1 h2 infoE2 h
  rw [Nat.zero_add]
  match j, hj with
  | 0, hj => cases hj; exact H.1
  | 1, hj => cases hj; exact H.2.1
  | j + 2, hj => simp at hj
theorem wpList_store_pair {ops : Array Oper} {rest : List Oper} {op : Oper} {a : Act} {w : World} {Q : Exit → Act → World → Prop} (hgd : op.guard = none) (x y : Operand) (ho : op.op = .store 32 x y)
    (b : Nat) (hx : a.eval x = .pointer (some ⟨b, 0, none⟩)) {p q p' q' : Int} (hy : a.eval y = el (p', q')) (H : PairAt w b p q)
    (h : ∀ w', PairAt w' b p' q' → (∀ k, k ≠ b → w'.heap[k]? = w.heap[k]?) → (∀ B W, Below B W w → B ≤ b → Below B W w') → w'.heap.size = w.heap.size → wpList Tryz.prog ops Q rest (a.put op.dst undef) w') : wpList Tryz.prog ops Q (op :: rest) a w := by
  have ht : w.there b 0 2 := fun j hj => by
    rw [Nat.zero_add]
    match j, hj with
    | 0, _ => exact ⟨by rw [H.1]; rfl, H.2.2.1⟩
    | 1, _ => exact ⟨by rw [H.2.1]; rfl, H.2.2.2.1⟩
    | j + 2, hj => omega
  refine wpList_store_mid hgd _ x y ho b 0 _ hx hy ht infoE2 (all_oneCell_toArray (cs := [.int .i64 p', .int .i64 q']) (by intro v hv; simp only [List.mem_cons, List.not_mem_nil, or_false] at hv; rcases hv with rfl | rfl <;> rfl)) ?_
  refine h _ (H.set p' q') (fun k hk => ?_) (fun B W hb hB => ?_) ?_
  · show ((w.setCell ⟨b, 0, none⟩ (.int .i64 p')).setCell ⟨b, 1, none⟩ (.int .i64 q')).heap[k]? = w.heap[k]?
    rw [Below.heap_setCell _ _ _ _ hk, Below.heap_setCell _ _ _ _ hk]
  · exact (hb.setCell (p := ⟨b, 0, none⟩) hB (.int .i64 p')).setCell (p := ⟨b, 1, none⟩) hB (.int .i64 q')
  · show ((w.setCell ⟨b, 0, none⟩ (.int .i64 p')).setCell ⟨b, 1, none⟩ (.int .i64 q')).heap.size = w.heap.size
    simp
theorem PairAt.keep {w w' : World} {b : Nat} {x y : Int} (h : PairAt w b x y) (e : w'.heap[b]? = w.heap[b]?) : PairAt w' b x y := by
  have f : ∀ o, w'.frozen? ⟨b, o, none⟩ = w.frozen? ⟨b, o, none⟩ := fun o => by simp [World.frozen?, e]
  obtain ⟨h1, h2, h3, h4, h5⟩ := h
  exact ⟨(World.cell?_of_block e).trans h1, (World.cell?_of_block e).trans h2, (f 0).trans h3, (f 1).trans h4, block_lt_of_cell ((World.cell?_of_block e).trans h1)⟩

theorem cAt_of_own {F : Nat → Prop} {w : World} {base : Nat} {v : Value} {xs : List (Int × Int)} (h : Own w base v xs) (hF : ∀ k, base ≤ k → F k) : ∃ A c, v = .slice A xs.length c ∧ CAt F w A (cellsE xs) ∧ (A = none → c = 0) := by
  have h0 := h
  rcases h.2 with ⟨rfl, hn⟩ | ⟨g, cap, cur, rfl, hb, hg, hc, hm, _⟩
  · obtain rfl : xs = [] := List.eq_nil_of_length_eq_zero hn
    exact ⟨none, 0, rfl, CAt.nil _ _ _, fun _ => rfl⟩
  · refine ⟨_, cap, rfl, fun _ => ⟨g, 0, rfl, hF g hb, fun j u hu => ?_⟩, fun e => by cases e⟩
    have := h0.cells (g := g) rfl j u hu
    rwa [add_plain] at this

/-- A thing of one's own, and what stood beside. -/
theorem append_beside (F : Nat → Prop) (w : World) (hF : ∀ b, w.heap.size ≤ b → F b) (y : Int × Int) (bs : List (Int × Int)) (A : Option Addr) (c : Nat) (hc : CAt F w A (cellsE bs)) (hA : A = none → c = 0) (hn : bs.length < 1000000000) :
    ∃ A' c' w', (Builtin.append_ #[39, 39] 39 #[.slice (some ⟨w.heap.size, 0, none⟩) 1 1, .slice A bs.length c]).run Tryz.prog (w.alloc (.cells #[.int .i64 y.1, .int .i64 y.2] 32)) = .ok (.slice A' (bs.length + 1) c') w' ∧
      CAt F w' A' (cellsE (y :: bs)) ∧ (A' = none → c' = 0) ∧ Below w.heap.size w w' := by
  have hb := (Below.refl w.heap.size w).alloc (Nat.le_refl _) (.cells #[.int .i64 y.1, .int .i64 y.2] 32)
  have hown : Own (w.alloc (.cells #[.int .i64 y.1, .int .i64 y.2] 32)) w.heap.size (.slice (some ⟨w.heap.size, 0, none⟩) 1 1) [y] :=
    ⟨rfl, .inr ⟨w.heap.size, 1, #[.int .i64 y.1, .int .i64 y.2], rfl, Nat.le_refl _, World.alloc_heap_new w _, Nat.le_refl _, by unfold maxLen; omega, rfl, rfl⟩⟩
  obtain ⟨v', w', h1, h2, h3⟩ := append_row _ w.heap.size _ [y] bs A c hown ((hc.far (Far.below hb)).row) hA (by simp; omega) hb.size
  obtain ⟨A', c', rfl, h4, h5⟩ := cAt_of_own h2 hF
  rw [show ([y] ++ bs).length = bs.length + 1 by simp] at h1
  exact ⟨A', c', w', h1, h4, h5, below_grown hb h3 hb.size (fun g e => by simp [Value.ownBlock] at e; omega)⟩

/-- The tree with a thing more, where the call's own block alone has been stored to since. -/
theorem skew_fin {F : Nat → Prop} {w1 w4 W' : World} {R : Nat} (b4 : Below w1.heap.size w1 w4) (hk : ∀ k, k ≠ R → W'.heap[k]? = w4.heap[k]?) {ks : Wood} {Ak A4 : Option Addr} {ck c4 : Nat} {kc : List Value} {root : Int × Int} {bs : List (Int × Int)}
    (h2 : KL (fun k => F k ∧ k ≠ R) w1 ks kc ∧ CAt (fun k => F k ∧ k ≠ R) w1 Ak kc ∧ (Ak = none → ck = 0)) (hC : CAt (fun k => F k ∧ k ≠ R) w4 A4 (cellsE bs)) (hn : A4 = none → c4 = 0) {s : Int} (hs : s = (Tre.mk root bs ks).size) :
    RT F W' (tV ks.len root (.slice A4 bs.length c4) (.slice Ak ks.len ck) s) (some ⟨root, bs, ks⟩) := by
  have f1 : Far (fun k => F k ∧ k ≠ R) (fun k => F k ∧ k ≠ R) w1 w4 := Far.below b4
  have f2 : Far (fun k => F k ∧ k ≠ R) F w4 W' := ⟨fun k _ h => hk k h.2, fun k _ h => h.1⟩
  exact ⟨A4, Ak, c4, ck, kc, by rw [hs], ⟨hC.far f2, hn⟩, (h2.1.far f1).far f2, (h2.2.1.far f1).far f2, h2.2.2⟩

theorem four_at (w : World) (oA oB oR oW : Obj) : let W := (((w.alloc oA).alloc oB).alloc oR).alloc oW
    W.heap[w.heap.size]? = some oA ∧ W.heap[w.heap.size + 1]? = some oB ∧ W.heap[w.heap.size + 1 + 1]? = some oR ∧ W.heap[w.heap.size + 1 + 1 + 1]? = some oW ∧ W.heap.size = w.heap.size + 4 ∧ Below w.heap.size w W := by
  refine ⟨alloc_old (alloc_old (alloc_old (new_at rfl) _) _) _, alloc_old (alloc_old (new_at (by simp)) _) _, alloc_old (new_at (by simp)) _, new_at (by simp), by simp, ?_⟩
  exact ((((Below.refl w.heap.size w).alloc (Nat.le_refl _) oA).alloc (by simp) oB).alloc (by simp; omega) oR).alloc (by simp; omega) oW
theorem pair_at {W : World} {b : Nat} {x y : Int} {t : TypeId} (h : W.heap[b]? = some (.cells #[.int .i64 x, .int .i64 y] t (0, 0))) : PairAt W b x y :=
  ⟨by simp [World.cell?, h], by simp [World.cell?, h], by simp [World.frozen?, h], by simp [World.frozen?, h], lt_of_heap h⟩


theorem RT.none0 (F : Nat → Prop) (W : World) : RT F W (tV 0 (0, 0) (.slice none 0 0) (.slice none 0 0) 0) none := by unfold RT; rfl
theorem three_at (w : World) (oA oB oR : Obj) : let W := ((w.alloc oA).alloc oB).alloc oR
    W.heap[w.heap.size]? = some oA ∧ W.heap[w.heap.size + 1]? = some oB ∧ W.heap[w.heap.size + 1 + 1]? = some oR ∧ W.heap.size = w.heap.size + 3 ∧ Below w.heap.size w W := by
  refine ⟨alloc_old (alloc_old (new_at rfl) _) _, alloc_old (new_at (by simp)) _, new_at (by simp), by simp, ?_⟩
  exact (((Below.refl w.heap.size w).alloc (Nat.le_refl _) oA).alloc (by simp) oB).alloc (by simp; omega) oR

set_option maxRecDepth 100000 in
set_option maxHeartbeats 4000000 in
/-- The linked tree's thing is less. -/
theorem refSkew_lt (F : Nat → Prop) (y1 y2 : Int) (va vb : Value) (ta tb : Option Tre) (t : Tre) (w : World) (hF : ∀ b, w.heap.size ≤ b → F b) (ha : RT F w va ta) (hb : RT F w vb tb) (ka : osize ta < 134217728) (kb : osize tb < 134217728) (ht : olnk ta tb = some t) (hl' : ltE t.x (y1, y2) = true) :
    Calls Tryz.prog 50 #[el (y1, y2), va, vb] w (GaveRN F (some (skw (y1, y2) t)) (2 * lnkN ta tb + 2) w) := by
  have hsz : t.size < 268435456 := by have := olnk_size ta tb; rw [ht] at this; have h2 : t.size = osize ta + osize tb := this; omega
  have hN : lnkN ta tb ≤ 1 := by cases ta <;> cases tb <;> simp [lnkN]
  have H := Lib.hid (And.intro hF (And.intro ha (And.intro hb (And.intro ka (And.intro kb (And.intro ht hsz))))))
  obtain ⟨ar, ⟨a1, a2⟩, aB, aK, an, ac, an', ac', rfl⟩ := ha.size
  obtain ⟨br, ⟨b1, b2⟩, bB, bK, bn, bc, bn', bc', rfl⟩ := hb.size
  clear hF ha hb ka kb ht hsz
  unfold tV at H ⊢
  obtain ⟨nk, hnk⟩ : ∃ k, k = 2 * lnkN ta tb := ⟨_, rfl⟩
  rw [← hnk]
  have HK := Lib.hid (And.intro hnk (show nk ≤ 2 by omega))
  clear hnk hN
  obtain ⟨sa, hsa⟩ : ∃ x, x = osize ta := ⟨_, rfl⟩
  obtain ⟨sb, hsb⟩ : ∃ x, x = osize tb := ⟨_, rfl⟩
  rw [← hsa, ← hsb] at H ⊢
  have HS := Lib.hid (And.intro hsa hsb)
  clear hsa hsb
  go_enter Tryz.func50, Tryz.ntmps50
  go_wp2_with fail
  have h4 := four_at w (.cells #[.int .i64 y1, .int .i64 y2] 32) (.cells #[.int .i64 ar, .int .i64 a1, .int .i64 a2, .slice aB an ac, .slice aK an' ac', .int .i64 (sa : Nat)] 104) (.cells #[.int .i64 br, .int .i64 b1, .int .i64 b2, .slice bB bn bc, .slice bK bn' bc', .int .i64 (sb : Nat)] 104)
    (.cells #[.int .i64 0, .int .i64 0, .int .i64 0, .slice none 0 0, .slice none 0 0, .int .i64 0] 104)
  generalize (((w.alloc (.cells #[.int .i64 y1, .int .i64 y2] 32)).alloc _).alloc _).alloc _ = W4 at *
  obtain ⟨e1, e2, e3, e4, e5, e6⟩ := h4
  have hfar : Far F (fun k => F k ∧ k ≠ w.heap.size + 1 + 1 + 1) w W4 := ⟨fun k hk _ => e6.block k hk, fun k hk h => ⟨h, by omega⟩⟩
  ((with_reducible refine (refLink_any (fun k => F k ∧ k ≠ w.heap.size + 1 + 1 + 1) _ _ ta tb W4 (fun k hk => ⟨H.out.1 k (by omega), by omega⟩) (H.out.2.1.far hfar) (H.out.2.2.1.far hfar) (by have := H.out.2.2.2.1; have := HS.out; omega) (by have := H.out.2.2.2.2.1; have := HS.out; omega)).mono ?_); rintro e w1 ⟨V, rfl, hV, hb1⟩)
  rw [← HK.out.1]
  rw [H.out.2.2.2.2.2.1] at hV
  obtain ⟨Ab, Ak, cb, ck, kc, rfl, hV1, hV2⟩ := hV
  obtain ⟨⟨x1, x2⟩, hx⟩ : ∃ y, t.x = y := ⟨_, rfl⟩
  rw [hx] at hl' ⊢
  have P3 := pair_at ((hb1.block _ (lt_of_heap e1)).trans e1)
  have X6 := hex_at ((hb1.block _ (lt_of_heap e4)).trans e4)
  have B1 := Lib.hid (And.intro hV1 (And.intro hV2 (And.intro (e6.trans (hb1.mono e6.size)) (And.intro (show w.heap.size + 4 ≤ w1.heap.size by have := hb1.size; omega) hx))))
  clear e1 e2 e3 e4 e5 e6 hfar hV1 hV2 hb1 hx
  have p0 := P3.c0
  have p1 := P3.c1
  have p0' := fun o => cell_old p0 o
  have p1' := fun o => cell_old p1 o
  have p0'' := fun o o' => cell_old (p0' o) o'
  have p1'' := fun o o' => cell_old (p1' o) o'
  have q0 := fun o o' o2 => cell_old (p0'' o o') o2
  have q1 := fun o o' o2 => cell_old (p1'' o o') o2
  have h0 := t.size_ne
  unfold tV
  go_wp2_with fail
  have h3 := three_at w1 (.cells #[.int .i64 t.ks.len, .int .i64 x1, .int .i64 x2, .slice Ab t.bs.length cb, .slice Ak t.ks.len ck, .int .i64 (t.size : Nat)] 104) (.cells #[.int .i64 y1, .int .i64 y2] 32) (.cells #[.int .i64 x1, .int .i64 x2] 32)
  ((with_reducible refine (refLessE (x1, x2) (y1, y2) _).mono ?_); rintro e w2 ⟨rfl, hb2⟩)
  generalize ((w1.alloc (.cells #[.int .i64 t.ks.len, .int .i64 x1, .int .i64 x2, .slice Ab t.bs.length cb, .slice Ak t.ks.len ck, .int .i64 (t.size : Nat)] 104)).alloc _).alloc _ = W3 at *
  obtain ⟨e1, e2, e3, e4, e5⟩ := h3
  have b12 : Below w1.heap.size w1 w2 := e5.trans (hb2.mono e5.size)
  replace P3 := P3.below b12 P3.lt
  replace X6 := X6.keep (b12.block _ (block_lt_of_cell X6.c0))
  have X8 := hex_at ((hb2.block _ (lt_of_heap e1)).trans e1)
  have P10 := pair_at ((hb2.block _ (lt_of_heap e2)).trans e2)
  have P11 := pair_at ((hb2.block _ (lt_of_heap e3)).trans e3)
  have B2 := Lib.hid (And.intro b12 (show w1.heap.size + 3 ≤ w2.heap.size by have := hb2.size; omega))
  clear e1 e2 e3 e4 e5 b12 hb2 p0 p1 p0' p1' p0'' p1'' q0 q1
  rw [hl']
  have HV := Lib.hid hl'
  clear hl'
  have n1 : IntKind.i64.wrap ((t.size : Int) + 1) = (t.size : Int) + 1 := by have := H.out.2.2.2.2.2.2; rw [IntKind.wrap_i64]; omega
  have n2 : IntKind.i64.wrap ((nk : Int) + 2) = (nk : Int) + 2 := by have := HK.out.2; rw [IntKind.wrap_i64]; omega
  have i1 := X8.c1
  have i2 := X8.c2
  go_wp2_with (first
    | (refine wpList_store_pair rfl _ _ rfl _ rfl rfl P10 ?_
       intro w5 Y10 hk5 hb5 hs5
       replace P3 := P3.keep (hk5 _ (by have := B1.out.2.2.2.1; omega))
       replace X6 := X6.keep (hk5 _ (by have := B1.out.2.2.2.1; omega))
       replace X8 := X8.keep (hk5 _ (by omega))
       replace P11 := P11.keep (hk5 _ (by omega))
       have B5 := Lib.hid (hb5 _ _ B2.out.1 (by omega))
       have p0 := P3.c0
       have p1 := P3.c1
       clear P10 hk5 hb5 hs5 i1 i2)
    | (refine wpList_store_pair rfl _ _ rfl _ rfl rfl P11 ?_
       intro w6 Y11 hk6 hb6 hs6
       replace X6 := X6.keep (hk6 _ (by have := B1.out.2.2.2.1; omega))
       replace X8 := X8.keep (hk6 _ (by omega))
       have P10 := Y10.keep (hk6 _ (by omega))
       have B6 := Lib.hid (hb6 _ _ B5.out (by omega))
       replace P11 := Y11
       clear Y11 Y10 hk6 hb6 hs6 p0 p1
       have hbo := B6.out
       have hN2 : ∀ k, w6.heap.size ≤ k → F k ∧ k ≠ w.heap.size + 1 + 1 + 1 := fun k hk => by have := hbo.size; have := B1.out.2.2.2.1; exact ⟨H.out.1 k (by omega), by omega⟩
       obtain ⟨A4, c4, w4, hrun, hC, hn, hb4⟩ := append_beside (fun k => F k ∧ k ≠ w.heap.size + 1 + 1 + 1) w6 hN2 (y1, y2) t.bs Ab cb (B1.out.1.1.far (Far.below hbo)) B1.out.1.2 (by have := H.out.2.2.2.2.2.2; simp only [Tre.size] at this; omega)
       have Q4 := Lib.hid (And.intro hC (And.intro hn (hbo.trans (hb4.mono hbo.size))))
       have Z6 := X6.keep (hb4.block _ (block_lt_of_cell X6.c0))
       have Z8 := X8.keep (hb4.block _ (block_lt_of_cell X8.c0))
       have Z10 := P10.below hb4 P10.lt
       have z0 := Z8.c0
       have z1 := Z10.c0
       have z2 := Z10.c1
       have z4 := Z8.c4
       have z5 := Z8.c5
       have y3 := X8.c3
       have y3' := fun o => cell_old y3 o
       have L11 := P11
       clear hbo hN2 hC hn hb4 X6 X8 P3 P10 P11)
    | (refine wpList_load_pair rfl _ rfl _ rfl L11 ?_)
    | (refine wpList_load_pair rfl _ rfl _ rfl Z10 ?_)
    | (refine wpList_load_pair rfl _ rfl _ rfl P3 ?_)
    | (at_builtin; refine wpList_append_run rfl _ _ _ rfl _ _ _ _ rfl rfl hrun ?_)
    | (refine wpList_store_hex rfl _ _ rfl _ rfl rfl Z6 ⟨rfl, rfl, rfl, rfl, rfl, rfl⟩ ?_
       intro w10 Z hk10 hb10 _))
  obtain ⟨r0, r1, r2, r3, r4, r5⟩ : w10.cell? _ = _ ∧ w10.cell? _ = _ ∧ w10.cell? _ = _ ∧ w10.cell? _ = _ ∧ w10.cell? _ = _ ∧ w10.cell? _ = _ := ⟨Z.c0, Z.c1, Z.c2, Z.c3, Z.c4, Z.c5⟩
  have b9 := B1.out.2.2.1.trans (Q4.out.2.2.mono B1.out.2.2.1.size)
  refine bodyPost_ret (v := .tuple #[tV t.ks.len (x1, x2) (.slice A4 (t.bs.length + 1) c4) (.slice Ak t.ks.len ck) ((t.size : Int) + 1), .int .i64 ((nk : Int) + 2)]) (by simp [results, Tryz.results50, go_sem, tV, r0, r1, r2, r3, r4, r5]) rfl ?_
  refine ⟨_, rfl, ?_, hb10 _ _ b9 (by omega)⟩
  rw [skw_lt (by rw [B1.out.2.2.2.2]; exact HV.out), B1.out.2.2.2.2]
  exact skew_fin (bs := (y1, y2) :: t.bs) Q4.out.2.2 hk10 B1.out.2.1 Q4.out.1 Q4.out.2.1 (by simp only [Tre.size, List.length_cons]; omega)

set_option maxRecDepth 100000 in
set_option maxHeartbeats 4000000 in
/-- The linked tree's thing is not less. -/
theorem refSkew_ge (F : Nat → Prop) (y1 y2 : Int) (va vb : Value) (ta tb : Option Tre) (t : Tre) (w : World) (hF : ∀ b, w.heap.size ≤ b → F b) (ha : RT F w va ta) (hb : RT F w vb tb) (ka : osize ta < 134217728) (kb : osize tb < 134217728) (ht : olnk ta tb = some t) (hl' : ltE t.x (y1, y2) = false) :
    Calls Tryz.prog 50 #[el (y1, y2), va, vb] w (GaveRN F (some (skw (y1, y2) t)) (2 * lnkN ta tb + 2) w) := by
  have hsz : t.size < 268435456 := by have := olnk_size ta tb; rw [ht] at this; have h2 : t.size = osize ta + osize tb := this; omega
  have hN : lnkN ta tb ≤ 1 := by cases ta <;> cases tb <;> simp [lnkN]
  have H := Lib.hid (And.intro hF (And.intro ha (And.intro hb (And.intro ka (And.intro kb (And.intro ht hsz))))))
  obtain ⟨ar, ⟨a1, a2⟩, aB, aK, an, ac, an', ac', rfl⟩ := ha.size
  obtain ⟨br, ⟨b1, b2⟩, bB, bK, bn, bc, bn', bc', rfl⟩ := hb.size
  clear hF ha hb ka kb ht hsz
  unfold tV at H ⊢
  obtain ⟨nk, hnk⟩ : ∃ k, k = 2 * lnkN ta tb := ⟨_, rfl⟩
  rw [← hnk]
  have HK := Lib.hid (And.intro hnk (show nk ≤ 2 by omega))
  clear hnk hN
  obtain ⟨sa, hsa⟩ : ∃ x, x = osize ta := ⟨_, rfl⟩
  obtain ⟨sb, hsb⟩ : ∃ x, x = osize tb := ⟨_, rfl⟩
  rw [← hsa, ← hsb] at H ⊢
  have HS := Lib.hid (And.intro hsa hsb)
  clear hsa hsb
  go_enter Tryz.func50, Tryz.ntmps50
  go_wp2_with fail
  have h4 := four_at w (.cells #[.int .i64 y1, .int .i64 y2] 32) (.cells #[.int .i64 ar, .int .i64 a1, .int .i64 a2, .slice aB an ac, .slice aK an' ac', .int .i64 (sa : Nat)] 104) (.cells #[.int .i64 br, .int .i64 b1, .int .i64 b2, .slice bB bn bc, .slice bK bn' bc', .int .i64 (sb : Nat)] 104)
    (.cells #[.int .i64 0, .int .i64 0, .int .i64 0, .slice none 0 0, .slice none 0 0, .int .i64 0] 104)
  generalize (((w.alloc (.cells #[.int .i64 y1, .int .i64 y2] 32)).alloc _).alloc _).alloc _ = W4 at *
  obtain ⟨e1, e2, e3, e4, e5, e6⟩ := h4
  have hfar : Far F (fun k => F k ∧ k ≠ w.heap.size + 1 + 1 + 1) w W4 := ⟨fun k hk _ => e6.block k hk, fun k hk h => ⟨h, by omega⟩⟩
  ((with_reducible refine (refLink_any (fun k => F k ∧ k ≠ w.heap.size + 1 + 1 + 1) _ _ ta tb W4 (fun k hk => ⟨H.out.1 k (by omega), by omega⟩) (H.out.2.1.far hfar) (H.out.2.2.1.far hfar) (by have := H.out.2.2.2.1; have := HS.out; omega) (by have := H.out.2.2.2.2.1; have := HS.out; omega)).mono ?_); rintro e w1 ⟨V, rfl, hV, hb1⟩)
  rw [← HK.out.1]
  rw [H.out.2.2.2.2.2.1] at hV
  obtain ⟨Ab, Ak, cb, ck, kc, rfl, hV1, hV2⟩ := hV
  obtain ⟨⟨x1, x2⟩, hx⟩ : ∃ y, t.x = y := ⟨_, rfl⟩
  rw [hx] at hl' ⊢
  have P3 := pair_at ((hb1.block _ (lt_of_heap e1)).trans e1)
  have X6 := hex_at ((hb1.block _ (lt_of_heap e4)).trans e4)
  have B1 := Lib.hid (And.intro hV1 (And.intro hV2 (And.intro (e6.trans (hb1.mono e6.size)) (And.intro (show w.heap.size + 4 ≤ w1.heap.size by have := hb1.size; omega) hx))))
  clear e1 e2 e3 e4 e5 e6 hfar hV1 hV2 hb1 hx
  have p0 := P3.c0
  have p1 := P3.c1
  have p0' := fun o => cell_old p0 o
  have p1' := fun o => cell_old p1 o
  have p0'' := fun o o' => cell_old (p0' o) o'
  have p1'' := fun o o' => cell_old (p1' o) o'
  have q0 := fun o o' o2 => cell_old (p0'' o o') o2
  have q1 := fun o o' o2 => cell_old (p1'' o o') o2
  have h0 := t.size_ne
  unfold tV
  go_wp2_with fail
  have h3 := three_at w1 (.cells #[.int .i64 t.ks.len, .int .i64 x1, .int .i64 x2, .slice Ab t.bs.length cb, .slice Ak t.ks.len ck, .int .i64 (t.size : Nat)] 104) (.cells #[.int .i64 y1, .int .i64 y2] 32) (.cells #[.int .i64 x1, .int .i64 x2] 32)
  ((with_reducible refine (refLessE (x1, x2) (y1, y2) _).mono ?_); rintro e w2 ⟨rfl, hb2⟩)
  generalize ((w1.alloc (.cells #[.int .i64 t.ks.len, .int .i64 x1, .int .i64 x2, .slice Ab t.bs.length cb, .slice Ak t.ks.len ck, .int .i64 (t.size : Nat)] 104)).alloc _).alloc _ = W3 at *
  obtain ⟨e1, e2, e3, e4, e5⟩ := h3
  have b12 : Below w1.heap.size w1 w2 := e5.trans (hb2.mono e5.size)
  replace P3 := P3.below b12 P3.lt
  replace X6 := X6.keep (b12.block _ (block_lt_of_cell X6.c0))
  have X8 := hex_at ((hb2.block _ (lt_of_heap e1)).trans e1)
  have P10 := pair_at ((hb2.block _ (lt_of_heap e2)).trans e2)
  have P11 := pair_at ((hb2.block _ (lt_of_heap e3)).trans e3)
  have B2 := Lib.hid (And.intro b12 (show w1.heap.size + 3 ≤ w2.heap.size by have := hb2.size; omega))
  clear e1 e2 e3 e4 e5 b12 hb2 p0 p1 p0' p1' p0'' p1'' q0 q1
  rw [hl']
  have HV := Lib.hid hl'
  clear hl'
  have n1 : IntKind.i64.wrap ((t.size : Int) + 1) = (t.size : Int) + 1 := by have := H.out.2.2.2.2.2.2; rw [IntKind.wrap_i64]; omega
  have n2 : IntKind.i64.wrap ((nk : Int) + 2) = (nk : Int) + 2 := by have := HK.out.2; rw [IntKind.wrap_i64]; omega
  have hbo := B2.out.1
  have hN2 : ∀ k, w2.heap.size ≤ k → F k ∧ k ≠ w.heap.size + 1 + 1 + 1 := fun k hk => by have := hbo.size; have := B1.out.2.2.2.1; exact ⟨H.out.1 k (by omega), by omega⟩
  obtain ⟨A4, c4, w4, hrun, hC, hn, hb4⟩ := append_beside (fun k => F k ∧ k ≠ w.heap.size + 1 + 1 + 1) w2 hN2 (x1, x2) t.bs Ab cb (B1.out.1.1.far (Far.below hbo)) B1.out.1.2 (by have := H.out.2.2.2.2.2.2; simp only [Tre.size] at this; omega)
  have Q4 := Lib.hid (And.intro hC (And.intro hn (hbo.trans (hb4.mono hbo.size))))
  have Z6 := X6.keep (hb4.block _ (block_lt_of_cell X6.c0))
  have Z8 := X8.keep (hb4.block _ (block_lt_of_cell X8.c0))
  have Z10 := P10.below hb4 P10.lt
  have z0 := Z8.c0
  have z1 := Z10.c0
  have z2 := Z10.c1
  have z4 := Z8.c4
  have z5 := Z8.c5
  have y3 := X8.c3
  have y3' := fun o => cell_old y3 o
  have L11 := P11
  clear hbo hN2 hC hn hb4 X6 X8 P3 P10 P11
  go_wp2_with (first
    | (refine wpList_load_pair rfl _ rfl _ rfl L11 ?_)
    | (refine wpList_load_pair rfl _ rfl _ rfl Z10 ?_)
    | (at_builtin; refine wpList_append_run rfl _ _ _ rfl _ _ _ _ rfl rfl hrun ?_)
    | (refine wpList_store_hex rfl _ _ rfl _ rfl rfl Z6 ⟨rfl, rfl, rfl, rfl, rfl, rfl⟩ ?_
       intro w10 Z hk10 hb10 _))
  obtain ⟨r0, r1, r2, r3, r4, r5⟩ : w10.cell? _ = _ ∧ w10.cell? _ = _ ∧ w10.cell? _ = _ ∧ w10.cell? _ = _ ∧ w10.cell? _ = _ ∧ w10.cell? _ = _ := ⟨Z.c0, Z.c1, Z.c2, Z.c3, Z.c4, Z.c5⟩
  have b9 := B1.out.2.2.1.trans (Q4.out.2.2.mono B1.out.2.2.1.size)
  refine bodyPost_ret (v := .tuple #[tV t.ks.len (y1, y2) (.slice A4 (t.bs.length + 1) c4) (.slice Ak t.ks.len ck) ((t.size : Int) + 1), .int .i64 ((nk : Int) + 2)]) (by simp [results, Tryz.results50, go_sem, tV, r0, r1, r2, r3, r4, r5]) rfl ?_
  refine ⟨_, rfl, ?_, hb10 _ _ b9 (by omega)⟩
  rw [skw_ge (by rw [B1.out.2.2.2.2]; exact HV.out), B1.out.2.2.2.2]
  exact skew_fin (bs := (x1, x2) :: t.bs) Q4.out.2.2 hk10 B1.out.2.1 Q4.out.1 Q4.out.2.1 (by simp only [Tre.size, List.length_cons]; omega)

set_option maxRecDepth 100000 in
set_option maxHeartbeats 4000000 in
/-- Of no trees: a leaf. -/
theorem refSkew_none (F : Nat → Prop) (y1 y2 : Int) (va vb : Value) (w : World) (hF : ∀ b, w.heap.size ≤ b → F b) (ha : RT F w va none) (hb : RT F w vb none) :
    Calls Tryz.prog 50 #[el (y1, y2), va, vb] w (GaveRN F (some (leafT (y1, y2))) 1 w) := by
  obtain rfl := ha
  obtain rfl := hb
  have H := Lib.hid hF
  clear hF
  unfold tV
  go_enter Tryz.func50, Tryz.ntmps50
  go_wp2_with fail
  have h4 := four_at w (.cells #[.int .i64 y1, .int .i64 y2] 32) (.cells #[.int .i64 0, .int .i64 0, .int .i64 0, .slice none 0 0, .slice none 0 0, .int .i64 0] 104) (.cells #[.int .i64 0, .int .i64 0, .int .i64 0, .slice none 0 0, .slice none 0 0, .int .i64 0] 104)
    (.cells #[.int .i64 0, .int .i64 0, .int .i64 0, .slice none 0 0, .slice none 0 0, .int .i64 0] 104)
  generalize (((w.alloc (.cells #[.int .i64 y1, .int .i64 y2] 32)).alloc _).alloc _).alloc _ = W4 at *
  obtain ⟨e1, e2, e3, e4, e5, e6⟩ := h4
  have hc := refLink_any F (tV 0 (0, 0) (.slice none 0 0) (.slice none 0 0) 0) (tV 0 (0, 0) (.slice none 0 0) (.slice none 0 0) 0) none none W4 (fun k hk => H.out k (by omega)) (RT.none0 F W4) (RT.none0 F W4) (by simp [osize]) (by simp [osize])
  simp only [tV] at hc
  ((with_reducible refine (hc).mono ?_); rintro e w1 ⟨V, rfl, hV, hb1⟩)
  obtain rfl := hV
  have P3 := pair_at ((hb1.block _ (lt_of_heap e1)).trans e1)
  have X6 := hex_at ((hb1.block _ (lt_of_heap e4)).trans e4)
  have B1 := Lib.hid (And.intro (e6.trans (hb1.mono e6.size)) (show w.heap.size + 4 ≤ w1.heap.size by have := hb1.size; omega))
  clear e1 e2 e3 e4 e5 e6 hb1
  have p0 := P3.c0
  have p1 := P3.c1
  have p0' := fun o => cell_old p0 o
  have p1' := fun o => cell_old p1 o
  unfold tV
  go_wp2_with fail
  have hb2 := (Below.refl w1.heap.size w1).alloc (Nat.le_refl _) (.cells #[.int .i64 0, .int .i64 0, .int .i64 0, .slice none 0 0, .slice none 0 0, .int .i64 0] 104)
  ((with_reducible refine (refLeaf_any (fun k => F k ∧ k ≠ w.heap.size + 1 + 1 + 1) (y1, y2) _).mono ?_); rintro e w2 ⟨V, rfl, hV, hb3⟩)
  obtain ⟨Ab, Ak, cb, ck, kc, rfl, hV1, hV2⟩ := hV
  have b12 : Below w1.heap.size w1 w2 := hb2.trans (hb3.mono hb2.size)
  have Z6 := X6.keep (b12.block _ (block_lt_of_cell X6.c0))
  have B2 := Lib.hid (And.intro hV1 (And.intro hV2 b12))
  clear hb2 hb3 hV1 hV2 b12 X6 P3 p0 p1 p0' p1'
  unfold tV
  go_wp2_with (first
    | (refine wpList_store_hex rfl _ _ rfl _ rfl rfl Z6 ⟨rfl, rfl, rfl, rfl, rfl, rfl⟩ ?_
       intro w10 Z hk10 hb10 _))
  obtain ⟨r0, r1, r2, r3, r4, r5⟩ : w10.cell? _ = _ ∧ w10.cell? _ = _ ∧ w10.cell? _ = _ ∧ w10.cell? _ = _ ∧ w10.cell? _ = _ ∧ w10.cell? _ = _ := ⟨Z.c0, Z.c1, Z.c2, Z.c3, Z.c4, Z.c5⟩
  have b9 := B1.out.1.trans (B2.out.2.2.mono B1.out.1.size)
  refine bodyPost_ret (v := .tuple #[tV (leafT (y1, y2)).ks.len (leafT (y1, y2)).x (.slice Ab (leafT (y1, y2)).bs.length cb) (.slice Ak (leafT (y1, y2)).ks.len ck) ((leafT (y1, y2)).size : Nat), .int .i64 ((1 : Nat) : Int)]) (by simp [results, Tryz.results50, go_sem, tV, leafT, Wood.len, Tre.size, Wood.size, r0, r1, r2, r3, r4, r5]) rfl ?_
  have f2 : Far (fun k => F k ∧ k ≠ w.heap.size + 1 + 1 + 1) F w2 w10 := ⟨fun k _ h => hk10 k h.2, fun k _ h => h.1⟩
  exact ⟨_, rfl, ⟨Ab, Ak, cb, ck, kc, rfl, ⟨B2.out.1.1.far f2, B2.out.1.2⟩, B2.out.2.1.1.far f2, B2.out.2.1.2.1.far f2, B2.out.2.1.2.2⟩, hb10 _ _ b9 (by omega)⟩

/-- How many steps there are, beside those of Link. -/
theorem refSkew_any (F : Nat → Prop) (y : Int × Int) (va vb : Value) (ta tb : Option Tre) (w : World) (hF : ∀ b, w.heap.size ≤ b → F b) (ha : RT F w va ta) (hb : RT F w vb tb) (ka : osize ta < 134217728) (kb : osize tb < 134217728) :
    Calls Tryz.prog 50 #[el y, va, vb] w (GaveRN F (oskw y ta tb) (2 * lnkN ta tb + (if olnk ta tb = none then 1 else 2)) w) := by
  obtain ⟨y1, y2⟩ := y
  cases ht : olnk ta tb with
  | none =>
    have e : ta = none ∧ tb = none := by cases ta <;> cases tb <;> simp_all [olnk]
    obtain ⟨rfl, rfl⟩ := e
    simpa [oskw, ht, lnkN] using refSkew_none F y1 y2 va vb w hF ha hb
  | some t =>
    simp only [oskw, ht, reduceCtorEq, if_false]
    cases hl : ltE t.x (y1, y2) with
    | true => exact refSkew_lt F y1 y2 va vb ta tb t w hF ha hb ka kb ht hl
    | false => exact refSkew_ge F y1 y2 va vb ta tb t w hF ha hb ka kb ht hl


end Go.Proofs.YtaeainnkhjnlaaaGreatDoor
