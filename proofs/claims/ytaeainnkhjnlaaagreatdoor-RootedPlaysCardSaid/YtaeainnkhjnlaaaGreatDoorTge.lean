/-
  Contracts of the reference's Insert and Meld (slagheapref07): the heap, and how many steps there were. Condition: fewer than 2 to the 28th things, all together.
  Contract of the reference's Min (slagheapref07): the least root, and how many steps there were. Condition: fewer than 2 to the 28th things.
-/
import Derived.Test.YtaeainnkhjnlaaaGreatDoorTgc
import Derived.Test.YtaeainnkhjnlaaaGreatDoorTgd
namespace Go.Proofs.YtaeainnkhjnlaaaGreatDoor
open Go.Sort Go.RowKit

/-- What a call hands back: a heap, and a number of steps. -/
def GaveH (F : Nat → Prop) (l : List Tre) (k : Nat) (w : World) (e : Ending) (w' : World) : Prop := ∃ A n c, e = .returned (.tuple #[.agg #[.slice A n c], .int .i64 (k : Int)]) ∧ HAt F w' l A n c ∧ Below w.heap.size w w'
/-- A variable that holds a heap of the reference's. -/
def HV7 (W : World) (b : Nat) (A : Option Addr) (n c : Nat) : Prop := W.heap[b]? = some (.cells #[.slice A n c] 93 (0, 0))
theorem HV7.stay {W W' : World} {b : Nat} {A : Option Addr} {n c : Nat} (h : HV7 W b A n c) (hb : Below W.heap.size W W') : HV7 W' b A n c := (hb.block b (lt_of_heap h)).trans h
theorem HV7.c0 {W : World} {b : Nat} {A : Option Addr} {n c : Nat} (h : HV7 W b A n c) : W.cell? ⟨b, 0, none⟩ = some (.slice A n c) := cell_one h
theorem HV7.z0 {W : World} {b : Nat} {A : Option Addr} {n c : Nat} (h : HV7 W b A n c) : W.frozen? ⟨b, 0, none⟩ = false := by unfold HV7 at h; simp [World.frozen?, h]
theorem HV7.put {W : World} {b : Nat} {A : Option Addr} {n c : Nat} (h : HV7 W b A n c) (B : Option Addr) (m d : Nat) : HV7 (W.setCell ⟨b, 0, none⟩ (.slice B m d)) b B m d := heap_put (j := 0) h _
theorem wpList_store_h7 {ops : Array Oper} {rest : List Oper} {op : Oper} {a : Act} {w : World} {Q : Exit → Act → World → Prop} (hgd : op.guard = none) (x y : Operand) (ho : op.op = .store 93 x y)
    (b : Nat) (hx : a.eval x = .pointer (some ⟨b, 0, none⟩)) {A B : Option Addr} {n c m d : Nat} (hy : a.eval y = .agg #[.slice B m d]) (H : HV7 w b A n c)
    (h : ∀ w', w' = w.setCell ⟨b, 0, none⟩ (.slice B m d) → wpList Tryz.prog ops Q rest (a.put op.dst undef) w') : wpList Tryz.prog ops Q (op :: rest) a w := by
  have hi : (Tryz.prog.info? 93).map (·.size) = some 1 := by kernel_rfl
  refine wpList_store_mid hgd _ x y ho b 0 _ hx hy (fun j hj => ?_) hi (all_oneCell_toArray (cs := [.slice B m d]) (by intro v hv; simp only [List.mem_cons, List.not_mem_nil, or_false] at hv; subst hv; rfl)) (h _ rfl)
  have e : j = 0 := by simp at hj; omega
  subst e
  exact ⟨by rw [show (0 + 0 : Nat) = 0 from rfl, H.c0]; rfl, by rw [show (0 + 0 : Nat) = 0 from rfl]; exact H.z0⟩
theorem HAt.set {F : Nat → Prop} {W : World} {l : List Tre} {A : Option Addr} {n c b : Nat} (h : HAt (Fb F b) W l A n c) (v : Value) : HAt F (W.setCell ⟨b, 0, none⟩ v) l A n c :=
  h.far ⟨fun k _ hf => Below.heap_setCell W ⟨b, 0, none⟩ v k hf.2, fun _ _ hf => hf.1⟩
theorem refLeafT (F : Nat → Prop) (x1 x2 : Int) (w : World) : Calls Tryz.prog 51 #[.agg #[.int .i64 x1, .int .i64 x2]] w fun e w' => ∃ (kl : Nat) (z1 z2 : Int) (Ab : Option Addr) (bl cb : Nat) (Ak : Option Addr) (ck sz : Nat),
    e = .returned (TVal kl z1 z2 Ab bl cb Ak ck sz) ∧ TIs F w' (leafT (x1, x2)) kl z1 z2 Ab bl cb Ak ck sz ∧ Below w.heap.size w w' := by
  refine (refLeaf_any F (x1, x2) w).mono fun e w' ⟨V, he, hr, hb⟩ => ?_
  have hr0 := hr
  obtain ⟨Ab, Ak, cb, ck, kc, rfl, -⟩ := hr
  exact ⟨(leafT (x1, x2)).ks.len, (leafT (x1, x2)).x.1, (leafT (x1, x2)).x.2, Ab, (leafT (x1, x2)).bs.length, cb, Ak, ck, (leafT (x1, x2)).size, he, ⟨⟨rfl, rfl, rfl, rfl⟩, hr0⟩, hb⟩

end Go.Proofs.YtaeainnkhjnlaaaGreatDoor
namespace Go.Proofs.YtaeainnkhjnlaaaGreatDoor
open Go.Sort Go.RowKit

set_option maxRecDepth 100000 in
theorem refMin7_nil (F : Nat → Prop) (A : Option Addr) (n c : Nat) (w : World) (h : HAt F w [] A n c) :
    Calls Tryz.prog 65 #[.agg #[.slice A n c]] w fun e w' => e = .returned (.tuple #[.agg #[.int .i64 0, .int .i64 0], .int .i64 0]) ∧ Below w.heap.size w w' := by
  obtain rfl : n = 0 := h.1
  clear h
  go_enter Tryz.func65, Tryz.ntmps65
  go_wp2_with fail
  refine bodyPost_ret (v := .tuple #[.agg #[.int .i64 0, .int .i64 0], .int .i64 0]) (by simp [results, Tryz.results65, go_sem]) rfl ?_
  exact ⟨rfl, ((Below.refl w.heap.size w).alloc (Nat.le_refl _) _).alloc (by simp) _⟩

set_option maxRecDepth 100000 in
set_option maxHeartbeats 2000000 in
theorem refMin7_some (F : Nat → Prop) (l : List Tre) (A : Option Addr) (n c : Nat) (w : World) (hs : bSize l < 268435456) (hn1 : 0 < n) (h : HAt F w l A n c) (x1 x2 : Int) (hx : (x1, x2) = rootAt l (leastI l)) :
    Calls Tryz.prog 65 #[.agg #[.slice A n c]] w fun e w' => e = .returned (.tuple #[.agg #[.int .i64 x1, .int .i64 x2], .int .i64 ((n - 1 : Nat) : Int)]) ∧ Below w.heap.size w w' := by
  obtain ⟨b, o, rfl⟩ := h.some_at hn1
  have hnl := h.1
  have hll := bSize_len l
  have hln : l ≠ [] := by rintro rfl; simp at hnl; omega
  have hq := leastI_lt hln
  obtain ⟨q, hqe⟩ : ∃ q, q = leastI l := ⟨_, rfl⟩
  rw [← hqe] at hq hx
  obtain ⟨kl, y1, y2, Ab, bl, cb, Ak, ck, sz, ⟨-, c1, c2, -, -, -⟩, ht⟩ := h.atJ hq
  have hxe : (x1, x2) = (y1, y2) := by rw [hx]; unfold rootAt; rw [List.getElem?_eq_getElem hq]; exact ht.1.2.2.2
  cases hxe
  have hb0 := ((Below.refl w.heap.size w).alloc (Nat.le_refl _) (.cells #[.slice (some ⟨b, o, none⟩) n c] 93)).alloc (by simp) (.cells #[.int .i64 0, .int .i64 0] 32)
  have hh : HV7 ((w.alloc (.cells #[.slice (some ⟨b, o, none⟩) n c] 93)).alloc (.cells #[.int .i64 0, .int .i64 0] 32)) w.heap.size (some ⟨b, o, none⟩) n c := (((Below.refl (w.alloc (.cells #[.slice (some ⟨b, o, none⟩) n c] 93)).heap.size (w.alloc (.cells #[.slice (some ⟨b, o, none⟩) n c] 93))).alloc (Nat.le_refl _) _).block _ (by simp)).trans (new_at rfl)
  have he : ((w.alloc (.cells #[.slice (some ⟨b, o, none⟩) n c] 93)).alloc (.cells #[.int .i64 0, .int .i64 0] 32)).heap[w.heap.size + 1]? = some (.cells #[.int .i64 0, .int .i64 0] 32 (0, 0)) := new_at (by simp)
  have hsz : ((w.alloc (.cells #[.slice (some ⟨b, o, none⟩) n c] 93)).alloc (.cells #[.int .i64 0, .int .i64 0] 32)).heap.size = w.heap.size + 2 := by simp
  have H := Lib.hid (And.intro hs (And.intro h hb0))
  have HQ := Lib.hid (show q = leastI l ∧ q < n ∧ n < 268435456 from ⟨hqe, by omega, by omega⟩)
  have hqn : q < n := HQ.out.2.1
  have q2 : (0 : Int) ≤ (q : Int) := by omega
  have q5 : (q : Int) < (n : Int) := by omega
  have z1 : ((n : Int) == 0) = false := by simp; omega
  have z2 : ¬ n = 0 := by omega
  have ws : IntKind.i64.wrap ((n : Int) - 1) = (n : Int) - 1 := by have := HQ.out; rw [IntKind.wrap_i64]; omega
  have d1 := (hb0.cell (p := ⟨b, o + q * 6 + 1, none⟩) (block_lt_of_cell c1)).trans c1
  have d2 := (hb0.cell (p := ⟨b, o + q * 6 + 2, none⟩) (block_lt_of_cell c2)).trans c2
  clear hs h hb0 hnl hll hln hq hqe hx ht c1 c2
  go_enter Tryz.func65, Tryz.ntmps65
  go_wp2_with fail
  generalize (w.alloc (.cells #[.slice (some ⟨b, o, none⟩) n c] 93)).alloc (.cells #[.int .i64 0, .int .i64 0] 32) = w1 at *
  obtain ⟨b0, hb0⟩ : ∃ b, b = w.heap.size := ⟨_, rfl⟩
  obtain ⟨b1, hb1⟩ : ∃ b, b = w.heap.size + 1 := ⟨_, rfl⟩
  rw [← hb1] at he ⊢
  rw [← hb0] at hh ⊢
  have hbb : b < w1.heap.size := block_lt_of_cell d1
  have HO := Lib.hid (show b0 = w.heap.size ∧ b1 = b0 + 1 ∧ w1.heap.size = b1 + 1 from ⟨hb0, by omega, by omega⟩)
  have hbw : b < w.heap.size := by obtain ⟨kl2, u1, u2, A2, bl2, cb2, Ak2, ck2, sz2, ⟨g0, -⟩, -⟩ := H.out.2.1.atJ (j := q) (by have := HQ.out; have := H.out.2.1.1; omega); exact block_lt_of_cell g0
  have hne : b ≠ b1 := by have := HO.out; omega
  have hne0 : b0 ≠ b1 := by have := HO.out; omega
  have HS := Lib.hid (fun (w' : World) (hz : ∀ k, k < w1.heap.size → k ≠ b1 → w'.heap[k]? = w1.heap[k]?) => (show w'.cell? ⟨b0, 0, none⟩ = some (.slice (some ⟨b, o, none⟩) n c) ∧ w'.cell? ⟨b, o + q * 6 + 1, none⟩ = some (.int .i64 x1) ∧ w'.cell? ⟨b, o + q * 6 + 2, none⟩ = some (.int .i64 x2) from by
    have hk := (hz b0 (lt_of_heap hh) hne0).trans hh
    exact ⟨cell_one hk, (World.cell?_of_block (hz b hbb hne)).trans d1, (World.cell?_of_block (hz b hbb hne)).trans d2⟩))
  have HE := Lib.hid he
  have HB0 := Lib.hid H.out.2.2
  clear hb0 hb1 hsz d1 d2 hh he hbb hbw hne hne0
  have hd0 : Below w1.heap.size w1 w1.drew := (Below.refl _ _).drew
  refine wp_region_noPanic ?_
  refine wp_region_held_drew (S := fun w' => w'.cell? ⟨b0, 0, none⟩ = some (.slice (some ⟨b, o, none⟩) n c) ∧ w'.cell? ⟨b, o + q * 6 + 1, none⟩ = some (.int .i64 x1) ∧ w'.cell? ⟨b, o + q * 6 + 2, none⟩ = some (.int .i64 x2)) (by kernel_rfl) (HS.out _ (fun k hk _ => hd0.block k hk)) (fun hH => ?_)
  generalize w1.drew = wd at *
  refine wpAnyH_take (i := 0) (oi := { dst := some 9, op := Go.Op.fieldAddr 93 (Go.Operand.tmp 1) 0, type := 0, pos := "ref.go:80", after := #[], guard := none }) (v := ?v1_0_0) rfl (by as_aux_lemma => kernel_rfl) (by as_aux_lemma => kernel_rfl) (by as_aux_lemma => kernel_rfl) (fun _ _ _ h => h) (Or.inl ⟨(by as_aux_lemma => kernel_rfl), ?hy1_0_0⟩) hH ?rest1_0_0
  case hy1_0_0 => (intro w hSw; (try dsimp only at hSw); go_simp; try with_reducible rfl)
  try simp only [Act.put, List.setIfInBounds_toArray, List.set_cons_zero, List.set_cons_succ]
  refine wpAnyH_take (i := 1) (oi := { dst := some 10, op := Go.Op.load 33 (Go.Operand.tmp 9), type := 33, pos := "ref.go:80", after := #[{ on := 0, ground := Go.Ground.data }], guard := none }) (v := ?v1_0_1) rfl (by as_aux_lemma => kernel_rfl) (by as_aux_lemma => kernel_rfl) (by as_aux_lemma => kernel_rfl) (fun _ _ _ h => h) (Or.inl ⟨(by as_aux_lemma => kernel_rfl), ?hy1_0_1⟩) hH ?rest1_0_1
  case hy1_0_1 => (intro w hSw; (try dsimp only at hSw); go_simp; try with_reducible rfl)
  try simp only [Act.put, List.setIfInBounds_toArray, List.set_cons_zero, List.set_cons_succ]
  refine wpAnyH_take (i := 2) (oi := { dst := some 11, op := Go.Op.fieldAddr 93 (Go.Operand.tmp 1) 0, type := 0, pos := "ref.go:80", after := #[], guard := none }) (v := ?v1_0_2) rfl (by as_aux_lemma => kernel_rfl) (by as_aux_lemma => kernel_rfl) (by as_aux_lemma => kernel_rfl) (fun _ _ _ h => h) (Or.inl ⟨(by as_aux_lemma => kernel_rfl), ?hy1_0_2⟩) hH ?rest1_0_2
  case hy1_0_2 => (intro w hSw; (try dsimp only at hSw); go_simp; try with_reducible rfl)
  try simp only [Act.put, List.setIfInBounds_toArray, List.set_cons_zero, List.set_cons_succ]
  refine wpAnyH_take (i := 3) (oi := { dst := some 12, op := Go.Op.load 33 (Go.Operand.tmp 11), type := 33, pos := "ref.go:80", after := #[{ on := 2, ground := Go.Ground.data }], guard := none }) (v := ?v1_0_3) rfl (by as_aux_lemma => kernel_rfl) (by as_aux_lemma => kernel_rfl) (by as_aux_lemma => kernel_rfl) (fun _ _ _ h => h) (Or.inl ⟨(by as_aux_lemma => kernel_rfl), ?hy1_0_3⟩) hH ?rest1_0_3
  case hy1_0_3 => (intro w hSw; (try dsimp only at hSw); go_simp; try with_reducible rfl)
  try simp only [Act.put, List.setIfInBounds_toArray, List.set_cons_zero, List.set_cons_succ]
  refine wpAnyH_take (i := 8) (oi := { dst := some 17, op := Go.Op.fieldAddr 93 (Go.Operand.tmp 1) 0, type := 0, pos := "ref.go:80", after := #[], guard := none }) (v := ?v1_0_8) rfl (by as_aux_lemma => kernel_rfl) (by as_aux_lemma => kernel_rfl) (by as_aux_lemma => kernel_rfl) (fun _ _ _ h => h) (Or.inl ⟨(by as_aux_lemma => kernel_rfl), ?hy1_0_8⟩) hH ?rest1_0_8
  case hy1_0_8 => (intro w hSw; (try dsimp only at hSw); go_simp; try with_reducible rfl)
  try simp only [Act.put, List.setIfInBounds_toArray, List.set_cons_zero, List.set_cons_succ]
  refine wpAnyH_take (i := 9) (oi := { dst := some 18, op := Go.Op.load 33 (Go.Operand.tmp 17), type := 33, pos := "ref.go:80", after := #[{ on := 8, ground := Go.Ground.data }], guard := none }) (v := ?v1_0_9) rfl (by as_aux_lemma => kernel_rfl) (by as_aux_lemma => kernel_rfl) (by as_aux_lemma => kernel_rfl) (fun _ _ _ h => h) (Or.inl ⟨(by as_aux_lemma => kernel_rfl), ?hy1_0_9⟩) hH ?rest1_0_9
  case hy1_0_9 => (intro w hSw; (try dsimp only at hSw); go_simp; try with_reducible rfl)
  try simp only [Act.put, List.setIfInBounds_toArray, List.set_cons_zero, List.set_cons_succ]
  refine wpAnyH_take (i := 10) (oi := { dst := some 19, op := Go.Op.call { callee := Go.Callee.builtin Go.Builtin.len, args := #[Go.Operand.tmp 18], argTypes := #[33] }, type := 3, pos := "ref.go:80", after := #[{ on := 9, ground := Go.Ground.data }], guard := none }) (v := ?v1_0_10) rfl (by as_aux_lemma => kernel_rfl) (by as_aux_lemma => kernel_rfl) (by as_aux_lemma => kernel_rfl) (fun _ _ _ h => h) (Or.inl ⟨(by as_aux_lemma => kernel_rfl), ?hy1_0_10⟩) hH ?rest1_0_10
  case hy1_0_10 => (intro w hSw; (try dsimp only at hSw); go_simp; try with_reducible rfl)
  try simp only [Act.put, List.setIfInBounds_toArray, List.set_cons_zero, List.set_cons_succ]
  refine wpAnyH_take (i := 11) (oi := { dst := some 20, op := Go.Op.binOp Go.BinOp.sub 3 (Go.Operand.tmp 19) (Go.Operand.const (Go.Value.int Go.IntKind.i64 1)) 3, type := 3, pos := "ref.go:80", after := #[{ on := 10, ground := Go.Ground.data }, { on := 12, ground := Go.Ground.gcOnly Go.Departure.lateStores }], guard := none }) (v := ?v1_0_11) rfl (by as_aux_lemma => kernel_rfl) (by as_aux_lemma => kernel_rfl) (by as_aux_lemma => kernel_rfl) (fun _ _ _ h => h) (Or.inl ⟨(by as_aux_lemma => kernel_rfl), ?hy1_0_11⟩) hH ?rest1_0_11
  case hy1_0_11 => (intro w hSw; (try dsimp only at hSw); go_simp; try with_reducible rfl)
  try simp only [Act.put, List.setIfInBounds_toArray, List.set_cons_zero, List.set_cons_succ]
  refine wpAnyH_ready (rs := [4]) (by as_aux_lemma => kernel_rfl) (by simp) ?_
  refine AllReadyH.cons (o := { dst := some 13, op := Go.Op.call { callee := Go.Callee.value (Go.Operand.func 66), args := #[Go.Operand.tmp 12], argTypes := #[33] }, type := 3, pos := "ref.go:80", after := #[{ on := 3, ground := Go.Ground.data }], guard := none }) rfl (fun K hK => ?_) AllReadyH.nil
  have hdw := HB0.out.trans (hd0.mono HB0.out.size)
  go_simp
  go_at_call 66
  (with_reducible refine (refLeast F l _ _ _ _ H.out.1 hn1 (H.out.2.1.stay hdw)).mono ?_)
  rintro e w3 ⟨rfl, hb3⟩
  rw [← HQ.out.1]
  refine hK.out _ _ ?_ (fun hH2 => ?_)
  · exact HS.out _ (fun k hk _ => (hd0.trans (hb3.mono hd0.size)).block k hk)
  clear hK K hH
  have hH := hH2
  clear hH2
  have hb4 := hd0.trans (hb3.mono hd0.size)
  have he4 := (hb4.block b1 (by have := HO.out; omega)).trans HE.out
  have v0 : w3.cell? ⟨b1, 0, none⟩ = some (.int .i64 0) := by simp [World.cell?, he4]
  have v1 : w3.cell? ⟨b1, 1, none⟩ = some (.int .i64 0) := by simp [World.cell?, he4]
  have vz0 : w3.frozen? ⟨b1, 0, none⟩ = false := by simp [World.frozen?, he4]
  have vz1 : w3.frozen? ⟨b1, 1, none⟩ = false := by simp [World.frozen?, he4]
  clear hb3
  try simp only [Act.put, List.setIfInBounds_toArray, List.set_cons_zero, List.set_cons_succ]
  refine wpAnyH_take (i := 5) (oi := { dst := some 14, op := Go.Op.indexAddr 33 (Go.Operand.tmp 10) (Go.Operand.tmp 13), type := 0, pos := "ref.go:80", after := #[{ on := 1, ground := Go.Ground.data }, { on := 4, ground := Go.Ground.data }], guard := none }) (v := ?v1_0_5) rfl (by as_aux_lemma => kernel_rfl) (by as_aux_lemma => kernel_rfl) (by as_aux_lemma => kernel_rfl) (fun _ _ _ h => h) (Or.inl ⟨(by as_aux_lemma => kernel_rfl), ?hy1_0_5⟩) hH ?rest1_0_5
  case hy1_0_5 => (intro w hSw; (try dsimp only at hSw); go_simp; try with_reducible rfl)
  try simp only [Act.put, List.setIfInBounds_toArray, List.set_cons_zero, List.set_cons_succ]
  refine wpAnyH_take (i := 6) (oi := { dst := some 15, op := Go.Op.fieldAddr 104 (Go.Operand.tmp 14) 1, type := 0, pos := "ref.go:80", after := #[{ on := 5, ground := Go.Ground.data }], guard := none }) (v := ?v1_0_6) rfl (by as_aux_lemma => kernel_rfl) (by as_aux_lemma => kernel_rfl) (by as_aux_lemma => kernel_rfl) (fun _ _ _ h => h) (Or.inl ⟨(by as_aux_lemma => kernel_rfl), ?hy1_0_6⟩) hH ?rest1_0_6
  case hy1_0_6 => (intro w hSw; (try dsimp only at hSw); go_simp; try with_reducible rfl)
  try simp only [Act.put, List.setIfInBounds_toArray, List.set_cons_zero, List.set_cons_succ]
  refine wpAnyH_take (i := 7) (oi := { dst := some 16, op := Go.Op.load 32 (Go.Operand.tmp 15), type := 32, pos := "ref.go:80", after := #[{ on := 6, ground := Go.Ground.data }], guard := none }) (v := ?v1_0_7) rfl (by as_aux_lemma => kernel_rfl) (by as_aux_lemma => kernel_rfl) (by as_aux_lemma => kernel_rfl) (fun _ _ _ h => h) (Or.inl ⟨(by as_aux_lemma => kernel_rfl), ?hy1_0_7⟩) hH ?rest1_0_7
  case hy1_0_7 => (intro w hSw; (try dsimp only at hSw); go_simp; try with_reducible rfl)
  try simp only [Act.put, List.setIfInBounds_toArray, List.set_cons_zero, List.set_cons_succ]
  refine wpAnyH_ready (rs := [12]) (by as_aux_lemma => kernel_rfl) (by simp) ?_
  refine AllReadyH.cons (o := { dst := none, op := Go.Op.store 32 (Go.Operand.tmp 2) (Go.Operand.tmp 16), type := 0, pos := "ref.go:80", after := #[{ on := 7, ground := Go.Ground.data }, { on := 4, ground := Go.Ground.chain }, { on := 0, ground := Go.Ground.phase }, { on := 1, ground := Go.Ground.phase }, { on := 2, ground := Go.Ground.phase }, { on := 3, ground := Go.Ground.phase }, { on := 4, ground := Go.Ground.phase }, { on := 5, ground := Go.Ground.phase }, { on := 6, ground := Go.Ground.phase }, { on := 7, ground := Go.Ground.phase }, { on := 8, ground := Go.Ground.textOnly Go.Departure.lateStores }, { on := 9, ground := Go.Ground.textOnly Go.Departure.lateStores }, { on := 10, ground := Go.Ground.textOnly Go.Departure.lateStoresUnsure }, { on := 11, ground := Go.Ground.textOnly Go.Departure.lateStores }], guard := none }) rfl (fun K hK => ?_) AllReadyH.nil
  go_simp
  refine hK.out _ _ ?_ (fun hH2 => ?_)
  · exact HS.out _ (fun k hk hne => (Below.heap_setCell _ ⟨b1, 1, none⟩ _ k hne).trans ((Below.heap_setCell _ ⟨b1, 0, none⟩ _ k hne).trans (hb4.block k hk)))
  clear hK K hH
  have hH := hH2
  clear hH2
  have hkz : ∀ k, k < w1.heap.size → k ≠ b1 → ((w3.setCell ⟨b1, 0, none⟩ (.int .i64 x1)).setCell ⟨b1, 1, none⟩ (.int .i64 x2)).heap[k]? = w1.heap[k]? := fun k hk hne => (Below.heap_setCell _ ⟨b1, 1, none⟩ _ k hne).trans ((Below.heap_setCell _ ⟨b1, 0, none⟩ _ k hne).trans (hb4.block k hk))
  have hez := heap_put (j := 1) (heap_put (j := 0) he4 (.int .i64 x1)) (.int .i64 x2)
  have hbz := ((HB0.out.trans (hb4.mono HB0.out.size)).setCell (p := ⟨b1, 0, none⟩) (by have := HO.out; show _ ≤ b1; omega) (.int .i64 x1)).setCell (p := ⟨b1, 1, none⟩) (by have := HO.out; show _ ≤ b1; omega) (.int .i64 x2)
  clear v0 v1 vz0 vz1
  generalize (w3.setCell ⟨b1, 0, none⟩ (.int .i64 x1)).setCell ⟨b1, 1, none⟩ (.int .i64 x2) = w5 at *
  try simp only [Act.put, List.setIfInBounds_toArray, List.set_cons_zero, List.set_cons_succ]
  refine wpAnyH_ready (rs := [13]) (by as_aux_lemma => kernel_rfl) (by simp) ?_
  refine AllReadyH.cons (o := { dst := some 3, op := Go.Op.assign (Go.Operand.tmp 20), type := 3, pos := "ref.go:80", after := #[{ on := 11, ground := Go.Ground.data }, { on := 12, ground := Go.Ground.chain }, { on := 0, ground := Go.Ground.phase }, { on := 1, ground := Go.Ground.phase }, { on := 2, ground := Go.Ground.phase }, { on := 3, ground := Go.Ground.phase }, { on := 4, ground := Go.Ground.phase }, { on := 5, ground := Go.Ground.phase }, { on := 6, ground := Go.Ground.phase }, { on := 7, ground := Go.Ground.phase }, { on := 8, ground := Go.Ground.phase }, { on := 9, ground := Go.Ground.phase }, { on := 10, ground := Go.Ground.phase }, { on := 11, ground := Go.Ground.phase }, { on := 12, ground := Go.Ground.phase }], guard := none }) rfl (fun K hK => ?_) AllReadyH.nil
  go_simp
  refine hK.out _ _ ?_ (fun hH2 => ?_)
  · exact HS.out _ hkz
  clear hK K hH
  have hH := hH2
  clear hH2
  try simp only [Act.put, List.setIfInBounds_toArray, List.set_cons_zero, List.set_cons_succ]
  refine wpAnyH_done (by as_aux_lemma => kernel_rfl) ?_ _
  refine NoPanic.normal ?_
  clear hH
  have t0 : w5.cell? ⟨b1, 0, none⟩ = some (.int .i64 x1) := by simp [World.cell?, hez]
  have t1 : w5.cell? ⟨b1, 1, none⟩ = some (.int .i64 x2) := by simp [World.cell?, hez]
  go_wp2_with fail
  refine bodyPost_ret (v := .tuple #[.agg #[.int .i64 x1, .int .i64 x2], .int .i64 ((n : Int) - 1)]) (by simp [results, Tryz.results65, go_sem, t0, t1]) rfl ?_
  exact ⟨by rw [show ((n - 1 : Nat) : Int) = (n : Int) - 1 by omega], hbz⟩

end Go.Proofs.YtaeainnkhjnlaaaGreatDoor
