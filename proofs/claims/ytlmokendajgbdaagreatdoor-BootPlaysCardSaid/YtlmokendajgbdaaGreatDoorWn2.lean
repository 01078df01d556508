/-
  Contract of (*boot.node).each: it tells a heap's roots, each with how many elements there are in its heap, the root ahead of the heaps of its queue; it writes rows of its own alone. Conditions: fewer than 2 to the 28th elements; a yield that goes on and keeps heaps and rows.
-/
import Derived.Test.YtlmokendajgbdaaGreatDoorWb3
import Derived.Test.YtlmokendajgbdaaGreatDoorRange3
import Derived.Test.YtlmokendajgbdaaGreatDoorV9b
import Derived.Test.YtlmokendajgbdaaGreatDoorShelf
import Derived.Shelf.SlicesE.Reverse
import Derived.Shelf.Abstract
import Derived.Shelf.RegionOpen
import Derived.OwnWalkIn
import Derived.TacticsInMore
import Derived.LoopNIn
import Derived.LoopIn
import Derived.Deep.RegionHeld3
import Derived.Deep.DrawnRows
namespace Go.Proofs.YtlmokendajgbdaaGreatDoor.Bo
open Go.Sort Go.RowKit Go.Proofs.YtlmokendajgbdaaGreatDoor.Gn Go.Shelf

attribute [local go_sem] Oper.semAt_some

theorem holdsT {w : World} {g : Nat} {cur : Array Value} {e : TypeId} {xs : List Thing} (hb : w.heap[g]? = some (.cells cur e (0, 0))) (ht : cur.toList.take xs.length = xs.map one0) : Holds one0 w g 0 xs.toArray := by
  intro j hj
  have hj' : j < xs.length := by simpa using hj
  refine ⟨?_, by simp [World.frozen?, hb]⟩
  have h1 : (cur.toList.take xs.length)[j]? = (xs.map one0)[j]? := by rw [ht]
  rw [List.getElem?_take_of_lt hj'] at h1
  simp only [World.cell?, hb, Nat.zero_add]
  simp only [Option.isSome_none, Bool.false_eq_true, if_false]
  rw [← Array.getElem?_toList, h1]
  simp [hj']
theorem take_putT (cur : Array Value) (ts : List Thing) (h : ts.length ≤ cur.size) : (putCells one0 0 ts.toArray cur).toList.take ts.length = ts.map one0 := by
  apply List.ext_getElem?
  intro j
  by_cases hj : j < ts.length
  · rw [List.getElem?_take_of_lt hj, Array.getElem?_toList]
    simp [putCells, hj, show j < cur.size by omega]
  · rw [List.getElem?_take_eq_none (by omega), List.getElem?_eq_none (by simp; omega)]
theorem one0_cell : OneCell one0 := fun _ => rfl
/-- slices.Reverse of a row of the call's own. -/
theorem rev_any (w : World) (base : Nat) (v : Value) (xs : List Thing) (hown : OwnT w base v xs) (hl : xs.length < 1073741824) :
    Calls Tryz.prog 85 #[v] w fun e w' => e = .returned (.tuple #[]) ∧ OwnT w' base v xs.reverse ∧ w.grownBy w' v.ownBlock := by
  rcases hown.2 with ⟨rfl, hn⟩ | ⟨g, cap, cur, rfl, hb, hg, hc, hm, hs, ht⟩
  · obtain rfl : xs = [] := List.eq_nil_of_length_eq_zero hn
    exact (AnyE.slices_Reverse_empty Tryz.revE none 0 w).mono fun _ _ ⟨he, hw⟩ => ⟨he, hw ▸ hown, hw ▸ World.grownBy.refl w _⟩
  · rw [Nat.mul_one] at ht hs
    refine (AnyE.slices_Reverse Tryz.revE one0 one0_cell g 0 cap xs w (holdsT hg ht) (by omega)).mono fun e w' ⟨he, n, hw⟩ => ⟨he, ?_, ?_⟩
    · subst hw
      refine ⟨by simp, .inr ⟨g, cap, putCells one0 0 xs.reverse.toArray cur, by rw [List.length_reverse], hb, ?_, by rw [List.length_reverse]; exact hc, hm, by simp [putCells, hs], ?_⟩⟩
      · simp [putRow, mapBlock, Sort.ahead, Array.getElem?_modify, hg, onCells]
      · rw [Nat.mul_one]
        exact take_putT cur xs.reverse (by rw [List.length_reverse]; omega)
    · subst hw
      refine ⟨rfl, rfl, rfl, by simp, fun k hk hne => ?_⟩
      have : g ≠ k := fun e => hne (by rw [e]; rfl)
      simp [putRow, mapBlock, Sort.ahead, Array.getElem?_modify, this]

/-- The built-in append at its operation inside a fence, by what its run is known to be. -/
theorem wpListIn_append_run {F : Fence} {n : Nat} {P : Program} {w : World} {ops : Array Oper} {rest : List Oper} {o : Oper} {a : Act} {Q : Exit → Act → World → Prop} (hgd : o.guard = Option.none) (s x : Operand) (t : TypeId)
    (ho : o.op = .call { callee := .builtin .append, args := #[s, x], argTypes := #[t, t] }) (v xv v' : Value) (w' : World) (hs : a.eval s = v) (hx : a.eval x = xv)
    (hrun : (Builtin.append_ #[t, t] o.type #[v, xv]).run P w = .ok v' w') (h : wpListIn F n P ops Q rest (a.put o.dst v') w') : wpListIn F n P ops Q (o :: rest) a w := by
  refine wpListIn_plain hgd fun K hK => ?_
  unfold Oper.wpIn
  refine ⟨?_, ?_⟩
  · simp [Oper.about, ho, resolve, Target.leads, Sem.run_pure]
  · rw [Oper.semAt_plain F _ _ (by rw [ho]; intro c hc'; cases hc')]
    simp [execOp, ho, resolve, invoke, builtin, hs, hx, hrun, Result.andThen]
    exact hK _ _ h
theorem own_cell {W : World} {base g n cap : Nat} {xs : List Thing} (h : OwnT W base (.slice (some ⟨g, 0, none⟩) n cap) xs) {j : Nat} (hj : j < xs.length) : W.cell? ⟨g, j, none⟩ = some (one0 xs[j]) := by
  have := World.ownsRow.cells h (g := g) rfl j (one0 xs[j]) (by simp [hj])
  rwa [add_flat, Nat.zero_add] at this
theorem own_cap {W : World} {base g n cap : Nat} {xs : List Thing} (h : OwnT W base (.slice (some ⟨g, 0, none⟩) n cap) xs) : xs.length ≤ cap := by
  rcases h.2 with ⟨e, -⟩ | ⟨g', cap', cur, e, -, -, hc, -⟩
  · cases e
  · injection e with e1 e2 e3
    omega
theorem own_row {W : World} {base : Nat} {v : Value} {xs : List Thing} (h : OwnT W base v xs) : ∀ g, v.ownBlock = some g → base ≤ g ∧ ∃ cs t z, W.heap[g]? = some (.cells cs t z) ∧ t = 27 := by
  intro g e
  rcases h.2 with ⟨rfl, -⟩ | ⟨g', cap, cur, rfl, hb, hg, -⟩
  · cases e
  · cases e
    exact ⟨hb, cur, _, _, hg, rfl⟩
theorem Nod.wts {W : World} {x : Int × Int} {o : Qh} {b : Nat} {s : Hp.HP} {n : Nat} (h : Nod W x o b s n) : ∀ e ∈ o.all, LAt0 W e.h (some ⟨e.a, 0, none⟩) ∧ e.h.ok ∧ e.h.some = true := fun e he => by
  have hok := h.ok
  cases hok with | node hq hb hn => ?_
  have hin : e.h ∈ Gn.bAll (heaps o) := by rw [heaps_all]; exact List.mem_map_of_mem he
  exact ⟨h.all e he, hb _ hin, (hn _ hin).1⟩
/-- The first k things of a row of the call's own. -/
theorem mine_takeT {W : World} {base g cap n : Nat} {xs : List Thing} (h : OwnT W base (.slice (some ⟨g, 0, none⟩) n cap) xs) {k : Nat} (hk : k ≤ xs.length) : OwnT W base (.slice (some ⟨g, 0, none⟩) k cap) (xs.take k) := by
  obtain ⟨h1, h2⟩ := h
  rcases h2 with ⟨e, -⟩ | ⟨g', cap', cur, e, hb, hg, hc, hm, hs, ht⟩
  · cases e
  · cases e
    refine ⟨by simp, .inr ⟨g, cap, cur, by rw [List.length_take, Nat.min_eq_left hk], hb, hg, by rw [List.length_take]; omega, hm, hs, ?_⟩⟩
    rw [List.length_take, Nat.min_eq_left hk, List.map_take, ← ht, List.take_take]
    congr 1
    omega
/-- The type of the iterator's rows. -/
def PtrT (t : TypeId) : Prop := t = 27
/-- What a round keeps: heaps, and rows of heaps. -/
def KeepT (t : TypeId) : Prop := NodeT t ∨ t = 27
abbrev Pr : Type := (Int × Int) × Nat
def pr1 (p : Pr) : Value := el p.1
def pr2 (p : Pr) : Value := .int .i64 (p.2 : Int)
/-- What is to be told of heaps that wait, the last one first. -/
def due (st : List Thing) : List Pr := st.reverse.flatMap fun e => e.h.pre
theorem due_nil : due [] = [] := rfl
theorem due_snoc (st : List Thing) (e : Thing) : due (st ++ [e]) = e.h.pre ++ due st := by simp [due]
theorem due_append (st : List Thing) (l : List Thing) : due (st ++ l.reverse) = (l.flatMap fun e => e.h.pre) ++ due st := by simp [due]
theorem due_heaps (o : Qh) : (Gn.bAll (heaps o)).flatMap Lh.pre = o.all.flatMap fun e => e.h.pre := by rw [heaps_all, List.flatMap_map]
/-- Heaps that wait. -/
def Wts (W : World) (st : List Thing) : Prop := ∀ e ∈ st, LAt0 W e.h (some ⟨e.a, 0, none⟩) ∧ e.h.ok ∧ e.h.some = true
theorem Wts.kps {W W' : World} {st : List Thing} (h : Wts W st) (hk : Kp W W') (hs : W.heap.size ≤ W'.heap.size) : Wts W' st := fun e he => ⟨(h e he).1.kps hk hs, (h e he).2⟩
theorem mine_kpt {W W' : World} {base : Nat} {v : Value} {xs : List Thing} (h : OwnT W base v xs) (hk : Kpt KeepT W W') : OwnT W' base v xs := by
  refine ⟨h.1, ?_⟩
  rcases h.2 with hn | ⟨g, cap, cur, e, hb, hg, rest⟩
  · exact .inl hn
  · exact .inr ⟨g, cap, cur, e, hb, hk _ _ _ (.inr rfl) hg, rest⟩
theorem keep_node {W W' : World} (h : Kpt KeepT W W') : Kp W W' := fun k cs t ht e => h k cs t (.inl ht) e
theorem ptr_node : ¬ NodeT 27 := addrT_ne
theorem mv_node {base : Nat} {W W' : World} (h : Mv base PtrT W W') : Kp W W' := fun _ _ _ ht e => h.cells e fun ep => addrT_ne ((show _ = _ from ep) ▸ ht)
/-- How many are to be told, of a state of the loop. -/
def EachR (B : Nat) (xs : List Pr) (J : List Pr → World → Prop) (k : Nat) (v : Value) (W : World) : Prop :=
  ∃ (st : List Thing) (pre : List Pr), xs = pre ++ due st ∧ k = (due st).length ∧ OwnT W B v st ∧ Wts W st ∧ J pre W ∧ B ≤ W.heap.size
theorem least_ex (R : Nat → Prop) : ∀ n, R n → ∃ k, R k ∧ ∀ j, R j → k ≤ j := by
  intro n
  induction n using Nat.strongRecOn with
  | _ n ih =>
    intro h
    by_cases hx : ∃ j, j < n ∧ R j
    · obtain ⟨j, hj, hr⟩ := hx
      exact ih j hj hr
    · exact ⟨n, h, fun j hr => Nat.le_of_not_lt fun hlt => hx ⟨j, hlt, hr⟩⟩
theorem due_len {W : World} {st : List Thing} (h : Wts W st) : st.length ≤ (due st).length := by
  rw [due, List.length_flatMap]
  have : ∀ l : List Thing, (∀ e ∈ l, e ∈ st) → l.length ≤ (l.map fun e => e.h.pre.length).sum := by
    intro l
    induction l with
    | nil => intro _; exact Nat.le_refl _
    | cons e l ih =>
      intro hl
      have h1 := ih fun d hd => hl d (List.mem_cons_of_mem _ hd)
      have h2 := (h e (hl e (by simp))).2.2
      have h3 := some_pos e.h
      rw [h2] at h3
      have h4 : 0 < e.h.size := by simpa using h3.symm
      rw [List.map_cons, List.sum_cons, pre_len, List.length_cons]
      omega
  have h1 := this st.reverse fun e he => List.mem_reverse.1 he
  rwa [List.length_reverse] at h1
open Classical in
noncomputable def leastK (R : Nat → Prop) : Nat := if h : ∃ k, R k ∧ ∀ j, R j → k ≤ j then Classical.choose h else 0
theorem leastK_spec {R : Nat → Prop} {n : Nat} (h : R n) : R (leastK R) ∧ ∀ j, R j → leastK R ≤ j := by
  have hx := least_ex R n h
  unfold leastK
  rw [dif_pos hx]
  exact Classical.choose_spec hx

set_option maxRecDepth 100000 in
set_option maxHeartbeats 4000000 in
theorem each_tells (h : Lh) (b n : Nat) (hn : 1 ≤ n) (w : World) (hh : LAt w h (some ⟨b, 0, none⟩)) (hs : h.some = true) :
    Tells3 Fence.wide n Tryz.prog 50 #[.pointer (some ⟨b, 0, none⟩)] pr1 pr2 PtrT KeepT h.pre w := fun l J W hW hJ hY h0 => by
  have hal : Below w.heap.size w (W.alloc (.cells #[.pointer (some ⟨b, 0, none⟩)] 27)) := hW.alloc hW.size _
  have hlow : LAt0 (W.alloc (.cells #[.pointer (some ⟨b, 0, none⟩)] 27)) h (some ⟨b, 0, none⟩) := (hh.stay hal).lies
  have hst : EachR w.heap.size h.pre J h.pre.length (.slice (some ⟨W.heap.size, 0, none⟩) 1 1) (W.alloc (.cells #[.pointer (some ⟨b, 0, none⟩)] 27)) := by
    refine ⟨[⟨h, b⟩], [], by simp [due], by simp [due], ?_, ?_, hJ _ _ _ h0 (Mv.below ((Below.refl _ _).alloc (Nat.le_refl _) _)), hal.size⟩
    · exact ⟨rfl, .inr ⟨W.heap.size, 1, #[.pointer (some ⟨b, 0, none⟩)], rfl, hW.size, new_at rfl, Nat.le_refl _, by unfold maxLen; omega, rfl, rfl⟩⟩
    · intro e he
      obtain rfl : e = ⟨h, b⟩ := by simpa using he
      exact ⟨hlow, hh.right, hs⟩
  have HX := Lib.hid (show h.pre.length ≤ 268435456 by rw [pre_len]; exact hh.small)
  refine callsIn_of_wp Tryz.func50 rfl trivial ?_ rfl
  simp only [Tryz.ntmps50, List.size_toArray, List.length_cons, List.length_nil, Nat.reduceAdd, Nat.reduceSub, Array.replicate_succ, Array.replicate_zero, List.push_toArray, List.append_toArray, List.nil_append, List.cons_append]
  have HS := Lib.hid hst
  have HJ := Lib.hid hJ
  have HY := Lib.hid hY
  clear hW hh hs hJ hY h0 hal hlow hst
  gi_wp2
  gi_loopw [4] (fun v wr => ∃ k, EachR w.heap.size h.pre J k v wr) (fun v wr => leastK fun k => EachR w.heap.size h.pre J k v wr)
  case atStart => exact ⟨_, HS.out⟩
  case round =>
    obtain ⟨k0, hk0⟩ := hrel
    obtain ⟨hk, hmin⟩ := leastK_spec (R := fun k => EachR w.heap.size h.pre J k u4 wr) hk0
    have HM := Lib.hid (And.intro hk hmin)
    clear hk0 hmin
    obtain ⟨st, pre, hx, hkl, hown, hw, hJs, hB⟩ := hk
    rcases List.eq_nil_or_concat st with rfl | ⟨st', e, rfl⟩
    · have hv : u4 = .slice none 0 0 ∨ ∃ g c, u4 = .slice (some ⟨g, 0, none⟩) 0 c := by
        rcases hown.2 with ⟨rfl, -⟩ | ⟨g, cap, cur, rfl, -⟩
        · exact .inl rfl
        · exact .inr ⟨g, cap, rfl⟩
      rw [due_nil, List.append_nil] at hx
      have HF := Lib.hid (And.intro hx hJs)
      clear hx hkl hown hw hJs HM
      rcases hv with rfl | ⟨g, c, rfl⟩
      all_goals gi_wp2
      all_goals go_end0
      all_goals exact ⟨⟨_, rfl⟩, HF.out.1 ▸ HF.out.2⟩
    · rw [List.concat_eq_append] at hx hkl hown hw
      rw [due_snoc] at hx hkl
      obtain ⟨eh, ea⟩ := e
      obtain ⟨hle, hoke, hse⟩ := hw ⟨eh, ea⟩ (by simp)
      have hwr : Wts wr st' := fun d hd => hw d (List.mem_append_left _ hd)
      have hsum := congrArg List.length hx
      rw [List.length_append, List.length_append, pre_len eh] at hsum
      have hHX := HX.out
      simp only at hle hoke hse hx hkl hsum
      have hdl := due_len hwr
      obtain ⟨x, q, rfl⟩ : ∃ x q, eh = .node x q := ⟨_, _, some_node hse⟩
      obtain ⟨o, a, s, nn, rfl, ha, hN⟩ := Nod.of (W := wr) (x := x) (q := q) (p := some ⟨ea, 0, none⟩) ⟨hle, hoke, by omega⟩
      cases ha
      obtain ⟨x1, x2⟩ := x
      have hpre : (Lh.node (x1, x2) (heaps o)).pre = ((x1, x2), nn) :: o.all.flatMap fun e => e.h.pre := by rw [pre_node, due_heaps, ← hN.size]
      rw [hpre] at hx hkl
      obtain ⟨K, hK⟩ : ∃ K, K = st'.length := ⟨_, rfl⟩
      obtain ⟨L, hL⟩ : ∃ L, L = K + 1 := ⟨_, rfl⟩
      have hlen : (st' ++ [(⟨.node (x1, x2) (heaps o), ea⟩ : Thing)]).length = L := by rw [List.length_append, ← hK, hL]; rfl
      obtain ⟨g, cap, rfl⟩ := ownsRow_succ (k := K) (by rw [← hL, ← hlen]; exact hown)
      have hcl : wr.cell? ⟨g, K, none⟩ = some (.pointer (some ⟨ea, 0, none⟩)) := by
        have h1 := own_cell hown (j := K) (by omega)
        rw [h1]
        simp [hK, one0]
      have hdr : Below wr.heap.size wr wr.drew := (Below.refl _ _).drew
      obtain ⟨fn, tmps, assign, body, hy, hR⟩ := HY.out pre ((x1, x2), nn) wr.drew (HJ.out _ _ _ hJs (Mv.below hdr)) ⟨(o.all.flatMap fun e => e.h.pre) ++ due st', by rw [hx]; simp⟩
      dsimp only [pr1, pr2] at hy
      have n0 := hN.four.c0
      have n1 := hN.four.c1
      have n4 := hN.four.c4
      have g1 : decide ((0 : Int) < (L : Int)) = true := decide_eq_true (by omega)
      have g2 : (0 : Int) < (L : Int) := by omega
      have g3 : 0 < L := by omega
      have w1' : IntKind.i64.wrap ((L : Int) - 1) = (K : Int) := by rw [IntKind.wrap_i64]; omega
      have q4 : (0 : Int) ≤ (K : Int) := by omega
      have q5 : (K : Int) < (L : Int) := by omega
      have q6 : K < L := by omega
      have hcap := own_cap hown
      have hqs := hN.qs
      have hns := hN.size
      have HH := Lib.hid (And.intro hx (And.intro hkl (And.intro hown (And.intro hwr (And.intro hN (And.intro hB (show K = st'.length ∧ L = K + 1 ∧ o.size < 268435456 ∧ L < 268435458 ∧ K + o.size < 268435457 ∧ K ≤ cap from ⟨hK, hL, by omega, by omega, by omega, by omega⟩)))))))
      clear hx hkl hown hw hJs hB hle hoke hse hwr hsum hHX hdl hpre hK hL hlen hN hcap hqs hns
      rw [show (Value.slice (some ⟨g, 0, none⟩) (K + 1) cap) = Value.slice (some ⟨g, 0, none⟩) L cap from by rw [HH.out.2.2.2.2.2.2.2.1]] at HM ⊢
      gi_wp2
      have hmix : Tryz.prog.follows Departure.mixedOrders = true := by kernel_rfl
      gi_region_with_o (refine hR.mono ?_; rintro e W3 ⟨rfl, hJ3, hk3, hs3⟩)
      all_goals (have hk4 := Kpt.trans (Kpt.below hdr) hk3; have hN3 := HH.out.2.2.2.2.1.kps (keep_node hk4) (Nat.le_trans hdr.size hs3); have hw3 := HH.out.2.2.2.1.kps (keep_node hk4) (Nat.le_trans hdr.size hs3); have hO3 := mine_kpt HH.out.2.2.1 hk4; have hB3 := Nat.le_trans HH.out.2.2.2.2.2.1 (Nat.le_trans hdr.size hs3))
      all_goals (have n2 := hN3.four.c2; have n3 := hN3.four.c3)
      all_goals (have H3 := Lib.hid (And.intro hJ3 (And.intro hN3 (And.intro hw3 (And.intro hO3 hB3)))); clear hJ3 hk3 hs3 hk4 hN3 hw3 hO3 hB3 hcl hy hR n0 n1 n4 g1 g2 g3 w1' q5 q6)
      all_goals gi_wp2
      all_goals
        refine ⟨trivial, ?_⟩
        refine (callsIn_wide.2 (Hp.allH_any o s W3 H3.out.2.1.q HH.out.2.2.2.2.2.2.2.2.1)).mono ?_
        rintro e w4 ⟨v2, rfl, hown2, hb4⟩
        have H4 := Lib.hid (And.intro hown2 hb4)
        clear n2 n3 hown2 hb4
        gi_wp2
        refine ⟨trivial, ?_⟩
        refine (callsIn_wide.2 (rev_any w4 W3.heap.size v2 o.all H4.out.1 (by rw [Go.Proofs.YtlmokendajgbdaaGreatDoor.Lh.all_length]; have := HH.out.2.2.2.2.2.2.2.2.1; omega))).mono ?_
        rintro e w5 ⟨rfl, hown5, hg5⟩
        have hgl : g < W3.heap.size := (World.ownsRow.lt H3.out.2.2.2.1 g rfl).2
        have hO5 : OwnT w5 w.heap.size (.slice (some ⟨g, 0, none⟩) (K + 1) cap) (st' ++ [(⟨.node (x1, x2) (heaps o), ea⟩ : Thing)]) := World.ownsRow.kept (Mine.stay H3.out.2.2.2.1 H4.out.2) hg5 (.inr fun e => by have := (own_row H4.out.1 g e.symm).1; omega)
        have hO6 := mine_takeT hO5 (k := K) (by rw [List.length_append, ← HH.out.2.2.2.2.2.2.1]; omega)
        rw [List.take_left' HH.out.2.2.2.2.2.2.1.symm] at hO6
        obtain ⟨A, c, rfl, hr5, -, -, hA⟩ := Mine.form hown5
        have hal : o.all.reverse.length = o.size := by rw [List.length_reverse, Go.Proofs.YtlmokendajgbdaaGreatDoor.Lh.all_length]
        have hs5 : W3.heap.size ≤ w5.heap.size := Nat.le_trans H4.out.2.size hg5.size
        obtain ⟨v', w6, hrun, hown6, hg6⟩ := Hp.append_things w5 w.heap.size _ st' o.all.reverse A c hO6 hr5 hA (by rw [hal]; have := HH.out.2.2.2.2.2.2; omega) (Nat.le_trans H3.out.2.2.2.2 hs5)
        have hmv : Mv w.heap.size PtrT W3 w6 := (Mv.below H4.out.2).trans ((Mv.grown hg5 fun k e => by obtain ⟨h1, h2⟩ := own_row H4.out.1 k e; exact ⟨Nat.le_trans H3.out.2.2.2.2 h1, h2⟩).trans (Mv.grown hg6 fun k e => own_row hO6 k e))
        have hw6 : Wts w6 (st' ++ o.all.reverse) := by
          intro d hd
          rcases List.mem_append.1 hd with hd | hd
          · exact H3.out.2.2.1.kps (mv_node hmv) hmv.size d hd
          · exact (H3.out.2.1.kps (mv_node hmv) hmv.size).wts d (List.mem_reverse.1 hd)
        have H6 := Lib.hid (And.intro hown6 (And.intro hw6 (And.intro (HJ.out _ _ _ H3.out.1 hmv) (Nat.le_trans H3.out.2.2.2.2 hmv.size))))
        have HRUN := Lib.hid hrun
        obtain ⟨M, hM⟩ : ∃ M, M = o.all.reverse.length := ⟨_, rfl⟩
        rw [← hM] at HRUN H4 ⊢
        have q7 : (K : Int) ≤ (cap : Int) := by have := HH.out.2.2.2.2.2.2; omega
        have q8 : K ≤ cap := by have := HH.out.2.2.2.2.2.2; omega
        clear hown5 hg5 hgl hO5 hO6 hr5 hA hal hs5 hrun hown6 hg6 hmv hw6 hM
        gi_wp2_with (gi_at_builtin; refine wpListIn_append_run rfl _ _ _ rfl _ _ _ _ rfl rfl HRUN.out ?_)
        have hrel : EachR w.heap.size h.pre J (due (st' ++ o.all.reverse)).length v' w6 := ⟨st' ++ o.all.reverse, pre ++ [((x1, x2), nn)], by rw [due_append, HH.out.1]; simp, rfl, H6.out.1, H6.out.2.1, H6.out.2.2.1, H6.out.2.2.2⟩
        go_roundw
        case rel => exact ⟨_, hrel⟩
        case measure =>
          refine Nat.lt_of_le_of_lt ((leastK_spec (R := fun k => EachR w.heap.size h.pre J k v' w6) hrel).2 _ hrel) ?_
          show _ < leastK fun k => EachR w.heap.size h.pre J k (Value.slice (some ⟨g, 0, none⟩) L cap) wr
          rw [HH.out.2.2.2.2.2.2.2.1, HH.out.2.1, due_append]
          simp

end Go.Proofs.YtlmokendajgbdaaGreatDoor.Bo
