/-
  Contracts of a binomial heap's list (Drop, Rest, Of, Join, All), of the place of its least root and of Min: which heap, which element, how many comparisons the meter counts, that what was there stays but for the meter's block. Conditions: counts below 2 to the 60th.
-/
import Derived.Test.YtkilmflcgljgeaaDoorHb4
import Derived.Deep.LoopGhost
namespace Go.Proofs.YtkilmflcgljgeaaDoor.Hp
open Go.Sort Go.RowKit

theorem bSize_app : ∀ a b : List Tre, bSize (a ++ b) = bSize a + bSize b
  | [], b => by simp [bSize]
  | t :: r, b => by simp only [List.cons_append, bSize, bSize_app r b]; omega
theorem bSize_drop_le (l : List Tre) (i : Nat) : bSize (l.drop i) ≤ bSize l := by
  conv => rhs; rw [← List.take_append_drop i l]
  rw [bSize_app]; omega
theorem sub_ok {us ts : List Tre} (h : bOk ts) (hs : us.Sublist ts) : bOk us := ⟨fun u hu => h.hok u (hs.subset hu), fun u hu => h.bin u (hs.subset hu), h.rise.sublist hs⟩

section
variable {w : World} {ts us : List Tre} {p q : HP}
theorem drop_h (h : LAt w ⟨ts⟩ p) (k : Nat) (hk : k < 2147483648) : Calls Tryd.prog 49 #[hp p, .int .i64 (k : Int)] w fun e w' => ∃ p' : HP, e = .returned (.agg #[.pointer p'.q, .int .i64 p'.n]) ∧ LAt w' ⟨ts.drop k⟩ p' ∧ Below w.heap.size w w' := by
  have hs := h.small
  have hok : bOk ts := h.right
  obtain ⟨ps, n, hn, hnl, hl, ht⟩ := h.list
  obtain ⟨q0, pn⟩ := p
  change pn = (n : Int) at hn
  subst hn
  refine (Lt.drop_l (k : Int) hl (by omega) (by omega)).mono fun e w' ⟨q', n', he, hl', hb⟩ => ⟨⟨q', (n' : Int)⟩, he, ?_, hb⟩
  rw [show (k : Int).toNat = k from rfl] at hl'
  exact LAt.of hl' ((ht.drop k).kp (Kpt.below hb)) (Nat.lt_of_le_of_lt (bSize_drop_le ts k) hs) (sub_ok hok (List.drop_sublist k ts))
theorem restL_h (h : LAt w ⟨ts⟩ p) : Calls Tryd.prog 53 #[hp p] w fun e w' => ∃ p' : HP, e = .returned (.agg #[.pointer p'.q, .int .i64 p'.n]) ∧ LAt w' ⟨ts.tail⟩ p' ∧ Below w.heap.size w w' := by
  have hs := h.small
  have hok : bOk ts := h.right
  obtain ⟨ps, n, hn, hnl, hl, ht⟩ := h.list
  obtain ⟨q0, pn⟩ := p
  change pn = (n : Int) at hn
  subst hn
  refine (Lt.rest_l hl).mono fun e w' ⟨q', n', he, hl', hb⟩ => ⟨⟨q', (n' : Int)⟩, he, ?_, hb⟩
  refine LAt.of hl' (ht.tail.kp (Kpt.below hb)) ?_ (sub_ok hok (List.tail_sublist ts))
  rw [← List.drop_one]
  exact Nat.lt_of_le_of_lt (bSize_drop_le ts 1) hs
theorem of_h {A : Option Addr} {n c : Nat} {ps : List (Option Addr)} (hr : Row1 Lt.one w A ps) (ht : TsAt w ts ps) (hn : n = ts.length) (hs : bSize ts < 268435456) (hok : bOk ts) : Calls Tryd.prog 50 #[.slice A n c] w fun e w' => ∃ p' : HP, e = .returned (.agg #[.pointer p'.q, .int .i64 p'.n]) ∧ LAt w' ⟨ts⟩ p' ∧ Below w.heap.size w w' := by
  have hl := len_bSize ts
  refine (Lt.of_l (hn.trans ht.length.symm) hr (by omega)).mono fun e w' ⟨q', n', he, hl', hb⟩ => ⟨⟨q', (n' : Int)⟩, he, ?_, hb⟩
  exact LAt.of hl' (ht.kp (Kpt.below hb)) hs hok
theorem join_h (h : LAt w ⟨ts⟩ p) (h' : LAt w ⟨us⟩ q) (hs : bSize (ts ++ us) < 268435456) (hok : bOk (ts ++ us)) : Calls Tryd.prog 52 #[hp p, hp q] w fun e w' => ∃ p' : HP, e = .returned (.agg #[.pointer p'.q, .int .i64 p'.n]) ∧ LAt w' ⟨ts ++ us⟩ p' ∧ Below w.heap.size w w' := by
  have g1 := h.len
  have g2 := h'.len
  change ts.length < _ at g1
  change us.length < _ at g2
  obtain ⟨ps, n, hn, hnl, hl, ht⟩ := h.list
  obtain ⟨ps', n', hn', hnl', hl', ht'⟩ := h'.list
  obtain ⟨q0, pn⟩ := p
  obtain ⟨q1, pn'⟩ := q
  change pn = (n : Int) at hn
  change pn' = (n' : Int) at hn'
  change n = ts.length at hnl
  change n' = us.length at hnl'
  subst hn
  subst hn'
  refine (Lt.join_l hl hl' (by omega)).mono fun e w' ⟨q', m', he, hl2, hb⟩ => ⟨⟨q', (m' : Int)⟩, he, ?_, hb⟩
  exact LAt.of hl2 ((ht.append ht').kp (Kpt.below hb)) hs hok
end

/-- Addresses of trees in a slice of the call's own, wherever only a meter's block turns. -/
structure TRow (mo : Option Nat) (W : World) (ts : List Tre) (A : Option Addr) (n c : Nat) : Prop where
  ex : ∃ ps, Row1 Lt.one W A ps ∧ TsAt W ts ps
  len : n = ts.length
  cap : n ≤ c
  apart : ∀ b, mo = some b → ∀ a, A = some a → a.block ≠ b
section
variable {mo : Option Nat} {cc m : Int} {W W' : World} {ts : List Tre} {A : Option Addr} {n c : Nat}
theorem TRow.bt (h : TRow mo W ts A n c) (hb : Bt mo W W') (hm : MAt W mo cc m) : TRow mo W' ts A n c := by
  obtain ⟨ps, hr, ht⟩ := h.ex
  exact ⟨⟨ps, fun h0 => (hr h0).imp fun b hb1 => hb1.imp fun o ho => ⟨ho.1, fun j hj => hb.cell (ho.2 j hj) (fun mb e => h.apart mb e ⟨b, o, none⟩ ho.1)⟩, ht.bt hb hm⟩, h.len, h.cap, h.apart⟩
theorem TRow.stay (h : TRow mo W ts A n c) (hb : Below W.heap.size W W') : TRow mo W' ts A n c := by
  obtain ⟨ps, hr, ht⟩ := h.ex
  exact ⟨⟨ps, hr.stay hb, ht.kp (Kpt.below hb)⟩, h.len, h.cap, h.apart⟩
theorem TRow.set2 (h : TRow mo W ts A n c) {b : Nat} {t : TypeId} {x y : Value} (hne : ∀ a, A = some a → a.block ≠ b) (hx : Box2 W b t x y) (ht : ¬ NodeT t) (u v : Value) : TRow mo ((W.setCell ⟨b, 0, Option.none⟩ u).setCell ⟨b, 1, Option.none⟩ v) ts A n c := by
  obtain ⟨ps, hr, hts⟩ := h.ex
  exact ⟨⟨ps, fun h0 => (hr h0).imp fun b' hb1 => hb1.imp fun o ho => ⟨ho.1, fun j hj => cell_aside (hne ⟨b', o, none⟩ ho.1) (ho.2 j hj) u v⟩, hts.set2 hx ht u v⟩, h.len, h.cap, h.apart⟩
/-- The j-th one. -/
theorem TRow.at (h : TRow mo W ts A n c) {j : Nat} (hj : j < n) : ∃ b o p, A = some ⟨b, o, none⟩ ∧ W.cell? ⟨b, o + j, none⟩ = some (.pointer p) ∧ TAt W p (some (ts[j]'(h.len ▸ hj))) := by
  obtain ⟨ps, hr, ht⟩ := h.ex
  have hl := ht.length
  obtain ⟨p, hp, hta⟩ := ht.at (List.getElem?_eq_getElem (h.len ▸ hj))
  obtain ⟨b, o, rfl⟩ := row_some hr (by have := h.len; omega)
  exact ⟨b, o, p, rfl, row_ptr hr hp, hta⟩
/-- The first ones. -/
theorem TRow.take (h : TRow mo W ts A n c) (k : Nat) : ∃ ps, Row1 Lt.one W A ps ∧ TsAt W (ts.take k) ps := by
  obtain ⟨ps, hr, ht⟩ := h.ex
  refine ⟨ps.take k, fun h0 => ?_, ht.take k⟩
  rw [List.length_take] at h0
  obtain ⟨b, o, e, hc⟩ := hr (by omega)
  refine ⟨b, o, e, fun j hj => ?_⟩
  rw [List.length_take] at hj
  rw [List.getElem_take]
  exact hc j (by omega)
end
theorem all_h {mo : Option Nat} {cc m : Int} {ts : List Tre} {p : HP} {w : World} (h : LAt w ⟨ts⟩ p) (hm : MAt w mo cc m) : Calls Tryd.prog 51 #[hp p] w fun e w' => ∃ (A : Option Addr) (n c : Nat), e = .returned (.slice A n c) ∧ TRow mo w' ts A n c ∧ (∀ a, A = some a → w.heap.size ≤ a.block) ∧ Below w.heap.size w w' := by
  obtain ⟨ps, n, hn, hnl, hl, ht⟩ := h.list
  obtain ⟨q0, pn⟩ := p
  change pn = (n : Int) at hn
  subst hn
  refine (Lt.all_l hl).mono fun e w' ⟨A, c, he, hmi, hr, hc, hb⟩ => ⟨A, n, c, he, ⟨⟨ps, hr, ht.kp (Kpt.below hb)⟩, hnl, hc, fun b e a ea => ?_⟩, fun a ea => by subst ea; exact Mine.block hmi a.block rfl, hb⟩
  subst e
  subst ea
  have h1 := Mine.block hmi a.block rfl
  have h2 := hm.lt
  omega

theorem leastK_step (l : List Tre) {i : Nat} (h : 0 < i) : leastK l i = if ltE (rootAt l i) (rootAt l (leastK l (i - 1))) = true then i else leastK l (i - 1) := by
  obtain ⟨j, rfl⟩ : ∃ j, i = j + 1 := ⟨i - 1, by omega⟩
  rfl

set_option maxRecDepth 100000 in
set_option maxHeartbeats 4000000 in
theorem place_any (mo : Option Nat) (c m : Int) (t : Lh) (p : HP) (w : World) (hm : MAt w mo c m) (h0 : 0 ≤ c) (h1 : c < 1152921504606846976) (h : LAt w t p) :
    Calls Tryd.prog 48 #[hp p, mAddr mo] w fun e w' => e = .returned (.int .i64 (leastI t.ts : Nat)) ∧ MAt w' mo (c + t.tellN) m ∧ Bt mo w w' := by
  obtain ⟨ts⟩ := t
  have hlen := h.len
  change ts.length < _ at hlen
  have hb1 : Below w.heap.size w ((w.alloc (.cells #[.pointer p.q, .int .i64 p.n] 31)).alloc (.cells #[.int .i64 0, .int .i64 0] 38)) := ((Below.refl _ w).alloc (Nat.le_refl _) _).alloc (by simp) _
  have bE := Box2.new (w.alloc (.cells #[.pointer p.q, .int .i64 p.n] 31)) 38 (.int .i64 0) (.int .i64 0)
  simp only [World.size_alloc] at bE
  have H := Lib.hid (And.intro (h.stay hb1) (And.intro (Bt.ofBelow (mo := mo) hb1) (And.intro (hm.stay hb1) (And.intro bE (And.intro h0 (And.intro h1 hlen))))))
  clear h hm hb1 bE h0 h1 hlen
  go_enter Tryd.func48, Tryd.ntmps48
  go_wp2_with fail
  generalize (w.alloc (.cells #[.pointer p.q, .int .i64 p.n] 31)).alloc (.cells #[.int .i64 0, .int .i64 0] 38) = w1 at *
  obtain ⟨b, hbe⟩ : ∃ b, b = w.heap.size + 1 := ⟨_, rfl⟩
  rw [← hbe] at H ⊢
  have HBE := Lib.hid (show w.heap.size ≤ b by omega)
  clear hbe
  ((with_reducible refine (all_h H.out.1 H.out.2.2.1).mono ?_); rintro e w2 ⟨A, n, ca, rfl, hr, hab, hb2⟩)
  have X := Lib.hid (And.intro hr (And.intro (H.out.2.1.trans (Bt.ofBelow hb2)) (And.intro (H.out.2.2.1.stay hb2) (H.out.2.2.2.1.stay hb2))))
  have hn : n = ts.length := hr.len
  have HN := Lib.hid hn
  have HAB := Lib.hid (show ∀ a, A = some a → a.block ≠ b from fun a ea => by have h1 := hab a ea; have h2 := H.out.2.2.2.1.lt; omega)
  clear hr hb2 hn hab
  go_wp2_with fail
  go_loopg [5, 15] n (fun k s iv wr => ∃ (i pl : Nat) (x : Int × Int), iv = .int .i64 (i : Int) ∧ s = .int .i64 (pl : Int) ∧ i + k = n ∧ Box2 wr b 38 (.int .i64 x.1) (.int .i64 x.2) ∧ (pl = leastK ts (i - 1)) ∧ (0 < i → x = rootAt ts pl) ∧ Bt mo w wr ∧ TRow mo wr ts A n ca ∧ MAt wr mo (c + ((i - 1 : Nat) : Int)) m)
  case atStart => exact ⟨0, 0, (0, 0), rfl, rfl, by omega, X.out.2.2.2, rfl, fun h => absurd h (by omega), X.out.2.1, X.out.1, by simpa using X.out.2.2.1⟩
  case round =>
    obtain ⟨i, pl, ⟨x1, x2⟩, rfl, rfl, hi, hbx, hpl, hx, hbt, htr, hm⟩ := hrel
    by_cases hlt : i < n
    · obtain ⟨bA, oA, pa, rfl, hcell, hta⟩ := htr.at hlt
      have g1 : decide ((i : Int) < (n : Int)) = true := by simp; omega
      have g2 : (i : Int) < (n : Int) := by omega
      have g3 : (0 : Int) ≤ (i : Int) := by omega
      have hil : i < ts.length := by have := HN.out; omega
      have hroot : rootAt ts i = (ts[i]).x := by unfold rootAt; rw [List.getElem?_eq_getElem hil]
      generalize ts[i] = u at *
      obtain ⟨⟨y1, y2⟩, ubs, uks⟩ := u
      have hw2 : IntKind.i64.wrap ((i : Int) + 1) = ((i + 1 : Nat) : Int) := by have := HN.out; have := H.out.2.2.2.2.2.2; rw [IntKind.wrap_i64]; omega
      have hw3 : wrap64 ((i : Int) + 1) = ((i + 1 : Nat) : Int) := by have := HN.out; have := H.out.2.2.2.2.2.2; unfold wrap64; omega
      have Y := Lib.hid (And.intro hi (And.intro hbx (And.intro hpl (And.intro hx (And.intro hbt (And.intro htr (And.intro hm (And.intro hta hroot))))))))
      clear hi hbx hpl hx hbt htr hm hta hil hroot
      go_wp2_with fail
      ((with_reducible refine (Go.Proofs.YtkilmflcgljgeaaDoor.root_any pa (some ⟨(y1, y2), ubs, uks⟩) _ Y.out.2.2.2.2.2.2.2.1).mono ?_); rintro e w3 ⟨rfl, hb3⟩)
      rw [show rootV (some ⟨(y1, y2), ubs, uks⟩) = .tuple #[el (y1, y2), .bool true] from rfl]
      have Z := Lib.hid (And.intro (Y.out.2.1.stay hb3) (And.intro (Y.out.2.2.2.2.1.trans (Bt.ofBelow hb3)) (And.intro (Y.out.2.2.2.2.2.1.stay hb3) (Y.out.2.2.2.2.2.2.1.stay hb3))))
      clear hb3 hcell
      have hA := (Below.refl w3.heap.size w3).alloc (Nat.le_refl _) (.cells #[.int .i64 y1, .int .i64 y2] 38)
      have B4 := Lib.hid (And.intro (Z.out.1.stay hA) (And.intro (Z.out.2.1.trans (Bt.ofBelow hA)) (And.intro (Z.out.2.2.1.stay hA) (And.intro (Z.out.2.2.2.stay hA) (And.intro (Box2.new w3 38 (.int .i64 y1) (.int .i64 y2)) (Nat.lt_of_lt_of_le Z.out.1.lt (Nat.le_refl _)))))))
      have k0 := B4.out.1.c0
      have k1 := B4.out.1.c1
      clear hA
      by_cases hi0 : i = 0
      · have e0 : ((i : Int) == 0) = true := by simp; omega
        have z0 := B4.out.1.z0
        have z1 := B4.out.1.z1
        have nz : ¬ w3.heap.size = b := by have := B4.out.2.2.2.2.2; omega
        have nz2 : ¬ b = w3.heap.size := by have := B4.out.2.2.2.2.2; omega
        subst hi0
        go_wp2_with fail
        go_region_held3 (fun w' => w'.cell? ⟨w3.heap.size, 0, none⟩ = some (.int .i64 y1) ∧ w'.cell? ⟨w3.heap.size, 1, none⟩ = some (.int .i64 y2)) (go_keep)
          (fail)
        go_wp2_with fail
        go_roundg (n - 1)
        case measure => have := Y.out.1; omega
        case rel => exact ⟨1, 0, (y1, y2), rfl, rfl, by have := Y.out.1; omega, (B4.out.1.set _ _).stay ((Below.refl _ _).drew), rfl, fun _ => Y.out.2.2.2.2.2.2.2.2.symm, ((B4.out.2.1.own HBE.out 0 _).own HBE.out 1 _).drew, (B4.out.2.2.1.set2 HAB.out B4.out.1 elemT_ne _ _).stay ((Below.refl _ _).drew), ((B4.out.2.2.2.1.other B4.out.1 (by decide) 0 _).other (B4.out.1.set0 _) (by decide) 1 _).drew⟩
      · have e0 : ((i : Int) == 0) = false := by simp; omega
        go_wp2_with fail
        ((with_reducible refine (mLess mo (c + ((i - 1 : Nat) : Int)) m (y1, y2) (x1, x2) _ B4.out.2.2.2.1 (by have := H.out; omega) (by have := H.out; have := HN.out; omega)).mono ?_); rintro e w5 ⟨rfl, hm5, hb5⟩)
        have B5 := Lib.hid (And.intro (B4.out.1.bt hb5 B4.out.2.2.2.1 (by decide)) (And.intro (B4.out.2.1.trans hb5) (And.intro (B4.out.2.2.1.bt hb5 B4.out.2.2.2.1) (And.intro (show MAt w5 mo (c + ((i + 1 - 1 : Nat) : Int)) m from by rw [show c + ((i + 1 - 1 : Nat) : Int) = c + ((i - 1 : Nat) : Int) + 1 by omega]; exact hm5) (B4.out.2.2.2.2.1.bt hb5 B4.out.2.2.2.1 (by decide))))))
        clear k0 k1 hm5 hb5
        cases hv : ltE (y1, y2) (x1, x2) with
        | true =>
          have k0 := B5.out.2.2.2.2.c0
          have k1 := B5.out.2.2.2.2.c1
          have z0 := B5.out.1.z0
          have z1 := B5.out.1.z1
          have z2 := B5.out.1.c0
          have z3 := B5.out.1.c1
          have nz : ¬ w3.heap.size = b := by have := B4.out.2.2.2.2.2; omega
          have nz2 : ¬ b = w3.heap.size := by have := B4.out.2.2.2.2.2; omega
          go_wp2_with fail
          go_region_held3 (fun w' => w'.cell? ⟨w3.heap.size, 0, none⟩ = some (.int .i64 y1) ∧ w'.cell? ⟨w3.heap.size, 1, none⟩ = some (.int .i64 y2)) (go_keep)
            (fail)
          go_wp2_with fail
          go_roundg (n - 1 - i)
          case measure => have := Y.out.1; omega
          case rel => exact ⟨i + 1, i, (y1, y2), rfl, rfl, by have := Y.out.1; omega, (B5.out.1.set _ _).stay ((Below.refl _ _).drew), by rw [show i + 1 - 1 = i from rfl, leastK_step ts (Nat.pos_of_ne_zero hi0), Y.out.2.2.2.2.2.2.2.2, ← Y.out.2.2.1, ← Y.out.2.2.2.1 (Nat.pos_of_ne_zero hi0), hv]; rfl, fun _ => Y.out.2.2.2.2.2.2.2.2.symm, ((B5.out.2.1.own HBE.out 0 _).own HBE.out 1 _).drew, (B5.out.2.2.1.set2 HAB.out B5.out.1 elemT_ne _ _).stay ((Below.refl _ _).drew), ((B5.out.2.2.2.1.other B5.out.1 (by decide) 0 _).other (B5.out.1.set0 _) (by decide) 1 _).drew⟩
        | false =>
          go_wp2_with fail
          go_roundg (n - 1 - i)
          case measure => have := Y.out.1; omega
          case rel => exact ⟨i + 1, pl, (x1, x2), rfl, rfl, by have := Y.out.1; omega, B5.out.1, by rw [show i + 1 - 1 = i from rfl, leastK_step ts (Nat.pos_of_ne_zero hi0), Y.out.2.2.2.2.2.2.2.2, ← Y.out.2.2.1, ← Y.out.2.2.2.1 (Nat.pos_of_ne_zero hi0), hv]; rfl, fun _ => Y.out.2.2.2.1 (Nat.pos_of_ne_zero hi0), B5.out.2.1, B5.out.2.2.1, B5.out.2.2.2.1⟩
    · have hin : i = n := by omega
      have g1 : decide ((i : Int) < (n : Int)) = false := by simp; omega
      have g2 : ¬ (i : Int) < (n : Int) := by omega
      have hfin : pl = leastI ts := by rw [hpl]; unfold leastI; rw [hin, HN.out]
      have hct : ((i - 1 : Nat) : Int) = ((Lh.mk ts).tellN : Nat) := by show _ = ((ts.length - 1 : Nat) : Int); rw [hin, HN.out]
      have Y := Lib.hid (And.intro hbt (show MAt wr mo (c + (Lh.mk ts).tellN) m from hct ▸ hm))
      clear hi hbx hpl hx hbt htr hm
      go_wp2_with fail
      go_ret
      exact ⟨by first | rfl | rw [hfin], Y.out.2, Y.out.1⟩

end Go.Proofs.YtkilmflcgljgeaaDoor.Hp
