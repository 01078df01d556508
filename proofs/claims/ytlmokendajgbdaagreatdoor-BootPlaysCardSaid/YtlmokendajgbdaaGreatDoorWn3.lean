/-
  What stands between two elements of a boot heap's text while it is made: the closure's counts, the builder's bytes, what has stayed; (*strings.Builder).Len. No conditions beyond what each theorem says.
-/
import Derived.Test.YtlmokendajgbdaaGreatDoorWn1
import Derived.Test.YtlmokendajgbdaaGreatDoorWn2
import Derived.Test.YtlmokendajgbdaaGreatDoorBld
import Derived.Test.YtlmokendajgbdaaGreatDoorMc
namespace Go.Proofs.YtlmokendajgbdaaGreatDoor.Bo
open Go.Sort Go.RowKit Go.Proofs.YtlmokendajgbdaaGreatDoor.Gn

theorem len_any (base g : Nat) (l : List UInt8) (w : World) (h : Bld base g l w) : Calls Tryz.prog 51 #[.pointer (some ⟨g, 0, none⟩)] w fun e w' => e = .returned (.int .i64 (l.length : Nat)) ∧ w' = w := by
  have key : ∀ p : Value, Lib.BuilderAtF 106 5 base g p (Lib.byteCells l) w → ∃ v, w.cell? ⟨g, 1, none⟩ = some v ∧ (v = .slice none l.length 0 ∨ ∃ g' c, v = .slice (some ⟨g', 0, none⟩) l.length c) := by
    rintro p ⟨hB, v, hh, hown, -⟩
    refine ⟨v, by simp [World.cell?, hh], ?_⟩
    rcases hown.2 with ⟨rfl, hn⟩ | ⟨g', cap, cur, fz, rfl, -⟩
    · rw [Lib.byteCells_length] at hn
      exact .inl (by rw [hn])
    · exact .inr ⟨g', cap, by rw [Lib.byteCells_length]⟩
  obtain ⟨v, c1, hv⟩ : ∃ v, w.cell? ⟨g, 1, none⟩ = some v ∧ (v = .slice none l.length 0 ∨ ∃ g' c, v = .slice (some ⟨g', 0, none⟩) l.length c) := by
    rcases h with h | h <;> exact key _ h
  clear h key
  obtain ⟨n, hn⟩ : ∃ n, n = l.length := ⟨_, rfl⟩
  rw [← hn] at hv ⊢
  clear hn
  rcases hv with rfl | ⟨g', c, rfl⟩
  · go_enter Tryz.func51, Tryz.ntmps51
    go_wp2
    go_ret
    exact ⟨rfl, rfl⟩
  · go_enter Tryz.func51, Tryz.ntmps51
    go_wp2
    go_ret
    exact ⟨rfl, rfl⟩
theorem repeat_any (e : Nat) (he : e < 1073741824) (w : World) : Calls Tryz.prog 54 #[.string ⟨#[93]⟩, .int .i64 (e : Int)] w fun r w' => r = .returned (.string ⟨(List.replicate e (93 : UInt8)).toArray⟩) ∧ Below w.heap.size w w' :=
  (Tryz.strings_Repeat ⟨#[93]⟩ e w (by omega) (by show 1 * e ≤ _; omega)).mono fun _ _ ⟨hr, hb⟩ => ⟨by
    rw [hr, show (⟨#[93]⟩ : ByteArray).data.toList = List.replicate 1 93 from rfl, Lib.repeatL_replicate, Nat.mul_one], hb⟩

theorem string_k (g : Nat) (l : List UInt8) (w : World) (h : Bld g g l w) (hb : g ≤ w.heap.size) : Calls Tryz.prog 55 #[.pointer (some ⟨g, 0, none⟩)] w fun e w' => e = .returned (.string ⟨l.toArray⟩) ∧ Below g w w' ∧ ∀ (k : Nat) (o : Obj), w.heap[k]? = some o → o.isCells = false → w'.heap[k]? = some o :=
  (Any.Builder_String_any_k Tryz.lays169 Tryz.Builder_Extra_169 g g l w h hb).mono fun _ _ ⟨he, _, hw, ho⟩ => ⟨he, hw, fun k o hk hc => ho k o hk (fun e => by injection e with e; subst e; obtain ⟨-, cs, hg⟩ := h.block; rw [hg] at hk; cases hk; cases hc) (fun c fz e => by subst e; cases hc)⟩
theorem sep_len (o : List UInt8) : (sep o).length ≤ 1 := by unfold sep; split <;> simp
/-- All blocks of cells stay, but for rows of heaps. -/
def Cst (W W' : World) : Prop := ∀ (k : Nat) (cs : Array Value) (t : TypeId) (z : Nat × Nat), W.heap[k]? = some (.cells cs t z) → t ≠ 27 → W'.heap[k]? = some (.cells cs t z)
theorem bld_kept {base g : Nat} {l : List UInt8} {w w' : World} (h : Bld base g l w) (hk : ∀ (k : Nat) (cs : Array Value) (t : TypeId) (z : Nat × Nat), w.heap[k]? = some (.cells cs t z) → t = 106 ∨ t = 5 → w'.heap[k]? = some (.cells cs t z)) : Bld base g l w' := by
  have key : ∀ p : Value, Lib.BuilderAtF 106 5 base g p (Lib.byteCells l) w → Lib.BuilderAtF 106 5 base g p (Lib.byteCells l) w' := by
    rintro p ⟨hB, v, hh, ⟨h1, h2⟩, hne⟩
    refine ⟨hB, v, hk _ _ _ _ hh (.inl rfl), ⟨h1, ?_⟩, hne⟩
    rcases h2 with hn | ⟨g', cap, cur, fz, e, hb, hg, r⟩
    · exact .inl hn
    · exact .inr ⟨g', cap, cur, fz, e, hb, hk _ _ _ _ hg (.inr rfl), r⟩
  exact h.imp (key _) (key _)
theorem cn_kept {base bt be t : Nat} {E : List Nat} {w w' : World} (h : Cn w base bt be t E) (hk : ∀ (k : Nat) (cs : Array Value) (t : TypeId), w.heap[k]? = some (.cells cs t (0, 0)) → IntT t → w'.heap[k]? = some (.cells cs t (0, 0))) : Cn w' base bt be t E := by
  obtain ⟨tt, ⟨v, bV, h1, h2⟩, te, eb⟩ := h
  refine ⟨hk _ _ _ tt (.inl rfl), ⟨v, hk _ _ _ bV (.inr rfl), h1, ?_⟩, te, eb⟩
  rcases h2 with hn | ⟨g', cap, cur, e, hb, hg, r⟩
  · exact .inl hn
  · exact .inr ⟨g', cap, cur, e, hb, hk _ _ _ hg (.inl rfl), r⟩
/-- What stands between two rounds of Show. -/
structure Sv (w0 : World) (base bt be g en : Nat) (c : Cnt) (W : World) : Prop where
  cn : Cn W base bt be c.t c.E
  bl : Bld g g c.o W
  en : W.heap[en]? = some (.cells #[endV bt be] 57 (0, 0))
  low : Below w0.heap.size w0 W
  sz : base ≤ W.heap.size
  gw : w0.heap.size ≤ g ∧ w0.heap.size ≤ bt ∧ g < W.heap.size
section
variable {w0 W W' : World} {base bt be g en : Nat} {c : Cnt}
theorem Sv.kept (h : Sv w0 base bt be g en c W) (hc : Cst W W') (hb : Below w0.heap.size w0 W') (hs : W.heap.size ≤ W'.heap.size) : Sv w0 base bt be g en c W' :=
  ⟨cn_kept h.cn fun k cs t e ht => hc _ _ _ _ e (by rcases ht with rfl | rfl <;> decide), bld_kept h.bl fun k cs t z e ht => hc _ _ _ _ e (by rcases ht with rfl | rfl <;> decide), hc _ _ _ _ h.en (by decide), hb, Nat.le_trans h.sz hs, h.gw.1, h.gw.2.1, Nat.lt_of_lt_of_le h.gw.2.2 hs⟩
theorem Sv.stay (h : Sv w0 base bt be g en c W) (hb : Below W.heap.size W W') : Sv w0 base bt be g en c W' :=
  h.kept (fun k _ _ _ e _ => (hb.block k (lt_of_heap e)).trans e) (h.low.trans (hb.mono h.low.size)) hb.size
theorem Sv.own (B : Nat) (hB : w0.heap.size ≤ B) (f : List Pr → Cnt) : OwnFrom B (fun pre W => Sv w0 base bt be g en (f pre) W) := by
  intro s A C row h hg hr
  refine h.kept (fun k cs t z e _ => (hg.block k (lt_of_heap e) fun er => ?_).trans e) (h.low.grown hg h.low.size (fun r e => Nat.le_trans hB (hr r e).1)) hg.size
  obtain ⟨-, o, ho, hc⟩ := hr k er.symm
  rw [e] at ho; cases ho; cases hc
theorem Sv.mv {B : Nat} (hB : w0.heap.size ≤ B) (h : Sv w0 base bt be g en c W) (hm : Mv B PtrT W W') (hs : B ≤ W.heap.size) : Sv w0 base bt be g en c W' :=
  h.kept (fun _ _ _ _ e ht => hm.cells e ht) (h.low.trans ((hm.bel hs).mono hB)) hm.size
/-- The closure was asked. -/
theorem Sv.asked (h : Sv w0 base bt be g en c W) {t' : Nat} {E' : List Nat} (hc : Cn W' base bt be t' E') (hm : Mv bt IntT W W') : Sv w0 base bt be g en ⟨t', E', c.o⟩ W' := by
  have hbs : bt ≤ W.heap.size := Nat.le_trans (Nat.le_of_lt (Nat.lt_trans h.cn.te h.cn.eb)) h.sz
  refine ⟨hc, bld_kept h.bl fun k cs t z e ht => hm.cells e fun hi => ?_, hm.cells h.en fun hi => ?_, h.low.trans ((hm.bel hbs).mono h.gw.2.1), Nat.le_trans h.sz hm.size, h.gw.1, h.gw.2.1, Nat.lt_of_lt_of_le h.gw.2.2 hm.size⟩
  · rcases ht with rfl | rfl <;> exact absurd hi (by unfold IntT; decide)
  · exact absurd hi (by unfold IntT; decide)
/-- The builder was written. -/
theorem Sv.wrote (h : Sv w0 base bt be g en c W) {l : List UInt8} (hb : Bld g g l W') (hw : Wrote g g W W') : Sv w0 base bt be g en ⟨c.t, c.E, l⟩ W' := by
  obtain ⟨-, cs, hg⟩ := h.bl.block
  have key : ∀ (k : Nat) (cs' : Array Value) (t : TypeId) (z : Nat × Nat), W.heap[k]? = some (.cells cs' t z) → t ≠ 106 → t ≠ 5 → W'.heap[k]? = some (.cells cs' t z) := fun k cs' t z e h1 h2 => hw.heap e (fun ek => by subst ek; rw [hg] at e; cases e; exact h1 rfl) h2
  exact ⟨cn_kept h.cn fun k cs' t e ht => key _ _ _ _ e (by rcases ht with rfl | rfl <;> decide) (by rcases ht with rfl | rfl <;> decide), hb, key _ _ _ _ h.en (by decide) (by decide), h.low.trans (hw.below.mono h.gw.1), Nat.le_trans h.sz hw.below.size, h.gw.1, h.gw.2.1, Nat.lt_of_lt_of_le h.gw.2.2 hw.below.size⟩
end
/-- What a round keeps for the loop and the iterator. -/
structure Pg (B : Nat) (W W' : World) : Prop where
  k : KeepsFrom B W W'
  n : Kpt KeepT W W'
section
variable {B : Nat} {U W W' : World}
theorem Pg.refl (B : Nat) (W : World) : Pg B W W := ⟨KeepsFrom.refl B W, Kpt.refl W⟩
theorem Pg.trans (h : Pg B U W) (k : Pg B W W') : Pg B U W' := ⟨h.k.trans k.k, h.n.trans k.n⟩
theorem Pg.below (h : Below W.heap.size W W') : Pg B W W' := ⟨⟨h.size, fun k _ _ hk _ => (h.block k (Array.getElem?_eq_some_iff.1 hk).1).trans hk⟩, Kpt.below h⟩
theorem Pg.mv {base : Nat} (h : Mv base IntT W W') : Pg B W W' :=
  ⟨⟨h.size, fun k o _ hk ho => (h.block k (Array.getElem?_eq_some_iff.1 hk).1 (.inr fun cs t z e => by rw [hk] at e; cases e; cases ho)).trans hk⟩, fun k cs t ht e => h.cells e fun hi => by
    rcases hi with rfl | rfl <;> exact absurd ht (by unfold KeepT NodeT Hp.NodeT TreeT; decide)⟩
theorem Pg.wrote {g : Nat} {l : List UInt8} (hb : Bld g g l W) (h : Wrote g g W W') : Pg B W W' := by
  obtain ⟨-, cs, hg⟩ := hb.block
  refine ⟨⟨h.below.size, fun k o _ hk ho => h.others k o hk (fun e => by cases e; rw [hg] at hk; cases hk; cases ho) (fun c fz e => by subst e; cases ho)⟩, fun k cs' t ht e => h.heap e (fun ek => ?_) (fun et => ?_)⟩
  · subst ek; rw [hg] at e; cases e; exact absurd ht (by unfold KeepT NodeT Hp.NodeT TreeT; decide)
  · subst et; exact absurd ht (by unfold KeepT NodeT Hp.NodeT TreeT; decide)
end

end Go.Proofs.YtlmokendajgbdaaGreatDoor.Bo
