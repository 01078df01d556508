/-
  A strings.Builder of the call's own, with the bytes it holds: WriteString and String, what they hand back, that every block below the builder, and every other block that holds no bytes, stays. Condition: fewer than 2 to the 47th bytes.
-/
import Derived.Test.YtlmokendajgbdaaGreatDoorBuild
import Derived.Test.YtlmokendajgbdaaGreatDoorShelf
import Derived.Test.YtlmokendajgbdaaGreatDoorMc
import Derived.Test.YtlmokendajgbdaaGreatDoorMb
import Derived.Shelf.Strings.BuilderK
namespace Go.Proofs.YtlmokendajgbdaaGreatDoor
open Go.Sort Go.RowKit

/-- A strings.Builder of the call's own, with the bytes l. -/
def Bld (base g : Nat) (l : List UInt8) (w : World) : Prop := Lib.IsBuilderF 106 5 base g (Lib.byteCells l) w
theorem builderAt_grown {base g : Nat} {p : Value} {bs : List Value} {w w' : World} {row : Option Nat} (h : Lib.BuilderAtF 106 5 base g p bs w) (hg : w.grownBy w' row)
    (hr : ∀ k, row = some k → ∃ cs t fz, w.heap[k]? = some (.cells cs t fz) ∧ t ≠ 106 ∧ t ≠ 5) : Lib.BuilderAtF 106 5 base g p bs w' := by
  obtain ⟨hB, v, hh, hown, hne⟩ := h
  refine ⟨hB, v, (hg.block g (lt_of_heap hh) (fun e => ?_)).trans hh, hown.kept hg ?_, hne⟩
  · obtain ⟨cs, t, fz, h1, h2, -⟩ := hr g e.symm
    rw [hh] at h1
    cases h1
    exact h2 rfl
  · cases hv : v.ownBlock with
    | none => exact .inl rfl
    | some k =>
      refine .inr (fun e => ?_)
      obtain ⟨cs, t, fz, h1, -, h3⟩ := hr k e.symm
      obtain ⟨c, f, h4⟩ := Lib.ownsRowF_kind hown k hv
      rw [h4] at h1
      cases h1
      exact h3 rfl
theorem Bld.grown {base g : Nat} {l : List UInt8} {w w' : World} {row : Option Nat} (h : Bld base g l w) (hg : w.grownBy w' row)
    (hr : ∀ k, row = some k → ∃ cs t fz, w.heap[k]? = some (.cells cs t fz) ∧ t ≠ 106 ∧ t ≠ 5) : Bld base g l w' := h.imp (builderAt_grown · hg hr) (builderAt_grown · hg hr)
theorem Bld.stay {base g : Nat} {l : List UInt8} {w w' : World} (h : Bld base g l w) (hb : Below w.heap.size w w') : Bld base g l w' :=
  h.grown (row := none) ⟨hb.os, hb.tape, hb.output, hb.size, fun k hk _ => hb.block k hk⟩ (fun k e => by cases e)
/-- The builder's own block. -/
theorem Bld.block {base g : Nat} {l : List UInt8} {w : World} (h : Bld base g l w) : base ≤ g ∧ ∃ cs, w.heap[g]? = some (.cells cs 106 (0, 0)) := by
  rcases h with ⟨hB, v, hh, -⟩ | ⟨hB, v, hh, -⟩ <;> exact ⟨hB, _, hh⟩
theorem newBuilder (w : World) : Bld w.heap.size w.heap.size [] (w.alloc (.cells #[.pointer none, .slice none 0 0] 106)) :=
  .inl ⟨Nat.le_refl _, .slice none 0 0, heap_alloc_new w _, World.ownsRowF_nil _ _ _ _, by simp [Value.ownBlock]⟩

/-- What a builder's call leaves: all below the builder, and every other block that holds no bytes. -/
structure Wrote (base g : Nat) (w w' : World) : Prop where
  below : Below base w w'
  others : Lib.OthersKept 5 (some g) w w'
theorem Wrote.heap {base g : Nat} {w w' : World} (h : Wrote base g w w') {k : Nat} {cs : Array Value} {t : TypeId} {z : Nat × Nat} (hk : w.heap[k]? = some (.cells cs t z)) (hg : k ≠ g) (ht : t ≠ 5) : w'.heap[k]? = some (.cells cs t z) :=
  h.others k _ hk (fun e => hg (by injection e)) (fun c fz e => ht (by injection e))
theorem Wrote.trans {base g : Nat} {u v w : World} (h : Wrote base g u v) (k : Wrote base g v w) : Wrote base g u w := ⟨h.below.trans k.below, h.others.trans k.others⟩

theorem write_any (base g : Nat) (l s : List UInt8) (w : World) (h : Bld base g l w) (hl : l.length + s.length ≤ 140737488355328) (hbw : base ≤ w.heap.size) :
    Calls Tryz.prog 52 #[.pointer (some ⟨g, 0, none⟩), .string ⟨s.toArray⟩] w fun e w' => ∃ v, e = .returned v ∧ Bld base g (l ++ s) w' ∧ Wrote base g w w' := by
  refine (Any.Builder_WriteString_k Tryz.lays166 Tryz.Builder_Extra_166 base g (Lib.byteCells l) ⟨s.toArray⟩ w h (by rw [Lib.byteCells_length]; simpa [ByteArray.size] using hl) hbw).mono fun e w' ⟨he, hB, hb, ho⟩ => ⟨_, he, ?_, hb, ho⟩
  rw [Lib.strCells_eq] at hB
  have e1 : Lib.byteCells l ++ Lib.byteCells (⟨s.toArray⟩ : ByteArray).data.toList = Lib.byteCells (l ++ s) := by rw [Lib.byteCells_append]
  rw [e1] at hB
  exact Or.inr hB
theorem writeB (base g : Nat) (l t : List UInt8) (s : ByteArray) (w : World) (hs : s = ⟨t.toArray⟩) (h : Bld base g l w) (hl : l.length + t.length ≤ 140737488355328) (hbw : base ≤ w.heap.size) :
    Calls Tryz.prog 52 #[.pointer (some ⟨g, 0, none⟩), .string s] w fun e w' => ∃ v, e = .returned v ∧ Bld base g (l ++ t) w' ∧ Wrote base g w w' := by
  rw [hs]; exact write_any base g l t w h hl hbw
theorem string_any (base g : Nat) (l : List UInt8) (w : World) (h : Bld base g l w) (hb : base ≤ w.heap.size) : Calls Tryz.prog 55 #[.pointer (some ⟨g, 0, none⟩)] w fun e w' => e = .returned (.string ⟨l.toArray⟩) ∧ Below base w w' :=
  (Any.Builder_String_any_f Tryz.lays169 Tryz.Builder_Extra_169 base g l w h hb).mono fun _ _ ⟨he, _, hw⟩ => ⟨he, hw⟩
theorem one_bytes (c : UInt8) (t : List UInt8) : (⟨#[c]⟩ : ByteArray) ++ ⟨t.toArray⟩ = ⟨(c :: t).toArray⟩ := append_bytes [c] t

end Go.Proofs.YtlmokendajgbdaaGreatDoor
