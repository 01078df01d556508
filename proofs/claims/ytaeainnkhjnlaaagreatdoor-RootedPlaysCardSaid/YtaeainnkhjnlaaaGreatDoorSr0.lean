/-
  The slice of all of the reference's heaps (slagheapref09; one cell a thing): what keeps it, what stands at a place, one heap more; a variable of one. No conditions beyond what each theorem says.
-/
import Derived.Test.YtaeainnkhjnlaaaGreatDoorTge
import Derived.Test.YtaeainnkhjnlaaaGreatDoorTgg
namespace Go.Proofs.YtaeainnkhjnlaaaGreatDoor
open Go.Sort Go.RowKit

/-- Blocks that are not the slice's, nor the meter's, nor one of two variables. -/
def Fq (gv mb b b' : Nat) (k : Nat) : Prop := k ≠ gv ∧ k ≠ mb ∧ k ≠ b ∧ k ≠ b'
section
variable {F F' : Nat → Prop} {W W' : World} {l : List Tre} {A : Option Addr} {n c gv mb b b' base : Nat} {v : Value} {ts : List (List Tre)} {cm mm : Int}
theorem HAt.weak (h : HAt F W l A n c) (hf : ∀ k, k < W.heap.size → F k → F' k) : HAt F' W l A n c := h.far ⟨fun _ _ _ => rfl, hf⟩
theorem HAt.but {x : Nat} (h : HAt F W l A n c) (hx : ¬ F x) (hk : ∀ k, k ≠ x → W'.heap[k]? = W.heap[k]?) : HAt F W' l A n c := h.far ⟨fun k _ hf => hk k (fun e => hx (e ▸ hf)), fun _ _ hf => hf⟩
theorem HAt.bt (h : HAt (Fq gv mb b b') W l A n c) (hb : Bt (some mb) W W') (_ : MAt W (some mb) cm mm) : HAt (Fq gv mb b b') W' l A n c :=
  h.far ⟨fun k hk hf => hb.block k hk (fun e => by injection e with e; exact hf.2.1 e.symm), fun _ _ hf => hf⟩
/-- The slice of the reference's heaps. -/
def WCol (F : Nat → Prop) (W : World) (base : Nat) (v : Value) (ts : List (List Tre)) : Prop :=
  Col (fun x : Option Addr × Nat × Nat => .slice x.1 x.2.1 x.2.2) 35 (fun W x t => HAt F W t x.1 x.2.1 x.2.2) W base v ts
theorem Col.conv {α τ : Type} {one : α → Value} {e : TypeId} {at_ at2 : World → α → τ → Prop} {ts : List τ} (h : Col one e at_ W base v ts) (hk : ∀ (g : Nat) (cur : Array Value), v.ownBlock = some g → W.heap[g]? = some (.cells cur e (0, 0)) → W'.heap[g]? = W.heap[g]?) (hat : ∀ x t, at_ W x t → at2 W' x t) : Col one e at2 W' base v ts := by
  obtain ⟨xs, hm, hl, ha⟩ := h
  refine ⟨xs, ⟨hm.1, ?_⟩, hl, fun j t ht => ?_⟩
  · rcases hm.2 with hn | ⟨g, cap, cur, rfl, hg1, hg, rest⟩
    · exact .inl hn
    · exact .inr ⟨g, cap, cur, rfl, hg1, (hk g cur rfl hg).trans hg, rest⟩
  · obtain ⟨x, h1, h2⟩ := ha j t ht
    exact ⟨x, h1, hat x t h2⟩
theorem WCol.keep (h : WCol F W base v ts) (hk : ∀ (g : Nat) (cur : Array Value), v.ownBlock = some g → W.heap[g]? = some (.cells cur 35 (0, 0)) → W'.heap[g]? = W.heap[g]?) (hf : ∀ (t : List Tre) (A : Option Addr) (n c : Nat), HAt F W t A n c → HAt F' W' t A n c) : WCol F' W' base v ts :=
  Col.conv h hk (fun x t hx => hf t x.1 x.2.1 x.2.2 hx)
theorem WCol.bt (h : WCol (Fq gv mb b b') W base v ts) (hb : Bt (some mb) W W') (hm : MAt W (some mb) cm mm) : WCol (Fq gv mb b b') W' base v ts :=
  h.keep (fun _ _ _ hg => (hb.row hm hg (by decide)).trans hg.symm) (fun _ _ _ _ hr => hr.bt hb hm)
theorem WCol.at {g k j : Nat} {t : List Tre} (h : WCol F W base (.slice (some ⟨g, 0, none⟩) n k) ts) (ht : ts[j]? = some t) : ∃ (A : Option Addr) (m c : Nat), BCell W g 35 j (.slice A m c) ∧ HAt F W t A m c := by
  obtain ⟨⟨A, m, c⟩, h1, h2⟩ := Col.cell h ht
  exact ⟨A, m, c, h1, h2⟩
end
theorem WCol.first (F : Nat → Prop) (W : World) (base : Nat) (hb : base ≤ W.heap.size) : WCol F (W.alloc (.cells #[.slice none 0 0] 35)) base (.slice (some ⟨W.heap.size, 0, none⟩) 1 1) [[]] :=
  Col.first (fun x : Option Addr × Nat × Nat => .slice x.1 x.2.1 x.2.2) 35 (fun W x t => HAt F W t x.1 x.2.1 x.2.2) W base hb (none, 0, 0) [] (HAt.nil _ _ _)
end Go.Proofs.YtaeainnkhjnlaaaGreatDoor
