/-
  Acts of layer 3's statement: what a slice of them holds.
-/
import Derived.Test.YtanhlnhdmkfbfaaMem
namespace Go.Proofs.Ytanhlnhdmkfbfaa
open Go.Sort Go.RowKit

/-- An act: its kind, at which list, to which list, a number. -/
structure Act4 where
  k : Nat
  a : Nat
  t : Nat
  x : Int
deriving Inhabited

/-- The slice at A reads as n acts. -/
def ActRow4 (w : World) (A : Option Addr) (n : Nat) (X : Nat → Act4) : Prop :=
  0 < n → ∃ b o, A = some ⟨b, o, none⟩ ∧ ∀ i, i < n → w.cell? ⟨b, o + i * 4, none⟩ = some (.int .u8 (X i).k) ∧ w.cell? ⟨b, o + i * 4 + 1, none⟩ = some (.int .u8 (X i).a) ∧ w.cell? ⟨b, o + i * 4 + 2, none⟩ = some (.int .u8 (X i).t) ∧ w.cell? ⟨b, o + i * 4 + 3, none⟩ = some (.int .i64 (X i).x)

end Go.Proofs.Ytanhlnhdmkfbfaa
