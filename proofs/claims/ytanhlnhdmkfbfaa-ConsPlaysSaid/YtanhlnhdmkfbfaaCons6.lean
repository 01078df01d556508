/-
  The contracts of package cons at ints in one form: a list's value is an address and a length; the list lies in memory. Condition: fewer than 2 to the 31st things.
-/
import Derived.Test.YtanhlnhdmkfbfaaCons3
import Derived.Test.YtanhlnhdmkfbfaaCons4
import Derived.Test.YtanhlnhdmkfbfaaCons5
namespace Go.Proofs.Ytanhlnhdmkfbfaa
open Go.Sort Go.RowKit

/-- From p on lies xs, of length n. -/
def LL (W : World) (p : Option Addr) (n : Nat) (xs : List El) : Prop := Ch one 57 W p xs ∧ n = xs.length ∧ n < 2147483648

theorem LL.stay {A B : World} {p : Option Addr} {n : Nat} {xs : List El} (h : LL A p n xs) (hb : Below A.heap.size A B) : LL B p n xs := ⟨h.1.stay hb, h.2⟩
theorem LL.alloc {A : World} {p : Option Addr} {n : Nat} {xs : List El} (h : LL A p n xs) (o : Obj) : LL (A.alloc o) p n xs := ⟨h.1.alloc o, h.2⟩
theorem LL.ch {A : World} {p : Option Addr} {n : Nat} {xs : List El} (h : LL A p n xs) : Ch one 57 A p xs := h.1
theorem LL.len {A : World} {p : Option Addr} {n : Nat} {xs : List El} (h : LL A p n xs) : n = xs.length := h.2.1
theorem LL.lt {A : World} {p : Option Addr} {n : Nat} {xs : List El} (h : LL A p n xs) : n < 2147483648 := h.2.2
theorem LL.none (A : World) : LL A Option.none 0 [] := ⟨Ch.none _, rfl, by decide⟩

/-- What a call hands back that makes a list. -/
def Gives (w : World) (xs : List El) (e : Ending) (w' : World) : Prop := ∃ q, ∃ n : Nat, e = .returned (lst q n) ∧ LL w' q n xs ∧ Below w.heap.size w w'

theorem push_l {w : World} {p : Option Addr} {n : Nat} {xs : List El} (x : El) (h : LL w p n xs) (hn : n + 1 < 2147483648) : Calls Try.prog 8 #[lst p n, one x] w (Gives w (x :: xs)) :=
  (push_any p xs n x w h.1 (by omega) (by omega)).mono fun e w' ⟨b, he, hc, hb⟩ => ⟨_, n + 1, by rw [he]; simp, ⟨hc, by rw [h.len]; simp, hn⟩, hb⟩
theorem rest_l {w : World} {p : Option Addr} {n : Nat} {xs : List El} (h : LL w p n xs) : Calls Try.prog 10 #[lst p n] w (Gives w xs.tail) :=
  (rest_any p xs n w h.1 h.len.symm h.lt).mono fun e w' ⟨q, he, hc, hb⟩ => ⟨q, n - 1, he, ⟨hc, by rw [h.len]; simp, by have := h.lt; omega⟩, hb⟩
theorem rev_l {w : World} {p : Option Addr} {n : Nat} {xs : List El} (h : LL w p n xs) : Calls Try.prog 12 #[lst p n] w (Gives w xs.reverse) :=
  (rev_any p xs n w h.1 (by rw [← h.len]; exact h.lt)).mono fun e w' ⟨q, he, hc, hb⟩ => ⟨q, n, by rw [he, h.len], ⟨hc, by rw [h.len]; simp, h.lt⟩, hb⟩
theorem join_l {w : World} {p q : Option Addr} {n k : Nat} {xs ys : List El} (h : LL w p n xs) (h' : LL w q k ys) (hk : n + k < 2147483648) : Calls Try.prog 14 #[lst p n, lst q k] w (Gives w (xs ++ ys)) :=
  (join_any p q xs ys n k w h.1 h'.1 (by omega) (by have := h'.lt; omega) (by rw [← h.len]; exact h.lt)).mono fun e w' ⟨r, he, hc, hb⟩ => ⟨r, n + k, by rw [he, ← h.len]; simp; omega, ⟨hc, by rw [h.len, h'.len]; simp, hk⟩, hb⟩
theorem drop_l {w : World} {p : Option Addr} {n : Nat} {xs : List El} (z : Int) (h : LL w p n xs) (h0 : -9223372036854775808 ≤ z) (h1 : z < 9223372036854775808) : Calls Try.prog 16 #[lst p n, .int .i64 z] w (Gives w (xs.drop z.toNat)) := by
  have := drop_any p xs z w h.1 (by rw [← h.len]; exact h.lt) h0 h1
  rw [← h.len] at this
  exact this.mono fun e w' ⟨q, he, hc, hb⟩ => ⟨q, n - z.toNat, he, ⟨hc, by rw [h.len]; simp, by have := h.lt; omega⟩, hb⟩
theorem of_l {w : World} {A : Option Addr} {n c : Nat} {xs : List El} (hn : n = xs.length) (hr : Row1 one w A xs) (h2 : n < 2147483648) : Calls Try.prog 7 #[.slice A n c] w (Gives w xs) :=
  (of_any A xs n c w hn hr (by omega)).mono fun e w' ⟨q, he, hc, hb⟩ => ⟨q, n, by rw [he, hn], ⟨hc, hn, h2⟩, hb⟩
theorem len_l {w : World} {p : Option Addr} {n : Nat} : Calls Try.prog 21 #[lst p n] w fun e w' => e = .returned (.int .i64 n) ∧ Below w.heap.size w w' := len_any p n w
/-- All: a row of its own, whose block is new. -/
theorem all_l {w : World} {p : Option Addr} {n : Nat} {xs : List El} (h : LL w p n xs) : Calls Try.prog 20 #[lst p n] w fun e w' =>
    ∃ A c, e = .returned (.slice A n c) ∧ Mine one 3 w' w.heap.size (.slice A n c) xs ∧ Row1 one w' A xs ∧ n ≤ c ∧ Below w.heap.size w w' := by
  have := all_any p xs w h.1 (by rw [← h.len]; exact h.lt)
  rw [← h.len] at this
  refine this.mono fun e w' ⟨v, he, hm, hb⟩ => ?_
  obtain ⟨A, c, rfl, hr, hc, -, -⟩ := hm.form
  rw [← h.len] at he hm hc
  exact ⟨A, c, he, hm, hr, hc, hb⟩

end Go.Proofs.Ytanhlnhdmkfbfaa
