/-
  Contracts of sync.Once's Do over late's order, and of inOrder: of a Late of any row of fewer than 2^30 elements: it is put in order the first time, and left alone ever after; nothing else that was there has changed.
-/
import Derived.Test.YtimffepggbaaaaaLate2
namespace Go.Proofs.Ytimffepggbaaaaa
open Go.Sort Go.RowKit

/-- The method value that Do is handed. -/
def orderOf (b : Nat) : Value := .func (.func 20) #[.pointer (some ⟨b, 0, none⟩)] #[]

/-- What Do leaves. -/
def Once1 (b : Nat) (l : List (Int × Int)) (w : World) (e : Ending) (w' : World) : Prop :=
  e = .returned (.tuple #[]) ∧ ∃ g, w.heap.size ≤ g ∧ g < w'.heap.size ∧ Blk w' b 1 0 (.slice (some ⟨g, 0, none⟩) l.length l.length) 1 ∧ Row w' (some ⟨g, 0, none⟩) (srt l) ∧ But b w w'

set_option maxRecDepth 100000 in
set_option maxHeartbeats 1600000 in
theorem slow_any (b : Nat) (A : Option Addr) (c : Nat) (l : List (Int × Int)) (w : World) (hk : Blk w b 0 0 (.slice A l.length c) 0) (hr : Row w A l) (hA : ∀ a, A = some a → a.block ≠ b) (hl : l.length < 1073741823) :
    Calls Try.prog 23 #[.pointer (some ⟨b, 0, none⟩), orderOf b] w (Once1 b l w) := by
  unfold orderOf
  have hnot : ∀ (x : Bool) (w : World), (Op.unary .not (.bool x)).run Try.prog w = .ok (.bool (!x)) w := fun _ _ => rfl
  have hk1 := hk.set1 1
  have hr1 := hr.but (But.set b 1 w (.int .i32 1)) hA
  have HLK := Lib.hid (once_lock ⟨b, 1, none⟩ w hk.c1 (hk.z 1))
  obtain ⟨w1, hw1⟩ : ∃ w1, w1 = w.setCell ⟨b, 1, none⟩ (.int .i32 1) := ⟨_, rfl⟩
  rw [← hw1] at hk1 hr1
  have hb1 : But b w w1 := by rw [hw1]; exact But.set b 1 w _
  have HLD := Lib.hid (once_load ⟨b, 0, none⟩ 0 w1 hk1.c0)
  have HOR := Lib.hid (order_any b A c l 0 1 0 w1 hk1 hr1 hl (by omega) (by omega))
  have H1 := Lib.hid (And.intro hw1 (And.intro hb1 hk1.lt))
  clear hk hr hl hk1 hr1 hw1 hb1
  go_enter_defers Try.func23, Try.ntmps23
  go_wp2_with fail
  ((with_reducible refine HLK.out.mono ?_); rintro e w' ⟨rfl, rfl⟩)
  rw [← H1.out.1]
  go_wp2_with fail
  ((with_reducible refine HLD.out.mono ?_); rintro e w' ⟨rfl, rfl⟩)
  go_wp2_with fail
  ((with_reducible refine HOR.out.mono ?_); rintro e w2 ⟨rfl, g, hg0, hg1, hk2, hr2, hb2⟩)
  have H2 := Lib.hid (And.intro hg0 (And.intro hg1 (And.intro hk2 (And.intro hr2 hb2))))
  clear hg0 hg1 hk2 hr2 hb2 HLK HLD HOR
  go_wp2_with fail
  obtain ⟨hg0, hg1, hk2, hr2, hb2⟩ := H2.out
  have hb02 := H1.out.2.1.trans hb2
  have hsz := H1.out.2.1.size
  have hlt1 := H1.out.2.2
  have hne : ∀ a, (some (⟨g, 0, none⟩ : Addr)) = some a → a.block ≠ b := fun a e => by cases e; simp; omega
  have hkd := hk2.drew
  refine leaves_cons (f := 29) (args := #[.pointer (some ⟨b, 0, none⟩), .bool true]) (by simp) (by simp [go_sem]) ?_
  refine (once_store ⟨b, 0, none⟩ (.int .u32 0) .returning _ hk2.c0 (hk2.z 0)).mono ?_
  rintro e u' w'' ⟨rfl, rfl, rfl⟩
  have hk3 := hkd.set0 1
  refine leaves_cons (f := 28) (args := #[.pointer (some ⟨b, 1, none⟩)]) (by simp [settle]) (by simp [go_sem]) ?_
  refine (once_unlock ⟨b, 1, none⟩ _ _ hk3.c1 (hk3.z 1)).mono ?_
  rintro e u' w'' ⟨rfl, rfl, rfl⟩
  have hk4 := hk3.set1 0
  have hbd : But b w2 w2.drew := But.drew b w2
  have hr4 := ((hr2.but hbd hne).but (But.set b 0 w2.drew (.int .u32 1)) hne).but (But.set b 1 _ (.int .i32 0)) hne
  have hb4 := ((hb02.trans hbd).setK 0 (.int .u32 1)).setK 1 (.int .i32 0)
  have hs4 := Nat.lt_of_lt_of_le hg1 ((hbd.setK 0 (.int .u32 1)).setK 1 (.int .i32 0)).size
  have hend : Once1 b l w (.returned (.tuple #[])) _ := ⟨rfl, g, by omega, hs4, hk4, hr4, hb4⟩
  exact ⟨.tuple #[], results_none rfl _ _ _, hend⟩

/-- (*sync.Once).Do, the first time. -/
theorem do_first (b : Nat) (A : Option Addr) (c : Nat) (l : List (Int × Int)) (w : World) (hk : Blk w b 0 0 (.slice A l.length c) 0) (hr : Row w A l) (hA : ∀ a, A = some a → a.block ≠ b) (hl : l.length < 1073741823) :
    Calls Try.prog 19 #[.pointer (some ⟨b, 0, none⟩), orderOf b] w (Once1 b l w) := by
  have hnot : ∀ (x : Bool) (w : World), (Op.unary .not (.bool x)).run Try.prog w = .ok (.bool (!x)) w := fun _ _ => rfl
  have HS := Lib.hid (slow_any b A c l w hk hr hA hl)
  have HL := Lib.hid (once_load ⟨b, 0, none⟩ 0 w hk.c0)
  clear hk hr hA hl
  go_enter Try.func19, Try.ntmps19
  go_wp2_with fail
  ((with_reducible refine HL.out.mono ?_); rintro e w' ⟨rfl, rfl⟩)
  go_wp2_with fail
  ((with_reducible refine HS.out.mono ?_); rintro e w' ⟨rfl, h⟩)
  go_wp2
  go_end0
  exact ⟨rfl, h⟩

/-- What inOrder hands back: the Late's own row, in order. -/
def InOrder (b : Nat) (l : List (Int × Int)) (w : World) (e : Ending) (w' : World) : Prop :=
  ∃ A c, e = .returned (.slice A l.length c) ∧ LateAt w' b A c l 1 ∧ But b w w'

theorem LateAt.once {w w' : World} {b : Nat} {l : List (Int × Int)} {e : Ending} (hl : l.length < 1073741823) (hlt : b < w.heap.size) (h : Once1 b l w e w') : ∃ A c, LateAt w' b A c l 1 ∧ But b w w' := by
  obtain ⟨-, g, hg0, hg1, hk, hr, hb⟩ := h
  refine ⟨some ⟨g, 0, none⟩, l.length, ⟨hk, by rw [if_neg (by omega)]; exact hr, Nat.le_refl _, by omega, (fun e => by cases e), (fun a e => ?_), (fun a e => ?_), Or.inr ⟨g, rfl, rfl⟩⟩, hb⟩
  · cases e; simp; omega
  · cases e; exact hg1

/-- (*sync.Once).Do, whether or not it was done. -/
theorem do_any (b : Nat) (A : Option Addr) (c : Nat) (l : List (Int × Int)) (d : Int) (w : World) (h : LateAt w b A c l d) (hd : d = 0 ∨ d = 1) (hl : l.length < 1073741823) :
    Calls Try.prog 19 #[.pointer (some ⟨b, 0, none⟩), orderOf b] w fun e w' => e = .returned (.tuple #[]) ∧ ∃ A c, LateAt w' b A c l 1 ∧ But b w w' := by
  rcases hd with rfl | rfl
  · exact (do_first b A c l w h.blk (by have := h.row; rw [if_pos rfl] at this; exact this) h.off hl).mono fun e w' h1 => ⟨h1.1, LateAt.once hl h.blk.lt h1⟩
  · exact (once_done b 0 _ w h.blk.c0).mono fun e w' ⟨h1, h2⟩ => ⟨h1, A, c, by rw [h2]; exact h, by rw [h2]; exact But.refl _ _⟩

set_option maxHeartbeats 1000000 in
theorem inOrder_any (b : Nat) (A : Option Addr) (c : Nat) (l : List (Int × Int)) (d : Int) (w : World) (h : LateAt w b A c l d) (hd : d = 0 ∨ d = 1) (hl : l.length < 1073741823) :
    Calls Try.prog 16 #[.pointer (some ⟨b, 0, none⟩)] w (InOrder b l w) := by
  have hmf : ∀ (fn : Fn) (first cap : Array Value) (w : World), (Instr.makeFunc fn first cap).run Try.prog w = .ok (.func fn first cap) w := fun _ _ _ _ => rfl
  have HD := Lib.hid (do_any b A c l d w h hd hl)
  unfold orderOf at HD
  clear h hd hl
  go_enter Try.func16, Try.ntmps16
  go_wp2_with fail
  ((with_reducible refine HD.out.mono ?_); rintro e w' ⟨rfl, A', c', h', hb'⟩)
  have e3 := h'.blk.c3
  have H := Lib.hid (And.intro h' hb')
  clear h' hb'
  go_wp2_with fail
  go_ret
  exact ⟨A', c', rfl, H.out.1, H.out.2⟩

set_option maxHeartbeats 1000000 in
theorem inOrder_nil (w : World) : Calls Try.prog 16 #[.pointer none] w fun e w' => e = .returned (.slice none 0 0) ∧ w' = w := by
  go_enter Try.func16, Try.ntmps16
  go_wp2_with fail
  go_ret
  exact ⟨rfl, rfl⟩

end Go.Proofs.Ytimffepggbaaaaa
