/-
  Plain facts, of no program: all elements of a heap whose others are heaps, each with how many there are in the heap that it is the root of, and the text that is made of them one by one, by a row of the counts at which heaps end. Conditions: the heap is right, and isn't empty.
-/
import Derived.Test.YtlmokendajgbdaaGreatDoorBo
namespace Go.Proofs.YtlmokendajgbdaaGreatDoor.Bo
open Go.Sort Go.RowKit Go.Proofs.YtlmokendajgbdaaGreatDoor.Gn

/-- Each root, and how many elements there are in its heap. -/
def Lh.pre : Lh → List ((Int × Int) × Nat)
  | .nil => []
  | .node x q => (x, (Lh.node x q).size) :: ((Gn.bAll q).attach.map fun b => b.1.pre).flatten
termination_by h => SizeOf.sizeOf h
decreasing_by
  have := queue_small q b.1 b.2
  rw [Lh.node.sizeOf_spec]
  omega
theorem pre_nil : Lh.pre .nil = [] := by rw [Lh.pre]
theorem pre_node (x : Int × Int) (q : List (Gn.Tre Lh)) : (Lh.node x q).pre = (x, (Lh.node x q).size) :: (Gn.bAll q).flatMap Lh.pre := by
  rw [Lh.pre, List.attach_map_val, ← List.flatMap_def]
/-- A row of counts without those at its end that are t. -/
def cut (t : Nat) (E : List Nat) : List Nat := (E.reverse.dropWhile (· == t)).reverse
theorem cut_nil (t : Nat) : cut t [] = [] := rfl
theorem cut_same (t : Nat) (E : List Nat) : cut t (E ++ [t]) = cut t E := by simp [cut]
theorem cut_other {t u : Nat} (h : u ≠ t) (E : List Nat) : cut t (E ++ [u]) = E ++ [u] := by simp [cut, h]
theorem dropW_len (t : Nat) : ∀ l : List Nat, (l.dropWhile (· == t)).length ≤ l.length
  | [] => Nat.le_refl _
  | a :: l => by
    rw [List.dropWhile_cons]
    split
    · have := dropW_len t l; rw [List.length_cons]; omega
    · exact Nat.le_refl _
theorem cut_len (t : Nat) (E : List Nat) : (cut t E).length ≤ E.length := by
  have := dropW_len t E.reverse
  simpa [cut] using this
theorem cut_all {t : Nat} {E : List Nat} (h : ∀ e ∈ E, t < e) : cut t E = E := by
  rcases List.eq_nil_or_concat E with rfl | ⟨F, u, rfl⟩
  · rfl
  · have := h u (by simp)
    simpa using cut_other (t := t) (u := u) (by omega) F
theorem dropW_sub (t : Nat) : ∀ l : List Nat, ∀ e ∈ l.dropWhile (· == t), e ∈ l
  | [], _, h => h
  | a :: l, e, h => by
    rw [List.dropWhile_cons] at h
    split at h
    · exact List.mem_cons_of_mem _ (dropW_sub t l e h)
    · exact h
theorem cut_sub (t : Nat) (E : List Nat) : ∀ e ∈ cut t E, e ∈ E := fun e h => by
  have := dropW_sub t E.reverse e (by simpa [cut] using h)
  simpa using this

/-- How far the text has come: how many elements were told, the counts at which the heaps end that have begun, the text. -/
structure Cnt where
  t : Nat
  E : List Nat
  o : List UInt8
/-- What stands between two elements. -/
def sep (o : List UInt8) : List UInt8 := if o = [] then [] else [32]
/-- How many heaps end with an element of a heap of s elements. -/
def Cnt.ends (c : Cnt) (s : Nat) : Nat := (c.E ++ [c.t + s]).length - (cut (c.t + 1) (c.E ++ [c.t + s])).length
def Cnt.step (c : Cnt) (p : (Int × Int) × Nat) : Cnt :=
  ⟨c.t + 1, cut (c.t + 1) (c.E ++ [c.t + p.2]), c.o ++ sep c.o ++ (91 :: (textOf p.1.1 p.1.2 ++ List.replicate (c.ends p.2) 93))⟩
def Cnt.run (c : Cnt) (l : List ((Int × Int) × Nat)) : Cnt := l.foldl Cnt.step c
def cnt0 : Cnt := ⟨0, [], []⟩
theorem run_append (c : Cnt) (a b : List ((Int × Int) × Nat)) : c.run (a ++ b) = (c.run a).run b := List.foldl_append
theorem run_cons (c : Cnt) (p : (Int × Int) × Nat) (b : List ((Int × Int) × Nat)) : c.run (p :: b) = (c.step p).run b := rfl

/-- What a heap's elements make of the text: its own, and the ends of those that end with it. -/
def Tells (h : Lh) : Prop := ∀ c : Cnt, (∀ e ∈ c.E, c.t + h.size ≤ e) →
  c.run h.pre = ⟨c.t + h.size, cut (c.t + h.size) c.E, c.o ++ sep c.o ++ h.show ++ List.replicate (c.E.length - (cut (c.t + h.size) c.E).length) 93⟩
theorem sep_some {o : List UInt8} (h : o ≠ []) : sep o = [32] := if_neg h
def sizes (l : List Lh) : Nat := (l.map Lh.size).sum
theorem sizes_cons (b : Lh) (l : List Lh) : sizes (b :: l) = b.size + sizes l := by simp [sizes]
theorem flat_len (l : List Lh) : (l.flatMap Lh.els).length = sizes l := by
  induction l with
  | nil => rfl
  | cons b l ih => rw [List.flatMap_cons, List.length_append, ih, sizes_cons, els_eq, Lh.all_length]
theorem node_size (x : Int × Int) (q : List (Gn.Tre Lh)) : (Lh.node x q).size = sizes (Gn.bAll q) + 1 := by show ((Gn.bAll q).flatMap Lh.els).length + 1 = _; rw [flat_len]
theorem row_tells (T : Nat) (E : List Nat) (hE : ∀ e ∈ E, T ≤ e) : ∀ (l : List Lh), l ≠ [] → (∀ b ∈ l, Tells b ∧ 0 < b.size) → ∀ c : Cnt, c.t + sizes l = T → c.E = E ++ [T] → c.o ≠ [] →
    c.run (l.flatMap Lh.pre) = ⟨T, cut T E, c.o ++ (l.flatMap fun b => 32 :: b.show) ++ List.replicate (1 + (E.length - (cut T E).length)) 93⟩
  | [], h, _, _, _, _, _ => (h rfl).elim
  | [b], _, hb, c, ht, he, ho => by
    have h1 := (hb b (by simp)).1 c
    simp only [sizes_cons] at ht
    have hs : c.t + b.size = T := by simpa [sizes] using ht
    rw [hs, he] at h1
    simp only [List.flatMap_cons, List.flatMap_nil, List.append_nil]
    rw [h1 (by intro e h; rcases List.mem_append.1 h with h | h; exact hE e h; simp at h; omega), cut_same, sep_some ho]
    have := cut_len T E
    rw [show (E ++ [T]).length - (cut T E).length = 1 + (E.length - (cut T E).length) from by simp; omega]
    simp
  | b :: d :: r, _, hb, c, ht, he, ho => by
    have h1 := (hb b (by simp)).1 c
    have h2 := (hb d (by simp)).2
    simp only [sizes_cons] at ht
    have hcut : cut (c.t + b.size) (E ++ [T]) = E ++ [T] := cut_other (by omega) E
    rw [he, hcut] at h1
    rw [List.flatMap_cons, run_append, h1 (by intro e h; rcases List.mem_append.1 h with h | h; have := hE e h; omega; simp at h; omega), sep_some ho]
    rw [Nat.sub_self, List.replicate_zero, List.append_nil]
    rw [row_tells T E hE (d :: r) (by simp) (fun b h => hb b (List.mem_cons_of_mem _ h)) _ (by simp only [sizes_cons]; omega) rfl (by simp)]
    simp
theorem ok_tells {h : Lh} (hk : h.ok) (hs : h.some = true) : Tells h := by
  induction hk with
  | nil => cases hs
  | @node x q hq hb hn ih =>
    intro c hE
    have hsz := node_size x q
    have hin : ∀ b ∈ Gn.bAll q, Tells b ∧ 0 < b.size := fun b h => ⟨ih b h (hn b h).1, by have := min_two b; rw [show b.min.2 = true from (hn b h).1] at this; simpa using this.symm⟩
    rw [pre_node, run_cons, show_node]
    by_cases h0 : Gn.bAll q = []
    · have h1 : (Lh.node x q).size = 1 := by rw [hsz, h0]; rfl
      rw [h0, h1]
      have := cut_len (c.t + 1) c.E
      simp only [List.flatMap_nil, Cnt.run, List.foldl_nil, Cnt.step, Cnt.ends, cut_same, List.append_nil]
      rw [show (c.E ++ [c.t + 1]).length - (cut (c.t + 1) c.E).length = 1 + (c.E.length - (cut (c.t + 1) c.E).length) from by simp; omega]
      simp [Nat.add_comm 1, List.replicate_succ]
    · generalize hT : c.t + (Lh.node x q).size = T at *
      have h2 : 0 < sizes (Gn.bAll q) := by
        cases hl : Gn.bAll q with
        | nil => exact (h0 hl).elim
        | cons b l => have := (hin b (by rw [hl]; simp)).2; rw [sizes_cons]; omega
      have hcut : cut (c.t + 1) (c.E ++ [T]) = c.E ++ [T] := cut_other (by omega) c.E
      have e0 : c.step (x, (Lh.node x q).size) = ⟨c.t + 1, c.E ++ [T], c.o ++ sep c.o ++ (91 :: textOf x.1 x.2)⟩ := by
        simp only [Cnt.step, Cnt.ends, hT, hcut, Nat.sub_self, List.replicate_zero, List.append_nil]
      rw [e0, row_tells T c.E hE (Gn.bAll q) h0 hin _ (by simp only; omega) rfl (by simp)]
      simp [Nat.add_comm 1, List.replicate_succ]
/-- The text that is made of a heap's elements one by one is the heap's. -/
theorem run_show {h : Lh} (hk : h.ok) (hs : h.some = true) : (cnt0.run h.pre).o = h.show := by
  have := ok_tells hk hs cnt0 (by intro e he; cases he)
  rw [this]
  simp [cnt0, sep, cut]
/-- How long the text is so far, and the row of counts. -/
theorem run_small : ∀ (l : List ((Int × Int) × Nat)) (c : Cnt), (∀ p ∈ l, in64 p.1.1 ∧ in64 p.1.2) → c.o.length + c.E.length ≤ 50 * c.t → (c.run l).o.length + (c.run l).E.length ≤ 50 * (c.run l).t ∧ (c.run l).t = c.t + l.length
  | [], c, _, h => ⟨h, by simp [Cnt.run]⟩
  | p :: l, c, hp, h => by
    have h1 := textOf_length p.1.1 p.1.2 (hp p (by simp)).1 (hp p (by simp)).2
    have h2 := cut_len (c.t + 1) (c.E ++ [c.t + p.2])
    have h3 : (sep c.o).length ≤ 1 := by unfold sep; split <;> simp
    have := run_small l (c.step p) (fun q hq => hp q (List.mem_cons_of_mem _ hq)) (by
      simp only [Cnt.step, Cnt.ends, List.length_append, List.length_cons, List.length_replicate, List.length_nil] at h2 ⊢
      omega)
    rw [run_cons]
    refine ⟨this.1, this.2.trans ?_⟩
    simp only [Cnt.step, List.length_cons]
    omega
theorem pre_len (h : Lh) : h.pre.length = h.size := by
  suffices H : ∀ n (h : Lh), SizeOf.sizeOf h ≤ n → h.pre.length = h.size from H _ h (Nat.le_refl _)
  intro n
  induction n with
  | zero => intro h hs; cases h <;> simp at hs
  | succ n ih =>
    intro h hs
    cases h with
    | nil => rw [pre_nil]; rfl
    | node x q =>
      rw [pre_node, List.length_cons, node_size]
      have : ∀ l : List Lh, (∀ b ∈ l, b ∈ Gn.bAll q) → (l.flatMap Lh.pre).length = sizes l := by
        intro l
        induction l with
        | nil => intro _; rfl
        | cons b l ihl =>
          intro hl
          have := queue_small q b (hl b (by simp))
          rw [Lh.node.sizeOf_spec] at hs
          rw [List.flatMap_cons, List.length_append, ihl (fun c hc => hl c (List.mem_cons_of_mem _ hc)), ih b (by omega), sizes_cons]
      rw [this _ (fun _ h => h)]
theorem run_E : ∀ (l : List ((Int × Int) × Nat)) (c : Cnt), (c.run l).E.length ≤ c.E.length + l.length
  | [], _ => Nat.le_refl _
  | p :: l, c => by
    have h1 := run_E l (c.step p)
    have h2 := cut_len (c.t + 1) (c.E ++ [c.t + p.2])
    rw [run_cons, List.length_cons]
    simp only [Cnt.step, List.length_append, List.length_cons, List.length_nil] at h1 h2 ⊢
    omega
/-- What is told are elements of the heap, and sizes no greater than its own. -/
theorem pre_mem (h : Lh) : ∀ p ∈ h.pre, p.1 ∈ h.all ∧ p.2 ≤ h.size := by
  suffices H : ∀ n (h : Lh), SizeOf.sizeOf h ≤ n → ∀ p ∈ h.pre, p.1 ∈ h.all ∧ p.2 ≤ h.size from H _ h (Nat.le_refl _)
  intro n
  induction n with
  | zero => intro h hs; cases h <;> simp at hs
  | succ n ih =>
    intro h hs p hp
    cases h with
    | nil => rw [pre_nil] at hp; cases hp
    | node x q =>
      rw [pre_node] at hp
      rcases List.mem_cons.1 hp with rfl | hp
      · exact ⟨by rw [all_node]; exact List.mem_cons_self .., Nat.le_refl _⟩
      · obtain ⟨b, hb, hpb⟩ := List.mem_flatMap.1 hp
        have h1 := queue_small q b hb
        rw [Lh.node.sizeOf_spec] at hs
        obtain ⟨h2, h3⟩ := ih b (by omega) p hpb
        refine ⟨by rw [all_node]; exact List.mem_cons_of_mem _ (List.mem_flatMap.2 ⟨b, hb, h2⟩), ?_⟩
        have h4 : ∀ l : List Lh, b ∈ l → b.size ≤ sizes l := by
          intro l
          induction l with
          | nil => intro h; cases h
          | cons d l ihl =>
            intro h
            rw [sizes_cons]
            rcases List.mem_cons.1 h with rfl | h
            · omega
            · have := ihl h; omega
        have h5 := h4 _ hb
        rw [node_size]
        omega

end Go.Proofs.YtlmokendajgbdaaGreatDoor.Bo
