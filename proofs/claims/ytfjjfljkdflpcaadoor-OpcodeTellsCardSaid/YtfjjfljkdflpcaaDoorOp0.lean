/-
  Scripts as numbers, of no program: what numbers are read as, what a script is as numbers, and how one undoes the other. No conditions beyond what each theorem says.
-/
import Derived.Below
namespace Go.Proofs.YtfjjfljkdflpcaaDoor

/-- An operation: its code, and what it is told. -/
structure OpD where
  code : Int
  args : List Int
deriving Inhabited

/-- How many numbers the operations with codes 0 to 22 are told. -/
def toldL : List Int := [0, 1, 3, 2, 1, 1, 1, 1, 2, 2, 0, 3, 2, 3, 1, 1, 2, 2, 2, 1, 3, 1, 2]
/-- How many numbers an operation is told; below 0: there is none such. -/
def toldN (c : Int) : Int := if 1 ≤ c ∧ c ≤ 22 then toldL.getD c.toNat 0 else -1
/-- What is wrong with an operation of that code and that many numbers. -/
def rightN (c : Int) (n : Nat) : Int := if toldN c < 0 then 20 else if toldN c = n then 0 else 10

/-- Operations that numbers are, at most so many: the error, and them. -/
def ops : Nat → List Int → Int × List OpD
  | _, [] => (0, [])
  | 0, _ :: _ => (12, [])
  | _ + 1, [_] => (11, [])
  | m + 1, c :: n :: t => if n < 0 ∨ 4 < n then (10, []) else if t.length < n.toNat then (11, []) else
      if (ops m (t.drop n.toNat)).1 = 0 then (0, ⟨c, t.take n.toNat⟩ :: (ops m (t.drop n.toNat)).2) else ((ops m (t.drop n.toNat)).1, [])

/-- The script that numbers are: the error, the room, the operations. -/
structure ScD where
  err : Int
  room : Int
  ops : List OpD

/-- What is read with some operations before: all of it, or an error. -/
def scTail (r : Int) (done : List OpD) (left : List Int) : ScD :=
  if (ops (256 - done.length) left).1 = 0 then ⟨0, r, done ++ (ops (256 - done.length) left).2⟩ else ⟨(ops (256 - done.length) left).1, 0, []⟩
def parse : List Int → ScD
  | [] => ⟨11, 0, []⟩
  | r :: t => if r < 0 ∨ 64 < r then ⟨1, 0, []⟩ else scTail r [] t

theorem parse_cons (r : Int) (t : List Int) : parse (r :: t) = if r < 0 ∨ 64 < r then ⟨1, 0, []⟩ else scTail r [] t := rfl

/-- An operation as numbers. -/
def OpD.flat (o : OpD) : List Int := o.code :: (o.args.length : Int) :: o.args
def flat (l : List OpD) : List Int := l.flatMap OpD.flat
/-- A script as numbers. -/
def build (r : Int) (l : List OpD) : List Int := r :: flat l

theorem flat_nil : flat [] = [] := rfl
theorem flat_cons (o : OpD) (l : List OpD) : flat (o :: l) = o.code :: (o.args.length : Int) :: (o.args ++ flat l) := rfl
theorem flat_append (a b : List OpD) : flat (a ++ b) = flat a ++ flat b := by simp [flat]
theorem flat_one (o : OpD) : flat [o] = o.flat := by simp [flat]

theorem scTail_end (r : Int) (done : List OpD) : scTail r done [] = ⟨0, r, done⟩ := by
  unfold scTail
  cases (256 - done.length) <;> simp [ops]
theorem scTail_long (r : Int) (done : List OpD) (x : Int) (t : List Int) (h : 256 ≤ done.length) : scTail r done (x :: t) = ⟨12, 0, []⟩ := by
  unfold scTail
  rw [show 256 - done.length = 0 by omega]
  simp [ops]
theorem scTail_one (r : Int) (done : List OpD) (x : Int) (h : done.length < 256) : scTail r done [x] = ⟨11, 0, []⟩ := by
  unfold scTail
  obtain ⟨m, e⟩ : ∃ m, 256 - done.length = m + 1 := ⟨255 - done.length, by omega⟩
  rw [e]
  simp [ops]
theorem scTail_form (r : Int) (done : List OpD) (c n : Int) (t : List Int) (h : done.length < 256) (hn : n < 0 ∨ 4 < n) : scTail r done (c :: n :: t) = ⟨10, 0, []⟩ := by
  unfold scTail
  obtain ⟨m, e⟩ : ∃ m, 256 - done.length = m + 1 := ⟨255 - done.length, by omega⟩
  rw [e]
  simp [ops, hn]
theorem scTail_short (r : Int) (done : List OpD) (c n : Int) (t : List Int) (h : done.length < 256) (hn : ¬ (n < 0 ∨ 4 < n)) (ht : t.length < n.toNat) : scTail r done (c :: n :: t) = ⟨11, 0, []⟩ := by
  unfold scTail
  obtain ⟨m, e⟩ : ∃ m, 256 - done.length = m + 1 := ⟨255 - done.length, by omega⟩
  rw [e]
  simp [ops, hn, ht]
theorem scTail_more (r : Int) (done : List OpD) (c n : Int) (t : List Int) (h : done.length < 256) (hn : ¬ (n < 0 ∨ 4 < n)) (ht : ¬ t.length < n.toNat) :
    scTail r done (c :: n :: t) = scTail r (done ++ [⟨c, t.take n.toNat⟩]) (t.drop n.toNat) := by
  unfold scTail
  obtain ⟨m, e⟩ : ∃ m, 256 - done.length = m + 1 := ⟨255 - done.length, by omega⟩
  rw [e, show 256 - (done ++ [(⟨c, t.take n.toNat⟩ : OpD)]).length = m by simp; omega]
  simp only [ops, hn, ht, if_false]
  split <;> simp_all

theorem ops_flat : ∀ (m : Nat) (l : List Int) (x : List OpD), ops m l = (0, x) → flat x = l
  | m, [], x, h => by cases m <;> (simp [ops] at h; subst h; rfl)
  | 0, _ :: _, x, h => by simp [ops] at h
  | m + 1, [_], x, h => by simp [ops] at h
  | m + 1, c :: n :: t, x, h => by
    unfold ops at h
    split at h
    · simp at h
    · split at h
      · simp at h
      · split at h
        · rename_i h1 h2 h3
          injection h with h4 h5
          subst h5
          have ih := ops_flat m (t.drop n.toNat) _ (Prod.ext h3 rfl)
          rw [flat_cons, ih]
          have e1 : (t.take n.toNat).length = n.toNat := by rw [List.length_take]; omega
          simp only [e1, List.take_append_drop]
          rw [show ((n.toNat : Nat) : Int) = n by omega]
        · rename_i h1 h2 h3
          injection h with h4 h5
          exact absurd h4 h3

theorem parse_build (l : List Int) (h : (parse l).err = 0) : build (parse l).room (parse l).ops = l := by
  cases l with
  | nil => simp [parse] at h
  | cons r t =>
    rw [parse_cons] at h ⊢
    split at h
    · simp at h
    · rename_i hr
      rw [if_neg hr]
      unfold scTail at h ⊢
      split at h
      · rename_i h1
        rw [if_pos h1]
        have := ops_flat _ t _ (Prod.ext h1 rfl)
        simpa [build] using this
      · rename_i h1
        exact absurd h h1
theorem parse_none (l : List Int) (h : (parse l).err ≠ 0) : (parse l).room = 0 ∧ (parse l).ops = [] := by
  cases l with
  | nil => exact ⟨rfl, rfl⟩
  | cons r t =>
    rw [parse_cons] at h ⊢
    split at h
    · rename_i hr
      rw [if_pos hr]
      exact ⟨rfl, rfl⟩
    · rename_i hr
      rw [if_neg hr]
      unfold scTail at h ⊢
      split at h
      · simp at h
      · rename_i h1
        rw [if_neg h1]
        exact ⟨rfl, rfl⟩

theorem ops_of_flat : ∀ (x : List OpD) (m : Nat), x.length ≤ m → (∀ o ∈ x, o.args.length ≤ 4) → ops m (flat x) = (0, x)
  | [], m, _, _ => by cases m <;> simp [flat, ops]
  | o :: x, 0, h, _ => by simp at h
  | o :: x, m + 1, h, ha => by
    have h4 := ha o (by simp)
    rw [flat_cons]
    unfold ops
    have ih := ops_of_flat x m (by simpa using h) (fun p hp => ha p (by simp [hp]))
    rw [if_neg (by omega), if_neg (by simp)]
    simp only [Int.toNat_natCast, List.drop_left', List.take_left', ih]
    simp

theorem parse_of_build (r : Int) (x : List OpD) (hr : 0 ≤ r ∧ r ≤ 64) (hl : x.length ≤ 256) (ha : ∀ o ∈ x, o.args.length ≤ 4) : parse (build r x) = ⟨0, r, x⟩ := by
  unfold build
  rw [parse_cons, if_neg (by omega)]
  unfold scTail
  rw [ops_of_flat x _ (by simpa using hl) ha]
  simp

/-- Some of the numbers of operations: too few, or fewer operations. -/
theorem ops_cut : ∀ (x : List OpD) (m : Nat) (k : Nat), x.length ≤ m → (∀ o ∈ x, o.args.length ≤ 4) → k < (flat x).length →
    (ops m ((flat x).take k)).1 = 11 ∨ ((ops m ((flat x).take k)).1 = 0 ∧ (ops m ((flat x).take k)).2.length < x.length)
  | [], m, k, _, _, hk => by simp [flat] at hk
  | o :: x, 0, k, h, _, _ => by simp at h
  | o :: x, m + 1, 0, h, ha, _ => by right; simp [ops]
  | o :: x, m + 1, 1, h, ha, _ => by left; rw [flat_cons]; simp [ops]
  | o :: x, m + 1, k + 2, h, ha, hk => by
    have h4 := ha o (by simp)
    rw [flat_cons] at hk ⊢
    simp only [List.length_cons, List.length_append] at hk
    rw [List.take_succ_cons, List.take_succ_cons]
    unfold ops
    rw [if_neg (by omega)]
    by_cases hs : k < o.args.length
    · left
      rw [if_pos (by simp; omega)]
    · rw [if_neg (by simp; omega)]
      have e1 : ((o.args ++ flat x).take k).drop ((o.args.length : Int).toNat) = (flat x).take (k - o.args.length) := by
        rw [List.take_append, List.take_of_length_le (by omega)]
        simp
      rw [e1]
      rcases ops_cut x m (k - o.args.length) (by simpa using h) (fun p hp => ha p (by simp [hp])) (by omega) with h1 | ⟨h1, h2⟩
      · left
        rw [if_neg (by omega)]
        exact h1
      · right
        rw [if_pos h1]
        exact ⟨rfl, by simpa using h2⟩

theorem parse_cut (r : Int) (x : List OpD) (k : Nat) (hr : 0 ≤ r ∧ r ≤ 64) (hl : x.length ≤ 256) (ha : ∀ o ∈ x, o.args.length ≤ 4) (hk : k < (build r x).length) :
    (parse ((build r x).take k)).err = 11 ∨ ((parse ((build r x).take k)).err = 0 ∧ (parse ((build r x).take k)).ops.length < x.length) := by
  cases k with
  | zero => left; simp [parse]
  | succ k =>
    unfold build
    rw [List.take_succ_cons, parse_cons, if_neg (by omega)]
    have hk' : k < (flat x).length := by simpa [build] using hk
    unfold scTail
    rcases ops_cut x 256 k hl ha hk' with h1 | ⟨h1, h2⟩
    · left
      simp [h1]
    · right
      simp [h1, h2]

theorem build_length (r : Int) (x : List OpD) : (build r x).length = 1 + (flat x).length := by simp [build]; omega
theorem flat_short : ∀ (x : List OpD) (q : Nat), (∀ o ∈ x, o.args.length ≤ q) → (flat x).length ≤ x.length * (q + 2)
  | [], q, _ => by simp [flat]
  | o :: x, q, h => by
    have h1 := h o (by simp)
    have h2 := flat_short x q (fun p hp => h p (by simp [hp]))
    rw [flat_cons]
    simp only [List.length_cons, List.length_append, Nat.succ_mul]
    omega

end Go.Proofs.YtfjjfljkdflpcaaDoor
