/-
  What RankRight asks beside the contracts: trees that are linked, and skewed, stay well formed; what things they have; which is the least. A slice of trees' addresses of the call's own. No conditions beyond what each theorem says.
-/
import Derived.Test.YtlkpmafgokoaiaaDoorRst0
import Derived.Test.YtlkpmafgokoaiaaDoorRefSort
import Derived.Test.YtlkpmafgokoaiaaDoorSame
namespace Go.Proofs.YtlkpmafgokoaiaaDoor
open Go.Sort Go.RowKit

theorem ltE_asymm {x y : Int × Int} (h : ltE x y = true) : ltE y x = false := by rw [ltE_not]; rw [ltE_iff] at h; omega
theorem all_mono {x y : Int × Int} (h : ltE x y = false) {l : List (Int × Int)} (hl : (l.all fun b => !ltE b x) = true) : (l.all fun b => !ltE b y) = true := by
  rw [List.all_eq_true] at hl ⊢
  intro b hb
  have := hl b hb
  simp only [Bool.not_eq_true'] at this ⊢
  exact swoE.ntrans _ _ _ this h
theorem Wood.right_mono {x y : Int × Int} (h : ltE x y = false) : ∀ (ks : Wood) (r : Int), ks.right x r = true → ks.right y r = true
  | .nil, _, hr => hr
  | .cons z bs ks rest, r, hr => by
    simp only [Wood.right, Bool.and_eq_true] at hr ⊢
    obtain ⟨⟨⟨h1, h2⟩, h3⟩, h4⟩ := hr
    refine ⟨⟨⟨h1, ?_⟩, h3⟩, rest.right_mono h _ h4⟩
    simp only [Bool.not_eq_true'] at h2 ⊢
    exact swoE.ntrans _ _ _ h2 h
theorem Wood.least {x : Int × Int} : ∀ (ks : Wood) (r : Int), ks.right x r = true → ∀ e ∈ ks.all, ltE e x = false
  | .nil, _, _, e, he => by simp [Wood.all] at he
  | .cons z bs ks rest, r, hr, e, he => by
    simp only [Wood.right, Bool.and_eq_true, Bool.not_eq_true'] at hr
    obtain ⟨⟨⟨h1, h2⟩, ⟨h3, h4⟩, h5⟩, h6⟩ := hr
    simp only [Wood.all, List.mem_append, List.mem_cons] at he
    rcases he with (rfl | he | he) | he
    · exact h2
    · rw [List.all_eq_true] at h4
      have := h4 e he
      simp only [Bool.not_eq_true'] at this
      exact swoE.ntrans _ _ _ this h2
    · exact swoE.ntrans _ _ _ (ks.least _ h5 e he) h2
    · exact rest.least _ h6 e he
theorem Tre.least (t : Tre) (h : t.right = true) : ∀ e ∈ t.all, ltE e t.x = false := by
  intro e he
  simp only [Tre.right, besideOk, Bool.and_eq_true] at h
  obtain ⟨⟨h1, h2⟩, h3⟩ := h
  simp only [Tre.all, List.mem_cons, List.mem_append] at he
  rcases he with rfl | he | he
  · exact swoE.irrefl _
  · rw [List.all_eq_true] at h2
    have := h2 e he
    simpa using this
  · exact t.ks.least _ h3 e he

/-- A tree that is well formed, of rank r. -/
def TOk (r : Nat) (t : Tre) : Prop := t.right = true ∧ t.ks.len = r
theorem leaf_ok (x : Int × Int) : TOk 0 (leafT x) := ⟨rfl, rfl⟩
theorem win_ok {W L : Tre} {r : Nat} (h : ltE L.x W.x = false) (hW : TOk r W) (hL : TOk r L) : TOk (r + 1) ⟨W.x, W.bs, .cons L.x L.bs L.ks W.ks⟩ := by
  obtain ⟨hw, lw⟩ := hW
  obtain ⟨hl, ll⟩ := hL
  refine ⟨?_, by simp [Wood.len, lw]⟩
  simp only [Tre.right, besideOk, Bool.and_eq_true, decide_eq_true_eq] at hw hl ⊢
  obtain ⟨⟨w1, w2⟩, w3⟩ := hw
  obtain ⟨⟨l1, l2⟩, l3⟩ := hl
  have e : (((Wood.cons L.x L.bs L.ks W.ks).len : Nat) : Int) - 1 = (W.ks.len : Int) := by simp only [Wood.len]; omega
  refine ⟨⟨by simp only [Wood.len]; omega, w2⟩, ?_⟩
  simp only [Wood.right, Bool.and_eq_true, decide_eq_true_eq, Bool.not_eq_true']
  rw [e]
  exact ⟨⟨⟨by rw [ll, lw]; simp, h⟩, ⟨l1, l2⟩, l3⟩, w3⟩
theorem lnk_ok {a b : Tre} {r : Nat} (ha : TOk r a) (hb : TOk r b) : TOk (r + 1) (lnk a b) ∧ (lnk a b).bs.length ≤ r := by
  have bound : ∀ {t : Tre}, TOk r t → t.bs.length ≤ r := fun {t} ⟨h, l⟩ => by
    simp only [Tre.right, besideOk, Bool.and_eq_true, decide_eq_true_eq] at h
    rw [l] at h; exact h.1.1
  cases h : ltE b.x a.x with
  | true => rw [lnk_lt h]; exact ⟨win_ok (ltE_asymm h) hb ha, show b.bs.length ≤ r from bound hb⟩
  | false => rw [lnk_ge h]; exact ⟨win_ok h ha hb, show a.bs.length ≤ r from bound ha⟩
theorem skw_ok {y : Int × Int} {t : Tre} {r : Nat} (h : TOk r t) (hl : t.bs.length < r) : TOk r (skw y t) := by
  obtain ⟨hr, lr⟩ := h
  simp only [Tre.right, besideOk, Bool.and_eq_true, decide_eq_true_eq] at hr
  obtain ⟨⟨h1, h2⟩, h3⟩ := hr
  cases hv : ltE t.x y with
  | true =>
    rw [skw_lt hv]
    refine ⟨?_, lr⟩
    simp only [Tre.right, besideOk, Bool.and_eq_true, decide_eq_true_eq, List.length_cons, List.all_cons, Bool.not_eq_true']
    exact ⟨⟨by omega, ltE_asymm hv, h2⟩, h3⟩
  | false =>
    rw [skw_ge hv]
    refine ⟨?_, lr⟩
    simp only [Tre.right, besideOk, Bool.and_eq_true, decide_eq_true_eq, List.length_cons, List.all_cons, Bool.not_eq_true']
    exact ⟨⟨by omega, hv, all_mono hv h2⟩, t.ks.right_mono hv _ h3⟩
theorem lnk_perm (a b : Tre) : (lnk a b).all.Perm (a.all ++ b.all) := by
  rw [List.perm_iff_count]
  intro e
  unfold lnk
  split <;> simp only [Tre.all, Wood.all, List.count_append, List.count_cons] <;> omega
theorem skw_perm (y : Int × Int) (t : Tre) : (skw y t).all.Perm (y :: t.all) := by
  rw [List.perm_iff_count]
  intro e
  unfold skw
  split <;> simp only [Tre.all, List.cons_append, List.count_append, List.count_cons] <;> omega

/-- All things of some trees. -/
def allOf (ts : List Tre) : List (Int × Int) := ts.flatMap Tre.all
theorem allOf_append (a b : List Tre) : allOf (a ++ b) = allOf a ++ allOf b := by simp [allOf]

theorem srt_sorted (xs : List (Int × Int)) : (srt xs).Pairwise fun x y => (!ltE y x) = true := by
  unfold srt
  refine List.pairwise_mergeSort ?_ ?_ xs
  · intro a b c h1 h2
    simp only [Bool.not_eq_true'] at *
    exact swoE.ntrans c b a h2 h1
  · intro a b
    cases h : ltE b a with
    | false => simp
    | true => simp [ltE_asymm h]
theorem srt_perm (xs : List (Int × Int)) : (srt xs).Perm xs := List.mergeSort_perm _ _
theorem srt_of_perm {xs ys : List (Int × Int)} (h : xs.Perm ys) : srt xs = srt ys := srt_eq xs (srt ys) ((srt_perm ys).trans h.symm) (srt_sorted ys)
theorem srt_head {xs : List (Int × Int)} {m : Int × Int} (hm : m ∈ xs) (hle : ∀ e ∈ xs, ltE e m = false) : ∃ r, srt xs = m :: r := by
  have hp := srt_perm xs
  have hs := srt_sorted xs
  cases h : srt xs with
  | nil => rw [h] at hp; exact absurd (hp.symm.subset hm) (by simp)
  | cons a r =>
    rw [h] at hp hs
    have h1 : ltE a m = false := hle a (hp.subset (by simp))
    have h2 : m = a ∨ m ∈ r := by simpa using hp.symm.subset hm
    rcases h2 with rfl | h2
    · exact ⟨r, rfl⟩
    · have h3 : ltE m a = false := by have := (List.pairwise_cons.1 hs).1 m h2; simpa using this
      exact ⟨r, by rw [ltE_total a m h1 h3]⟩

/-- At these addresses are these trees. -/
structure TL (W : World) (ps : List (Option Addr)) (ts : List Tre) : Prop where
  len : ps.length = ts.length
  tree : ∀ (j : Nat) (t : Tre), ts[j]? = some t → ∃ p, ps[j]? = some p ∧ TAt W p (some t)
theorem TL.nil (W : World) : TL W [] [] := ⟨rfl, fun j t h => by simp at h⟩
theorem TL.kp {W W' : World} {ps : List (Option Addr)} {ts : List Tre} (h : TL W ps ts) (hk : Kp W W') : TL W' ps ts := ⟨h.len, fun j t ht => by obtain ⟨p, h1, h2⟩ := h.tree j t ht; exact ⟨p, h1, h2.kp hk⟩⟩
theorem TL.snoc {W : World} {ps : List (Option Addr)} {ts : List Tre} (h : TL W ps ts) {p : Option Addr} {t : Tre} (ht : TAt W p (some t)) : TL W (ps ++ [p]) (ts ++ [t]) :=
  ⟨by simp [h.len], fun j u hu => by
    by_cases hj : j < ts.length
    · rw [List.getElem?_append_left hj] at hu
      obtain ⟨q, h1, h2⟩ := h.tree j u hu
      exact ⟨q, by rw [List.getElem?_append_left (by rw [h.len]; exact hj)]; exact h1, h2⟩
    · rw [List.getElem?_append_right (by omega)] at hu
      have hj0 : j - ts.length = 0 := by
        have := (List.getElem?_eq_some_iff.1 hu).1
        simp at this
        omega
      rw [hj0] at hu
      simp at hu
      subst hu
      refine ⟨p, ?_, ht⟩
      rw [List.getElem?_append_right (by rw [h.len]; omega), h.len, hj0]
      rfl⟩

/-- Two trees at the head of what is left. -/
theorem two_left {ts : List Tre} {a h j : Nat} (hl : ts.length = 2 * h) (ha : a = 2 * j) (hj : j < h) : ∃ ta tb, ts[a]? = some ta ∧ ts[a + 1]? = some tb ∧ allOf (ts.drop a) = ta.all ++ (tb.all ++ allOf (ts.drop (a + 2))) := by
  have h1 : a < ts.length := by omega
  have h2 : a + 1 < ts.length := by omega
  refine ⟨ts[a], ts[a + 1], List.getElem?_eq_getElem h1, List.getElem?_eq_getElem h2, ?_⟩
  rw [List.drop_eq_getElem_cons h1, List.drop_eq_getElem_cons h2]
  simp only [allOf, List.flatMap_cons]
theorem linked_perm {A D L : List (Int × Int)} {ta tb : Tre} (h : (A ++ (ta.all ++ (tb.all ++ D))).Perm L) : ((A ++ (lnk ta tb).all) ++ D).Perm L := by
  refine List.Perm.trans ?_ h
  have := lnk_perm ta tb
  rw [List.perm_iff_count] at this ⊢
  intro e
  have := this e
  simp only [List.count_append] at this ⊢
  omega
theorem skewed_perm {A D L : List (Int × Int)} {ta tb : Tre} {y : Int × Int} (h : (A ++ (ta.all ++ (tb.all ++ D))).Perm L) : ((A ++ (skw y (lnk ta tb)).all) ++ D).Perm (L ++ [y]) := by
  have h1 := lnk_perm ta tb
  have h2 := skw_perm y (lnk ta tb)
  rw [List.perm_iff_count] at h h1 h2 ⊢
  intro e
  have := h e
  have := h1 e
  have := h2 e
  simp only [List.count_append, List.count_cons, List.count_nil] at *
  omega

theorem append_kp {w w' : World} {base : Nat} {v : Value} {ps : List (Option Addr)} {o : Obj} (hown : OwnP w base v ps) (hg : (w.alloc o).grownBy w' v.ownBlock) : Kp w w' := by
  refine (Kp.below ((Below.refl _ _).alloc (Nat.le_refl _) o)).trans (Kp.grown hg fun g hgb cs t hc ht => ?_)
  rcases hown.2 with ⟨rfl, -⟩ | ⟨g', cap, cur, rfl, -, hg', -⟩
  · simp [Value.ownBlock] at hgb
  · simp [Value.ownBlock] at hgb
    subst hgb
    have h1 := ((((Below.refl w.heap.size w).alloc (Nat.le_refl _) o).block g' (lt_of_heap hg')).trans hg').symm.trans hc
    injection h1 with h1
    injection h1 with _ h1 _
    rw [← h1] at ht
    exact absurd ht (by decide)
theorem OwnP.at {w : World} {base g c n : Nat} {ps : List (Option Addr)} (h : OwnP w base (.slice (some ⟨g, 0, Option.none⟩) n c) ps) {j : Nat} {p : Option Addr} (hp : ps[j]? = some p) : w.cell? ⟨g, j, Option.none⟩ = some (.pointer p) := by
  have hj := (List.getElem?_eq_some_iff.1 hp).1
  have hn : n = ps.length := by
    rcases h.2 with ⟨e, -⟩ | ⟨g', cap, cur, e, -⟩
    · cases e
    · injection e
  subst hn
  rw [World.ownsRow.cellAt h j (by omega), List.getElem?_map, hp]
  rfl
theorem OwnP.form {w : World} {base : Nat} {v : Value} {ps : List (Option Addr)} (h : OwnP w base v ps) : ∃ A c, v = .slice A ps.length c ∧ ps.length ≤ c ∧ (0 < ps.length → ∃ g, A = some ⟨g, 0, Option.none⟩ ∧ base ≤ g ∧ g < w.heap.size) := by
  rcases h.2 with ⟨rfl, h1⟩ | ⟨g, cap, cur, rfl, hb, hg, hc, hm, -⟩
  · exact ⟨Option.none, 0, by rw [h1], by omega, fun h0 => by omega⟩
  · exact ⟨_, cap, rfl, hc, fun _ => ⟨g, rfl, hb, lt_of_heap hg⟩⟩
theorem OwnP.base {w : World} {base base' : Nat} {v : Value} {ps : List (Option Addr)} (h : OwnP w base v ps) (hb : base' ≤ base) : OwnP w base' v ps := by
  refine ⟨h.1, ?_⟩
  rcases h.2 with h | ⟨g, cap, cur, e, hg, h⟩
  · exact .inl h
  · exact .inr ⟨g, cap, cur, e, Nat.le_trans hb hg, h⟩
theorem OwnP.stay {w w' : World} {base : Nat} {v : Value} {ps : List (Option Addr)} (h : OwnP w base v ps) (hb : Below w.heap.size w w') : OwnP w' base v ps := Mine.stay h hb

theorem same_used (A B : Option Addr) (l : List (Int × Int)) (u : Nat) (hu : l.length = u) (hl : u < 2147483648) (ca cb : Nat) (w : World) (hA : Row w A l) (hB : Row w B l) :
    Calls Tryd.prog 25 #[.slice A u ca, .slice B u cb] w fun e w' => e = .returned (.bool true) ∧ Below w.heap.size w w' := by
  subst hu
  exact (same_any A B l l ca cb w hl hA hB).mono fun e w' ⟨he, hb⟩ => ⟨by rw [he, decide_eq_true rfl], hb⟩
/-- A tree's address at the end of the slice. -/
theorem push_tree {w : World} {base : Nat} {v : Value} {qs : List (Option Addr)} {us : List Tre} {p : Option Addr} {t : Tre} (hown : OwnP w base v qs) (htl : TL w qs us) (hlen : us.length < 1000000) (hb : base ≤ w.heap.size) (ht : TAt w p (some t)) :
    ∃ v' w', (Builtin.append_ #[26, 26] 26 #[v, .slice (some ⟨w.heap.size, 0, Option.none⟩) 1 1]).run Tryd.prog (w.alloc (.cells #[.pointer p] 36)) = .ok v' w' ∧ OwnP w' base v' (qs ++ [p]) ∧ TL w' (qs ++ [p]) (us ++ [t]) ∧ Below base w w' := by
  obtain ⟨v', w', h1, h2, h3, h4⟩ := append_ptr w base v qs p hown (by rw [htl.len]; omega) hb
  have hk := append_kp hown h3
  exact ⟨v', w', h1, h2, (htl.kp hk).snoc (ht.kp hk), h4⟩

end Go.Proofs.YtlkpmafgokoaiaaDoor
