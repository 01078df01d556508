/- Plain facts, of no program: skew binomial heaps as data: trees levelled, a thing put in, two heaps melded, the least one taken out, what stands beside its root put in again: the elements, heap order, the trees' shapes and ranks, sizes, counts. No conditions. -/
import Derived.Test.YtmeodbjlmjpnbaaGreatPt
import Derived.Deep.LoopGhost
import Derived.Deep.RegionHeld3
import Derived.Deep.DrawnRows
set_option maxRecDepth 100000
set_option maxHeartbeats 4000000
namespace Go.Proofs.YtmeodbjlmjpnbaaGreat.Sk
open Go.Sort Go.RowKit
def levT:List Tre → List Tre
 | [] => []
 | t :: r => putT r t
def levN:List Tre → Nat
 | [] => 0
 | t :: r => putTN r t
def skT (x:Int × Int) (f g:Tre):Tre:=skw x (lnk f g)
def sIns:List Tre → (Int × Int) → List Tre
 | f :: g :: r,x => if f.rank = g.rank then skT x f g :: r else leafT x :: f :: g :: r
 | h,x => leafT x :: h
def sInsN:List Tre → Nat
 | f :: g :: _ => if f.rank = g.rank then 2 else 0
 | _ => 0
def sInsM:List Tre → Nat
 | f :: g :: _ => if f.rank = g.rank then 2 else 1
 | _ => 1
def sOf (l:List (Int × Int)):List Tre:=l.foldl sIns []
def sPutN:List Tre → List (Int × Int) → Nat
 | _,[] => 0
 | h,x :: r => sInsN h + sPutN (sIns h x) r
def sPutM:List Tre → List (Int × Int) → Nat
 | _,[] => 0
 | h,x :: r => sInsM h + sPutM (sIns h x) r
def smeld (a b:List Tre):List Tre:=bmeld (levT a) (levT b)
def smeldN (a b:List Tre):Nat:=levN a + levN b + bmeldN (levT a) (levT b)
def besAt (l:List Tre) (i:Nat):List (Int × Int):=match l[i]? with
 | some t => t.bs
 | none => []
def sBase (l:List Tre) (i:Nat):List Tre:=bmeld (kidsAt l i) (levT (restAt l i))
def sBaseN (l:List Tre) (i:Nat):Nat:=levN (restAt l i) + bmeldN (kidsAt l i) (levT (restAt l i))
def sPop:List Tre → List Tre
 | [] => []
 | t :: r => (besAt (t :: r) (leastI (t :: r))).foldl sIns (sBase (t :: r) (leastI (t :: r)))
def sPopN:List Tre → Nat
 | [] => 0
 | t :: r => sBaseN (t :: r) (leastI (t :: r)) + sPutN (sBase (t :: r) (leastI (t :: r))) (besAt (t :: r) (leastI (t :: r)))
def sPopM:List Tre → Nat
 | [] => 0
 | t :: r => sBaseN (t :: r) (leastI (t :: r)) + sPutM (sBase (t :: r) (leastI (t :: r))) (besAt (t :: r) (leastI (t :: r)))
theorem sIns_eq {f g:Tre} {r:List Tre} (x:Int × Int) (h:f.rank = g.rank):sIns (f :: g :: r) x = skT x f g :: r:=by show (if f.rank = g.rank then skT x f g :: r else leafT x :: f :: g :: r) = _;rw [if_pos h]
theorem sIns_ne {f g:Tre} {r:List Tre} (x:Int × Int) (h:f.rank ≠ g.rank):sIns (f :: g :: r) x = leafT x :: f :: g :: r:=by show (if f.rank = g.rank then skT x f g :: r else leafT x :: f :: g :: r) = _;rw [if_neg h]
theorem sInsN_le (h:List Tre):sInsN h ≤ 2:=by
 unfold sInsN;split
 ·split <;> omega
 ·omega
theorem sInsM_le (h:List Tre):sInsM h ≤ 2 ∧ sInsN h ≤ sInsM h:=by
 match h with
 | [] => exact ⟨by decide,by decide⟩
 | [f] => exact ⟨by simp [sInsM],by simp [sInsM,sInsN]⟩
 | f :: g :: r =>
  show (if f.rank = g.rank then 2 else 1) ≤ 2 ∧ (if f.rank = g.rank then 2 else 0) ≤ (if f.rank = g.rank then 2 else 1);split <;> exact ⟨by omega,by omega⟩
theorem skw_all (y:Int × Int) (t:Tre):(skw y t).all.Perm (y :: t.all):=by
 unfold skw;split
 ·simp only [Tre.all,List.cons_append];exact List.Perm.swap _ _ _
 ·exact List.Perm.refl _
theorem skT_all (x:Int × Int) (f g:Tre):(skT x f g).all.Perm (x :: (f.all ++ g.all)):=(skw_all x _).trans (List.Perm.cons x (lnk_all f g))
theorem skT_size (x:Int × Int) (f g:Tre):(skT x f g).size = f.size + g.size + 1:=by unfold skT;rw [skw_size,lnk_size]
theorem levT_all:∀ l:List Tre,(bAll (levT l)).Perm (bAll l)
 | [] => List.Perm.refl _
 | t :: r => putT_all r t
theorem levT_size (l:List Tre):bSize (levT l) = bSize l:=by
 have:=(levT_all l).length_eq;rwa [bAll_length,bAll_length] at this
theorem levT_len:∀ l:List Tre,(levT l).length + levN l = l.length
 | [] => rfl
 | t :: r => putT_len r t
theorem sIns_all (h:List Tre) (x:Int × Int):(bAll (sIns h x)).Perm (x :: bAll h):=by
 match h with
 | [] => exact List.Perm.refl _
 | [f] => exact List.Perm.refl _
 | f :: g :: r =>
  by_cases e:f.rank = g.rank
  ·rw [sIns_eq x e];simp only [bAll];rw [← List.append_assoc,← List.cons_append];exact (skT_all x f g).append_right _
  ·rw [sIns_ne x e];exact List.Perm.refl _
theorem sIns_size (h:List Tre) (x:Int × Int):bSize (sIns h x) = bSize h + 1:=by
 have:=(sIns_all h x).length_eq;rwa [bAll_length,List.length_cons,bAll_length] at this
theorem sfold_all:∀ (l:List (Int × Int)) (h:List Tre),(bAll (l.foldl sIns h)).Perm (bAll h ++ l)
 | [],h => by simp
 | x :: r,h => by
  refine (sfold_all r (sIns h x)).trans ?_;refine ((sIns_all h x).append_right r).trans ?_;simp only [List.cons_append];exact List.perm_middle.symm
theorem sOf_all (l:List (Int × Int)):(bAll (sOf l)).Perm l:=by have:=sfold_all l [];simpa [bAll,sOf] using this
theorem sPutN_le:∀ (l:List (Int × Int)) (h:List Tre),sPutN h l ≤ 2 * l.length ∧ sPutM h l ≤ 2 * l.length
 | [],_ => ⟨Nat.le_refl _,Nat.le_refl _⟩
 | x :: r,h => by
  have h1:=sPutN_le r (sIns h x);have h2:=sInsN_le h;have h3:=sInsM_le h;simp only [sPutN,sPutM,List.length_cons];omega
theorem smeld_all (a b:List Tre):(bAll (smeld a b)).Perm (bAll a ++ bAll b):=(bmeld_all _ _).trans ((levT_all a).append (levT_all b))
theorem smeld_size (a b:List Tre):bSize (smeld a b) = bSize a + bSize b:=by unfold smeld;rw [bmeld_size,levT_size,levT_size]
theorem smeldN_le (a b:List Tre):smeldN a b ≤ a.length + b.length:=by
 have h1:=levT_len a;have h2:=levT_len b;have h3:=bmeld_len (levT a) (levT b);unfold smeldN;omega
def _root_.Go.Proofs.YtmeodbjlmjpnbaaGreat.Wood.sk:Wood → Prop
 | .nil => True
 | .cons _ bs ks r => bs.length ≤ ks.len ∧ ks.len = r.len ∧ ks.sk ∧ r.sk
def _root_.Go.Proofs.YtmeodbjlmjpnbaaGreat.Tre.sk (t:Tre):Prop:=t.bs.length ≤ t.rank ∧ t.ks.sk
theorem lnk_sk {a b:Tre} (h:a.rank = b.rank) (ha:a.sk) (hb:b.sk):(lnk a b).sk:=by
 have h1:=ha.1;have h2:=hb.1;simp only [Tre.rank] at h h1 h2;unfold lnk;split
 ·exact ⟨by simp only [Tre.rank,Wood.len];omega,h1,h,ha.2,hb.2⟩
 ·exact ⟨by simp only [Tre.rank,Wood.len];omega,h2,h.symm,hb.2,ha.2⟩
theorem skw_rank (y:Int × Int) (t:Tre):(skw y t).rank = t.rank:=by unfold skw;split <;> rfl
theorem skT_rank {x:Int × Int} {a b:Tre} (h:a.rank = b.rank):(skT x a b).rank = a.rank + 1:=by unfold skT;rw [skw_rank,lnk_rank h]
theorem skT_sk {x:Int × Int} {a b:Tre} (h:a.rank = b.rank) (ha:a.sk) (hb:b.sk):(skT x a b).sk:=by
 have h0:=lnk_sk h ha hb
 have h1:(lnk a b).bs.length ≤ a.rank:=by
  have h1:=ha.1;have h2:=hb.1;unfold lnk;split <;> simp only <;> omega
 have h2:=lnk_rank h;unfold skT skw;simp only [Tre.rank] at h1 h2;split
 ·exact ⟨by simp only [Tre.rank,List.length_cons];omega,h0.2⟩
 ·exact ⟨by simp only [Tre.rank,List.length_cons];omega,h0.2⟩
theorem skw_hok {y:Int × Int} {t:Tre} (h:t.hok):(skw y t).hok:=by
 unfold skw;split
 next hv =>
  refine ⟨fun e he => ?_,h.2⟩;simp only [List.cons_append,List.mem_cons] at he;rcases he with rfl | he
  ·show ltE e t.x = false;rw [ltE_not];rw [ltE_iff] at hv;omega
  ·exact h.1 e he
 next hv =>
  have hv':ltE t.x y = false:=by simpa using hv
  refine ⟨fun e he => ?_,h.2⟩;simp only [List.cons_append,List.mem_cons] at he;rcases he with rfl | he
  ·exact hv'
  ·exact swoE.ntrans _ _ _ (h.1 e he) hv'
theorem skT_hok {x:Int × Int} {a b:Tre} (ha:a.hok) (hb:b.hok):(skT x a b).hok:=skw_hok (lnk_hok ha hb)
theorem leaf_sk (x:Int × Int):(leafT x).sk:=⟨Nat.zero_le _,trivial⟩
theorem _root_.Go.Proofs.YtmeodbjlmjpnbaaGreat.Wood.sk_size:∀ {w:Wood},w.sk → 2 ^ w.len ≤ w.size + 1 ∧ w.size + w.len + 2 ≤ 2 ^ (w.len + 1)
 | .nil,_ => ⟨Nat.le_refl _,by decide⟩
 | .cons x bs ks r,⟨h1,h2,h3,h4⟩ => by
  have i1:=Wood.sk_size h3;have i2:=Wood.sk_size h4;rw [h2] at i1 h1;simp only [Wood.size,Wood.len,Nat.pow_succ] at *;omega
theorem _root_.Go.Proofs.YtmeodbjlmjpnbaaGreat.Tre.sk.sizes {t:Tre} (h:t.sk):2 ^ t.rank ≤ t.size ∧ t.size < 2 ^ (t.rank + 1):=by
 have h1:=Wood.sk_size h.2;have h2:=h.1;simp only [Tre.size,Tre.rank,Nat.pow_succ] at *;omega
theorem putT_sgood:∀ (l:List Tre) (t:Tre),t.hok → t.sk → (∀ u ∈ l,t.rank ≤ u.rank) → (∀ u ∈ l,u.hok) → (∀ u ∈ l,u.sk) → l.Pairwise (fun a b => a.rank < b.rank) →
  (∀ u ∈ putT l t,u.hok) ∧ (∀ u ∈ putT l t,u.sk) ∧ (putT l t).Pairwise (fun a b => a.rank < b.rank) ∧ ∀ u ∈ putT l t,t.rank ≤ u.rank
 | [],t,h1,h2,_,_,_,_ => by simp [putT,h1,h2]
 | u :: r,t,h1,h2,h3,h4,h5,h6 => by
  unfold putT;obtain ⟨h7,h8⟩:=List.pairwise_cons.1 h6;have hu:=h3 u (by simp);split
  next hr =>
   refine ⟨fun v hv => ?_,fun v hv => ?_,List.pairwise_cons.2 ⟨fun v hv => ?_,h6⟩,fun v hv => ?_⟩
   ·rcases List.mem_cons.1 hv with rfl | hv;exact h1;exact h4 v hv
   ·rcases List.mem_cons.1 hv with rfl | hv;exact h2;exact h5 v hv
   ·rcases List.mem_cons.1 hv with rfl | hv;exact hr;exact Nat.lt_trans hr (h7 v hv)
   ·rcases List.mem_cons.1 hv with rfl | hv;exact Nat.le_refl _;exact h3 v hv
  next hr =>
   have he:t.rank = u.rank:=by omega
   have hk:=lnk_rank he;obtain ⟨g1,g2,g3,g4⟩:=putT_sgood r (lnk t u) (lnk_hok h1 (h4 u (by simp))) (lnk_sk he h2 (h5 u (by simp))) (fun v hv => by have:=h7 v hv;omega) (fun v hv => h4 v (by simp [hv])) (fun v hv => h5 v (by simp [hv])) h8;exact ⟨g1,g2,g3,fun v hv => by have:=g4 v hv;omega⟩
theorem bmeld_sgood:∀ a b:List Tre,(∀ t ∈ a,t.hok) → (∀ t ∈ b,t.hok) → (∀ t ∈ a,t.sk) → (∀ t ∈ b,t.sk) → a.Pairwise (fun a b => a.rank < b.rank) → b.Pairwise (fun a b => a.rank < b.rank) →
  (∀ u ∈ bmeld a b,u.hok) ∧ (∀ u ∈ bmeld a b,u.sk) ∧ (bmeld a b).Pairwise (fun a b => a.rank < b.rank) ∧ ∀ k,(∀ u ∈ a,k ≤ u.rank) → (∀ u ∈ b,k ≤ u.rank) → ∀ u ∈ bmeld a b,k ≤ u.rank:=by
 refine bmeld_ind (P:=fun a b => (∀ t ∈ a,t.hok) → (∀ t ∈ b,t.hok) → (∀ t ∈ a,t.sk) → (∀ t ∈ b,t.sk) → a.Pairwise (fun a b => a.rank < b.rank) → b.Pairwise (fun a b => a.rank < b.rank) →
  (∀ u ∈ bmeld a b,u.hok) ∧ (∀ u ∈ bmeld a b,u.sk) ∧ (bmeld a b).Pairwise (fun a b => a.rank < b.rank) ∧ ∀ k,(∀ u ∈ a,k ≤ u.rank) → (∀ u ∈ b,k ≤ u.rank) → ∀ u ∈ bmeld a b,k ≤ u.rank) ?_ ?_ ?_ ?_ ?_
 ·intro b _ h2 _ h4 _ h6;rw [bmeld_nil];exact ⟨h2,h4,h6,fun k _ hk => hk⟩
 ·intro f a h1 _ h3 _ h5 _;rw [bmeld_right];exact ⟨h1,h3,h5,fun k hk _ => hk⟩
 ·intro f a g b h ih h1 h2 h3 h4 h5 h6;rw [bmeld_lt h];obtain ⟨p1,p2⟩:=List.pairwise_cons.1 h5;obtain ⟨q1,q2⟩:=List.pairwise_cons.1 h6;obtain ⟨g1,g2,g3,g4⟩:=ih (fun t ht => h1 t (by simp [ht])) h2 (fun t ht => h3 t (by simp [ht])) h4 p2 h6;refine ⟨fun v hv => ?_,fun v hv => ?_,List.pairwise_cons.2 ⟨fun v hv => ?_,g3⟩,fun k hk1 hk2 v hv => ?_⟩
  ·rcases List.mem_cons.1 hv with rfl | hv;exact h1 _ (by simp);exact g1 v hv
  ·rcases List.mem_cons.1 hv with rfl | hv;exact h3 _ (by simp);exact g2 v hv
  ·refine g4 (f.rank + 1) (fun u hu => p1 u hu) (fun u hu => ?_) v hv;rcases List.mem_cons.1 hu with rfl | hu
   ·exact h
   ·have:=q1 u hu;omega
  ·rcases List.mem_cons.1 hv with rfl | hv;exact hk1 _ (by simp);exact g4 k (fun u hu => hk1 u (by simp [hu])) hk2 v hv
 ·intro f a g b h ih h1 h2 h3 h4 h5 h6;rw [bmeld_gt h];obtain ⟨p1,p2⟩:=List.pairwise_cons.1 h5;obtain ⟨q1,q2⟩:=List.pairwise_cons.1 h6;obtain ⟨g1,g2,g3,g4⟩:=ih h1 (fun t ht => h2 t (by simp [ht])) h3 (fun t ht => h4 t (by simp [ht])) h5 q2;refine ⟨fun v hv => ?_,fun v hv => ?_,List.pairwise_cons.2 ⟨fun v hv => ?_,g3⟩,fun k hk1 hk2 v hv => ?_⟩
  ·rcases List.mem_cons.1 hv with rfl | hv;exact h2 _ (by simp);exact g1 v hv
  ·rcases List.mem_cons.1 hv with rfl | hv;exact h4 _ (by simp);exact g2 v hv
  ·refine g4 (g.rank + 1) (fun u hu => ?_) (fun u hu => q1 u hu) v hv;rcases List.mem_cons.1 hu with rfl | hu
   ·exact h
   ·have:=p1 u hu;omega
  ·rcases List.mem_cons.1 hv with rfl | hv;exact hk2 _ (by simp);exact g4 k hk1 (fun u hu => hk2 u (by simp [hu])) v hv
 ·intro f a g b h ih h1 h2 h3 h4 h5 h6;rw [bmeld_eq h];obtain ⟨p1,p2⟩:=List.pairwise_cons.1 h5;obtain ⟨q1,q2⟩:=List.pairwise_cons.1 h6;obtain ⟨g1,g2,g3,g4⟩:=ih (fun t ht => h1 t (by simp [ht])) (fun t ht => h2 t (by simp [ht])) (fun t ht => h3 t (by simp [ht])) (fun t ht => h4 t (by simp [ht])) p2 q2;have hk:=lnk_rank h;have g5:=g4 (f.rank + 1) (fun u hu => p1 u hu) (fun u hu => by have:=q1 u hu;omega);obtain ⟨k1,k2,k3,k4⟩:=putT_sgood (bmeld a b) (lnk f g) (lnk_hok (h1 f (by simp)) (h2 g (by simp))) (lnk_sk h (h3 f (by simp)) (h4 g (by simp))) (fun u hu => by have:=g5 u hu;omega) g1 g2 g3;refine ⟨k1,k2,k3,fun k hk1 hk2 v hv => ?_⟩;have:=k4 v hv;have:=hk1 f (by simp);omega
theorem _root_.Go.Proofs.YtmeodbjlmjpnbaaGreat.Wood.list_sk:∀ {w:Wood},w.sk → ∀ t ∈ w.list,t.sk ∧ t.rank < w.len
 | .nil,_,_,ht => by simp [Wood.list] at ht
 | .cons x bs ks r,h,t,ht => by
  rcases List.mem_cons.1 ht with rfl | ht
  ·exact ⟨⟨h.1,h.2.2.1⟩,by simp only [Tre.rank,Wood.len];have:=h.2.1;omega⟩
  ·have:=Wood.list_sk h.2.2.2 t ht;exact ⟨this.1,by simp only [Wood.len];omega⟩
theorem _root_.Go.Proofs.YtmeodbjlmjpnbaaGreat.Wood.list_srise:∀ {w:Wood},w.sk → w.list.reverse.Pairwise (fun a b => a.rank < b.rank)
 | .nil,_ => by simp [Wood.list]
 | .cons x bs ks r,h => by
  simp only [Wood.list,List.reverse_cons,List.pairwise_append];refine ⟨Wood.list_srise h.2.2.2,by simp,fun a ha b hb => ?_⟩;simp only [List.mem_singleton] at hb;subst hb;have:=(Wood.list_sk h.2.2.2 a (by simpa using ha)).2;simp only [Tre.rank] at *;have:=h.2.1;omega
def upto:List Tre → Prop
 | [] => True
 | t :: r => (∀ u ∈ r,t.rank ≤ u.rank) ∧ r.Pairwise (fun a b => a.rank < b.rank)
theorem upto_of {l:List Tre} (h:l.Pairwise (fun a b => a.rank < b.rank)):upto l:=by
 cases l with
 | nil => trivial
 | cons t r => obtain ⟨h1,h2⟩:=List.pairwise_cons.1 h;exact ⟨fun u hu => Nat.le_of_lt (h1 u hu),h2⟩
structure sOk (h:List Tre):Prop where
 hok:∀ t ∈ h,t.hok
 sk:∀ t ∈ h,t.sk
 up:upto h
structure sGood (h:List Tre):Prop where
 ok:sOk h
 fit:fits (bAll h)
theorem levT_good {h:List Tre} (k:sOk h):(∀ u ∈ levT h,u.hok) ∧ (∀ u ∈ levT h,u.sk) ∧ (levT h).Pairwise (fun a b => a.rank < b.rank):=by
 cases h with
 | nil => exact ⟨by simp [levT],by simp [levT],List.Pairwise.nil⟩
 | cons t r =>
  obtain ⟨g1,g2,g3, -⟩:=putT_sgood r t (k.hok t (by simp)) (k.sk t (by simp)) k.up.1 (fun u hu => k.hok u (by simp [hu])) (fun u hu => k.sk u (by simp [hu])) k.up.2;exact ⟨g1,g2,g3⟩
theorem sok_nil:sOk []:=⟨by simp,by simp,trivial⟩
theorem sgood_nil:sGood []:=⟨sok_nil,by simp [bAll,fits.nil]⟩
theorem sok_meld {a b:List Tre} (ha:sOk a) (hb:sOk b):sOk (smeld a b):=by
 obtain ⟨a1,a2,a3⟩:=levT_good ha;obtain ⟨b1,b2,b3⟩:=levT_good hb;obtain ⟨h1,h2,h3, -⟩:=bmeld_sgood (levT a) (levT b) a1 b1 a2 b2 a3 b3;exact ⟨h1,h2,upto_of h3⟩
theorem sok_ins {h:List Tre} (x:Int × Int) (k:sOk h):sOk (sIns h x):=by
 have leaf:∀ l:List Tre,(∀ u ∈ l,u.hok) → (∀ u ∈ l,u.sk) → l.Pairwise (fun a b => a.rank < b.rank) → sOk (leafT x :: l):=fun l h1 h2 h3 =>
  ⟨fun u hu => by rcases List.mem_cons.1 hu with rfl | hu;exact leaf_hok x;exact h1 u hu,fun u hu => by rcases List.mem_cons.1 hu with rfl | hu;exact leaf_sk x;exact h2 u hu,fun u _ => Nat.zero_le _,h3⟩
 match h,k with
 | [],k => exact leaf [] k.hok k.sk List.Pairwise.nil
 | [f],k => exact leaf [f] k.hok k.sk (by simp)
 | f :: g :: r,k =>
  obtain ⟨u1,u2⟩:=k.up;obtain ⟨u3,u4⟩:=List.pairwise_cons.1 u2;by_cases e:f.rank = g.rank
  ·rw [sIns_eq x e];have hr:=skT_rank (x:=x) e;refine ⟨fun u hu => ?_,fun u hu => ?_,fun u hu => ?_,u4⟩
   ·rcases List.mem_cons.1 hu with rfl | hu
    ·exact skT_hok (k.hok f (by simp)) (k.hok g (by simp))
    ·exact k.hok u (by simp [hu])
   ·rcases List.mem_cons.1 hu with rfl | hu
    ·exact skT_sk e (k.sk f (by simp)) (k.sk g (by simp))
    ·exact k.sk u (by simp [hu])
   ·have:=u3 u hu;omega
  ·rw [sIns_ne x e];refine leaf _ k.hok k.sk (List.pairwise_cons.2 ⟨fun u hu => ?_,u2⟩);have h1:=u1 g (by simp);rcases List.mem_cons.1 hu with rfl | hu
   ·omega
   ·have:=u3 u hu;omega
theorem sok_fold:∀ (l:List (Int × Int)) (h:List Tre),sOk h → sOk (l.foldl sIns h)
 | [],_,hh => hh
 | x :: r,_,hh => sok_fold r _ (sok_ins x hh)
theorem sok_of (l:List (Int × Int)):sOk (sOf l):=sok_fold l [] sok_nil
theorem restAt_up {l:List Tre} {i:Nat} (h:upto l):upto (restAt l i):=by
 cases l with
 | nil => simp [restAt,upto]
 | cons t r =>
  cases i with
  | zero => simp only [restAt,List.take_zero,List.nil_append,Nat.zero_add,List.drop_succ_cons,List.drop_zero];exact upto_of h.2
  | succ i =>
   have e:restAt (t :: r) (i + 1) = t :: restAt r i:=by simp [restAt]
   rw [e];exact ⟨fun u hu => h.1 u (restAt_mem hu),restAt_rise h.2⟩
theorem sok_base {h:List Tre} (hh:sOk h) {i:Nat} (hi:i < h.length):sOk (sBase h i):=by
 have hm:=List.getElem_mem hi;have hk:kidsAt h i = h[i].ks.list.reverse:=by unfold kidsAt;rw [List.getElem?_eq_getElem hi]
 unfold sBase;rw [hk];generalize h[i] = u at *;have hu:=hh.hok u hm;have hb:=hh.sk u hm;obtain ⟨b1,b2,b3⟩:=levT_good (h:=restAt h i) ⟨fun v hv => hh.hok v (restAt_mem hv),fun v hv => hh.sk v (restAt_mem hv),restAt_up hh.up⟩;obtain ⟨h1,h2,h3, -⟩:=bmeld_sgood u.ks.list.reverse (levT (restAt h i)) (fun v hv => Wood.list_hok hu.2 v (by simpa using hv)) b1 (fun v hv => (Wood.list_sk hb.2 v (by simpa using hv)).1) b2 (Wood.list_srise hb.2) b3;exact ⟨h1,h2,upto_of h3⟩
theorem sok_pop {h:List Tre} (hh:sOk h):sOk (sPop h):=by
 match h,hh with
 | [],_ => exact sok_nil
 | t :: r,hh => exact sok_fold _ _ (sok_base hh (leastI_lt (l:=t :: r) (by simp)))
theorem sbase_all {h:List Tre} {i:Nat} (hi:i < h.length):(bAll h).Perm (h[i].x :: (besAt h i ++ bAll (sBase h i))):=by
 have hp:=restAt_all hi;have hk:kidsAt h i = h[i].ks.list.reverse:=by unfold kidsAt;rw [List.getElem?_eq_getElem hi]
 have hb:besAt h i = h[i].bs:=by unfold besAt;rw [List.getElem?_eq_getElem hi]
 unfold sBase;rw [hk,hb];generalize h[i] = u at *;refine hp.trans ?_;simp only [Tre.all,List.cons_append,List.append_assoc];refine List.Perm.cons _ (List.Perm.append_left _ ?_);refine List.Perm.trans ?_ (bmeld_all _ _).symm;refine List.Perm.append ?_ (levT_all _).symm;exact ((bAll_reverse _).trans (by rw [Wood.list_all])).symm
theorem spop_all {h:List Tre} (hne:h ≠ []):(bAll h).Perm ((bMin h).1 :: bAll (sPop h)):=by
 match h,hne with
 | t :: r,_ =>
  have hl:=leastI_lt (l:=t :: r) (by simp);have hroot:rootAt (t :: r) (leastI (t :: r)) = ((t :: r)[leastI (t :: r)]).x:=by unfold rootAt;rw [List.getElem?_eq_getElem hl]
  show (bAll (t :: r)).Perm (rootAt (t :: r) (leastI (t :: r)) :: bAll ((besAt (t :: r) (leastI (t :: r))).foldl sIns (sBase (t :: r) (leastI (t :: r)))));rw [hroot];refine (sbase_all hl).trans (List.Perm.cons _ ?_);exact List.perm_append_comm.trans (sfold_all _ _).symm
theorem sgood_pop {h:List Tre} (hh:sGood h):sGood (sPop h):=by
 refine ⟨sok_pop hh.ok,?_⟩;by_cases hne:h = []
 ·subst hne;simp [sPop,bAll,fits.nil]
 ·exact (hh.fit.perm (spop_all hne)).cons.2
theorem bmin_least {h:List Tre} (hh:∀ t ∈ h,t.hok) (hne:h ≠ []):∀ e ∈ bAll h,ltE e (bMin h).1 = false:=by
 match h,hne with
 | t :: r,_ =>
  intro e he;obtain ⟨v,hv,hev⟩:=mem_bAll he;obtain ⟨j,hj,rfl⟩:=List.getElem_of_mem hv;have h1:=(hh _ hv).le hev;have h2:=leastK_least (t :: r) ((t :: r).length - 1) j (by omega);have h3:rootAt (t :: r) j = ((t :: r)[j]).x:=by unfold rootAt;rw [List.getElem?_eq_getElem hj]
  rw [h3] at h2;exact swoE.ntrans _ _ _ h1 h2
theorem spop_srt {h:List Tre} (hh:sOk h) (hne:h ≠ []):srt (bAll h) = (bMin h).1 :: srt (bAll (sPop h)):=by
 have hp:=spop_all hne;rw [srt_perm hp];exact srt_cons (fun e he => bmin_least hh.hok hne e (hp.symm.subset (List.mem_cons_of_mem _ he)))
end Go.Proofs.YtmeodbjlmjpnbaaGreat.Sk
namespace Go.Proofs.YtmeodbjlmjpnbaaGreat.Sk
open Go.Sort Go.RowKit
structure Lh where
 ts:List Tre
def Lh.nil:Lh:=⟨[]⟩
def Lh.size (h:Lh):Nat:=bSize h.ts
def Lh.all (h:Lh):List (Int × Int):=bAll h.ts
def Lh.show (h:Lh):List UInt8:=bShow h.ts
def Lh.min (h:Lh):(Int × Int) × Bool:=bMin h.ts
def Lh.some (h:Lh):Bool:=h.min.2
def Lh.one (x:Int × Int):Lh:=⟨[leafT x]⟩
def meld (a b:Lh):Lh:=⟨smeld a.ts b.ts⟩
def meldN (a b:Lh):Nat:=smeldN a.ts b.ts
def Lh.insert (h:Lh) (x:Int × Int):Lh:=⟨sIns h.ts x⟩
def Lh.insC (h:Lh):Nat:=sInsN h.ts
def Lh.insM (h:Lh):Nat:=sInsM h.ts
def Lh.pop (h:Lh):Lh:=⟨sPop h.ts⟩
def Lh.popC (h:Lh):Nat:=sPopN h.ts
def Lh.popM (h:Lh):Nat:=sPopM h.ts
def Lh.tellN (h:Lh):Nat:=h.ts.length - 1
def ofL (l:List (Int × Int)):Lh:=l.foldl Lh.insert .nil
def putC:Lh → List (Int × Int) → Nat
 | _,[] => 0
 | h,x :: r => h.insC + putC (h.insert x) r
def putM:Lh → List (Int × Int) → Nat
 | _,[] => 0
 | h,x :: r => h.insM + putM (h.insert x) r
theorem fold_ts:∀ (l:List (Int × Int)) (h:Lh),(l.foldl Lh.insert h).ts = l.foldl sIns h.ts
 | [],_ => rfl
 | x :: r,h => by rw [List.foldl_cons,List.foldl_cons,fold_ts r (h.insert x)];rfl
theorem ofL_ts (l:List (Int × Int)):(ofL l).ts = sOf l:=fold_ts l .nil
theorem Lh.all_length (h:Lh):h.all.length = h.size:=bAll_length _
theorem meld_all (a b:Lh):(meld a b).all.Perm (a.all ++ b.all):=smeld_all _ _
theorem meld_size (a b:Lh):(meld a b).size = a.size + b.size:=smeld_size _ _
theorem insert_all (h:Lh) (x:Int × Int):(h.insert x).all.Perm (x :: h.all):=sIns_all _ _
theorem insert_size (h:Lh) (x:Int × Int):(h.insert x).size = h.size + 1:=sIns_size _ _
theorem insC_le (h:Lh):h.insC ≤ 2:=sInsN_le _
theorem insM_le (h:Lh):h.insM ≤ 2:=(sInsM_le h.ts).1
theorem ofL_all (l:List (Int × Int)):(ofL l).all.Perm l:=by unfold Lh.all;rw [ofL_ts];exact sOf_all l
theorem putC_snoc:∀ (l:List (Int × Int)) (h:Lh) (x:Int × Int),putC h (l ++ [x]) = putC h l + (l.foldl Lh.insert h).insC
 | [],h,x => by simp [putC]
 | y :: l,h,x => by simp only [List.cons_append,putC,List.foldl_cons];rw [putC_snoc l (h.insert y) x];omega
theorem putM_snoc:∀ (l:List (Int × Int)) (h:Lh) (x:Int × Int),putM h (l ++ [x]) = putM h l + (l.foldl Lh.insert h).insM
 | [],h,x => by simp [putM]
 | y :: l,h,x => by simp only [List.cons_append,putM,List.foldl_cons];rw [putM_snoc l (h.insert y) x];omega
theorem put_le:∀ (l:List (Int × Int)) (h:Lh),putC h l ≤ 2 * l.length ∧ putM h l ≤ 2 * l.length
 | [],_ => ⟨Nat.le_refl _,Nat.le_refl _⟩
 | x :: r,h => by
  have h1:=put_le r (h.insert x);have h2:=insC_le h;have h3:=insM_le h;simp only [putC,putM,List.length_cons];omega
def Lh.ok (h:Lh):Prop:=sOk h.ts
theorem meld_ok (a b:Lh) (ha:a.ok) (hb:b.ok):(meld a b).ok:=sok_meld ha hb
theorem insert_ok {h:Lh} (x:Int × Int) (hk:h.ok):(h.insert x).ok:=sok_ins x hk
theorem ofL_ok (l:List (Int × Int)):(ofL l).ok:=by unfold Lh.ok;rw [ofL_ts];exact sok_of l
theorem pop_ok {h:Lh} (hk:h.ok):h.pop.ok:=sok_pop hk
theorem Lh.size_nil {h:Lh} (hz:h.size = 0):h = .nil:=by
 obtain ⟨l⟩:=h;have:l = []:=bSize_nil hz;subst this;rfl
theorem trees_size (h:Lh):h.ts.length ≤ h.size:=by
 obtain ⟨l⟩:=h;show l.length ≤ bSize l;induction l with
 | nil => exact Nat.le_refl _
 | cons t r ih => simp only [List.length_cons,bSize,Tre.size];omega
theorem meldN_size (a b:Lh):meldN a b ≤ a.size + b.size:=by
 have h1:=smeldN_le a.ts b.ts;have h2:=trees_size a;have h3:=trees_size b;unfold meldN;omega
theorem tellN_size (h:Lh):h.tellN ≤ h.size:=by have:=trees_size h;unfold Lh.tellN;omega
theorem pop_counts (h:Lh):h.popC ≤ 2 * h.size ∧ h.popM ≤ 2 * h.size:=by
 obtain ⟨l⟩:=h;match l with
 | [] => exact ⟨Nat.zero_le _,Nat.zero_le _⟩
 | t :: r =>
  have hl:=leastI_lt (l:=t :: r) (by simp);have hk:kidsAt (t :: r) (leastI (t :: r)) = ((t :: r)[leastI (t :: r)]).ks.list.reverse:=by unfold kidsAt;rw [List.getElem?_eq_getElem hl]
  have hb:besAt (t :: r) (leastI (t :: r)) = ((t :: r)[leastI (t :: r)]).bs:=by unfold besAt;rw [List.getElem?_eq_getElem hl]
  have h1:=levT_len (restAt (t :: r) (leastI (t :: r)));have h2:=bmeld_len (kidsAt (t :: r) (leastI (t :: r))) (levT (restAt (t :: r) (leastI (t :: r))));have h3:=trees_size ⟨restAt (t :: r) (leastI (t :: r))⟩;have h4:=(restAt_all hl).length_eq;rw [bAll_length,List.length_append,bAll_length,Tre.all_length] at h4;have h5:=((t :: r)[leastI (t :: r)]).ks.len_le;have h6:(kidsAt (t :: r) (leastI (t :: r))).length = ((t :: r)[leastI (t :: r)]).ks.len:=by rw [hk,List.length_reverse,Wood.list_len]
  have h7:=sPutN_le (besAt (t :: r) (leastI (t :: r))) (sBase (t :: r) (leastI (t :: r)));have h8:((t :: r)[leastI (t :: r)]).size = 1 + ((t :: r)[leastI (t :: r)]).bs.length + ((t :: r)[leastI (t :: r)]).ks.size:=rfl;rw [hb] at h7;simp only [Lh.size] at h3;show sPopN (t :: r) ≤ 2 * bSize (t :: r) ∧ sPopM (t :: r) ≤ 2 * bSize (t :: r);simp only [sPopN,sPopM,sBaseN];rw [hb];omega
structure Lh.good (h:Lh):Prop where
 ok:h.ok
 fit:fits h.all
theorem good_meld {a b:Lh} (ha:a.good) (hb:b.good):(meld a b).good:=⟨meld_ok _ _ ha.ok hb.ok,(ha.fit.join hb.fit).perm (meld_all a b).symm⟩
theorem good_insert {a:Lh} {x:Int × Int} (ha:a.good) (h:in64 x.1 ∧ in64 x.2):(a.insert x).good:=⟨insert_ok x ha.ok,(fits.more h ha.fit).perm (insert_all a x).symm⟩
theorem good_of {l:List (Int × Int)} (h:fits l):(ofL l).good:=⟨ofL_ok l,h.perm (ofL_all l).symm⟩
theorem good_pop {a:Lh} (ha:a.good):a.pop.good:=⟨pop_ok ha.ok,(sgood_pop ⟨ha.ok,ha.fit⟩).fit⟩
theorem srt_meld (a b:Lh):srt (meld a b).all = srt (a.all ++ b.all):=srt_perm (meld_all a b)
theorem srt_insert (a:Lh) (x:Int × Int):srt (a.insert x).all = srt (x :: a.all):=srt_perm (insert_all a x)
theorem srt_of (l:List (Int × Int)):srt (ofL l).all = srt l:=srt_perm (ofL_all l)
theorem ok_srt {h:Lh} (hk:h.ok) (hne:h.min.2 = true):srt h.all = h.min.1 :: srt h.pop.all:=by
 have:h.ts ≠ []:=by intro e;unfold Lh.min at hne;rw [e] at hne;cases hne
 exact spop_srt hk this
theorem srt_pop {a:Lh} (h:a.ok):srt a.pop.all = (srt a.all).tail:=by
 by_cases hne:a.min.2 = true
 ·rw [ok_srt h hne];rfl
 ·have:a.ts = []:=by
   cases ht:a.ts with
   | nil => rfl
   | cons t r => unfold Lh.min at hne;rw [ht] at hne;exact absurd rfl hne
  unfold Lh.pop Lh.all;rw [this];show srt (bAll []) = (srt (bAll [])).tail;simp [bAll,srt_nil]
theorem some_pos (t:Lh):t.some = decide (0 < t.size):=by
 obtain ⟨l⟩:=t
 cases l with
 | nil => rfl
 | cons t r =>
  show true = decide (0 < bSize (t :: r));exact (decide_eq_true (by simp only [bSize,Tre.size];omega)).symm
theorem min_some (t:Lh):t.min.2 = t.some:=rfl
end Go.Proofs.YtmeodbjlmjpnbaaGreat.Sk
namespace Go.Proofs.YtmeodbjlmjpnbaaGreat.Sk.Hp
open Go.Sort Go.RowKit
structure HP where
 q:Option Addr
 n:Int
abbrev hp (p:HP):Value := .agg #[.pointer p.q,.int .i64 p.n]
def NodeT (t:TypeId):Prop:=TreeT t ∨ t = 291
abbrev Kp (W W':World):Prop:=Kpt NodeT W W'
theorem node_ne:¬ NodeT 89 := by unfold NodeT TreeT;decide
theorem elemT_ne:¬ NodeT 29 := by unfold NodeT TreeT;decide
theorem heapT_ne:¬ NodeT 117 := by unfold NodeT TreeT;decide
theorem listT_ne:¬ NodeT 106 := by unfold NodeT TreeT;decide
section
variable {W W':World}
theorem Kp.tree (h:Kp W W'):Go.Proofs.YtmeodbjlmjpnbaaGreat.Kp W W':=fun k cs t ht e => h k cs t (.inl ht) e
theorem ch_kp (h:Kp W W'):∀ {m m':Nat} {p:Option Addr} {xs:List (Option Addr)},W.heap.size ≤ W'.heap.size → m ≤ W.heap.size → m' = W'.heap.size → Chain Lt.one 291 m W p xs → Chain Lt.one 291 m' W' p xs
 | _,_,_,[],_,_,_,hl => hl
 | _,_,_,_ :: _,hs,hm,he,⟨b,q,hp,hb,hv,hr⟩ => ⟨b,q,hp,by omega,h _ _ _ (.inr rfl) hv,ch_kp h hs hm he hr⟩
def TsAt (W:World):List Tre → List (Option Addr) → Prop
 | [],ps => ps = []
 | t :: ts,ps => ∃ p ps',ps = p :: ps' ∧ TAt W p (some t) ∧ TsAt W ts ps'
theorem TsAt.kp (h:Kp W W'):∀ {ts:List Tre} {ps:List (Option Addr)},TsAt W ts ps → TsAt W' ts ps
 | [],_,hp => hp
 | _ :: _,_,⟨p,ps',e,h1,h2⟩ => ⟨p,ps',e,h1.kp h.tree,TsAt.kp h h2⟩
theorem TsAt.length:∀ {ts:List Tre} {ps:List (Option Addr)},TsAt W ts ps → ps.length = ts.length
 | [],_,h => by rw [h];rfl
 | _ :: _,_,⟨_,_,e,_,h⟩ => by rw [e,List.length_cons,h.length,List.length_cons]
theorem TsAt.at:∀ {ts:List Tre} {ps:List (Option Addr)} {j:Nat} {t:Tre},TsAt W ts ps → ts[j]? = some t → ∃ p,ps[j]? = some p ∧ TAt W p (some t)
 | [],_,_,_,_,h => by simp at h
 | u :: _,_,0,t,⟨p,ps',e,h1,_⟩,h => by
  have:u = t:=by simpa using h
  subst this;subst e;exact ⟨p,rfl,h1⟩
 | _ :: _,_,j + 1,t,⟨p,ps',e,_,h2⟩,h => by
  subst e;obtain ⟨q,hq,ht⟩:=TsAt.at (j:=j) h2 (by simpa using h);exact ⟨q,by simpa using hq,ht⟩
theorem TsAt.append:∀ {ts us:List Tre} {ps qs:List (Option Addr)},TsAt W ts ps → TsAt W us qs → TsAt W (ts ++ us) (ps ++ qs)
 | [],_,_,_,h,k => by rw [h];exact k
 | _ :: _,_,_,_,⟨p,ps',e,h1,h2⟩,k => by rw [e];exact ⟨p,ps' ++ _,rfl,h1,TsAt.append h2 k⟩
theorem TsAt.one {t:Tre} {p:Option Addr} (h:TAt W p (some t)):TsAt W [t] [p]:=⟨p,[],rfl,h,rfl⟩
theorem TsAt.reverse:∀ {ts:List Tre} {ps:List (Option Addr)},TsAt W ts ps → TsAt W ts.reverse ps.reverse
 | [],_,h => by rw [h];rfl
 | t :: ts,_,⟨p,ps',e,h1,h2⟩ => by
  rw [e,List.reverse_cons,List.reverse_cons];exact TsAt.append (TsAt.reverse h2) (TsAt.one h1)
theorem TsAt.take:∀ {ts:List Tre} {ps:List (Option Addr)} (k:Nat),TsAt W ts ps → TsAt W (ts.take k) (ps.take k)
 | [],_,k,h => by rw [h];simp [TsAt]
 | _ :: _,_,0,_ => by simp [TsAt]
 | _ :: _,_,k + 1,⟨p,ps',e,h1,h2⟩ => by rw [e];exact ⟨p,ps'.take k,rfl,h1,TsAt.take k h2⟩
theorem TsAt.drop:∀ {ts:List Tre} {ps:List (Option Addr)} (k:Nat),TsAt W ts ps → TsAt W (ts.drop k) (ps.drop k)
 | [],_,k,h => by rw [h];simp [TsAt]
 | _ :: _,_,0,h => h
 | _ :: _,_,k + 1,⟨p,ps',e,h1,h2⟩ => by rw [e];exact TsAt.drop k h2
theorem TsAt.tail {ts:List Tre} {ps:List (Option Addr)} (h:TsAt W ts ps):TsAt W ts.tail ps.tail:=by
 have:=h.drop 1;rwa [List.drop_one,List.drop_one] at this
theorem KAt.ts:∀ {ks:Wood} {ps:List (Option Addr)},KAt W ks ps → TsAt W ks.list ps
 | .nil,_,h => h
 | .cons _ _ _ _,_,⟨_,ps',e,hn,h⟩ => ⟨_,ps',e,⟨_,rfl,hn⟩,KAt.ts h⟩
def LAt (W:World) (t:Lh) (p:HP):Prop:=∃ ps,Ch Lt.one 291 W p.q ps ∧ TsAt W t.ts ps ∧ p.n = (t.ts.length:Nat) ∧ t.size < 268435456 ∧ t.ok
theorem LAt.kps {t:Lh} {p:HP} (hn:LAt W t p) (h:Kp W W') (hs:W.heap.size ≤ W'.heap.size):LAt W' t p:=by
 obtain ⟨ps,h1,h2,h3⟩:=hn;exact ⟨ps,ch_kp h hs (Nat.le_refl _) rfl h1,h2.kp h,h3⟩
theorem LAt.stay {t:Lh} {p:HP} (hn:LAt W t p) (h:Below W.heap.size W W'):LAt W' t p:=hn.kps (Kpt.below h) h.size
theorem LAt.small {t:Lh} {p:HP} (hn:LAt W t p):t.size < 268435456:=by obtain ⟨_,_,_,_,h,_⟩:=hn;exact h
theorem LAt.right {t:Lh} {p:HP} (hn:LAt W t p):t.ok:=by obtain ⟨_,_,_,_,_,h⟩:=hn;exact h
theorem LAt.len {t:Lh} {p:HP} (hn:LAt W t p):t.ts.length < 268435456:=by have:=hn.small;have:=trees_size t;omega
theorem LAt.list {t:Lh} {p:HP} (hn:LAt W t p):∃ (ps:List (Option Addr)) (n:Nat),p.n = (n:Int) ∧ n = t.ts.length ∧ Lt.LL W p.q n ps ∧ TsAt W t.ts ps:=by
 have hl:=hn.len;obtain ⟨ps,h1,h2,h3,h4,h5⟩:=hn;exact ⟨ps,t.ts.length,h3,rfl,⟨h1,h2.length.symm,by omega⟩,h2⟩
theorem LAt.of {ts:List Tre} {q:Option Addr} {n:Nat} {ps:List (Option Addr)} (hl:Lt.LL W q n ps) (ht:TsAt W ts ps) (hs:bSize ts < 268435456) (hk:sOk ts):LAt W ⟨ts⟩ ⟨q,(n:Int)⟩ :=
 ⟨ps,hl.1,ht,by show (n:Int) = _;rw [hl.2.1,ht.length],hs,hk⟩
theorem LAt.nil (W:World):LAt W .nil ⟨none,0⟩:=⟨[],Ch.none W,rfl,rfl,by decide,sok_nil⟩
theorem LAt.no {p:HP} (h:LAt W .nil p):p = ⟨none,0⟩:=by
 obtain ⟨q,n⟩:=p;obtain ⟨ps,h1,h2,h3, -⟩:=h;obtain rfl:ps = []:=h2;have h4:q = none:=h1;have h5:n = 0:=h3;rw [h4,h5]
end
def Gave (mo:Option Nat) (c m:Int) (t:Lh) (w:World) (e:Ending) (w':World):Prop:=∃ p:HP,e = .returned (.agg #[.pointer p.q,.int .i64 p.n]) ∧ LAt w' t p ∧ MAt w' mo c m ∧ Bt mo w w'
section
variable {W W':World} {mo:Option Nat} {c m:Int}
theorem Kp.bt (hb:Bt mo W W') (hm:MAt W mo c m):Kp W W':=hb.kpt hm node_ne
theorem LAt.bt {t:Lh} {p:HP} (h:LAt W t p) (hb:Bt mo W W') (hm:MAt W mo c m):LAt W' t p:=h.kps (hb.kpt hm node_ne) hb.size
theorem TsAt.bt {ts:List Tre} {ps:List (Option Addr)} (h:TsAt W ts ps) (hb:Bt mo W W') (hm:MAt W mo c m):TsAt W' ts ps:=h.kp (hb.kpt hm node_ne)
end
end Go.Proofs.YtmeodbjlmjpnbaaGreat.Sk.Hp
namespace Go.Proofs.YtmeodbjlmjpnbaaGreat.Sk.Hp
open Go.Sort Go.RowKit
section
variable {W W':World} {mo:Option Nat} {c m:Int} {b:Nat} {t:TypeId} {x y:Value}
theorem Kp.set2 (h:Box2 W b t x y) (ht:¬ NodeT t) (u v:Value):Kp W ((W.setCell ⟨b,0,none⟩ u).setCell ⟨b,1,none⟩ v):=(Kpt.set h ht 0 u).trans (Kpt.set (h.set0 u) ht 1 v)
theorem size_set2 (W:World) (b:Nat) (u v:Value):((W.setCell ⟨b,0,none⟩ u).setCell ⟨b,1,none⟩ v).heap.size = W.heap.size:=by simp [World.setCell]
theorem LAt.set2 {l:Lh} {p:HP} (hl:LAt W l p) (h:Box2 W b t x y) (ht:¬ NodeT t) (u v:Value):LAt ((W.setCell ⟨b,0,none⟩ u).setCell ⟨b,1,none⟩ v) l p:=hl.kps (Kp.set2 h ht u v) (by rw [size_set2];exact Nat.le_refl _)
theorem TsAt.set2 {ts:List Tre} {ps:List (Option Addr)} (hl:TsAt W ts ps) (h:Box2 W b t x y) (ht:¬ NodeT t) (u v:Value):TsAt ((W.setCell ⟨b,0,none⟩ u).setCell ⟨b,1,none⟩ v) ts ps:=hl.kp (Kp.set2 h ht u v)
theorem ll_set2 {q:Option Addr} {n:Nat} {ps:List (Option Addr)} (hl:Lt.LL W q n ps) (h:Box2 W b t x y) (ht:¬ NodeT t) (u v:Value):Lt.LL ((W.setCell ⟨b,0,none⟩ u).setCell ⟨b,1,none⟩ v) q n ps:=⟨ch_kp (Kp.set2 h ht u v) (by rw [size_set2];exact Nat.le_refl _) (Nat.le_refl _) rfl hl.1,hl.2⟩
end
theorem tail_ok {t:Tre} {ts:List Tre} (h:sOk (t :: ts)):sOk ts:=⟨fun u hu => h.hok u (List.mem_cons_of_mem _ hu),fun u hu => h.sk u (List.mem_cons_of_mem _ hu),upto_of h.up.2⟩
abbrev rises (l:List Tre):Prop:=l.Pairwise (fun a b => a.rank < b.rank)
theorem up_sub:∀ {us ts:List Tre},upto ts → us.Sublist ts → upto us
 | [],_,_,_ => trivial
 | u :: us,[],_,h => by cases h
 | u :: us,t :: ts,⟨h1,h2⟩,h => by
  cases h with
  | cons _ h => exact upto_of (h2.sublist h)
  | cons_cons _ h => exact ⟨fun v hv => h1 v (h.subset hv),h2.sublist h⟩
theorem sub_ok {us ts:List Tre} (h:sOk ts) (hs:us.Sublist ts):sOk us:=⟨fun u hu => h.hok u (hs.subset hu),fun u hu => h.sk u (hs.subset hu),up_sub h.up hs⟩
theorem rest_any (t:Tre) (ts:List Tre) (p:HP) (w:World) (h:LAt w ⟨t :: ts⟩ p):Calls Tryz.prog 317 #[hp p] w fun e w' => ∃ p':HP,e = .returned (.agg #[.pointer p'.q,.int .i64 p'.n]) ∧ LAt w' ⟨ts⟩ p' ∧ Below w.heap.size w w':=by
 have hs:=h.small;obtain ⟨ps,n,hn,hnl,hl,ht⟩:=h.list;obtain ⟨q,pn⟩:=p;change pn = (n:Int) at hn;subst hn;have hb1:Below w.heap.size w ((w.alloc (.cells #[.pointer q,.int .i64 (n:Int)] 117)).alloc (.cells #[.pointer none,.int .i64 0] 117)):=((Below.refl _ w).alloc (Nat.le_refl _) _).alloc (by simp) _;have bR:=Box2.new (w.alloc (.cells #[.pointer q,.int .i64 (n:Int)] 117)) 117 (.pointer none) (.int .i64 0);simp only [World.size_alloc] at bR;have H:=hdz (anz (hl.stay hb1) (anz (ht.kp (Kpt.below hb1)) (anz hb1 (anz bR (anz hs h.right)))));clear h hl ht hb1 bR hs hnl;go_enter Tryz.func317,Tryz.ntmps317
 go_wp2_with fail
 ((with_reducible refine (Lt.rest_l H.out.1).mono ?_);rintro e w2 ⟨q2,n2,rfl,hl2,hb2⟩);have B2:=H.out.2.2.2.1.stay hb2;have c0:=B2.c0;have c1:=B2.c1;have z0:=B2.z0;have z1:=B2.z1;have X:=hdz (anz B2 (anz hl2 (anz (H.out.2.1.kp (Kpt.below hb2)) (H.out.2.2.1.trans (hb2.mono H.out.2.2.1.size)))));clear B2 hl2 hb2;go_wp2_with fail
 have S:=X.out.1.set (.pointer q2) (.int .i64 (n2:Int));have d0:=S.c0;have d1:=S.c1;refine bodyPost_ret (v:=hp ⟨q2,(n2:Int)⟩) (by simp [results,Tryz.results317,go_sem,d0,d1]) rfl ⟨⟨q2,(n2:Int)⟩,rfl,?_,below_set2 X.out.2.2.2 (by omega) _ _⟩;exact LAt.of (ll_set2 X.out.2.1 X.out.1 heapT_ne _ _) (X.out.2.2.1.tail.set2 X.out.1 heapT_ne _ _) (by have h1:=H.out.2.2.2.2.1;simp only [Lh.size,bSize] at h1;omega) (tail_ok H.out.2.2.2.2.2)
theorem bSize_take {l:List Tre} {i:Nat} (h:i < l.length):bSize (l.take (i + 1)) = bSize (l.take i) + l[i].size:=by
 have e:∀ a b:List Tre,bSize (a ++ b) = bSize a + bSize b:=fun a b => by
  induction a with
  | nil => simp [bSize]
  | cons t r ih => simp only [List.cons_append,bSize,ih];omega
 rw [List.take_succ_eq_append_getElem h,e];simp [bSize]
theorem bSize_take_le (l:List Tre) (i:Nat):bSize (l.take i) ≤ bSize l:=by
 have e:∀ a b:List Tre,bSize (a ++ b) = bSize a + bSize b:=fun a b => by
  induction a with
  | nil => simp [bSize]
  | cons t r ih => simp only [List.cons_append,bSize,ih];omega
 conv => rhs;rw [← List.take_append_drop i l]
 rw [e];omega
theorem row_ptr {W:World} {b o:Nat} {ps:List (Option Addr)} (h:Row1 Lt.one W (some ⟨b,o,none⟩) ps) {j:Nat} {p:Option Addr} (hj:ps[j]? = some p):W.cell? ⟨b,o + j,none⟩ = some (.pointer p):=by
 obtain ⟨hlt,rfl⟩:=List.getElem?_eq_some_iff.1 hj;obtain ⟨b',o',e,hc⟩:=h (by omega)
 cases e
 exact hc j hlt
theorem row_some {W:World} {A:Option Addr} {ps:List (Option Addr)} (h:Row1 Lt.one W A ps) (h0:0 < ps.length):∃ b o,A = some ⟨b,o,none⟩:=by
 obtain ⟨b,o,e, -⟩:=h h0;exact ⟨b,o,e⟩
theorem size_any (t:Lh) (p:HP) (w:World) (h:LAt w t p):Calls Tryz.prog 307 #[hp p] w fun e w' => e = .returned (.int .i64 (t.size:Nat)) ∧ Below w.heap.size w w':=by
 have hs:=h.small;obtain ⟨ps,n,hn,hnl,hl,ht⟩:=h.list;obtain ⟨q,pn⟩:=p;change pn = (n:Int) at hn;subst hn;have hb1:Below w.heap.size w (w.alloc (.cells #[.pointer q,.int .i64 (n:Int)] 117)):=(Below.refl _ w).alloc (Nat.le_refl _) _;have H:=hdz (anz (hl.stay hb1) (anz (ht.kp (Kpt.below hb1)) (anz hb1 (anz hs hnl))));have hn:n < 268435456:=by have:=h.len;omega
 clear h hl ht hb1 hs hnl;go_enter Tryz.func307,Tryz.ntmps307
 go_wp2_with fail
 ((with_reducible refine (Lt.all_l H.out.1).mono ?_);rintro e w2 ⟨A,cc,rfl, -,hr,hnc,hb2⟩);have X:=hdz (anz hr (anz hnc (anz (H.out.2.1.kp (Kpt.below hb2)) (H.out.2.2.1.trans (hb2.mono H.out.2.2.1.size)))));clear hr hnc hb2;go_wp2_with fail
 go_loopg [3,10] n (fun k s iv wr => ∃ i z:Nat,iv = .int .i64 (i:Int) ∧ s = .int .i64 (z:Int) ∧ z = bSize (t.ts.take i) ∧ i + k = n ∧ w2 = wr)
 case atStart => exact ⟨0,0,rfl,rfl,rfl,by omega,rfl⟩
 case round =>
  obtain ⟨i,z,rfl,rfl,hz,hi,hw⟩:=hrel;subst hw;by_cases hlt:i < n
  ·have hil:i < t.ts.length:=by have:=H.out.2.2.2.2;omega
   obtain ⟨a,ha,hta⟩:=X.out.2.2.1.at (List.getElem?_eq_getElem hil);have hpl:=X.out.2.2.1.length;obtain ⟨b,o,rfl⟩:=row_some X.out.1 (by omega);have hc:=row_ptr X.out.1 ha;have hz1:=bSize_take hil;have hz2:=bSize_take_le t.ts (i + 1);have hsm:bSize t.ts < 268435456:=H.out.2.2.2.1;have HT:=hdz (show TAt w2 a (some t.ts[i]) ∧ osize (some t.ts[i]) < 1073741824 ∧ osize (some t.ts[i]) = t.ts[i].size from ⟨hta,by simp only [osize];omega,rfl⟩);obtain ⟨sz,hsz⟩:=exq (t.ts[i].size);have HZ:=hdz (show z + sz = bSize (t.ts.take (i + 1)) ∧ z + sz < 268435456 ∧ i + gk = n ∧ sz = t.ts[i].size from ⟨by omega,by omega,hi,hsz⟩);have q1:(i:Int) < (n:Int):=by omega
   have q2:(0:Int) ≤ (i:Int):=by omega
   have q3:decide ((i:Int) < (n:Int)) = true:=by simp;omega
   have q4:decide (i < n) = true:=by simp;omega
   have w1':IntKind.i64.wrap ((i:Int) + 1) = (i:Int) + 1:=by rw [IntKind.wrap_i64];omega
   have w2':IntKind.i64.wrap ((z:Int) + (sz:Int)) = (z:Int) + (sz:Int):=by have:=HZ.out;rw [IntKind.wrap_i64];omega
   clear hta ha hz1 hz2 hsm hz hi hsz hpl;go_wp2_with fail
   ((with_reducible refine (Go.Proofs.YtmeodbjlmjpnbaaGreat.size_any a _ _ HT.out.1 HT.out.2.1).mono ?_);rintro e w3 ⟨rfl,hw3⟩);subst hw3;rw [HT.out.2.2,← HZ.out.2.2.2];go_wp2_with fail
   go_roundg (n - 1 - i)
   case measure => have:=HZ.out;omega
   case rel => exact ⟨i + 1,z + sz,by first | rfl | (congr 1;unfold wrap64;omega),by rw [Int.natCast_add],HZ.out.1,by have:=HZ.out;omega,rfl⟩
  ·have q1:¬ (i:Int) < (n:Int):=by omega
   have q3:decide ((i:Int) < (n:Int)) = false:=by simp;omega
   have q4:decide (i < n) = false:=by simp;omega
   have hql:z = t.size:=by rw [hz,show t.ts.take i = t.ts from List.take_of_length_le (by have:=H.out.2.2.2.2;omega)];rfl
   have HQ:=hdz hql;clear hql hz hi;go_wp2_with fail
   go_ret
   exact ⟨by rw [← HQ.out];rfl,X.out.2.2.2⟩
end Go.Proofs.YtmeodbjlmjpnbaaGreat.Sk.Hp
namespace Go.Proofs.YtmeodbjlmjpnbaaGreat.Sk.Hp
open Go.Sort Go.RowKit
theorem len_bSize:∀ l:List Tre,l.length ≤ bSize l
 | [] => Nat.le_refl _
 | t :: r => by have:=len_bSize r;simp only [List.length_cons,bSize,Tre.size];omega
theorem rank_at {W:World} {p:Option Addr} {t:Tre} (h:TAt W p (some t)) (r:Nat) (hr:r = t.rank):Calls Tryz.prog 142 #[.pointer p] W fun e w' => e = .returned (.int .i64 (r:Int)) ∧ w' = W :=
 (Go.Proofs.YtmeodbjlmjpnbaaGreat.rank_any p (some t) W h).mono fun _ _ ⟨he,hw⟩ => ⟨by rw [he,hr];rfl,hw⟩
theorem field_h:∀ (x:Option Addr) (y:Int) (w:World),(Instr.field 117 (.agg #[.pointer x,.int .i64 y]) 0).run Tryz.prog w = .ok (.agg #[.pointer x,.int .i64 y]) w:=fun _ _ _ => by kernel_rfl
theorem first_h {t:Tre} {ts:List Tre} {p:HP} {w:World} (h:LAt w ⟨t :: ts⟩ p):∃ a,TAt w a (some t) ∧ Calls Tryz.prog 141 #[hp p] w fun e w' => e = .returned (.tuple #[.pointer a,.bool true]) ∧ Below w.heap.size w w':=by
 obtain ⟨ps,h1,⟨a,ps',rfl,h2,h2'⟩,h3,h4⟩:=h;exact ⟨a,h2,Lt.first_cons p.q a ps' p.n w h1⟩
theorem first_0 {p:HP} {w:World} (h:LAt w .nil p):Calls Tryz.prog 141 #[hp p] w fun e w' => e = .returned (.tuple #[.pointer none,.bool false]) ∧ Below w.heap.size w w':=by
 obtain rfl:=h.no;exact Lt.first_nil 0 w
theorem push_h {t:Tre} {ts:List Tre} {p:HP} {a:Option Addr} {w:World} (h:LAt w ⟨ts⟩ p) (ht:TAt w a (some t)) (hs:t.size + bSize ts < 268435456) (hk:sOk (t :: ts)):Calls Tryz.prog 145 #[hp p,.pointer a] w fun e w' => ∃ p':HP,e = .returned (.agg #[.pointer p'.q,.int .i64 p'.n]) ∧ LAt w' ⟨t :: ts⟩ p' ∧ Below w.heap.size w w':=by
 have hlen:=h.len;obtain ⟨ps,n,hn,hnl,hl,hts⟩:=h.list;change n = ts.length at hnl;change ts.length < _ at hlen;obtain ⟨q,pn⟩:=p;change pn = (n:Int) at hn;subst hn;refine (Lt.push_l a hl (by omega)).mono fun e w' ⟨q',n',he,hl',hb⟩ => ⟨⟨q',(n':Int)⟩,he,?_,hb⟩;exact LAt.of (ts:=t :: ts) hl' ⟨a,ps,rfl,ht.stay hb,hts.kp (Kpt.below hb)⟩ hs hk
theorem push_ok {t:Tre} {ts:List Tre} (h1:t.hok) (h2:t.sk) (h:sOk ts) (hlow:∀ x ∈ ts,t.rank ≤ x.rank) (hr:rises ts):sOk (t :: ts) :=
 ⟨fun u hu => by rcases List.mem_cons.1 hu with rfl | hu;exact h1;exact h.hok u hu,fun u hu => by rcases List.mem_cons.1 hu with rfl | hu;exact h2;exact h.sk u hu,⟨hlow,hr⟩⟩
structure F2 (W:World) (a:Nat) (p:HP):Prop where
 h:Box2 W a 117 (.pointer p.q) (.int .i64 p.n)
 r:Box2 W (a + 1) 117 (.pointer none) (.int .i64 0)
section
variable {W W':World} {a:Nat} {p q:HP} {mo:Option Nat} {c m:Int}
theorem F2.new (w:World) (p:HP):F2 ((w.alloc (.cells #[.pointer p.q,.int .i64 p.n] 117)).alloc (.cells #[.pointer none,.int .i64 0] 117)) w.heap.size p:=by
 refine ⟨(Box2.new w 117 _ _).alloc _,?_⟩;have:=Box2.new (w.alloc (.cells #[.pointer p.q,.int .i64 p.n] 117)) 117 (.pointer none) (.int .i64 0);simpa only [World.size_alloc] using this
theorem F2.stay (h:F2 W a p) (hb:Below W.heap.size W W'):F2 W' a p:=⟨h.h.stay hb,h.r.stay hb⟩
theorem F2.bt (h:F2 W a p) (hb:Bt mo W W') (hm:MAt W mo c m):F2 W' a p:=⟨h.h.bt hb hm (by decide),h.r.bt hb hm (by decide)⟩
end
theorem new2_below (w:World) (x y:Obj):Below w.heap.size w ((w.alloc x).alloc y):=((Below.refl _ w).alloc (Nat.le_refl _) _).alloc (by simp) _
def AheadTo (mo:Option Nat) (ts:List Tre):Prop:=∀ (c m:Int) (t:Tre) (pa:Option Addr) (p:HP) (w:World),t.size + bSize ts < 268435456 → MAt w mo c m → 0 ≤ c → c + ts.length < 1152921504606846976 → 0 ≤ m → m + ts.length < 1152921504606846976 →
  LAt w ⟨ts⟩ p → rises ts → TAt w pa (some t) → t.hok → t.sk → (∀ x ∈ ts,t.rank ≤ x.rank) →
  Calls Tryz.prog 318 #[hp p,mAddr mo,.pointer pa] w (Gave mo (c + putTN ts t) (m + putTN ts t) ⟨putT ts t⟩ w)
theorem ahead_nil (mo:Option Nat):AheadTo mo []:=by
 intro c m t pa p w hs hm h0 h1 h2 h3 hl hr ht hk1 hk2 hlow;have HF:=hdz (F2.new w p);have KK:=hdz ((Trk.refl (N:=NodeT) hm).stay (new2_below w (.cells #[.pointer p.q,.int .i64 p.n] 117) (.cells #[.pointer none,.int .i64 0] 117)));have HL:=hdz (anz (hl.stay (new2_below w (.cells #[.pointer p.q,.int .i64 p.n] 117) (.cells #[.pointer none,.int .i64 0] 117))) (ht.stay (new2_below w (.cells #[.pointer p.q,.int .i64 p.n] 117) (.cells #[.pointer none,.int .i64 0] 117))));have HN:=hdz (anz hs (anz h0 (anz h1 (anz h2 h3))));have HO:=hdz (anz (show sOk [] from hl.right) (anz hr (anz hk1 (anz hk2 hlow))));clear hs hm h0 h1 h2 h3 hl hr ht hk1 hk2 hlow;go_enter Tryz.func318,Tryz.ntmps318
 go_wp2_with fail
 generalize (w.alloc (.cells #[.pointer p.q,.int .i64 p.n] 117)).alloc (.cells #[.pointer none,.int .i64 0] 117) = w1 at *;obtain ⟨a,ha⟩:=exq (w.heap.size);rw [← ha] at HF ⊢;have HA:=hdz ha;clear ha;((with_reducible refine (first_0 HL.out.1).mono ?_);rintro e w2 ⟨rfl,hb2⟩);have F2:=hdz (HF.out.stay hb2);have K2:=hdz (KK.out.stay hb2);have L2:=hdz (anz (HL.out.1.stay hb2) (HL.out.2.stay hb2));have c0:=F2.out.h.c0;have c1:=F2.out.h.c1;clear hb2 HF KK HL;go_wp2_with fail
 clear c0 c1;((with_reducible refine (push_h L2.out.1 L2.out.2 (by have:=HN.out;(try simp only [bSize] at *);omega) (push_ok HO.out.2.2.1 HO.out.2.2.2.1 HO.out.1 HO.out.2.2.2.2 HO.out.2.1)).mono ?_);rintro e w6 ⟨p6,rfl,ht6,hb6⟩);have F6:=hdz (F2.out.stay hb6);have K6:=hdz (K2.out.stay hb6);have L6:=hdz ht6;have z0:=F6.out.r.z0;have z1:=F6.out.r.z1;have r0:=F6.out.r.c0;have r1:=F6.out.r.c1;have s0:=(F6.out.r.set (.pointer p6.q) (.int .i64 p6.n)).c0;have s1:=(F6.out.r.set (.pointer p6.q) (.int .i64 p6.n)).c1;clear ht6 hb6;go_wp2_with fail
 have k:=K6.out.put2 F6.out.r heapT_ne (by decide) (by have:=HA.out;omega) (.pointer p6.q) (.int .i64 p6.n);exact bodyPost_ret (v:=hp p6) (by simp [results,Tryz.results318,go_sem,s0,s1]) rfl ⟨p6,rfl,L6.out.set2 F6.out.r heapT_ne _ _,by simpa [putTN] using k.mt,k.bt⟩
theorem ahead_cons (mo:Option Nat) (x:Tre) (us:List Tre) (IH:AheadTo mo us):AheadTo mo (x :: us):=by
 intro c m t pa p w hs hm h0 h1 h2 h3 hl hr ht hk1 hk2 hlow;have HF:=hdz (F2.new w p);have KK:=hdz ((Trk.refl (N:=NodeT) hm).stay (new2_below w (.cells #[.pointer p.q,.int .i64 p.n] 117) (.cells #[.pointer none,.int .i64 0] 117)));have HL:=hdz (anz (hl.stay (new2_below w (.cells #[.pointer p.q,.int .i64 p.n] 117) (.cells #[.pointer none,.int .i64 0] 117))) (ht.stay (new2_below w (.cells #[.pointer p.q,.int .i64 p.n] 117) (.cells #[.pointer none,.int .i64 0] 117))));unfold AheadTo at IH;have HI:=hdz IH;clear IH;have HN:=hdz (anz hs (anz h0 (anz h1 (anz h2 h3))));have HO:=hdz (anz (show sOk (x :: us) from hl.right) (anz hr (anz hk1 (anz hk2 hlow))));clear hs hm h0 h1 h2 h3 hl hr ht hk1 hk2 hlow;go_enter Tryz.func318,Tryz.ntmps318
 go_wp2_with fail
 generalize (w.alloc (.cells #[.pointer p.q,.int .i64 p.n] 117)).alloc (.cells #[.pointer none,.int .i64 0] 117) = w1 at *;obtain ⟨a,ha⟩:=exq (w.heap.size);rw [← ha] at HF ⊢;have HA:=hdz ha;clear ha;obtain ⟨xa,hxa,hc⟩:=first_h HL.out.1;have HC:=hdz hc;have TX:=hdz hxa;clear hc hxa;((with_reducible refine HC.out.mono ?_);rintro e w2 ⟨rfl,hb2⟩);have F2:=hdz (HF.out.stay hb2);have K2:=hdz (KK.out.stay hb2);have L2:=hdz (anz (show LAt w2 ⟨x :: us⟩ p from HL.out.1.stay hb2) (anz (HL.out.2.stay hb2) (TX.out.stay hb2)));have c0:=F2.out.h.c0;have c1:=F2.out.h.c1;obtain ⟨rx,hrx⟩:=exq (x.rank);obtain ⟨rt,hrt⟩:=exq (t.rank);have HR:=hdz (anz hrx hrt);clear hb2 HF KK HL HC TX hrx hrt;go_wp2_with fail
 ((with_reducible refine (rank_at L2.out.2.2 rx HR.out.1).mono ?_);rintro e w3 ⟨rfl,hw3⟩);subst hw3;go_wp2_with fail
 ((with_reducible refine (rank_at L2.out.2.1 rt HR.out.2).mono ?_);rintro e w3 ⟨rfl,hw3⟩);subst hw3;by_cases heq:rx = rt
 ·have g1:((rx:Int) == (rt:Int)) = true:=by simp;omega
  have g2:(rx:Int) = (rt:Int):=by omega
  have HQ:=hdz (show t.rank = x.rank by have:=HR.out;omega);clear heq;go_wp2_with fail
  ((with_reducible refine (rest_any x us p _ L2.out.1).mono ?_);rintro e w4 ⟨p4,rfl,ht4,hb4⟩);have F4:=hdz (F2.out.stay hb4);have K4:=hdz (K2.out.stay hb4);have L4:=hdz (anz ht4 (anz (L2.out.2.1.stay hb4) (L2.out.2.2.stay hb4)));clear ht4 hb4 c0 c1 F2 K2 L2;go_wp2_with fail
  ((with_reducible refine (link_any mo c m pa xa (some t) (some x) _ K4.out.mt HN.out.2.1 (by have:=HN.out;omega) HN.out.2.2.2.1 (by have:=HN.out;omega) L4.out.2.1 L4.out.2.2 (by have:=HN.out;simp only [osize,bSize] at *;omega) (by have:=HN.out;simp only [osize,bSize] at *;omega)).mono ?_);rintro e w5 ⟨p5,rfl,ht5,hm5,hb5⟩);have F5:=hdz (F4.out.bt hb5 K4.out.mt);have K5:=hdz (K4.out.turn hm5 hb5 node_ne);have L5:=hdz (anz (L4.out.1.bt hb5 K4.out.mt) (show TAt w5 p5 (some (lnk t x)) from ht5));clear ht5 hm5 hb5 F4 K4 L4;go_wp2_with fail
  have hp:=List.pairwise_cons.1 HO.out.2.1;have hlr:=lnk_rank HQ.out;have HI2:=hdz (HI.out (c + (lnkN (some t) (some x):Nat)) (m + (lnkN (some t) (some x):Nat)) (lnk t x) p5 p4 _ (by rw [lnk_size];have:=HN.out;simp only [bSize] at *;omega) K5.out.mt (by have:=HN.out;omega) (by have:=HN.out;simp only [List.length_cons,lnkN] at *;omega) (by have:=HN.out;omega) (by have:=HN.out;simp only [List.length_cons,lnkN] at *;omega) L5.out.1 hp.2 L5.out.2 (lnk_hok HO.out.2.2.1 (HO.out.1.hok x (List.mem_cons_self ..))) (lnk_sk HQ.out HO.out.2.2.2.1 (HO.out.1.sk x (List.mem_cons_self ..))) (fun y hy => by rw [hlr,HQ.out];exact hp.1 y hy));clear hp hlr;((with_reducible refine HI2.out.mono ?_);rintro e w6 ⟨p6,rfl,ht6,hm6,hb6⟩);have F6:=hdz (F5.out.bt hb6 K5.out.mt);have K6:=hdz (K5.out.turn hm6 hb6 node_ne);have L6:=hdz ht6;have z0:=F6.out.r.z0;have z1:=F6.out.r.z1;have r0:=F6.out.r.c0;have r1:=F6.out.r.c1;have s0:=(F6.out.r.set (.pointer p6.q) (.int .i64 p6.n)).c0;have s1:=(F6.out.r.set (.pointer p6.q) (.int .i64 p6.n)).c1;clear ht6 hm6 hb6 HI2;go_wp2_with fail
  have k:=K6.out.put2 F6.out.r heapT_ne (by decide) (by have:=HA.out;omega) (.pointer p6.q) (.int .i64 p6.n);have hlt:¬ t.rank < x.rank:=by have:=HQ.out;omega
  have e0:putT (x :: us) t = putT us (lnk t x):=by rw [putT,if_neg hlt]
  have e3:putTN (x :: us) t = 1 + putTN us (lnk t x):=by rw [putTN,if_neg hlt];try omega
  have e1:c + ((putTN (x :: us) t:Nat):Int) = c + (lnkN (some t) (some x):Nat) + (putTN us (lnk t x):Nat):=by rw [e3];simp only [lnkN];omega
  have e2:m + ((putTN (x :: us) t:Nat):Int) = m + (lnkN (some t) (some x):Nat) + (putTN us (lnk t x):Nat):=by rw [e3];simp only [lnkN];omega
  exact bodyPost_ret (v:=hp p6) (by simp [results,Tryz.results318,go_sem,s0,s1]) rfl ⟨p6,rfl,by rw [e0];exact L6.out.set2 F6.out.r heapT_ne _ _,by rw [e1,e2];exact k.mt,k.bt⟩
 ·have g1:((rx:Int) == (rt:Int)) = false:=by simp;omega
  have g2:¬ (rx:Int) = (rt:Int):=by omega
  have HQ:=hdz (show t.rank < x.rank by have h1:=HO.out.2.2.2.2 x (List.mem_cons_self ..);have:=HR.out;omega);clear heq;go_wp2_with fail
  clear c0 c1;((with_reducible refine (push_h L2.out.1 L2.out.2.1 (by have:=HN.out;(try simp only [bSize] at *);omega) (push_ok HO.out.2.2.1 HO.out.2.2.2.1 HO.out.1 HO.out.2.2.2.2 HO.out.2.1)).mono ?_);rintro e w6 ⟨p6,rfl,ht6,hb6⟩);have F6:=hdz (F2.out.stay hb6);have K6:=hdz (K2.out.stay hb6);have L6:=hdz ht6;have z0:=F6.out.r.z0;have z1:=F6.out.r.z1;have r0:=F6.out.r.c0;have r1:=F6.out.r.c1;have s0:=(F6.out.r.set (.pointer p6.q) (.int .i64 p6.n)).c0;have s1:=(F6.out.r.set (.pointer p6.q) (.int .i64 p6.n)).c1;clear ht6 hb6;go_wp2_with fail
  have k:=K6.out.put2 F6.out.r heapT_ne (by decide) (by have:=HA.out;omega) (.pointer p6.q) (.int .i64 p6.n);have e0:putT (x :: us) t = t :: x :: us:=by rw [putT,if_pos HQ.out]
  have e3:putTN (x :: us) t = 0:=by rw [putTN,if_pos HQ.out]
  exact bodyPost_ret (v:=hp p6) (by simp [results,Tryz.results318,go_sem,s0,s1]) rfl ⟨p6,rfl,by rw [e0];exact L6.out.set2 F6.out.r heapT_ne _ _,by rw [e3];simpa using k.mt,k.bt⟩
theorem ahead_all (mo:Option Nat):∀ ts:List Tre,AheadTo mo ts
 | [] => ahead_nil mo
 | x :: us => ahead_cons mo x us (ahead_all mo us)
theorem ahead_any (mo:Option Nat) (c m:Int) (t:Tre) (ts:List Tre) (pa:Option Addr) (p:HP) (w:World) (hs:t.size + bSize ts < 268435456) (hm:MAt w mo c m) (h0:0 ≤ c) (h1:c < 1152921504338411520) (h2:0 ≤ m) (h3:m < 1152921504338411520)
  (hh:LAt w ⟨ts⟩ p) (hr:rises ts) (hta:TAt w pa (some t)) (hk1:t.hok) (hk2:t.sk) (hlow:∀ x ∈ ts,t.rank ≤ x.rank) :
  Calls Tryz.prog 318 #[hp p,mAddr mo,.pointer pa] w (Gave mo (c + putTN ts t) (m + putTN ts t) ⟨putT ts t⟩ w) :=
 ahead_all mo ts c m t pa p w hs hm h0 (by have:=len_bSize ts;omega) h2 (by have:=len_bSize ts;omega) hh hr hta hk1 hk2 hlow
theorem lev_nil (mo:Option Nat) (c m:Int) (p:HP) (w:World) (hm:MAt w mo c m) (h:LAt w .nil p):Calls Tryz.prog 308 #[hp p,mAddr mo] w (Gave mo c m .nil w):=by
 have HF:=hdz (F2.new w p);have KK:=hdz ((Trk.refl (N:=NodeT) hm).stay (new2_below w (.cells #[.pointer p.q,.int .i64 p.n] 117) (.cells #[.pointer none,.int .i64 0] 117)));have HL:=hdz (h.stay (new2_below w (.cells #[.pointer p.q,.int .i64 p.n] 117) (.cells #[.pointer none,.int .i64 0] 117)));clear hm h;go_enter Tryz.func308,Tryz.ntmps308
 go_wp2_with fail
 generalize (w.alloc (.cells #[.pointer p.q,.int .i64 p.n] 117)).alloc (.cells #[.pointer none,.int .i64 0] 117) = w1 at *;obtain ⟨a,ha⟩:=exq (w.heap.size);rw [← ha] at HF ⊢;have HA:=hdz ha;clear ha;((with_reducible refine (first_0 HL.out).mono ?_);rintro e w2 ⟨rfl,hb2⟩);have F2:=hdz (HF.out.stay hb2);have K2:=hdz (KK.out.stay hb2);have L2:=hdz (HL.out.stay hb2);have c0:=F2.out.h.c0;have c1:=F2.out.h.c1;have z0:=F2.out.r.z0;have z1:=F2.out.r.z1;have r0:=F2.out.r.c0;have r1:=F2.out.r.c1;have s0:=(F2.out.r.set (.pointer p.q) (.int .i64 p.n)).c0;have s1:=(F2.out.r.set (.pointer p.q) (.int .i64 p.n)).c1;clear hb2 HF KK HL;go_wp2_with fail
 have k:=K2.out.put2 F2.out.r heapT_ne (by decide) (by have:=HA.out;omega) (.pointer p.q) (.int .i64 p.n);exact bodyPost_ret (v:=hp p) (by simp [results,Tryz.results308,go_sem,s0,s1]) rfl ⟨p,rfl,L2.out.set2 F2.out.r heapT_ne _ _,k.mt,k.bt⟩
theorem lev_cons (mo:Option Nat) (c m:Int) (x:Tre) (us:List Tre) (p:HP) (w:World) (hs:bSize (x :: us) < 268435456) (hm:MAt w mo c m) (h0:0 ≤ c) (h1:c < 1152921504338411520) (h2:0 ≤ m) (h3:m < 1152921504338411520) (h:LAt w ⟨x :: us⟩ p) :
  Calls Tryz.prog 308 #[hp p,mAddr mo] w (Gave mo (c + putTN us x) (m + putTN us x) ⟨putT us x⟩ w):=by
 have HF:=hdz (F2.new w p);have KK:=hdz ((Trk.refl (N:=NodeT) hm).stay (new2_below w (.cells #[.pointer p.q,.int .i64 p.n] 117) (.cells #[.pointer none,.int .i64 0] 117)));have HL:=hdz (h.stay (new2_below w (.cells #[.pointer p.q,.int .i64 p.n] 117) (.cells #[.pointer none,.int .i64 0] 117)));have HO:=hdz (show sOk (x :: us) from h.right);have HU:=hdz (show (∀ u ∈ us,x.rank ≤ u.rank) ∧ rises us from h.right.up);have HN:=hdz (anz hs (anz h0 (anz h1 (anz h2 h3))));clear hm h hs h0 h1 h2 h3;go_enter Tryz.func308,Tryz.ntmps308
 go_wp2_with fail
 generalize (w.alloc (.cells #[.pointer p.q,.int .i64 p.n] 117)).alloc (.cells #[.pointer none,.int .i64 0] 117) = w1 at *;obtain ⟨a,ha⟩:=exq (w.heap.size);rw [← ha] at HF ⊢;have HA:=hdz ha;clear ha;obtain ⟨xa,hxa,hc⟩:=first_h HL.out;have HC:=hdz hc;have TX:=hdz hxa;clear hc hxa;((with_reducible refine HC.out.mono ?_);rintro e w2 ⟨rfl,hb2⟩);have F2:=hdz (HF.out.stay hb2);have K2:=hdz (KK.out.stay hb2);have L2:=hdz (anz (show LAt w2 ⟨x :: us⟩ p from HL.out.stay hb2) (TX.out.stay hb2));have c0:=F2.out.h.c0;have c1:=F2.out.h.c1;clear hb2 HF KK HL HC TX;go_wp2_with fail
 ((with_reducible refine (rest_any x us p _ L2.out.1).mono ?_);rintro e w4 ⟨p4,rfl,ht4,hb4⟩);have F4:=hdz (F2.out.stay hb4);have K4:=hdz (K2.out.stay hb4);have L4:=hdz (anz ht4 (L2.out.2.stay hb4));clear ht4 hb4 c0 c1 F2 K2 L2;go_wp2_with fail
 ((with_reducible refine (ahead_any mo c m x us xa p4 _ (by have:=HN.out.1;simp only [bSize] at this;omega) K4.out.mt HN.out.2.1 HN.out.2.2.1 HN.out.2.2.2.1 HN.out.2.2.2.2 L4.out.1 HU.out.2 L4.out.2 (HO.out.hok x (List.mem_cons_self ..)) (HO.out.sk x (List.mem_cons_self ..)) HU.out.1).mono ?_);rintro e w6 ⟨p6,rfl,ht6,hm6,hb6⟩);have F6:=hdz (F4.out.bt hb6 K4.out.mt);have K6:=hdz (K4.out.turn hm6 hb6 node_ne);have L6:=hdz ht6;have z0:=F6.out.r.z0;have z1:=F6.out.r.z1;have r0:=F6.out.r.c0;have r1:=F6.out.r.c1;have s0:=(F6.out.r.set (.pointer p6.q) (.int .i64 p6.n)).c0;have s1:=(F6.out.r.set (.pointer p6.q) (.int .i64 p6.n)).c1;clear ht6 hm6 hb6;go_wp2_with fail
 have k:=K6.out.put2 F6.out.r heapT_ne (by decide) (by have:=HA.out;omega) (.pointer p6.q) (.int .i64 p6.n);exact bodyPost_ret (v:=hp p6) (by simp [results,Tryz.results308,go_sem,s0,s1]) rfl ⟨p6,rfl,L6.out.set2 F6.out.r heapT_ne _ _,k.mt,k.bt⟩
theorem lev_any (mo:Option Nat) (c m:Int) (l:List Tre) (p:HP) (w:World) (hs:bSize l < 268435456) (hm:MAt w mo c m) (h0:0 ≤ c) (h1:c < 1152921504338411520) (h2:0 ≤ m) (h3:m < 1152921504338411520) (h:LAt w ⟨l⟩ p) :
  Calls Tryz.prog 308 #[hp p,mAddr mo] w (Gave mo (c + levN l) (m + levN l) ⟨levT l⟩ w):=by
 cases l with
 | nil => exact (lev_nil mo c m p w hm h).mono fun e w' hh => by simpa [levN,levT,Lh.nil] using hh
 | cons x us => exact lev_cons mo c m x us p w hs hm h0 h1 h2 h3 h
end Go.Proofs.YtmeodbjlmjpnbaaGreat.Sk.Hp
namespace Go.Proofs.YtmeodbjlmjpnbaaGreat.Sk.Hp
open Go.Sort Go.RowKit
theorem wp_after {P:Program} {c:Code} {a:Act} {w:World} {Q:Exit → Act → World → Prop} (R:Act → Act → World → Prop) (h1:c.wp P (fun e a' w' => e = .normal ∧ R a a' w') a w) (h2:∀ a' w',R a a' w' → Q .normal a' w'):c.wp P Q a w :=
 Code.wp_mono (fun e a' w' h => by obtain ⟨rfl,hr⟩:=h;exact h2 a' w' hr) h1
structure Fm (W:World) (a:Nat) (p q:HP):Prop where
 h:Box2 W a 117 (.pointer p.q) (.int .i64 p.n)
 o:Box2 W (a + 1) 117 (.pointer q.q) (.int .i64 q.n)
 r:Box2 W (a + 2) 117 (.pointer none) (.int .i64 0)
section
variable {W W':World} {a:Nat} {p q:HP} {mo:Option Nat} {c m:Int}
theorem Fm.new (w:World) (p q:HP):Fm (((w.alloc (.cells #[.pointer p.q,.int .i64 p.n] 117)).alloc (.cells #[.pointer q.q,.int .i64 q.n] 117)).alloc (.cells #[.pointer none,.int .i64 0] 117)) w.heap.size p q:=by
 refine ⟨((Box2.new w 117 _ _).alloc _).alloc _,?_,?_⟩
 ·have:=(Box2.new (w.alloc (.cells #[.pointer p.q,.int .i64 p.n] 117)) 117 (.pointer q.q) (.int .i64 q.n)).alloc (.cells #[.pointer none,.int .i64 0] 117);simpa only [World.size_alloc] using this
 ·have:=Box2.new ((w.alloc (.cells #[.pointer p.q,.int .i64 p.n] 117)).alloc (.cells #[.pointer q.q,.int .i64 q.n] 117)) 117 (.pointer none) (.int .i64 0);simpa only [World.size_alloc] using this
theorem Fm.stay (h:Fm W a p q) (hb:Below W.heap.size W W'):Fm W' a p q:=⟨h.h.stay hb,h.o.stay hb,h.r.stay hb⟩
theorem Fm.bt (h:Fm W a p q) (hb:Bt mo W W') (hm:MAt W mo c m):Fm W' a p q:=⟨h.h.bt hb hm (by decide),h.o.bt hb hm (by decide),h.r.bt hb hm (by decide)⟩
end
theorem new3_below (w:World) (x y z:Obj):Below w.heap.size w (((w.alloc x).alloc y).alloc z):=(((Below.refl _ w).alloc (Nat.le_refl _) _).alloc (by simp) _).alloc (by simp;omega) _
def MeldsTo (mo:Option Nat) (la bs:List Tre):Prop:=∀ (c m:Int) (p q:HP) (w:World),bSize la + bSize bs < 268435456 → MAt w mo c m → 0 ≤ c → c < 576460752303423488 → 0 ≤ m → m < 576460752303423488 → LAt w ⟨la⟩ p → LAt w ⟨bs⟩ q → rises la → rises bs →
 Calls Tryz.prog 309 #[hp p,mAddr mo,hp q] w (Gave mo (c + bmeldN la bs) (m + bmeldN la bs) ⟨bmeld la bs⟩ w)
theorem meld_first (mo:Option Nat) (bs:List Tre):MeldsTo mo ([]) (bs):=by
 intro c m p q w hs hm h0 h1 h2 h3 ha hb ra rb;have HL:=hdz (anz ha hb);have HRS:=hdz (anz ra rb);have HF:=hdz (Fm.new w p q);have KK:=hdz ((Trk.refl (N:=NodeT) hm).stay (new3_below w (.cells #[.pointer p.q,.int .i64 p.n] 117) (.cells #[.pointer q.q,.int .i64 q.n] 117) (.cells #[.pointer none,.int .i64 0] 117)));have HN:=hdz (anz hs (anz h0 (anz h1 (anz h2 h3))));clear hs h0 h1 h2 h3 hm ha hb ra rb;go_enter Tryz.func309,Tryz.ntmps309
 go_wp2_with fail
 generalize ((w.alloc (.cells #[.pointer p.q,.int .i64 p.n] 117)).alloc (.cells #[.pointer q.q,.int .i64 q.n] 117)).alloc (.cells #[.pointer none,.int .i64 0] 117) = w1 at *;obtain ⟨a,ha⟩:=exq (w.heap.size);rw [← ha] at HF ⊢;have HA:=hdz ha;clear ha;((with_reducible refine (first_0 (HL.out.1.kps KK.out.kp KK.out.bt.size)).mono ?_);rintro e w2 ⟨rfl,hb2⟩);have F2:=hdz (HF.out.stay hb2);have K2:=hdz (KK.out.stay hb2);have c0:=F2.out.o.c0;have c1:=F2.out.o.c1;have z0:=F2.out.r.z0;have z1:=F2.out.r.z1;have r0:=F2.out.r.c0;have r1:=F2.out.r.c1;have s0:=(F2.out.r.set (.pointer q.q) (.int .i64 q.n)).c0;have s1:=(F2.out.r.set (.pointer q.q) (.int .i64 q.n)).c1;clear hb2 HF KK;go_wp2_with fail
 have k:=K2.out.put2 F2.out.r heapT_ne (by decide) (by have:=HA.out;omega) (.pointer q.q) (.int .i64 q.n);exact bodyPost_ret (v:=hp q) (by simp [results,Tryz.results309,go_sem,s0,s1]) rfl ⟨q,rfl,by rw [bmeld_nil];exact HL.out.2.kps k.kp k.bt.size,by rw [bmeldN_nil];simpa using k.mt,k.bt⟩
theorem meld_second (mo:Option Nat) (f:Tre) (la:List Tre):MeldsTo mo (f :: la) ([]):=by
 intro c m p q w hs hm h0 h1 h2 h3 ha hb ra rb;have HL:=hdz (anz ha hb);have HRS:=hdz (anz ra rb);have HF:=hdz (Fm.new w p q);have KK:=hdz ((Trk.refl (N:=NodeT) hm).stay (new3_below w (.cells #[.pointer p.q,.int .i64 p.n] 117) (.cells #[.pointer q.q,.int .i64 q.n] 117) (.cells #[.pointer none,.int .i64 0] 117)));have HN:=hdz (anz hs (anz h0 (anz h1 (anz h2 h3))));clear hs h0 h1 h2 h3 hm ha hb ra rb;go_enter Tryz.func309,Tryz.ntmps309
 go_wp2_with fail
 generalize ((w.alloc (.cells #[.pointer p.q,.int .i64 p.n] 117)).alloc (.cells #[.pointer q.q,.int .i64 q.n] 117)).alloc (.cells #[.pointer none,.int .i64 0] 117) = w1 at *;obtain ⟨a,ha⟩:=exq (w.heap.size);rw [← ha] at HF ⊢;have HA:=hdz ha;clear ha;obtain ⟨fa,hfa,hc⟩:=first_h (HL.out.1.kps KK.out.kp KK.out.bt.size);have HC:=hdz hc;have TF:=hdz hfa;clear hc hfa;((with_reducible refine HC.out.mono ?_);rintro e w2 ⟨rfl,hb2⟩);have F2:=hdz (HF.out.stay hb2);have K2:=hdz (KK.out.stay hb2);have T2:=hdz (TF.out.stay hb2);have c0:=F2.out.o.c0;have c1:=F2.out.o.c1;clear hb2 HF KK HC TF;go_wp2_with fail
 clear c0 c1;((with_reducible refine (first_0 (HL.out.2.kps K2.out.kp K2.out.bt.size)).mono ?_);rintro e w3 ⟨rfl,hb3⟩);have F3:=hdz (F2.out.stay hb3);have K3:=hdz (K2.out.stay hb3);have c0:=F3.out.h.c0;have c1:=F3.out.h.c1;have z0:=F3.out.r.z0;have z1:=F3.out.r.z1;have r0:=F3.out.r.c0;have r1:=F3.out.r.c1;have s0:=(F3.out.r.set (.pointer p.q) (.int .i64 p.n)).c0;have s1:=(F3.out.r.set (.pointer p.q) (.int .i64 p.n)).c1;clear hb3 F2 K2 T2;go_wp2_with fail
 have k:=K3.out.put2 F3.out.r heapT_ne (by decide) (by have:=HA.out;omega) (.pointer p.q) (.int .i64 p.n);exact bodyPost_ret (v:=hp p) (by simp [results,Tryz.results309,go_sem,s0,s1]) rfl ⟨p,rfl,by rw [bmeld_right];exact HL.out.1.kps k.kp k.bt.size,by rw [bmeldN_right];simpa using k.mt,k.bt⟩
theorem meld_lt (mo:Option Nat) (f g:Tre) (la bs:List Tre) (hlt:f.rank < g.rank) (IH:MeldsTo mo la (g :: bs)):MeldsTo mo (f :: la) (g :: bs):=by
 intro c m p q w hs hm h0 h1 h2 h3 ha hb ra rb;have HL:=hdz (anz ha hb);have HRS:=hdz (anz ra rb);have HF:=hdz (Fm.new w p q);have KK:=hdz ((Trk.refl (N:=NodeT) hm).stay (new3_below w (.cells #[.pointer p.q,.int .i64 p.n] 117) (.cells #[.pointer q.q,.int .i64 q.n] 117) (.cells #[.pointer none,.int .i64 0] 117)));unfold MeldsTo at IH;have HI:=hdz IH;have HB1:=hdz (bmeld_sgood (f :: la) (g :: bs) ha.right.hok hb.right.hok ha.right.sk hb.right.sk ra rb);have HE:=hdz (anz (bmeld_lt hlt:bmeld (f :: la) (g :: bs) = _) (bmeldN_lt hlt:bmeldN (f :: la) (g :: bs) = _));have hsz:=bmeld_size (f :: la) (g :: bs);rw [HE.out.1] at hsz;simp only [bSize] at hs hsz;have HZ:=hdz hsz;clear hsz IH;have HN:=hdz (anz hs (anz h0 (anz h1 (anz h2 h3))));clear hs h0 h1 h2 h3 hm ha hb ra rb;go_enter Tryz.func309,Tryz.ntmps309
 go_wp2_with fail
 generalize ((w.alloc (.cells #[.pointer p.q,.int .i64 p.n] 117)).alloc (.cells #[.pointer q.q,.int .i64 q.n] 117)).alloc (.cells #[.pointer none,.int .i64 0] 117) = w1 at *;obtain ⟨a,ha⟩:=exq (w.heap.size);rw [← ha] at HF ⊢;have HA:=hdz ha;clear ha;obtain ⟨fa,hfa,hc⟩:=first_h (HL.out.1.kps KK.out.kp KK.out.bt.size);have HC:=hdz hc;have TF:=hdz hfa;clear hc hfa;((with_reducible refine HC.out.mono ?_);rintro e w2 ⟨rfl,hb2⟩);have F2:=hdz (HF.out.stay hb2);have K2:=hdz (KK.out.stay hb2);have T2:=hdz (TF.out.stay hb2);have c0:=F2.out.o.c0;have c1:=F2.out.o.c1;clear hb2 HF KK HC TF;go_wp2_with fail
 clear c0 c1;obtain ⟨ga,hga,hc⟩:=first_h (HL.out.2.kps K2.out.kp K2.out.bt.size);have HC:=hdz hc;have TG:=hdz hga;clear hc hga;((with_reducible refine HC.out.mono ?_);rintro e w3 ⟨rfl,hb3⟩);have F3:=hdz (F2.out.stay hb3);have K3:=hdz (K2.out.stay hb3);have T3:=hdz (anz (T2.out.stay hb3) (TG.out.stay hb3));clear hb3 F2 K2 T2 HC TG;obtain ⟨rf,hrf⟩:=exq (f.rank);obtain ⟨rg,hrg⟩:=exq (g.rank);have HRK:=hdz (anz hrf hrg);rw [← hrf,← hrg] at hlt;clear hrf hrg;go_wp2_with fail
 ((with_reducible refine (rank_at T3.out.1 rf HRK.out.1).mono ?_);rintro e w4 ⟨rfl,hw4⟩);subst hw4;go_wp2_with fail
 have d0:decide ((rf:Int) < (rg:Int)) = true:=by first | omega | (simp;omega) | rfl
 have d1:decide (rf < rg) = true:=by first | omega | (simp;omega) | rfl
 have d2:(rf:Int) < (rg:Int):=by first | omega | (simp;omega) | rfl
 have d3:rf < rg:=by first | omega | (simp;omega) | rfl
 ((with_reducible refine (rank_at T3.out.2 rg HRK.out.2).mono ?_);rintro e w4 ⟨rfl,hw4⟩);subst hw4;go_wp2_with fail
 have s3_0:=F3.out.h.c0;have s3_1:=F3.out.h.c1;have s3_2:=F3.out.o.c0;have s3_3:=F3.out.o.c1;have TT:=hdz (T3.out.1);have hfd:=field_h;have n5:¬ a = a + 1 + 1:=by omega
 have n6:¬ a + 1 + 1 = a:=by omega
 go_region_held3 (fun w' => w'.cell? ⟨a,0,none⟩ = some (.pointer p.q) ∧ w'.cell? ⟨a,1,none⟩ = some (.int .i64 p.n) ∧ w'.cell? ⟨a + 1,0,none⟩ = some (.pointer q.q) ∧ w'.cell? ⟨a + 1,1,none⟩ = some (.int .i64 q.n)) (go_keep)
  (first | (go_at_call 145;((with_reducible refine (push_h L5.out (TK.out) (by have:=HN.out;have:=HZ.out;omega) (HE.out.1 ▸ ⟨HB1.out.1,HB1.out.2.1,upto_of HB1.out.2.2.1⟩)).mono ?_);rintro e w6 ⟨p6,rfl,ht6,hb6⟩;have F6:=hdz (F5.out.stay hb6);have K6:=hdz (K5.out.stay hb6);have L6:=hdz ht6;have s6_0:=F6.out.h.c0;have s6_1:=F6.out.h.c1;have s6_2:=F6.out.o.c0;have s6_3:=F6.out.o.c1;have z0:=F6.out.r.z0;have z1:=F6.out.r.z1;have r0:=F6.out.r.c0;have r1:=F6.out.r.c1;clear ht6 hb6)) | (go_at_call 317;((with_reducible refine (rest_any f la p _ ((HL.out.1.kps K3.out.drew.kp K3.out.drew.bt.size))).mono ?_);rintro e w4 ⟨p4,rfl,ht4,hb4⟩;have F4:=hdz ((F3.out.stay ((Below.refl _ _).drew)).stay hb4);have K4:=hdz (K3.out.drew.stay hb4);have L4:=hdz ht4;have TT4:=hdz ((TT.out.stay ((Below.refl _ _).drew)).stay hb4);have s4_0:=F4.out.h.c0;have s4_1:=F4.out.h.c1;have s4_2:=F4.out.o.c0;have s4_3:=F4.out.o.c1;clear ht4 hb4)) | (go_at_call 309;((with_reducible refine (HI.out c m p4 q _ (by have:=HN.out;(try simp only [bSize]);omega) K4.out.mt HN.out.2.1 HN.out.2.2.1 HN.out.2.2.2.1 HN.out.2.2.2.2 L4.out (HL.out.2.kps K4.out.kp K4.out.bt.size) (List.pairwise_cons.1 HRS.out.1).2 HRS.out.2).mono ?_);rintro e w5 ⟨p5,rfl,ht5,hm5,hb5⟩;have F5:=hdz (F4.out.bt hb5 K4.out.mt);have K5:=hdz (K4.out.turn hm5 hb5 node_ne);have L5:=hdz ht5;have TK:=hdz ((TT4.out).kp (Kp.tree (Kp.bt hb5 K4.out.mt)));have s5_0:=F5.out.h.c0;have s5_1:=F5.out.h.c1;have s5_2:=F5.out.o.c0;have s5_3:=F5.out.o.c1;clear ht5 hm5 hb5)))
 go_wp2_with fail
 have s0:=(F6.out.r.set (.pointer p6.q) (.int .i64 p6.n)).c0;have s1:=(F6.out.r.set (.pointer p6.q) (.int .i64 p6.n)).c1;have k:=K6.out.put2 F6.out.r heapT_ne (by decide) (by have:=HA.out;omega) (.pointer p6.q) (.int .i64 p6.n);exact bodyPost_ret (v:=hp p6) (by simp [results,Tryz.results309,go_sem,s0,s1]) rfl ⟨p6,rfl,by rw [HE.out.1];exact L6.out.set2 F6.out.r heapT_ne _ _,by rw [HE.out.2];exact k.mt,k.bt⟩
theorem meld_gt (mo:Option Nat) (f g:Tre) (la bs:List Tre) (hlt:g.rank < f.rank) (IH:MeldsTo mo (f :: la) bs):MeldsTo mo (f :: la) (g :: bs):=by
 intro c m p q w hs hm h0 h1 h2 h3 ha hb ra rb;have HL:=hdz (anz ha hb);have HRS:=hdz (anz ra rb);have HF:=hdz (Fm.new w p q);have KK:=hdz ((Trk.refl (N:=NodeT) hm).stay (new3_below w (.cells #[.pointer p.q,.int .i64 p.n] 117) (.cells #[.pointer q.q,.int .i64 q.n] 117) (.cells #[.pointer none,.int .i64 0] 117)));unfold MeldsTo at IH;have HI:=hdz IH;have HB1:=hdz (bmeld_sgood (f :: la) (g :: bs) ha.right.hok hb.right.hok ha.right.sk hb.right.sk ra rb);have HE:=hdz (anz (bmeld_gt hlt:bmeld (f :: la) (g :: bs) = _) (bmeldN_gt hlt:bmeldN (f :: la) (g :: bs) = _));have hsz:=bmeld_size (f :: la) (g :: bs);rw [HE.out.1] at hsz;simp only [bSize] at hs hsz;have HZ:=hdz hsz;clear hsz IH;have HN:=hdz (anz hs (anz h0 (anz h1 (anz h2 h3))));clear hs h0 h1 h2 h3 hm ha hb ra rb;go_enter Tryz.func309,Tryz.ntmps309
 go_wp2_with fail
 generalize ((w.alloc (.cells #[.pointer p.q,.int .i64 p.n] 117)).alloc (.cells #[.pointer q.q,.int .i64 q.n] 117)).alloc (.cells #[.pointer none,.int .i64 0] 117) = w1 at *;obtain ⟨a,ha⟩:=exq (w.heap.size);rw [← ha] at HF ⊢;have HA:=hdz ha;clear ha;obtain ⟨fa,hfa,hc⟩:=first_h (HL.out.1.kps KK.out.kp KK.out.bt.size);have HC:=hdz hc;have TF:=hdz hfa;clear hc hfa;((with_reducible refine HC.out.mono ?_);rintro e w2 ⟨rfl,hb2⟩);have F2:=hdz (HF.out.stay hb2);have K2:=hdz (KK.out.stay hb2);have T2:=hdz (TF.out.stay hb2);have c0:=F2.out.o.c0;have c1:=F2.out.o.c1;clear hb2 HF KK HC TF;go_wp2_with fail
 clear c0 c1;obtain ⟨ga,hga,hc⟩:=first_h (HL.out.2.kps K2.out.kp K2.out.bt.size);have HC:=hdz hc;have TG:=hdz hga;clear hc hga;((with_reducible refine HC.out.mono ?_);rintro e w3 ⟨rfl,hb3⟩);have F3:=hdz (F2.out.stay hb3);have K3:=hdz (K2.out.stay hb3);have T3:=hdz (anz (T2.out.stay hb3) (TG.out.stay hb3));clear hb3 F2 K2 T2 HC TG;obtain ⟨rf,hrf⟩:=exq (f.rank);obtain ⟨rg,hrg⟩:=exq (g.rank);have HRK:=hdz (anz hrf hrg);rw [← hrf,← hrg] at hlt;clear hrf hrg;go_wp2_with fail
 ((with_reducible refine (rank_at T3.out.1 rf HRK.out.1).mono ?_);rintro e w4 ⟨rfl,hw4⟩);subst hw4;go_wp2_with fail
 have d0:decide ((rf:Int) < (rg:Int)) = false:=by first | omega | (simp;omega) | rfl
 have d1:decide (rf < rg) = false:=by first | omega | (simp;omega) | rfl
 have d2:¬ (rf:Int) < (rg:Int):=by first | omega | (simp;omega) | rfl
 have d3:¬ rf < rg:=by first | omega | (simp;omega) | rfl
 ((with_reducible refine (rank_at T3.out.2 rg HRK.out.2).mono ?_);rintro e w4 ⟨rfl,hw4⟩);subst hw4;go_wp2_with fail
 clear d0 d1 d2 d3;((with_reducible refine (rank_at T3.out.2 rg HRK.out.2).mono ?_);rintro e w4 ⟨rfl,hw4⟩);subst hw4;go_wp2_with fail
 have d0:decide ((rg:Int) < (rf:Int)) = true:=by first | omega | (simp;omega) | rfl
 have d1:decide (rg < rf) = true:=by first | omega | (simp;omega) | rfl
 have d2:(rg:Int) < (rf:Int):=by first | omega | (simp;omega) | rfl
 have d3:rg < rf:=by first | omega | (simp;omega) | rfl
 ((with_reducible refine (rank_at T3.out.1 rf HRK.out.1).mono ?_);rintro e w4 ⟨rfl,hw4⟩);subst hw4;go_wp2_with fail
 have s3_0:=F3.out.h.c0;have s3_1:=F3.out.h.c1;have s3_2:=F3.out.o.c0;have s3_3:=F3.out.o.c1;have TT:=hdz (T3.out.2);have hfd:=field_h;have n5:¬ a = a + 1 + 1:=by omega
 have n6:¬ a + 1 + 1 = a:=by omega
 go_region_held3 (fun w' => w'.cell? ⟨a,0,none⟩ = some (.pointer p.q) ∧ w'.cell? ⟨a,1,none⟩ = some (.int .i64 p.n) ∧ w'.cell? ⟨a + 1,0,none⟩ = some (.pointer q.q) ∧ w'.cell? ⟨a + 1,1,none⟩ = some (.int .i64 q.n)) (go_keep)
  (first | (go_at_call 145;((with_reducible refine (push_h L5.out (TK.out) (by have:=HN.out;have:=HZ.out;omega) (HE.out.1 ▸ ⟨HB1.out.1,HB1.out.2.1,upto_of HB1.out.2.2.1⟩)).mono ?_);rintro e w6 ⟨p6,rfl,ht6,hb6⟩;have F6:=hdz (F5.out.stay hb6);have K6:=hdz (K5.out.stay hb6);have L6:=hdz ht6;have s6_0:=F6.out.h.c0;have s6_1:=F6.out.h.c1;have s6_2:=F6.out.o.c0;have s6_3:=F6.out.o.c1;have z0:=F6.out.r.z0;have z1:=F6.out.r.z1;have r0:=F6.out.r.c0;have r1:=F6.out.r.c1;clear ht6 hb6)) | (go_at_call 317;((with_reducible refine (rest_any g bs q _ ((HL.out.2.kps K3.out.drew.kp K3.out.drew.bt.size))).mono ?_);rintro e w4 ⟨p4,rfl,ht4,hb4⟩;have F4:=hdz ((F3.out.stay ((Below.refl _ _).drew)).stay hb4);have K4:=hdz (K3.out.drew.stay hb4);have L4:=hdz ht4;have TT4:=hdz ((TT.out.stay ((Below.refl _ _).drew)).stay hb4);have s4_0:=F4.out.h.c0;have s4_1:=F4.out.h.c1;have s4_2:=F4.out.o.c0;have s4_3:=F4.out.o.c1;clear ht4 hb4)) | (go_at_call 309;((with_reducible refine (HI.out c m p p4 _ (by have:=HN.out;(try simp only [bSize]);omega) K4.out.mt HN.out.2.1 HN.out.2.2.1 HN.out.2.2.2.1 HN.out.2.2.2.2 (HL.out.1.kps K4.out.kp K4.out.bt.size) L4.out HRS.out.1 (List.pairwise_cons.1 HRS.out.2).2).mono ?_);rintro e w5 ⟨p5,rfl,ht5,hm5,hb5⟩;have F5:=hdz (F4.out.bt hb5 K4.out.mt);have K5:=hdz (K4.out.turn hm5 hb5 node_ne);have L5:=hdz ht5;have TK:=hdz ((TT4.out).kp (Kp.tree (Kp.bt hb5 K4.out.mt)));have s5_0:=F5.out.h.c0;have s5_1:=F5.out.h.c1;have s5_2:=F5.out.o.c0;have s5_3:=F5.out.o.c1;clear ht5 hm5 hb5)))
 go_wp2_with fail
 have s0:=(F6.out.r.set (.pointer p6.q) (.int .i64 p6.n)).c0;have s1:=(F6.out.r.set (.pointer p6.q) (.int .i64 p6.n)).c1;have k:=K6.out.put2 F6.out.r heapT_ne (by decide) (by have:=HA.out;omega) (.pointer p6.q) (.int .i64 p6.n);exact bodyPost_ret (v:=hp p6) (by simp [results,Tryz.results309,go_sem,s0,s1]) rfl ⟨p6,rfl,by rw [HE.out.1];exact L6.out.set2 F6.out.r heapT_ne _ _,by rw [HE.out.2];exact k.mt,k.bt⟩
theorem meld_eq (mo:Option Nat) (f g:Tre) (la bs:List Tre) (hlt:f.rank = g.rank) (IH:MeldsTo mo la bs):MeldsTo mo (f :: la) (g :: bs):=by
 intro c m p q w hs hm h0 h1 h2 h3 ha hb ra rb;have HL:=hdz (anz ha hb);have HRS:=hdz (anz ra rb);have HF:=hdz (Fm.new w p q);have KK:=hdz ((Trk.refl (N:=NodeT) hm).stay (new3_below w (.cells #[.pointer p.q,.int .i64 p.n] 117) (.cells #[.pointer q.q,.int .i64 q.n] 117) (.cells #[.pointer none,.int .i64 0] 117)));unfold MeldsTo at IH;have HI:=hdz IH;have HEQ:=hdz hlt;have HB1:=hdz (anz (show sOk (f :: la) from ha.right) (show sOk (g :: bs) from hb.right));have HE:=hdz (anz (bmeld_eq hlt:bmeld (f :: la) (g :: bs) = _) (bmeldN_eq hlt:bmeldN (f :: la) (g :: bs) = _));have hsz:=bmeld_size la bs;have hln:=bmeld_len la bs;have hl1:=len_bSize la;have hl2:=len_bSize bs;simp only [bSize] at hs;have HZ:=hdz (show bSize (bmeld la bs) = bSize la + bSize bs ∧ bmeldN la bs < 268435456 from ⟨hsz,by simp only [Tre.size] at hs;omega⟩);clear hsz IH hln hl1 hl2;have HN:=hdz (anz hs (anz h0 (anz h1 (anz h2 h3))));clear hs h0 h1 h2 h3 hm ha hb ra rb;go_enter Tryz.func309,Tryz.ntmps309
 go_wp2_with fail
 generalize ((w.alloc (.cells #[.pointer p.q,.int .i64 p.n] 117)).alloc (.cells #[.pointer q.q,.int .i64 q.n] 117)).alloc (.cells #[.pointer none,.int .i64 0] 117) = w1 at *;obtain ⟨a,ha⟩:=exq (w.heap.size);rw [← ha] at HF ⊢;have HA:=hdz ha;clear ha;obtain ⟨fa,hfa,hc⟩:=first_h (HL.out.1.kps KK.out.kp KK.out.bt.size);have HC:=hdz hc;have TF:=hdz hfa;clear hc hfa;((with_reducible refine HC.out.mono ?_);rintro e w2 ⟨rfl,hb2⟩);have F2:=hdz (HF.out.stay hb2);have K2:=hdz (KK.out.stay hb2);have T2:=hdz (TF.out.stay hb2);have c0:=F2.out.o.c0;have c1:=F2.out.o.c1;clear hb2 HF KK HC TF;go_wp2_with fail
 clear c0 c1;obtain ⟨ga,hga,hc⟩:=first_h (HL.out.2.kps K2.out.kp K2.out.bt.size);have HC:=hdz hc;have TG:=hdz hga;clear hc hga;((with_reducible refine HC.out.mono ?_);rintro e w3 ⟨rfl,hb3⟩);have F3:=hdz (F2.out.stay hb3);have K3:=hdz (K2.out.stay hb3);have T3:=hdz (anz (T2.out.stay hb3) (TG.out.stay hb3));clear hb3 F2 K2 T2 HC TG;obtain ⟨rf,hrf⟩:=exq (f.rank);obtain ⟨rg,hrg⟩:=exq (g.rank);have HRK:=hdz (anz hrf hrg);rw [← hrf,← hrg] at hlt;clear hrf hrg;go_wp2_with fail
 ((with_reducible refine (rank_at T3.out.1 rf HRK.out.1).mono ?_);rintro e w4 ⟨rfl,hw4⟩);subst hw4;go_wp2_with fail
 have d0:decide ((rf:Int) < (rg:Int)) = false:=by first | omega | (simp;omega) | rfl
 have d1:decide (rf < rg) = false:=by first | omega | (simp;omega) | rfl
 have d2:¬ (rf:Int) < (rg:Int):=by first | omega | (simp;omega) | rfl
 have d3:¬ rf < rg:=by first | omega | (simp;omega) | rfl
 ((with_reducible refine (rank_at T3.out.2 rg HRK.out.2).mono ?_);rintro e w4 ⟨rfl,hw4⟩);subst hw4;go_wp2_with fail
 clear d0 d1 d2 d3;((with_reducible refine (rank_at T3.out.2 rg HRK.out.2).mono ?_);rintro e w4 ⟨rfl,hw4⟩);subst hw4;go_wp2_with fail
 have d0:decide ((rg:Int) < (rf:Int)) = false:=by first | omega | (simp;omega) | rfl
 have d1:decide (rg < rf) = false:=by first | omega | (simp;omega) | rfl
 have d2:¬ (rg:Int) < (rf:Int):=by first | omega | (simp;omega) | rfl
 have d3:¬ rg < rf:=by first | omega | (simp;omega) | rfl
 ((with_reducible refine (rank_at T3.out.1 rf HRK.out.1).mono ?_);rintro e w4 ⟨rfl,hw4⟩);subst hw4;go_wp2_with fail
 clear d0 d1 d2 d3 hlt;refine wp_after (R:=fun x x' w' => ∃ (u59 u60 u61 u62 u63 u64:Value) (v:Nat) (p5:HP),x' = (((((((x.put (some 59) u59).put (some 60) u60).put (some 61) u61).put (some 62) u62).put (some 63) u63).put (some 64) u64).put (some 10) (.pointer (some ⟨v,0,none⟩))) ∧ Bt mo w4 w' ∧ MAt w' mo (c + (bmeldN la bs:Nat)) (m + (bmeldN la bs:Nat)) ∧ w4.heap.size ≤ v ∧ Box2 w' v 117 (.pointer p5.q) (.int .i64 p5.n) ∧ LAt w' ⟨bmeld la bs⟩ p5) ?_ ?_
 ·have HS:=hdz (fun (w':World) (hz:Bt mo w4 w') => (show w'.cell? ⟨a,0,none⟩ = some (.pointer p.q) ∧ w'.cell? ⟨a,1,none⟩ = some (.int .i64 p.n) ∧ w'.cell? ⟨a + 1,0,none⟩ = some (.pointer q.q) ∧ w'.cell? ⟨a + 1,1,none⟩ = some (.int .i64 q.n) from ⟨(F3.out.bt hz K3.out.mt).h.c0,(F3.out.bt hz K3.out.mt).h.c1,(F3.out.bt hz K3.out.mt).o.c0,(F3.out.bt hz K3.out.mt).o.c1⟩));have hB:=(Bt.refl mo w4).drew;have hM:=K3.out.mt.drew;have hLa:=HL.out.1.kps K3.out.drew.kp K3.out.drew.bt.size;have hLb:=HL.out.2.kps K3.out.drew.kp K3.out.drew.bt.size;refine wp_region_noPanic ?_;refine wp_region_held_drew (S:=fun w' => w'.cell? ⟨a,0,none⟩ = some (.pointer p.q) ∧ w'.cell? ⟨a,1,none⟩ = some (.int .i64 p.n) ∧ w'.cell? ⟨a + 1,0,none⟩ = some (.pointer q.q) ∧ w'.cell? ⟨a + 1,1,none⟩ = some (.int .i64 q.n)) (by kernel_rfl) (HS.out _ hB) (fun hH => ?_);generalize w4.drew = wd at *;refine tk 0 hH ?_;try simp only [bkz]
  refine tk 2 hH ?_;try simp only [bkz]
  refine tk 3 hH ?_;try simp only [bkz]
  refine rd2 1 6 (fun K hK => ?_) (fun K hK => ?_)
  ·go_simp;go_at_call 317
   (with_reducible refine (rest_any f la p _ hLa).mono ?_);rintro e w5 ⟨p1,rfl,ht1,hb⟩;replace hLb:=hLb.stay hb;replace hB:=hB.trans (Bt.ofBelow hb);replace hM:=hM.stay hb;clear hb hLa;refine hK.out _ _ ?_ (fun hH2 => ?_)
   ·exact HS.out _ hB
   clear hK K hH;have hH:=hH2;clear hH2;try simp only [bkz]
   refine rd2 4 6 (fun K hK => ?_) (fun K hK => ?_)
   ·go_simp;go_at_call 317
    (with_reducible refine (rest_any g bs q _ hLb).mono ?_);rintro e w6 ⟨p2,rfl,ht2,hb⟩;replace ht1:=ht1.stay hb;replace hB:=hB.trans (Bt.ofBelow hb);replace hM:=hM.stay hb;clear hb hLb;refine hK.out _ _ ?_ (fun hH2 => ?_)
    ·exact HS.out _ hB
    clear hK K hH;have hH:=hH2;clear hH2;try simp only [bkz]
    refine rd2 5 6 (fun K hK => ?_) (fun K hK => ?_)
    focus
     go_simp;go_at_call 309
     (with_reducible refine (HI.out c m p1 p2 _ (by have:=HN.out;omega) hM HN.out.2.1 HN.out.2.2.1 HN.out.2.2.2.1 HN.out.2.2.2.2 ht1 ht2 (List.pairwise_cons.1 HRS.out.1).2 (List.pairwise_cons.1 HRS.out.2).2).mono ?_);rintro e w7 ⟨p5,rfl,ht5,hm5,hb⟩;replace hB:=hB.trans hb;replace hM:=hm5;clear hb hm5 ht1 ht2;refine hK.out _ _ ?_ (fun hH2 => ?_)
     ·exact HS.out _ hB
     clear hK K hH;have hH:=hH2;clear hH2;try simp only [bkz]
     refine rd1 6 (fun K hK => ?_);go_simp;refine hK.out _ _ ?_ (fun hH2 => ?_)
     ·exact HS.out _ (hB.alloc _)
     clear hK K hH;have hH:=hH2;clear hH2;have hv:=Box2.new w7 117 (.pointer none) (.int .i64 0);have hV:w4.heap.size ≤ w7.heap.size:=hB.size;replace ht5:=ht5.stay (bqA (.cells #[.pointer none,.int .i64 0] 117));replace hB:=hB.alloc (.cells #[.pointer none,.int .i64 0] 117);replace hM:=hM.alloc (.cells #[.pointer none,.int .i64 0] 117);obtain ⟨v,hve⟩:=exq (w7.heap.size);rw [← hve] at hv hV ⊢;clear hve;generalize w7.alloc (.cells #[.pointer none,.int .i64 0] 117) = wA at *
    rotate_left
    focus
     go_simp;refine hK.out _ _ ?_ (fun hH2 => ?_)
     ·exact HS.out _ (hB.alloc _)
     clear hK K hH;have hH:=hH2;clear hH2;have hv:=Box2.new w6 117 (.pointer none) (.int .i64 0);have hV:w4.heap.size ≤ w6.heap.size:=hB.size;replace ht1:=ht1.stay (bqA (.cells #[.pointer none,.int .i64 0] 117));replace ht2:=ht2.stay (bqA (.cells #[.pointer none,.int .i64 0] 117));replace hB:=hB.alloc (.cells #[.pointer none,.int .i64 0] 117);replace hM:=hM.alloc (.cells #[.pointer none,.int .i64 0] 117);obtain ⟨v,hve⟩:=exq (w6.heap.size);rw [← hve] at hv hV ⊢;clear hve;generalize w6.alloc (.cells #[.pointer none,.int .i64 0] 117) = wA at *;try simp only [bkz]
     refine rd1 5 (fun K hK => ?_);go_simp;go_at_call 309
     (with_reducible refine (HI.out c m p1 p2 _ (by have:=HN.out;omega) hM HN.out.2.1 HN.out.2.2.1 HN.out.2.2.2.1 HN.out.2.2.2.2 ht1 ht2 (List.pairwise_cons.1 HRS.out.1).2 (List.pairwise_cons.1 HRS.out.2).2).mono ?_);rintro e w7 ⟨p5,rfl,ht5,hm5,hb⟩;replace hv:=hv.bt hb hM (by decide);replace hB:=hB.trans hb;replace hM:=hm5;clear hb hm5 ht1 ht2;refine hK.out _ _ ?_ (fun hH2 => ?_)
     ·exact HS.out _ hB
     clear hK K hH;have hH:=hH2;clear hH2
    rotate_left
    all_goals
     try simp only [bkz]
     have vc0:=hv.c0;have vc1:=hv.c1;have vz0:=hv.z0;have vz1:=hv.z1;refine rd1 7 (fun K hK => ?_);go_simp;refine hK.out _ _ ?_ (fun hH2 => ?_)
     ·exact HS.out _ ((hB.own hV 0 _).own hV 1 _)
     clear hK K hH;have hH:=hH2;clear hH2;have hv2:=hv.set (.pointer p5.q) (.int .i64 p5.n);have ht6:=ht5.set2 hv heapT_ne (.pointer p5.q) (.int .i64 p5.n);have hB2:=(hB.own hV 0 (.pointer p5.q)).own hV 1 (.int .i64 p5.n);have hM2:=(hM.other hv (by decide) 0 (.pointer p5.q)).other (hv.set0 (.pointer p5.q)) (by decide) 1 (.int .i64 p5.n);clear vc0 vc1 vz0 vz1;try simp only [bkz]
     refine dn ?_;clear hH;exact ⟨rfl,_,_,_,_,_,_,v,p5,by (try simp only [bkz]);rfl,hB2,hM2,hV,hv2,ht6⟩
   ·go_simp;refine hK.out _ _ ?_ (fun hH2 => ?_)
    ·exact HS.out _ (hB.alloc _)
    clear hK K hH;have hH:=hH2;clear hH2;have hv:=Box2.new w5 117 (.pointer none) (.int .i64 0);have hV:w4.heap.size ≤ w5.heap.size:=hB.size;replace ht1:=ht1.stay (bqA (.cells #[.pointer none,.int .i64 0] 117));replace hLb:=hLb.stay (bqA (.cells #[.pointer none,.int .i64 0] 117));replace hB:=hB.alloc (.cells #[.pointer none,.int .i64 0] 117);replace hM:=hM.alloc (.cells #[.pointer none,.int .i64 0] 117);obtain ⟨v,hve⟩:=exq (w5.heap.size);rw [← hve] at hv hV ⊢;clear hve;generalize w5.alloc (.cells #[.pointer none,.int .i64 0] 117) = wA at *;try simp only [bkz]
    refine rd1 4 (fun K hK => ?_);go_simp;go_at_call 317
    (with_reducible refine (rest_any g bs q _ hLb).mono ?_);rintro e w6 ⟨p2,rfl,ht2,hb⟩;replace ht1:=ht1.stay hb;replace hB:=hB.trans (Bt.ofBelow hb);replace hM:=hM.stay hb;replace hv:=hv.stay hb;clear hb hLb;refine hK.out _ _ ?_ (fun hH2 => ?_)
    ·exact HS.out _ hB
    clear hK K hH;have hH:=hH2;clear hH2;try simp only [bkz]
    refine rd1 5 (fun K hK => ?_);go_simp;go_at_call 309
    (with_reducible refine (HI.out c m p1 p2 _ (by have:=HN.out;omega) hM HN.out.2.1 HN.out.2.2.1 HN.out.2.2.2.1 HN.out.2.2.2.2 ht1 ht2 (List.pairwise_cons.1 HRS.out.1).2 (List.pairwise_cons.1 HRS.out.2).2).mono ?_);rintro e w7 ⟨p5,rfl,ht5,hm5,hb⟩;replace hv:=hv.bt hb hM (by decide);replace hB:=hB.trans hb;replace hM:=hm5;clear hb hm5 ht1 ht2;refine hK.out _ _ ?_ (fun hH2 => ?_)
    ·exact HS.out _ hB
    clear hK K hH;have hH:=hH2;clear hH2;try simp only [bkz]
    have vc0:=hv.c0;have vc1:=hv.c1;have vz0:=hv.z0;have vz1:=hv.z1;refine rd1 7 (fun K hK => ?_);go_simp;refine hK.out _ _ ?_ (fun hH2 => ?_)
    ·exact HS.out _ ((hB.own hV 0 _).own hV 1 _)
    clear hK K hH;have hH:=hH2;clear hH2;have hv2:=hv.set (.pointer p5.q) (.int .i64 p5.n);have ht6:=ht5.set2 hv heapT_ne (.pointer p5.q) (.int .i64 p5.n);have hB2:=(hB.own hV 0 (.pointer p5.q)).own hV 1 (.int .i64 p5.n);have hM2:=(hM.other hv (by decide) 0 (.pointer p5.q)).other (hv.set0 (.pointer p5.q)) (by decide) 1 (.int .i64 p5.n);clear vc0 vc1 vz0 vz1;try simp only [bkz]
    refine dn ?_;clear hH;exact ⟨rfl,_,_,_,_,_,_,v,p5,by (try simp only [bkz]);rfl,hB2,hM2,hV,hv2,ht6⟩
  ·go_simp;refine hK.out _ _ ?_ (fun hH2 => ?_)
   ·exact HS.out _ (hB.alloc _)
   clear hK K hH;have hH:=hH2;clear hH2;have hv:=Box2.new wd 117 (.pointer none) (.int .i64 0);have hV:w4.heap.size ≤ wd.heap.size:=hB.size;replace hLa:=hLa.stay (bqA (.cells #[.pointer none,.int .i64 0] 117));replace hLb:=hLb.stay (bqA (.cells #[.pointer none,.int .i64 0] 117));replace hB:=hB.alloc (.cells #[.pointer none,.int .i64 0] 117);replace hM:=hM.alloc (.cells #[.pointer none,.int .i64 0] 117);obtain ⟨v,hve⟩:=exq (wd.heap.size);rw [← hve] at hv hV ⊢;clear hve;generalize wd.alloc (.cells #[.pointer none,.int .i64 0] 117) = wA at *;try simp only [bkz]
   refine rd1 1 (fun K hK => ?_);go_simp;go_at_call 317
   (with_reducible refine (rest_any f la p _ hLa).mono ?_);rintro e w5 ⟨p1,rfl,ht1,hb⟩;replace hLb:=hLb.stay hb;replace hB:=hB.trans (Bt.ofBelow hb);replace hM:=hM.stay hb;replace hv:=hv.stay hb;clear hb hLa;refine hK.out _ _ ?_ (fun hH2 => ?_)
   ·exact HS.out _ hB
   clear hK K hH;have hH:=hH2;clear hH2;try simp only [bkz]
   refine rd1 4 (fun K hK => ?_);go_simp;go_at_call 317
   (with_reducible refine (rest_any g bs q _ hLb).mono ?_);rintro e w6 ⟨p2,rfl,ht2,hb⟩;replace ht1:=ht1.stay hb;replace hB:=hB.trans (Bt.ofBelow hb);replace hM:=hM.stay hb;replace hv:=hv.stay hb;clear hb hLb;refine hK.out _ _ ?_ (fun hH2 => ?_)
   ·exact HS.out _ hB
   clear hK K hH;have hH:=hH2;clear hH2;try simp only [bkz]
   refine rd1 5 (fun K hK => ?_);go_simp;go_at_call 309
   (with_reducible refine (HI.out c m p1 p2 _ (by have:=HN.out;omega) hM HN.out.2.1 HN.out.2.2.1 HN.out.2.2.2.1 HN.out.2.2.2.2 ht1 ht2 (List.pairwise_cons.1 HRS.out.1).2 (List.pairwise_cons.1 HRS.out.2).2).mono ?_);rintro e w7 ⟨p5,rfl,ht5,hm5,hb⟩;replace hv:=hv.bt hb hM (by decide);replace hB:=hB.trans hb;replace hM:=hm5;clear hb hm5 ht1 ht2;refine hK.out _ _ ?_ (fun hH2 => ?_)
   ·exact HS.out _ hB
   clear hK K hH;have hH:=hH2;clear hH2;try simp only [bkz]
   have vc0:=hv.c0;have vc1:=hv.c1;have vz0:=hv.z0;have vz1:=hv.z1;refine rd1 7 (fun K hK => ?_);go_simp;refine hK.out _ _ ?_ (fun hH2 => ?_)
   ·exact HS.out _ ((hB.own hV 0 _).own hV 1 _)
   clear hK K hH;have hH:=hH2;clear hH2;have hv2:=hv.set (.pointer p5.q) (.int .i64 p5.n);have ht6:=ht5.set2 hv heapT_ne (.pointer p5.q) (.int .i64 p5.n);have hB2:=(hB.own hV 0 (.pointer p5.q)).own hV 1 (.int .i64 p5.n);have hM2:=(hM.other hv (by decide) 0 (.pointer p5.q)).other (hv.set0 (.pointer p5.q)) (by decide) 1 (.int .i64 p5.n);clear vc0 vc1 vz0 vz1;try simp only [bkz]
   refine dn ?_;clear hH;exact ⟨rfl,_,_,_,_,_,_,v,p5,by (try simp only [bkz]);rfl,hB2,hM2,hV,hv2,ht6⟩
 rintro x' w' ⟨u59,u60,u61,u62,u63,u64,v,p5,rfl,hB,hM,hV,hv,ht⟩;try simp only [bkz]
 have nv1:¬ v = a + 1 + 1:=by have:=F3.out.r.lt;omega
 have nv2:¬ a + 1 + 1 = v:=by have:=F3.out.r.lt;omega
 have F5:=hdz (F3.out.bt hB K3.out.mt);have K5:=hdz (K3.out.turn hM hB node_ne);have T5:=hdz (anz (T3.out.1.kp (Kp.tree (Kp.bt hB K3.out.mt))) (T3.out.2.kp (Kp.tree (Kp.bt hB K3.out.mt))));have V5:=hdz (anz hv (anz ht hV));have v0:=hv.c0;have v1:=hv.c1;clear hB hM hV hv ht F3 K3 T3;go_wp2_with fail
 have HQ:=hdz HEQ.out;have HBR:=hdz (bmeld_sgood la bs (tail_ok HB1.out.1).hok (tail_ok HB1.out.2).hok (tail_ok HB1.out.1).sk (tail_ok HB1.out.2).sk (List.pairwise_cons.1 HRS.out.1).2 (List.pairwise_cons.1 HRS.out.2).2).2.2.1
 have HLOW:=hdz (show ∀ x ∈ bmeld la bs,(lnk f g).rank ≤ x.rank from by
  rw [lnk_rank HQ.out];have h1:=List.pairwise_cons.1 HRS.out.1;have h2:=List.pairwise_cons.1 HRS.out.2;have h3:=(bmeld_sgood la bs (tail_ok HB1.out.1).hok (tail_ok HB1.out.2).hok (tail_ok HB1.out.1).sk (tail_ok HB1.out.2).sk h1.2 h2.2).2.2.2 (f.rank + 1) (fun u hu => h1.1 u hu) (fun u hu => by have:=h2.1 u hu;have:=HQ.out;omega);exact h3)
 go_region_held3 (fun w' => w'.cell? ⟨v,0,none⟩ = some (.pointer p5.q) ∧ w'.cell? ⟨v,1,none⟩ = some (.int .i64 p5.n)) (go_keep)
  (first | (go_at_call 143;((with_reducible refine (link_any mo (c + (bmeldN la bs:Nat)) (m + (bmeldN la bs:Nat)) fa ga (some f) (some g) _ K5.out.drew.mt (by have:=HN.out;omega) (by have:=HN.out;have:=HZ.out;omega) (by have:=HN.out;omega) (by have:=HN.out;have:=HZ.out;omega) (T5.out.1.stay ((Below.refl _ _).drew)) (T5.out.2.stay ((Below.refl _ _).drew)) (by have:=HN.out;simp only [osize];omega) (by have:=HN.out;simp only [osize];omega)).mono ?_);rintro e w6 ⟨p6,rfl,ht6,hm6,hb6⟩;have F6:=hdz ((F5.out.stay ((Below.refl _ _).drew)).bt hb6 K5.out.drew.mt);have K6:=hdz (K5.out.drew.turn hm6 hb6 node_ne);have T6:=hdz (show TAt w6 p6 (some (lnk f g)) from ht6);have V6:=hdz (anz ((V5.out.1.stay ((Below.refl _ _).drew)).bt hb6 K5.out.drew.mt (by decide)) ((V5.out.2.1.stay ((Below.refl _ _).drew)).bt hb6 K5.out.drew.mt));have v60:=V6.out.1.c0;have v61:=V6.out.1.c1;clear ht6 hm6 hb6)) | (go_at_call 318;((with_reducible refine (ahead_any mo (c + (bmeldN la bs:Nat) + (lnkN (some f) (some g):Nat)) (m + (bmeldN la bs:Nat) + (lnkN (some f) (some g):Nat)) (lnk f g) (bmeld la bs) p6 p5 _ (by rw [lnk_size];have:=HN.out;have:=HZ.out;omega) K6.out.mt (by have:=HN.out;omega) (by have:=HN.out;have:=HZ.out;simp only [lnkN];omega) (by have:=HN.out;omega) (by have:=HN.out;have:=HZ.out;simp only [lnkN];omega) V6.out.2 HBR.out T6.out (lnk_hok (HB1.out.1.hok f (List.mem_cons_self ..)) (HB1.out.2.hok g (List.mem_cons_self ..))) (lnk_sk HQ.out (HB1.out.1.sk f (List.mem_cons_self ..)) (HB1.out.2.sk g (List.mem_cons_self ..))) HLOW.out).mono ?_);rintro e w7 ⟨p7,rfl,ht7,hm7,hb7⟩;have F7:=hdz (F6.out.bt hb7 K6.out.mt);have K7:=hdz (K6.out.turn hm7 hb7 node_ne);have L7:=hdz ht7;have V7:=hdz (V6.out.1.bt hb7 K6.out.mt (by decide));have v70:=V7.out.c0;have v71:=V7.out.c1;have z0:=F7.out.r.z0;have z1:=F7.out.r.z1;have r0:=F7.out.r.c0;have r1:=F7.out.r.c1;clear ht7 hm7 hb7)))
 go_wp2_with fail
 have s0:=(F7.out.r.set (.pointer p7.q) (.int .i64 p7.n)).c0;have s1:=(F7.out.r.set (.pointer p7.q) (.int .i64 p7.n)).c1;have k:=K7.out.put2 F7.out.r heapT_ne (by decide) (by have:=HA.out;omega) (.pointer p7.q) (.int .i64 p7.n);have e1:c + ((1 + bmeldN la bs + putTN (bmeld la bs) (lnk f g):Nat):Int) = c + (bmeldN la bs:Nat) + (lnkN (some f) (some g):Nat) + (putTN (bmeld la bs) (lnk f g):Nat):=by simp only [lnkN];omega
 have e2:m + ((1 + bmeldN la bs + putTN (bmeld la bs) (lnk f g):Nat):Int) = m + (bmeldN la bs:Nat) + (lnkN (some f) (some g):Nat) + (putTN (bmeld la bs) (lnk f g):Nat):=by simp only [lnkN];omega
 exact bodyPost_ret (v:=hp p7) (by simp [results,Tryz.results309,go_sem,s0,s1]) rfl ⟨p7,rfl,by rw [HE.out.1];exact L7.out.set2 F7.out.r heapT_ne _ _,by rw [HE.out.2,e1,e2];exact k.mt,k.bt⟩
theorem melded_all (mo:Option Nat):∀ la bs:List Tre,MeldsTo mo la bs:=by
 refine bmeld_ind ?_ ?_ ?_ ?_ ?_
 ·exact fun b => meld_first mo b
 ·exact fun f a => meld_second mo f a
 ·exact fun f a g b h ih => meld_lt mo f g a b h ih
 ·exact fun f a g b h ih => meld_gt mo f g a b h ih
 ·exact fun f a g b h ih => meld_eq mo f g a b h ih
end Go.Proofs.YtmeodbjlmjpnbaaGreat.Sk.Hp
namespace Go.Proofs.YtmeodbjlmjpnbaaGreat.Sk.Hp
open Go.Sort Go.RowKit
theorem melded_any (mo:Option Nat) (la lb:List Tre) (c m:Int) (p q:HP) (w:World) (hs:bSize la + bSize lb < 268435456) (hm:MAt w mo c m) (h0:0 ≤ c) (h1:c < 576460752303423488) (h2:0 ≤ m) (h3:m < 576460752303423488) (ha:LAt w ⟨la⟩ p) (hb:LAt w ⟨lb⟩ q) (ra:rises la) (rb:rises lb) :
  Calls Tryz.prog 309 #[hp p,mAddr mo,hp q] w (Gave mo (c + bmeldN la lb) (m + bmeldN la lb) ⟨bmeld la lb⟩ w):=melded_all mo la lb c m p q w hs hm h0 h1 h2 h3 ha hb ra rb
theorem levN_size (l:List Tre):levN l ≤ bSize l:=by
 have h1:=levT_len l;have h2:=len_bSize l;omega
theorem levT_rises {l:List Tre} (h:sOk l):rises (levT l):=(levT_good h).2.2
theorem meldL (mo:Option Nat) (la lb:List Tre) (c m:Int) (p q:HP) (w:World) (hs:bSize la + bSize lb < 268435456) (hm:MAt w mo c m) (h0:0 ≤ c) (h1:c < 288230376151711744) (h2:0 ≤ m) (h3:m < 288230376151711744) (ha:LAt w ⟨la⟩ p) (hb:LAt w ⟨lb⟩ q) :
  Calls Tryz.prog 304 #[hp p,mAddr mo,hp q] w (Gave mo (c + smeldN la lb) (m + smeldN la lb) ⟨smeld la lb⟩ w):=by
 have HF:=hdz (Fm.new w p q);have KK:=hdz ((Trk.refl (N:=NodeT) hm).stay (new3_below w (.cells #[.pointer p.q,.int .i64 p.n] 117) (.cells #[.pointer q.q,.int .i64 q.n] 117) (.cells #[.pointer none,.int .i64 0] 117)));have HL:=hdz (anz (ha.stay (new3_below w (.cells #[.pointer p.q,.int .i64 p.n] 117) (.cells #[.pointer q.q,.int .i64 q.n] 117) (.cells #[.pointer none,.int .i64 0] 117))) (hb.stay (new3_below w (.cells #[.pointer p.q,.int .i64 p.n] 117) (.cells #[.pointer q.q,.int .i64 q.n] 117) (.cells #[.pointer none,.int .i64 0] 117))));have HO:=hdz (anz (show sOk la from ha.right) (show sOk lb from hb.right));have hz1:=levN_size la;have hz2:=levN_size lb;have HN:=hdz (anz hs (anz h0 (anz h1 (anz h2 (anz h3 (anz hz1 hz2))))));clear hs h0 h1 h2 h3 hm ha hb hz1 hz2;go_enter Tryz.func304,Tryz.ntmps304
 go_wp2_with fail
 generalize ((w.alloc (.cells #[.pointer p.q,.int .i64 p.n] 117)).alloc (.cells #[.pointer q.q,.int .i64 q.n] 117)).alloc (.cells #[.pointer none,.int .i64 0] 117) = w1 at *;obtain ⟨a,ha⟩:=exq (w.heap.size);rw [← ha] at HF ⊢;have HA:=hdz ha;clear ha;((with_reducible refine (lev_any mo c m la p _ (by have:=HN.out;omega) KK.out.mt HN.out.2.1 (by have:=HN.out;omega) HN.out.2.2.2.1 (by have:=HN.out;omega) HL.out.1).mono ?_);rintro e w2 ⟨p5,rfl,ht,hm2,hb⟩);have hb4:Bt mo w1 (w2.alloc (.cells #[.pointer p5.q,.int .i64 p5.n] 117)):=hb.alloc _;have F3:=hdz (HF.out.bt hb4 KK.out.mt);have K3:=hdz (KK.out.turn (hm2.alloc (.cells #[.pointer p5.q,.int .i64 p5.n] 117)) hb4 node_ne);have L3:=hdz (anz (ht.stay (bqA (.cells #[.pointer p5.q,.int .i64 p5.n] 117))) (HL.out.2.bt hb4 KK.out.mt));have V3:=hdz (Box2.new w2 117 (.pointer p5.q) (.int .i64 p5.n));have HVL:=hdz (Nat.lt_of_lt_of_le HF.out.r.lt hb.size);clear ht hm2 hb hb4 HF KK HL;go_wp2_with fail
 generalize w2.alloc (.cells #[.pointer p5.q,.int .i64 p5.n] 117) = w3 at *;obtain ⟨v,hv⟩:=exq (w2.heap.size);rw [← hv] at V3 HVL ⊢;clear hv;have v0:=V3.out.c0;have v1:=V3.out.c1;have f2:=F3.out.o.c0;have f3:=F3.out.o.c1;have n1:¬ v = a + 1 + 1:=by have:=HVL.out;omega
 have n2:¬ a + 1 + 1 = v:=by have:=HVL.out;omega
 have n3:¬ a + 1 = a + 1 + 1:=by omega
 have n4:¬ a + 1 + 1 = a + 1:=by omega
 go_region_held3 (fun w' => w'.cell? ⟨v,0,none⟩ = some (.pointer p5.q) ∧ w'.cell? ⟨v,1,none⟩ = some (.int .i64 p5.n) ∧ w'.cell? ⟨a + 1,0,none⟩ = some (.pointer q.q) ∧ w'.cell? ⟨a + 1,1,none⟩ = some (.int .i64 q.n)) (go_keep)
  (first | (go_at_call 309;((with_reducible refine (melded_any mo (levT la) (levT lb) (c + levN la + levN lb) (m + levN la + levN lb) p5 p6 _ (by rw [levT_size,levT_size];exact HN.out.1) K4.out.mt (by have:=HN.out;omega) (by have:=HN.out;omega) (by have:=HN.out;omega) (by have:=HN.out;omega) L4.out.1 L4.out.2 (levT_rises HO.out.1) (levT_rises HO.out.2)).mono ?_);rintro e w5 ⟨p7,rfl,ht5,hm5,hb5⟩;have F5:=hdz (F4.out.bt hb5 K4.out.mt);have V5:=hdz (V4.out.bt hb5 K4.out.mt (by decide));have K5:=hdz (K4.out.turn hm5 hb5 node_ne);have L5:=hdz ht5;have kb0:=V5.out.c0;have kb1:=V5.out.c1;have kb2:=F5.out.o.c0;have kb3:=F5.out.o.c1;have r6:=F5.out.r.c0;have r7:=F5.out.r.c1;have z6:=F5.out.r.z0;have z7:=F5.out.r.z1;clear ht5 hm5 hb5)) | (go_at_call 308;((with_reducible refine (lev_any mo (c + levN la) (m + levN la) lb q _ (by have:=HN.out;omega) K3.out.drew.mt (by have:=HN.out;omega) (by have:=HN.out;omega) (by have:=HN.out;omega) (by have:=HN.out;omega) (L3.out.2.stay ((Below.refl _ _).drew))).mono ?_);rintro e w4 ⟨p6,rfl,ht4,hm4,hb4⟩;have F4:=hdz ((F3.out.stay ((Below.refl _ _).drew)).bt hb4 K3.out.drew.mt);have V4:=hdz ((V3.out.stay ((Below.refl _ _).drew)).bt hb4 K3.out.drew.mt (by decide));have K4:=hdz (K3.out.drew.turn hm4 hb4 node_ne);have L4:=hdz (anz ((L3.out.1.stay ((Below.refl _ _).drew)).bt hb4 K3.out.drew.mt) ht4);have ka0:=V4.out.c0;have ka1:=V4.out.c1;have ka2:=F4.out.o.c0;have ka3:=F4.out.o.c1;clear ht4 hm4 hb4)))
 go_wp2_with fail
 have s0:=(F5.out.r.set (.pointer p7.q) (.int .i64 p7.n)).c0;have s1:=(F5.out.r.set (.pointer p7.q) (.int .i64 p7.n)).c1;have hk:=K5.out.put2 F5.out.r heapT_ne (by decide) (by have:=HA.out;omega) (.pointer p7.q) (.int .i64 p7.n);have hmt:=hk.mt;rw [show c + (levN la:Nat) + (levN lb:Nat) + (bmeldN (levT la) (levT lb):Nat) = c + ((smeldN la lb:Nat):Int) from by unfold smeldN;omega,show m + (levN la:Nat) + (levN lb:Nat) + (bmeldN (levT la) (levT lb):Nat) = m + ((smeldN la lb:Nat):Int) from by unfold smeldN;omega] at hmt;exact bodyPost_ret (v:=hp p7) (by simp [results,Tryz.results304,go_sem,s0,s1]) rfl ⟨p7,rfl,L5.out.set2 F5.out.r heapT_ne _ _,hmt,hk.bt⟩
theorem meld_any (mo:Option Nat) (a b:Lh) (c m:Int) (p q:HP) (w:World) (hs:a.size + b.size < 268435456) (hm:MAt w mo c m) (h0:0 ≤ c) (h1:c < 288230376151711744) (h2:0 ≤ m) (h3:m < 288230376151711744)
  (ha:LAt w a p) (hb:LAt w b q):Calls Tryz.prog 304 #[hp p,mAddr mo,hp q] w (Gave mo (c + meldN a b) (m + meldN a b) (meld a b) w) :=
 meldL mo a.ts b.ts c m p q w hs hm h0 h1 h2 h3 ha hb
end Go.Proofs.YtmeodbjlmjpnbaaGreat.Sk.Hp
