/- Plain facts, of no program: trees with ranks and skew binomial heaps of things of any type that has a key, by which alone they are told apart: what is put in, melded, taken out; which things there are, heap order, ranks, sizes, how many links. No conditions beyond what each theorem says. -/
import Derived.Test.YtmeodbjlmjpnbaaGreatPa
import Derived.Test.YtmeodbjlmjpnbaaGreatProg
import Derived.Lib.Hide
import Derived.WalkKit
import Derived.WalkLawsBesides
import Derived.Outline
import Derived.Deep.QuietTactic
import Derived.BigQuiet
import Derived.LoopTactic
import Derived.Shelf.Abstract
import Derived.Shelf.RegionOpen
import Derived.OwnWalkIn
import Derived.TacticsInMore
import Derived.LoopNIn
import Derived.LoopIn
import Derived.Deep.RegionHeld3
import Derived.Deep.DrawnRows
import Derived.StillTailTactics
import Derived.Defers
import Derived.Recover
import Derived.Deep.LoopGhost
import Derived.Deep.AppendLies
set_option maxRecDepth 100000
set_option maxHeartbeats 4000000
namespace Go.Proofs.YtmeodbjlmjpnbaaGreat.U.Gn
open Go.Sort Go.RowKit
class Key (α : Type) where
 key : α → Int × Int
section
variable {α : Type} [Key α]
def ltK (a b : α):Bool:=ltE (Key.key a) (Key.key b)
theorem ltK_irrefl (a : α):ltK a a = false:=swoE.irrefl _
theorem ltK_ntrans (a b c : α) (h1:ltK a b = false) (h2:ltK b c = false):ltK a c = false:=swoE.ntrans _ _ _ h1 h2
theorem ltK_asym {a b : α} (h:ltK a b = true):ltK b a = false:=by
 unfold ltK at *;rw [ltE_iff] at h;rw [ltE_not];omega
end
inductive Wood (α : Type)
 | nil
 | cons (x : α) (bs:List α) (ks rest:Wood α)
structure Tre (α : Type) where
 x : α
 bs:List α
 ks:Wood α
def Wood.len {α : Type}:Wood α → Nat
 | .nil => 0
 | .cons _ _ _ r => r.len + 1
def Wood.size {α : Type}:Wood α → Nat
 | .nil => 0
 | .cons _ bs ks r => 1 + bs.length + ks.size + r.size
def Wood.all {α : Type}:Wood α → List α
 | .nil => []
 | .cons x bs ks r => (x :: (bs ++ ks.all)) ++ r.all
def Tre.rank {α : Type} (t:Tre α):Nat:=t.ks.len
def Tre.size {α : Type} (t:Tre α):Nat:=1 + t.bs.length + t.ks.size
def Tre.all {α : Type} (t:Tre α):List α:=t.x :: (t.bs ++ t.ks.all)
theorem Wood.len_le {α : Type}:∀ w:Wood α,w.len ≤ w.size
 | .nil => Nat.le_refl _
 | .cons _ _ _ r => by have:=r.len_le;simp only [Wood.len,Wood.size];omega
theorem Wood.all_length {α : Type}:∀ w:Wood α,w.all.length = w.size
 | .nil => rfl
 | .cons x bs ks r => by simp only [Wood.all,Wood.size,List.length_append,List.length_cons,ks.all_length,r.all_length];omega
theorem Tre.all_length {α : Type} (t:Tre α):t.all.length = t.size:=by simp only [Tre.all,Tre.size,List.length_append,List.length_cons,t.ks.all_length];omega
theorem Tre.rank_lt {α : Type} (t:Tre α):t.rank < t.size:=by have:=t.ks.len_le;simp only [Tre.rank,Tre.size];omega
def lnk {α : Type} [Key α] (a b:Tre α):Tre α:=if ltK b.x a.x then ⟨b.x,b.bs,.cons a.x a.bs a.ks b.ks⟩ else ⟨a.x,a.bs,.cons b.x b.bs b.ks a.ks⟩
def skw {α : Type} [Key α] (y : α) (t:Tre α):Tre α:=if ltK t.x y then ⟨t.x,y :: t.bs,t.ks⟩ else ⟨y,t.x :: t.bs,t.ks⟩
def leafT {α : Type} (x : α):Tre α:=⟨x,[],.nil⟩
theorem lnk_lt {α : Type} [Key α] {a b:Tre α} (h:ltK b.x a.x = true):lnk a b = ⟨b.x,b.bs,.cons a.x a.bs a.ks b.ks⟩:=by unfold lnk;rw [if_pos h]
theorem lnk_ge {α : Type} [Key α] {a b:Tre α} (h:ltK b.x a.x = false):lnk a b = ⟨a.x,a.bs,.cons b.x b.bs b.ks a.ks⟩:=by unfold lnk;rw [if_neg (by rw [h];simp)]
theorem skw_lt {α : Type} [Key α] {y : α} {t:Tre α} (h:ltK t.x y = true):skw y t = ⟨t.x,y :: t.bs,t.ks⟩:=by unfold skw;rw [if_pos h]
theorem skw_ge {α : Type} [Key α] {y : α} {t:Tre α} (h:ltK t.x y = false):skw y t = ⟨y,t.x :: t.bs,t.ks⟩:=by unfold skw;rw [if_neg (by rw [h];simp)]
theorem lnk_size {α : Type} [Key α] (a b:Tre α):(lnk a b).size = a.size + b.size:=by unfold lnk;split <;> simp [Tre.size,Wood.size] <;> omega
theorem skw_size {α : Type} [Key α] (y : α) (t:Tre α):(skw y t).size = t.size + 1:=by unfold skw;split <;> simp [Tre.size] <;> omega
theorem leafT_size {α : Type} (x : α):(leafT x).size = 1:=rfl
def Wood.list {α : Type}:Wood α → List (Tre α)
 | .nil => []
 | .cons x bs ks r => ⟨x,bs,ks⟩ :: r.list
def bAll {α : Type}:List (Tre α) → List α
 | [] => []
 | t :: r => t.all ++ bAll r
def bSize {α : Type}:List (Tre α) → Nat
 | [] => 0
 | t :: r => t.size + bSize r
def putT {α : Type} [Key α]:List (Tre α) → Tre α → List (Tre α)
 | [],t => [t]
 | u :: r,t => if t.rank < u.rank then t :: u :: r else putT r (lnk t u)
def putTN {α : Type} [Key α]:List (Tre α) → Tre α → Nat
 | [],_ => 0
 | u :: r,t => if t.rank < u.rank then 0 else 1 + putTN r (lnk t u)
def bmeld {α : Type} [Key α] (a b:List (Tre α)):List (Tre α):=match a,b with
 | [],b => b
 | f :: a,[] => f :: a
 | f :: a,g :: b => if f.rank < g.rank then f :: bmeld a (g :: b) else if g.rank < f.rank then g :: bmeld (f :: a) b else putT (bmeld a b) (lnk f g)
termination_by a.length + b.length
decreasing_by all_goals (simp only [List.length_cons];omega)
def bmeldN {α : Type} [Key α] (a b:List (Tre α)):Nat:=match a,b with
 | [],_ => 0
 | _ :: _,[] => 0
 | f :: a,g :: b => if f.rank < g.rank then bmeldN a (g :: b) else if g.rank < f.rank then bmeldN (f :: a) b else 1 + bmeldN a b + putTN (bmeld a b) (lnk f g)
termination_by a.length + b.length
decreasing_by all_goals (simp only [List.length_cons];omega)
def rootAt {α : Type} [Inhabited α] (l:List (Tre α)) (i:Nat) : α:=match l[i]? with
 | some t => t.x
 | none => default
def leastK {α : Type} [Key α] [Inhabited α] (l:List (Tre α)):Nat → Nat
 | 0 => 0
 | k + 1 => if ltK (rootAt l (k + 1)) (rootAt l (leastK l k)) = true then k + 1 else leastK l k
def leastI {α : Type} [Key α] [Inhabited α] (l:List (Tre α)):Nat:=leastK l (l.length - 1)
def bMin {α : Type} [Key α] [Inhabited α]:List (Tre α) → α × Bool
 | [] => (default,false)
 | t :: r => (rootAt (t :: r) (leastI (t :: r)),true)
def kidsAt {α : Type} (l:List (Tre α)) (i:Nat):List (Tre α):=match l[i]? with
 | some t => t.ks.list.reverse
 | none => []
def restAt {α : Type} (l:List (Tre α)) (i:Nat):List (Tre α):=l.take i ++ l.drop (i + 1)
theorem bmeld_nil {α : Type} [Key α] (b:List (Tre α)):bmeld [] b = b:=by unfold bmeld;rfl
theorem bmeld_right {α : Type} [Key α] (a:List (Tre α)):bmeld a [] = a:=by cases a <;> (unfold bmeld;rfl)
theorem bmeld_lt {α : Type} [Key α] {f g:Tre α} {a b:List (Tre α)} (h:f.rank < g.rank):bmeld (f :: a) (g :: b) = f :: bmeld a (g :: b):=by rw [bmeld,if_pos h]
theorem bmeld_gt {α : Type} [Key α] {f g:Tre α} {a b:List (Tre α)} (h:g.rank < f.rank):bmeld (f :: a) (g :: b) = g :: bmeld (f :: a) b:=by rw [bmeld,if_neg (by omega),if_pos h]
theorem bmeld_eq {α : Type} [Key α] {f g:Tre α} {a b:List (Tre α)} (h:f.rank = g.rank):bmeld (f :: a) (g :: b) = putT (bmeld a b) (lnk f g):=by rw [bmeld,if_neg (by omega),if_neg (by omega)]
theorem bmeldN_nil {α : Type} [Key α] (b:List (Tre α)):bmeldN [] b = 0:=by unfold bmeldN;rfl
theorem bmeldN_right {α : Type} [Key α] (a:List (Tre α)):bmeldN a [] = 0:=by cases a <;> (unfold bmeldN;rfl)
theorem bmeldN_lt {α : Type} [Key α] {f g:Tre α} {a b:List (Tre α)} (h:f.rank < g.rank):bmeldN (f :: a) (g :: b) = bmeldN a (g :: b):=by rw [bmeldN,if_pos h]
theorem bmeldN_gt {α : Type} [Key α] {f g:Tre α} {a b:List (Tre α)} (h:g.rank < f.rank):bmeldN (f :: a) (g :: b) = bmeldN (f :: a) b:=by rw [bmeldN,if_neg (by omega),if_pos h]
theorem bmeldN_eq {α : Type} [Key α] {f g:Tre α} {a b:List (Tre α)} (h:f.rank = g.rank):bmeldN (f :: a) (g :: b) = 1 + bmeldN a b + putTN (bmeld a b) (lnk f g):=by rw [bmeldN,if_neg (by omega),if_neg (by omega)]
theorem bmeld_ind {α : Type} {P:List (Tre α) → List (Tre α) → Prop} (h1:∀ b,P [] b) (h2:∀ f a,P (f :: a) [])
  (h3:∀ f a g b,f.rank < g.rank → P a (g :: b) → P (f :: a) (g :: b)) (h4:∀ f a g b,g.rank < f.rank → P (f :: a) b → P (f :: a) (g :: b))
  (h5:∀ f a g b,f.rank = g.rank → P a b → P (f :: a) (g :: b)):∀ a b,P a b:=by
 have key:∀ (n:Nat) (a b:List (Tre α)),a.length + b.length = n → P a b:=by
  intro n;induction n using Nat.strongRecOn with
  | ind n ih =>
   intro a b hn;match a,b with
   | [],b => exact h1 b
   | f :: a,[] => exact h2 f a
   | f :: a,g :: b =>
    simp only [List.length_cons] at hn;rcases Nat.lt_trichotomy f.rank g.rank with h | h | h
    ·exact h3 f a g b h (ih (a.length + (g :: b).length) (by simp only [List.length_cons];omega) _ _ rfl)
    ·exact h5 f a g b h (ih (a.length + b.length) (by omega) _ _ rfl)
    ·exact h4 f a g b h (ih ((f :: a).length + b.length) (by simp only [List.length_cons];omega) _ _ rfl)
 exact fun a b => key _ a b rfl
theorem lnk_all {α : Type} [Key α] (a b:Tre α):(lnk a b).all.Perm (a.all ++ b.all):=by
 unfold lnk;split
 ·simp only [Tre.all,Wood.all];refine List.Perm.trans ?_ List.perm_append_comm;simp only [List.cons_append,List.append_assoc];refine List.Perm.cons _ (List.Perm.append_left _ ?_);have:=List.perm_append_comm (l₁:=a.x :: (a.bs ++ a.ks.all)) (l₂:=b.ks.all);simpa using this
 ·simp only [Tre.all,Wood.all];simp only [List.cons_append,List.append_assoc];refine List.Perm.cons _ (List.Perm.append_left _ ?_);have:=List.perm_append_comm (l₁:=b.x :: (b.bs ++ b.ks.all)) (l₂:=a.ks.all);simpa using this
theorem putT_all {α : Type} [Key α]:∀ (l:List (Tre α)) (t:Tre α),(bAll (putT l t)).Perm (t.all ++ bAll l)
 | [],t => by simp [putT,bAll]
 | u :: r,t => by
  unfold putT;split
  ·exact List.Perm.refl _
  ·refine (putT_all r (lnk t u)).trans ?_;simp only [bAll];rw [← List.append_assoc];exact (lnk_all t u).append_right _
theorem bmeld_all {α : Type} [Key α]:∀ a b:List (Tre α),(bAll (bmeld a b)).Perm (bAll a ++ bAll b):=by
 refine bmeld_ind ?_ ?_ ?_ ?_ ?_
 ·intro b;rw [bmeld_nil];exact List.Perm.refl _
 ·intro f a;rw [bmeld_right];simp [bAll]
 ·intro f a g b h ih;rw [bmeld_lt h];simp only [bAll,List.append_assoc] at ih ⊢;exact ih.append_left _
 ·intro f a g b h ih;rw [bmeld_gt h];simp only [bAll,List.append_assoc] at ih ⊢;refine (ih.append_left _).trans ?_;rw [← List.append_assoc,← List.append_assoc,← List.append_assoc,← List.append_assoc];refine List.Perm.append_right _ ?_;rw [List.append_assoc];exact List.perm_append_comm
 ·intro f a g b h ih;rw [bmeld_eq h];refine (putT_all _ _).trans ?_;refine ((lnk_all f g).append ih).trans ?_;simp only [bAll,List.append_assoc];refine List.Perm.append_left _ ?_;rw [← List.append_assoc,← List.append_assoc];exact List.perm_append_comm.append_right _
theorem bAll_length {α : Type}:∀ l:List (Tre α),(bAll l).length = bSize l
 | [] => rfl
 | t :: r => by simp only [bAll,bSize,List.length_append,t.all_length,bAll_length r]
theorem bmeld_size {α : Type} [Key α] (a b:List (Tre α)):bSize (bmeld a b) = bSize a + bSize b:=by
 have h:=(bmeld_all a b).length_eq;rw [bAll_length,List.length_append,bAll_length,bAll_length] at h;exact h
theorem putT_len {α : Type} [Key α]:∀ (l:List (Tre α)) (t:Tre α),(putT l t).length + putTN l t = l.length + 1
 | [],t => rfl
 | u :: r,t => by
  unfold putT putTN;split
  ·simp
  ·have:=putT_len r (lnk t u);simp only [List.length_cons];omega
theorem bmeld_len {α : Type} [Key α]:∀ a b:List (Tre α),(bmeld a b).length + bmeldN a b = a.length + b.length:=by
 refine bmeld_ind ?_ ?_ ?_ ?_ ?_
 ·intro b;rw [bmeld_nil,bmeldN_nil];simp
 ·intro f a;rw [bmeld_right,bmeldN_right];simp
 ·intro f a g b h ih;rw [bmeld_lt h,bmeldN_lt h];simp only [List.length_cons] at *;omega
 ·intro f a g b h ih;rw [bmeld_gt h,bmeldN_gt h];simp only [List.length_cons] at *;omega
 ·intro f a g b h ih;rw [bmeld_eq h,bmeldN_eq h];have:=putT_len (bmeld a b) (lnk f g);simp only [List.length_cons] at *;omega
def Wood.hok {α : Type} [Key α]:Wood α → Prop
 | .nil => True
 | .cons x bs ks r => (∀ e ∈ bs ++ ks.all,ltK e x = false) ∧ ks.hok ∧ r.hok
def Tre.hok {α : Type} [Key α] (t:Tre α):Prop:=(∀ e ∈ t.bs ++ t.ks.all,ltK e t.x = false) ∧ t.ks.hok
theorem Tre.hok.le {α : Type} [Key α] {t:Tre α} (h:t.hok) {e : α} (he:e ∈ t.all):ltK e t.x = false:=by
 rcases List.mem_cons.1 he with rfl | he
 ·exact ltK_irrefl _
 ·exact h.1 e he
theorem lnk_hok {α : Type} [Key α] {a b:Tre α} (ha:a.hok) (hb:b.hok):(lnk a b).hok:=by
 unfold lnk;split
 next hv =>
  have hv':ltK a.x b.x = false:=ltK_asym hv;refine ⟨fun e he => ?_,⟨ha.1,ha.2,hb.2⟩⟩;simp only [Wood.all] at he;rcases List.mem_append.1 he with he | he
  ·exact hb.1 e (List.mem_append.2 (.inl he))
  ·rcases List.mem_append.1 he with he | he
   ·exact ltK_ntrans _ _ _ (ha.le he) hv'
   ·exact hb.1 e (List.mem_append.2 (.inr he))
 next hv =>
  have hv':ltK b.x a.x = false:=by simpa using hv
  refine ⟨fun e he => ?_,⟨hb.1,hb.2,ha.2⟩⟩;simp only [Wood.all] at he;rcases List.mem_append.1 he with he | he
  ·exact ha.1 e (List.mem_append.2 (.inl he))
  ·rcases List.mem_append.1 he with he | he
   ·exact ltK_ntrans _ _ _ (hb.le he) hv'
   ·exact ha.1 e (List.mem_append.2 (.inr he))
theorem lnk_rank {α : Type} [Key α] {a b:Tre α} (h:a.rank = b.rank):(lnk a b).rank = a.rank + 1:=by
 unfold lnk;split <;> simp only [Tre.rank,Wood.len] at h ⊢ <;> omega
theorem leaf_hok {α : Type} [Key α] (x : α):(leafT x).hok:=⟨by simp [leafT,Wood.all],trivial⟩
theorem Wood.list_len {α : Type}:∀ w:Wood α,w.list.length = w.len
 | .nil => rfl
 | .cons _ _ _ r => by simp only [Wood.list,Wood.len,List.length_cons,r.list_len]
theorem Wood.list_all {α : Type}:∀ w:Wood α,bAll w.list = w.all
 | .nil => rfl
 | .cons x bs ks r => by simp only [Wood.list,bAll,Wood.all,Tre.all,r.list_all]
theorem Wood.list_hok {α : Type} [Key α]:∀ {w:Wood α},w.hok → ∀ t ∈ w.list,t.hok
 | .nil,_,_,ht => by simp [Wood.list] at ht
 | .cons x bs ks r,h,t,ht => by
  rcases List.mem_cons.1 ht with rfl | ht
  ·exact ⟨h.1,h.2.1⟩
  ·exact Wood.list_hok h.2.2 t ht
theorem bAll_append {α : Type} (a b:List (Tre α)):bAll (a ++ b) = bAll a ++ bAll b:=by
 induction a with
 | nil => rfl
 | cons t r ih => simp only [List.cons_append,bAll,ih,List.append_assoc]
theorem bAll_reverse {α : Type}:∀ l:List (Tre α),(bAll l.reverse).Perm (bAll l)
 | [] => List.Perm.refl _
 | t :: r => by
  rw [List.reverse_cons,bAll_append];simp only [bAll,List.append_nil];exact ((bAll_reverse r).append_right _).trans List.perm_append_comm
theorem mem_bAll {α : Type} {l:List (Tre α)} {e : α} (h:e ∈ bAll l):∃ t ∈ l,e ∈ t.all:=by
 induction l with
 | nil => cases h
 | cons u r ih =>
  rcases List.mem_append.1 h with h | h
  ·exact ⟨u,by simp,h⟩
  ·obtain ⟨t,ht,he⟩:=ih h;exact ⟨t,by simp [ht],he⟩
theorem leastK_le {α : Type} [Key α] [Inhabited α] (l:List (Tre α)):∀ k,leastK l k ≤ k
 | 0 => Nat.le_refl _
 | k + 1 => by unfold leastK;split;exact Nat.le_refl _;have:=leastK_le l k;omega
theorem leastK_least {α : Type} [Key α] [Inhabited α] (l:List (Tre α)):∀ k i,i ≤ k → ltK (rootAt l i) (rootAt l (leastK l k)) = false
 | 0,i,hi => by
  obtain rfl:i = 0:=by omega
  exact ltK_irrefl _
 | k + 1,i,hi => by
  unfold leastK;split
  next h =>
   by_cases e:i = k + 1
   ·subst e;exact ltK_irrefl _
   ·have h1:=leastK_least l k i (by omega);have h2:ltK (rootAt l (leastK l k)) (rootAt l (k + 1)) = false:=ltK_asym h;exact ltK_ntrans _ _ _ h1 h2
  next h =>
   by_cases e:i = k + 1
   ·subst e;simpa using h
   ·exact leastK_least l k i (by omega)
theorem leastI_lt {α : Type} [Key α] [Inhabited α] {l:List (Tre α)} (h:l ≠ []):leastI l < l.length:=by
 have:=leastK_le l (l.length - 1);have:0 < l.length:=List.length_pos_iff.2 h;unfold leastI;omega
theorem restAt_all {α : Type} {l:List (Tre α)} {i:Nat} (h:i < l.length):(bAll l).Perm (l[i].all ++ bAll (restAt l i)):=by
 have e:l = l.take i ++ l[i] :: l.drop (i + 1):=by rw [List.getElem_cons_drop,List.take_append_drop]
 have h1:bAll l = bAll (l.take i) ++ (l[i].all ++ bAll (l.drop (i + 1))):=by
  conv => lhs;rw [e]
  rw [bAll_append];rfl
 rw [h1,restAt,bAll_append,← List.append_assoc,← List.append_assoc];exact List.perm_append_comm.append_right _
theorem restAt_mem {α : Type} {l:List (Tre α)} {i:Nat} {t:Tre α} (h:t ∈ restAt l i):t ∈ l:=by
 rcases List.mem_append.1 h with h | h
 ·exact List.mem_of_mem_take h
 ·exact List.mem_of_mem_drop h
theorem restAt_rise {α : Type} {l:List (Tre α)} {i:Nat} (h:l.Pairwise (fun a b => a.rank < b.rank)):(restAt l i).Pairwise (fun a b => a.rank < b.rank):=by
 refine List.Pairwise.sublist ?_ h;have:(l.take i ++ l.drop (i + 1)).Sublist (l.take i ++ l.drop i):=List.Sublist.append (List.Sublist.refl _) (by rw [← List.drop_drop];exact List.drop_sublist _ _);rwa [List.take_append_drop] at this
theorem bSize_mem {α : Type} {l:List (Tre α)} {t:Tre α} (h:t ∈ l):t.size ≤ bSize l:=by
 induction l with
 | nil => cases h
 | cons u r ih =>
  simp only [bSize];rcases List.mem_cons.1 h with rfl | h
  ·omega
  ·have:=ih h;omega
theorem bSize_nil {α : Type} {h:List (Tre α)} (hz:bSize h = 0):h = []:=by
 cases h with
 | nil => rfl
 | cons t r => simp only [bSize,Tre.size] at hz;omega
def levT {α : Type} [Key α]:List (Tre α) → List (Tre α)
 | [] => []
 | t :: r => putT r t
def levN {α : Type} [Key α]:List (Tre α) → Nat
 | [] => 0
 | t :: r => putTN r t
def skT {α : Type} [Key α] (x : α) (f g:Tre α):Tre α:=skw x (lnk f g)
def sIns {α : Type} [Key α]:List (Tre α) → α → List (Tre α)
 | f :: g :: r,x => if f.rank = g.rank then skT x f g :: r else leafT x :: f :: g :: r
 | h,x => leafT x :: h
def sInsN {α : Type}:List (Tre α) → Nat
 | f :: g :: _ => if f.rank = g.rank then 2 else 0
 | _ => 0
def sInsM {α : Type}:List (Tre α) → Nat
 | f :: g :: _ => if f.rank = g.rank then 2 else 1
 | _ => 1
def sPutN {α : Type} [Key α]:List (Tre α) → List α → Nat
 | _,[] => 0
 | h,x :: r => sInsN h + sPutN (sIns h x) r
def sPutM {α : Type} [Key α]:List (Tre α) → List α → Nat
 | _,[] => 0
 | h,x :: r => sInsM h + sPutM (sIns h x) r
def smeld {α : Type} [Key α] (a b:List (Tre α)):List (Tre α):=bmeld (levT a) (levT b)
def smeldN {α : Type} [Key α] (a b:List (Tre α)):Nat:=levN a + levN b + bmeldN (levT a) (levT b)
def besAt {α : Type} (l:List (Tre α)) (i:Nat):List α:=match l[i]? with
 | some t => t.bs
 | none => []
def sBase {α : Type} [Key α] (l:List (Tre α)) (i:Nat):List (Tre α):=bmeld (kidsAt l i) (levT (restAt l i))
def sBaseN {α : Type} [Key α] (l:List (Tre α)) (i:Nat):Nat:=levN (restAt l i) + bmeldN (kidsAt l i) (levT (restAt l i))
def sPop {α : Type} [Key α] [Inhabited α]:List (Tre α) → List (Tre α)
 | [] => []
 | t :: r => (besAt (t :: r) (leastI (t :: r))).foldl sIns (sBase (t :: r) (leastI (t :: r)))
def sPopN {α : Type} [Key α] [Inhabited α]:List (Tre α) → Nat
 | [] => 0
 | t :: r => sBaseN (t :: r) (leastI (t :: r)) + sPutN (sBase (t :: r) (leastI (t :: r))) (besAt (t :: r) (leastI (t :: r)))
def sPopM {α : Type} [Key α] [Inhabited α]:List (Tre α) → Nat
 | [] => 0
 | t :: r => sBaseN (t :: r) (leastI (t :: r)) + sPutM (sBase (t :: r) (leastI (t :: r))) (besAt (t :: r) (leastI (t :: r)))
theorem sIns_eq {α : Type} [Key α] {f g:Tre α} {r:List (Tre α)} (x : α) (h:f.rank = g.rank):sIns (f :: g :: r) x = skT x f g :: r:=by show (if f.rank = g.rank then skT x f g :: r else leafT x :: f :: g :: r) = _;rw [if_pos h]
theorem sIns_ne {α : Type} [Key α] {f g:Tre α} {r:List (Tre α)} (x : α) (h:f.rank ≠ g.rank):sIns (f :: g :: r) x = leafT x :: f :: g :: r:=by show (if f.rank = g.rank then skT x f g :: r else leafT x :: f :: g :: r) = _;rw [if_neg h]
theorem sInsN_le {α : Type} (h:List (Tre α)):sInsN h ≤ 2:=by
 unfold sInsN;split
 ·split <;> omega
 ·omega
theorem sInsM_le {α : Type} (h:List (Tre α)):sInsM h ≤ 2 ∧ sInsN h ≤ sInsM h:=by
 match h with
 | [] => exact ⟨by simp [sInsM],by simp [sInsN,sInsM]⟩
 | [f] => exact ⟨by simp [sInsM],by simp [sInsM,sInsN]⟩
 | f :: g :: r =>
  show (if f.rank = g.rank then 2 else 1) ≤ 2 ∧ (if f.rank = g.rank then 2 else 0) ≤ (if f.rank = g.rank then 2 else 1);split <;> exact ⟨by omega,by omega⟩
theorem skw_all {α : Type} [Key α] (y : α) (t:Tre α):(skw y t).all.Perm (y :: t.all):=by
 unfold skw;split
 ·simp only [Tre.all,List.cons_append];exact List.Perm.swap _ _ _
 ·exact List.Perm.refl _
theorem skT_all {α : Type} [Key α] (x : α) (f g:Tre α):(skT x f g).all.Perm (x :: (f.all ++ g.all)):=(skw_all x _).trans (List.Perm.cons x (lnk_all f g))
theorem skT_size {α : Type} [Key α] (x : α) (f g:Tre α):(skT x f g).size = f.size + g.size + 1:=by unfold skT;rw [skw_size,lnk_size]
theorem levT_all {α : Type} [Key α]:∀ l:List (Tre α),(bAll (levT l)).Perm (bAll l)
 | [] => List.Perm.refl _
 | t :: r => putT_all r t
theorem levT_size {α : Type} [Key α] (l:List (Tre α)):bSize (levT l) = bSize l:=by
 have:=(levT_all l).length_eq;rwa [bAll_length,bAll_length] at this
theorem levT_len {α : Type} [Key α]:∀ l:List (Tre α),(levT l).length + levN l = l.length
 | [] => rfl
 | t :: r => putT_len r t
theorem sIns_all {α : Type} [Key α] (h:List (Tre α)) (x : α):(bAll (sIns h x)).Perm (x :: bAll h):=by
 match h with
 | [] => exact List.Perm.refl _
 | [f] => exact List.Perm.refl _
 | f :: g :: r =>
  by_cases e:f.rank = g.rank
  ·rw [sIns_eq x e];simp only [bAll];rw [← List.append_assoc,← List.cons_append];exact (skT_all x f g).append_right _
  ·rw [sIns_ne x e];exact List.Perm.refl _
theorem sIns_size {α : Type} [Key α] (h:List (Tre α)) (x : α):bSize (sIns h x) = bSize h + 1:=by
 have:=(sIns_all h x).length_eq;rwa [bAll_length,List.length_cons,bAll_length] at this
theorem sfold_all {α : Type} [Key α]:∀ (l:List α) (h:List (Tre α)),(bAll (l.foldl sIns h)).Perm (bAll h ++ l)
 | [],h => by simp
 | x :: r,h => by
  refine (sfold_all r (sIns h x)).trans ?_;refine ((sIns_all h x).append_right r).trans ?_;simp only [List.cons_append];exact List.perm_middle.symm
theorem sPutN_le {α : Type} [Key α]:∀ (l:List α) (h:List (Tre α)),sPutN h l ≤ 2 * l.length ∧ sPutM h l ≤ 2 * l.length
 | [],_ => ⟨Nat.le_refl _,Nat.le_refl _⟩
 | x :: r,h => by
  have h1:=sPutN_le r (sIns h x);have h2:=sInsN_le h;have h3:=sInsM_le h;simp only [sPutN,sPutM,List.length_cons];omega
theorem smeld_all {α : Type} [Key α] (a b:List (Tre α)):(bAll (smeld a b)).Perm (bAll a ++ bAll b):=(bmeld_all _ _).trans ((levT_all a).append (levT_all b))
theorem smeldN_le {α : Type} [Key α] (a b:List (Tre α)):smeldN a b ≤ a.length + b.length:=by
 have h1:=levT_len a;have h2:=levT_len b;have h3:=bmeld_len (levT a) (levT b);unfold smeldN;omega
def Wood.sk {α : Type}:Wood α → Prop
 | .nil => True
 | .cons _ bs ks r => bs.length ≤ ks.len ∧ ks.len = r.len ∧ ks.sk ∧ r.sk
def Tre.sk {α : Type} (t:Tre α):Prop:=t.bs.length ≤ t.rank ∧ t.ks.sk
theorem lnk_sk {α : Type} [Key α] {a b:Tre α} (h:a.rank = b.rank) (ha:a.sk) (hb:b.sk):(lnk a b).sk:=by
 have h1:=ha.1;have h2:=hb.1;simp only [Tre.rank] at h h1 h2;unfold lnk;split
 ·exact ⟨by simp only [Tre.rank,Wood.len];omega,h1,h,ha.2,hb.2⟩
 ·exact ⟨by simp only [Tre.rank,Wood.len];omega,h2,h.symm,hb.2,ha.2⟩
theorem skw_rank {α : Type} [Key α] (y : α) (t:Tre α):(skw y t).rank = t.rank:=by unfold skw;split <;> rfl
theorem skT_rank {α : Type} [Key α] {x : α} {a b:Tre α} (h:a.rank = b.rank):(skT x a b).rank = a.rank + 1:=by unfold skT;rw [skw_rank,lnk_rank h]
theorem skT_sk {α : Type} [Key α] {x : α} {a b:Tre α} (h:a.rank = b.rank) (ha:a.sk) (hb:b.sk):(skT x a b).sk:=by
 have h0:=lnk_sk h ha hb
 have h1:(lnk a b).bs.length ≤ a.rank:=by
  have h1:=ha.1;have h2:=hb.1;unfold lnk;split <;> simp only <;> omega
 have h2:=lnk_rank h;unfold skT skw;simp only [Tre.rank] at h1 h2;split
 ·exact ⟨by simp only [Tre.rank,List.length_cons];omega,h0.2⟩
 ·exact ⟨by simp only [Tre.rank,List.length_cons];omega,h0.2⟩
theorem skw_hok {α : Type} [Key α] {y : α} {t:Tre α} (h:t.hok):(skw y t).hok:=by
 unfold skw;split
 next hv =>
  refine ⟨fun e he => ?_,h.2⟩;simp only [List.cons_append,List.mem_cons] at he;rcases he with rfl | he
  ·show ltK e t.x = false;exact ltK_asym hv
  ·exact h.1 e he
 next hv =>
  have hv':ltK t.x y = false:=by simpa using hv
  refine ⟨fun e he => ?_,h.2⟩;simp only [List.cons_append,List.mem_cons] at he;rcases he with rfl | he
  ·exact hv'
  ·exact ltK_ntrans _ _ _ (h.1 e he) hv'
theorem skT_hok {α : Type} [Key α] {x : α} {a b:Tre α} (ha:a.hok) (hb:b.hok):(skT x a b).hok:=skw_hok (lnk_hok ha hb)
theorem leaf_sk {α : Type} (x : α):(leafT x).sk:=⟨Nat.zero_le _,trivial⟩
theorem Wood.sk_size {α : Type}:∀ {w:Wood α},w.sk → 2 ^ w.len ≤ w.size + 1 ∧ w.size + w.len + 2 ≤ 2 ^ (w.len + 1)
 | .nil,_ => ⟨Nat.le_refl _,by simp [Wood.size,Wood.len]⟩
 | .cons x bs ks r,⟨h1,h2,h3,h4⟩ => by
  have i1:=Wood.sk_size h3;have i2:=Wood.sk_size h4;rw [h2] at i1 h1;simp only [Wood.size,Wood.len,Nat.pow_succ] at *;omega
theorem Tre.sk.sizes {α : Type} {t:Tre α} (h:t.sk):2 ^ t.rank ≤ t.size ∧ t.size < 2 ^ (t.rank + 1):=by
 have h1:=Wood.sk_size h.2;have h2:=h.1;simp only [Tre.size,Tre.rank,Nat.pow_succ] at *;omega
theorem putT_sgood {α : Type} [Key α]:∀ (l:List (Tre α)) (t:Tre α),t.hok → t.sk → (∀ u ∈ l,t.rank ≤ u.rank) → (∀ u ∈ l,u.hok) → (∀ u ∈ l,u.sk) → l.Pairwise (fun a b => a.rank < b.rank) →
  (∀ u ∈ putT l t,u.hok) ∧ (∀ u ∈ putT l t,u.sk) ∧ (putT l t).Pairwise (fun a b => a.rank < b.rank) ∧ ∀ u ∈ putT l t,t.rank ≤ u.rank
 | [],t,h1,h2,_,_,_,_ => by simp [putT,h1,h2]
 | u :: r,t,h1,h2,h3,h4,h5,h6 => by
  unfold putT;obtain ⟨h7,h8⟩:=List.pairwise_cons.1 h6;have hu:=h3 u (by simp);split
  next hr =>
   refine ⟨fun v hv => ?_,fun v hv => ?_,List.pairwise_cons.2 ⟨fun v hv => ?_,h6⟩,fun v hv => ?_⟩
   ·rcases List.mem_cons.1 hv with rfl | hv;exact h1;exact h4 v hv
   ·rcases List.mem_cons.1 hv with rfl | hv;exact h2;exact h5 v hv
   ·rcases List.mem_cons.1 hv with rfl | hv;exact hr;exact Nat.lt_trans hr (h7 v hv)
   ·rcases List.mem_cons.1 hv with rfl | hv;exact Nat.le_refl _;exact h3 v hv
  next hr =>
   have he:t.rank = u.rank:=by omega
   have hk:=lnk_rank he;obtain ⟨g1,g2,g3,g4⟩:=putT_sgood r (lnk t u) (lnk_hok h1 (h4 u (by simp))) (lnk_sk he h2 (h5 u (by simp))) (fun v hv => by have:=h7 v hv;omega) (fun v hv => h4 v (by simp [hv])) (fun v hv => h5 v (by simp [hv])) h8;exact ⟨g1,g2,g3,fun v hv => by have:=g4 v hv;omega⟩
theorem bmeld_sgood {α : Type} [Key α]:∀ a b:List (Tre α),(∀ t ∈ a,t.hok) → (∀ t ∈ b,t.hok) → (∀ t ∈ a,t.sk) → (∀ t ∈ b,t.sk) → a.Pairwise (fun a b => a.rank < b.rank) → b.Pairwise (fun a b => a.rank < b.rank) →
  (∀ u ∈ bmeld a b,u.hok) ∧ (∀ u ∈ bmeld a b,u.sk) ∧ (bmeld a b).Pairwise (fun a b => a.rank < b.rank) ∧ ∀ k,(∀ u ∈ a,k ≤ u.rank) → (∀ u ∈ b,k ≤ u.rank) → ∀ u ∈ bmeld a b,k ≤ u.rank:=by
 refine bmeld_ind (P:=fun (a b:List (Tre α)) => (∀ t ∈ a,t.hok) → (∀ t ∈ b,t.hok) → (∀ t ∈ a,t.sk) → (∀ t ∈ b,t.sk) → a.Pairwise (fun a b => a.rank < b.rank) → b.Pairwise (fun a b => a.rank < b.rank) →
  (∀ u ∈ bmeld a b,u.hok) ∧ (∀ u ∈ bmeld a b,u.sk) ∧ (bmeld a b).Pairwise (fun a b => a.rank < b.rank) ∧ ∀ k,(∀ u ∈ a,k ≤ u.rank) → (∀ u ∈ b,k ≤ u.rank) → ∀ u ∈ bmeld a b,k ≤ u.rank) ?_ ?_ ?_ ?_ ?_
 ·intro b _ h2 _ h4 _ h6;rw [bmeld_nil];exact ⟨h2,h4,h6,fun k _ hk => hk⟩
 ·intro f a h1 _ h3 _ h5 _;rw [bmeld_right];exact ⟨h1,h3,h5,fun k hk _ => hk⟩
 ·intro f a g b h ih h1 h2 h3 h4 h5 h6;rw [bmeld_lt h];obtain ⟨p1,p2⟩:=List.pairwise_cons.1 h5;obtain ⟨q1,q2⟩:=List.pairwise_cons.1 h6;obtain ⟨g1,g2,g3,g4⟩:=ih (fun t ht => h1 t (by simp [ht])) h2 (fun t ht => h3 t (by simp [ht])) h4 p2 h6;refine ⟨fun v hv => ?_,fun v hv => ?_,List.pairwise_cons.2 ⟨fun v hv => ?_,g3⟩,fun k hk1 hk2 v hv => ?_⟩
  ·rcases List.mem_cons.1 hv with rfl | hv;exact h1 _ (by simp);exact g1 v hv
  ·rcases List.mem_cons.1 hv with rfl | hv;exact h3 _ (by simp);exact g2 v hv
  ·refine g4 (f.rank + 1) (fun u hu => p1 u hu) (fun u hu => ?_) v hv;rcases List.mem_cons.1 hu with rfl | hu
   ·exact h
   ·have:=q1 u hu;omega
  ·rcases List.mem_cons.1 hv with rfl | hv;exact hk1 _ (by simp);exact g4 k (fun u hu => hk1 u (by simp [hu])) hk2 v hv
 ·intro f a g b h ih h1 h2 h3 h4 h5 h6;rw [bmeld_gt h];obtain ⟨p1,p2⟩:=List.pairwise_cons.1 h5;obtain ⟨q1,q2⟩:=List.pairwise_cons.1 h6;obtain ⟨g1,g2,g3,g4⟩:=ih h1 (fun t ht => h2 t (by simp [ht])) h3 (fun t ht => h4 t (by simp [ht])) h5 q2;refine ⟨fun v hv => ?_,fun v hv => ?_,List.pairwise_cons.2 ⟨fun v hv => ?_,g3⟩,fun k hk1 hk2 v hv => ?_⟩
  ·rcases List.mem_cons.1 hv with rfl | hv;exact h2 _ (by simp);exact g1 v hv
  ·rcases List.mem_cons.1 hv with rfl | hv;exact h4 _ (by simp);exact g2 v hv
  ·refine g4 (g.rank + 1) (fun u hu => ?_) (fun u hu => q1 u hu) v hv;rcases List.mem_cons.1 hu with rfl | hu
   ·exact h
   ·have:=p1 u hu;omega
  ·rcases List.mem_cons.1 hv with rfl | hv;exact hk2 _ (by simp);exact g4 k hk1 (fun u hu => hk2 u (by simp [hu])) v hv
 ·intro f a g b h ih h1 h2 h3 h4 h5 h6;rw [bmeld_eq h];obtain ⟨p1,p2⟩:=List.pairwise_cons.1 h5;obtain ⟨q1,q2⟩:=List.pairwise_cons.1 h6;obtain ⟨g1,g2,g3,g4⟩:=ih (fun t ht => h1 t (by simp [ht])) (fun t ht => h2 t (by simp [ht])) (fun t ht => h3 t (by simp [ht])) (fun t ht => h4 t (by simp [ht])) p2 q2;have hk:=lnk_rank h;have g5:=g4 (f.rank + 1) (fun u hu => p1 u hu) (fun u hu => by have:=q1 u hu;omega);obtain ⟨k1,k2,k3,k4⟩:=putT_sgood (bmeld a b) (lnk f g) (lnk_hok (h1 f (by simp)) (h2 g (by simp))) (lnk_sk h (h3 f (by simp)) (h4 g (by simp))) (fun u hu => by have:=g5 u hu;omega) g1 g2 g3;refine ⟨k1,k2,k3,fun k hk1 hk2 v hv => ?_⟩;have:=k4 v hv;have:=hk1 f (by simp);omega
theorem Wood.list_sk {α : Type}:∀ {w:Wood α},w.sk → ∀ t ∈ w.list,t.sk ∧ t.rank < w.len
 | .nil,_,_,ht => by simp [Wood.list] at ht
 | .cons x bs ks r,h,t,ht => by
  rcases List.mem_cons.1 ht with rfl | ht
  ·exact ⟨⟨h.1,h.2.2.1⟩,by simp only [Tre.rank,Wood.len];have:=h.2.1;omega⟩
  ·have:=Wood.list_sk h.2.2.2 t ht;exact ⟨this.1,by simp only [Wood.len];omega⟩
theorem Wood.list_srise {α : Type}:∀ {w:Wood α},w.sk → w.list.reverse.Pairwise (fun a b => a.rank < b.rank)
 | .nil,_ => by simp [Wood.list]
 | .cons x bs ks r,h => by
  simp only [Wood.list,List.reverse_cons,List.pairwise_append];refine ⟨Wood.list_srise h.2.2.2,by simp,fun a ha b hb => ?_⟩;simp only [List.mem_singleton] at hb;subst hb;have:=(Wood.list_sk h.2.2.2 a (by simpa using ha)).2;simp only [Tre.rank] at *;have:=h.2.1;omega
def upto {α : Type}:List (Tre α) → Prop
 | [] => True
 | t :: r => (∀ u ∈ r,t.rank ≤ u.rank) ∧ r.Pairwise (fun a b => a.rank < b.rank)
theorem upto_of {α : Type} {l:List (Tre α)} (h:l.Pairwise (fun a b => a.rank < b.rank)):upto l:=by
 cases l with
 | nil => trivial
 | cons t r => obtain ⟨h1,h2⟩:=List.pairwise_cons.1 h;exact ⟨fun u hu => Nat.le_of_lt (h1 u hu),h2⟩
structure sOk {α : Type} [Key α] (h:List (Tre α)):Prop where
 hok:∀ t ∈ h,t.hok
 sk:∀ t ∈ h,t.sk
 up:upto h
theorem levT_good {α : Type} [Key α] {h:List (Tre α)} (k:sOk h):(∀ u ∈ levT h,u.hok) ∧ (∀ u ∈ levT h,u.sk) ∧ (levT h).Pairwise (fun a b => a.rank < b.rank):=by
 cases h with
 | nil => exact ⟨by simp [levT],by simp [levT],List.Pairwise.nil⟩
 | cons t r =>
  obtain ⟨g1,g2,g3, -⟩:=putT_sgood r t (k.hok t (by simp)) (k.sk t (by simp)) k.up.1 (fun u hu => k.hok u (by simp [hu])) (fun u hu => k.sk u (by simp [hu])) k.up.2;exact ⟨g1,g2,g3⟩
theorem sok_nil {α : Type} [Key α]:sOk ([]:List (Tre α)):=⟨by simp,by simp,trivial⟩
theorem sok_meld {α : Type} [Key α] {a b:List (Tre α)} (ha:sOk a) (hb:sOk b):sOk (smeld a b):=by
 obtain ⟨a1,a2,a3⟩:=levT_good ha;obtain ⟨b1,b2,b3⟩:=levT_good hb;obtain ⟨h1,h2,h3, -⟩:=bmeld_sgood (levT a) (levT b) a1 b1 a2 b2 a3 b3;exact ⟨h1,h2,upto_of h3⟩
theorem sok_ins {α : Type} [Key α] {h:List (Tre α)} (x : α) (k:sOk h):sOk (sIns h x):=by
 have leaf:∀ l:List (Tre α),(∀ u ∈ l,u.hok) → (∀ u ∈ l,u.sk) → l.Pairwise (fun a b => a.rank < b.rank) → sOk (leafT x :: l):=fun l h1 h2 h3 =>
  ⟨fun u hu => by rcases List.mem_cons.1 hu with rfl | hu;exact leaf_hok x;exact h1 u hu,fun u hu => by rcases List.mem_cons.1 hu with rfl | hu;exact leaf_sk x;exact h2 u hu,fun u _ => Nat.zero_le _,h3⟩
 match h,k with
 | [],k => exact leaf [] k.hok k.sk List.Pairwise.nil
 | [f],k => exact leaf [f] k.hok k.sk (by simp)
 | f :: g :: r,k =>
  obtain ⟨u1,u2⟩:=k.up;obtain ⟨u3,u4⟩:=List.pairwise_cons.1 u2;by_cases e:f.rank = g.rank
  ·rw [sIns_eq x e];have hr:=skT_rank (x:=x) e;refine ⟨fun u hu => ?_,fun u hu => ?_,fun u hu => ?_,u4⟩
   ·rcases List.mem_cons.1 hu with rfl | hu
    ·exact skT_hok (k.hok f (by simp)) (k.hok g (by simp))
    ·exact k.hok u (by simp [hu])
   ·rcases List.mem_cons.1 hu with rfl | hu
    ·exact skT_sk e (k.sk f (by simp)) (k.sk g (by simp))
    ·exact k.sk u (by simp [hu])
   ·have:=u3 u hu;omega
  ·rw [sIns_ne x e];refine leaf _ k.hok k.sk (List.pairwise_cons.2 ⟨fun u hu => ?_,u2⟩);have h1:=u1 g (by simp);rcases List.mem_cons.1 hu with rfl | hu
   ·omega
   ·have:=u3 u hu;omega
theorem sok_fold {α : Type} [Key α]:∀ (l:List α) (h:List (Tre α)),sOk h → sOk (l.foldl sIns h)
 | [],_,hh => hh
 | x :: r,_,hh => sok_fold r _ (sok_ins x hh)
theorem restAt_up {α : Type} {l:List (Tre α)} {i:Nat} (h:upto l):upto (restAt l i):=by
 cases l with
 | nil => simp [restAt,upto]
 | cons t r =>
  cases i with
  | zero => simp only [restAt,List.take_zero,List.nil_append,Nat.zero_add,List.drop_succ_cons,List.drop_zero];exact upto_of h.2
  | succ i =>
   have e:restAt (t :: r) (i + 1) = t :: restAt r i:=by simp [restAt]
   rw [e];exact ⟨fun u hu => h.1 u (restAt_mem hu),restAt_rise h.2⟩
theorem sok_base {α : Type} [Key α] {h:List (Tre α)} (hh:sOk h) {i:Nat} (hi:i < h.length):sOk (sBase h i):=by
 have hm:=List.getElem_mem hi;have hk:kidsAt h i = h[i].ks.list.reverse:=by unfold kidsAt;rw [List.getElem?_eq_getElem hi]
 unfold sBase;rw [hk];generalize h[i] = u at *;have hu:=hh.hok u hm;have hb:=hh.sk u hm;obtain ⟨b1,b2,b3⟩:=levT_good (h:=restAt h i) ⟨fun v hv => hh.hok v (restAt_mem hv),fun v hv => hh.sk v (restAt_mem hv),restAt_up hh.up⟩;obtain ⟨h1,h2,h3, -⟩:=bmeld_sgood u.ks.list.reverse (levT (restAt h i)) (fun v hv => Wood.list_hok hu.2 v (by simpa using hv)) b1 (fun v hv => (Wood.list_sk hb.2 v (by simpa using hv)).1) b2 (Wood.list_srise hb.2) b3;exact ⟨h1,h2,upto_of h3⟩
theorem sok_pop {α : Type} [Key α] [Inhabited α] {h:List (Tre α)} (hh:sOk h):sOk (sPop h):=by
 match h,hh with
 | [],_ => exact sok_nil
 | t :: r,hh => exact sok_fold _ _ (sok_base hh (leastI_lt (l:=t :: r) (by simp)))
theorem sbase_all {α : Type} [Key α] {h:List (Tre α)} {i:Nat} (hi:i < h.length):(bAll h).Perm (h[i].x :: (besAt h i ++ bAll (sBase h i))):=by
 have hp:=restAt_all hi;have hk:kidsAt h i = h[i].ks.list.reverse:=by unfold kidsAt;rw [List.getElem?_eq_getElem hi]
 have hb:besAt h i = h[i].bs:=by unfold besAt;rw [List.getElem?_eq_getElem hi]
 unfold sBase;rw [hk,hb];generalize h[i] = u at *;refine hp.trans ?_;simp only [Tre.all,List.cons_append,List.append_assoc];refine List.Perm.cons _ (List.Perm.append_left _ ?_);refine List.Perm.trans ?_ (bmeld_all _ _).symm;refine List.Perm.append ?_ (levT_all _).symm;exact ((bAll_reverse _).trans (by rw [Wood.list_all])).symm
theorem spop_all {α : Type} [Key α] [Inhabited α] {h:List (Tre α)} (hne:h ≠ []):(bAll h).Perm ((bMin h).1 :: bAll (sPop h)):=by
 match h,hne with
 | t :: r,_ =>
  have hl:=leastI_lt (l:=t :: r) (by simp);have hroot:rootAt (t :: r) (leastI (t :: r)) = ((t :: r)[leastI (t :: r)]).x:=by unfold rootAt;rw [List.getElem?_eq_getElem hl]
  show (bAll (t :: r)).Perm (rootAt (t :: r) (leastI (t :: r)) :: bAll ((besAt (t :: r) (leastI (t :: r))).foldl sIns (sBase (t :: r) (leastI (t :: r)))));rw [hroot];refine (sbase_all hl).trans (List.Perm.cons _ ?_);exact List.perm_append_comm.trans (sfold_all _ _).symm
theorem spop_size {α : Type} [Key α] [Inhabited α] {h:List (Tre α)} (hne:h ≠ []):bSize (sPop h) + 1 = bSize h:=by
 have:=(spop_all hne).length_eq;rw [bAll_length,List.length_cons,bAll_length] at this;exact this.symm
theorem bmin_least {α : Type} [Key α] [Inhabited α] {h:List (Tre α)} (hh:∀ t ∈ h,t.hok) (hne:h ≠ []):∀ e ∈ bAll h,ltK e (bMin h).1 = false:=by
 match h,hne with
 | t :: r,_ =>
  intro e he;obtain ⟨v,hv,hev⟩:=mem_bAll he;obtain ⟨j,hj,rfl⟩:=List.getElem_of_mem hv;have h1:=(hh _ hv).le hev;have h2:=leastK_least (t :: r) ((t :: r).length - 1) j (by omega);have h3:rootAt (t :: r) j = ((t :: r)[j]).x:=by unfold rootAt;rw [List.getElem?_eq_getElem hj]
  rw [h3] at h2;exact ltK_ntrans _ _ _ h1 h2
end Go.Proofs.YtmeodbjlmjpnbaaGreat.U.Gn
namespace Go.Proofs.YtmeodbjlmjpnbaaGreat.U.Gn
open Go.Sort Go.RowKit
def Wood.map {α β : Type} (f : α → β):Wood α → Wood β
 | .nil => .nil
 | .cons x bs ks r => .cons (f x) (bs.map f) (ks.map f) (r.map f)
def Tre.map {α β : Type} (f : α → β) (t:Tre α):Tre β:=⟨f t.x,t.bs.map f,t.ks.map f⟩
theorem Wood.map_len {α β : Type} (f : α → β):∀ w:Wood α,(w.map f).len = w.len
 | .nil => rfl
 | .cons _ _ _ r => by simp only [Wood.map,Wood.len,r.map_len f]
theorem Wood.map_all {α β : Type} (f : α → β):∀ w:Wood α,(w.map f).all = w.all.map f
 | .nil => rfl
 | .cons x bs ks r => by simp only [Wood.map,Wood.all,ks.map_all f,r.map_all f,List.map_append,List.map_cons]
theorem Tre.map_all {α β : Type} (f : α → β) (t:Tre α):(t.map f).all = t.all.map f:=by simp only [Tre.map,Tre.all,Wood.map_all,List.map_append,List.map_cons]
theorem Tre.map_rank {α β : Type} (f : α → β) (t:Tre α):(t.map f).rank = t.rank:=Wood.map_len f t.ks
theorem Wood.map_list {α β : Type} (f : α → β):∀ w:Wood α,(w.map f).list = w.list.map (Tre.map f)
 | .nil => rfl
 | .cons x bs ks r => by simp only [Wood.map,Wood.list,r.map_list f,List.map_cons,Tre.map]
theorem bAll_map {α β : Type} (f : α → β):∀ l:List (Tre α),bAll (l.map (Tre.map f)) = (bAll l).map f
 | [] => rfl
 | t :: r => by simp only [List.map_cons,bAll,bAll_map f r,Tre.map_all,List.map_append]
theorem bSize_map {α β : Type} (f : α → β) (l:List (Tre α)):bSize (l.map (Tre.map f)) = bSize l:=by rw [← bAll_length,bAll_map,List.length_map,bAll_length]
theorem ltK_map {α β : Type} [Key α] [Key β] (f : α → β) (hf:∀ a : α,Key.key (f a) = Key.key a) (a b : α):ltK (f a) (f b) = ltK a b:=by unfold ltK;rw [hf,hf]
theorem lnk_map {α β : Type} [Key α] [Key β] (f : α → β) (hf:∀ a : α,Key.key (f a) = Key.key a) (a b:Tre α):lnk (a.map f) (b.map f) = (lnk a b).map f:=by
 cases h:ltK b.x a.x with
 | true => rw [lnk_lt h,lnk_lt (by show ltK (f b.x) (f a.x) = true;rw [ltK_map f hf];exact h)];rfl
 | false => rw [lnk_ge h,lnk_ge (by show ltK (f b.x) (f a.x) = false;rw [ltK_map f hf];exact h)];rfl
theorem skw_map {α β : Type} [Key α] [Key β] (f : α → β) (hf:∀ a : α,Key.key (f a) = Key.key a) (y : α) (t:Tre α):skw (f y) (t.map f) = (skw y t).map f:=by
 cases h:ltK t.x y with
 | true => rw [skw_lt h,skw_lt (by show ltK (f t.x) (f y) = true;rw [ltK_map f hf];exact h)];rfl
 | false => rw [skw_ge h,skw_ge (by show ltK (f t.x) (f y) = false;rw [ltK_map f hf];exact h)];rfl
theorem putT_map {α β : Type} [Key α] [Key β] (f : α → β) (hf:∀ a : α,Key.key (f a) = Key.key a):∀ (l:List (Tre α)) (t:Tre α),putT (l.map (Tre.map f)) (t.map f) = (putT l t).map (Tre.map f) ∧ putTN (l.map (Tre.map f)) (t.map f) = putTN l t
 | [],_ => ⟨rfl,rfl⟩
 | u :: r,t => by
  have h:=putT_map f hf r (lnk t u);rw [← lnk_map f hf] at h;simp only [List.map_cons,putT,putTN,Tre.map_rank];split
  ·exact ⟨rfl,rfl⟩
  ·exact ⟨h.1,by rw [h.2]⟩
theorem bmeld_map {α β : Type} [Key α] [Key β] (f : α → β) (hf:∀ a : α,Key.key (f a) = Key.key a):∀ a b:List (Tre α),bmeld (a.map (Tre.map f)) (b.map (Tre.map f)) = (bmeld a b).map (Tre.map f) ∧ bmeldN (a.map (Tre.map f)) (b.map (Tre.map f)) = bmeldN a b:=by
 refine bmeld_ind ?_ ?_ ?_ ?_ ?_
 ·intro b;rw [List.map_nil,bmeld_nil,bmeld_nil,bmeldN_nil,bmeldN_nil];exact ⟨rfl,rfl⟩
 ·intro g a;rw [List.map_nil,bmeld_right,bmeld_right,bmeldN_right,bmeldN_right];exact ⟨rfl,rfl⟩
 ·intro g a k b h ih;have h':(g.map f).rank < (k.map f).rank:=by rw [Tre.map_rank,Tre.map_rank];exact h
  rw [bmeld_lt h,bmeldN_lt h,List.map_cons,List.map_cons,bmeld_lt h',bmeldN_lt h'];rw [List.map_cons] at ih;rw [ih.1,ih.2];exact ⟨rfl,rfl⟩
 ·intro g a k b h ih;have h':(k.map f).rank < (g.map f).rank:=by rw [Tre.map_rank,Tre.map_rank];exact h
  rw [bmeld_gt h,bmeldN_gt h,List.map_cons,List.map_cons,bmeld_gt h',bmeldN_gt h'];rw [List.map_cons] at ih;rw [ih.1,ih.2];exact ⟨rfl,rfl⟩
 ·intro g a k b h ih;have h':(g.map f).rank = (k.map f).rank:=by rw [Tre.map_rank,Tre.map_rank];exact h
  rw [bmeld_eq h,bmeldN_eq h,List.map_cons,List.map_cons,bmeld_eq h',bmeldN_eq h',ih.1,ih.2,lnk_map f hf,(putT_map f hf _ _).1,(putT_map f hf _ _).2];exact ⟨rfl,rfl⟩
theorem levT_map {α β : Type} [Key α] [Key β] (f : α → β) (hf:∀ a : α,Key.key (f a) = Key.key a) (l:List (Tre α)):levT (l.map (Tre.map f)) = (levT l).map (Tre.map f) ∧ levN (l.map (Tre.map f)) = levN l:=by
 cases l with
 | nil => exact ⟨rfl,rfl⟩
 | cons t r => exact putT_map f hf r t
theorem smeld_map {α β : Type} [Key α] [Key β] (f : α → β) (hf:∀ a : α,Key.key (f a) = Key.key a) (a b:List (Tre α)):smeld (a.map (Tre.map f)) (b.map (Tre.map f)) = (smeld a b).map (Tre.map f) ∧ smeldN (a.map (Tre.map f)) (b.map (Tre.map f)) = smeldN a b:=by
 have h1:=levT_map f hf a;have h2:=levT_map f hf b;have h3:=bmeld_map f hf (levT a) (levT b);unfold smeld smeldN;rw [h1.1,h1.2,h2.1,h2.2,h3.1,h3.2];exact ⟨rfl,rfl⟩
theorem sIns_map {α β : Type} [Key α] [Key β] (f : α → β) (hf:∀ a : α,Key.key (f a) = Key.key a) (h:List (Tre α)) (x : α):sIns (h.map (Tre.map f)) (f x) = (sIns h x).map (Tre.map f):=by
 match h with
 | [] => rfl
 | [g] => rfl
 | g :: k :: r =>
  by_cases e:g.rank = k.rank
  ·rw [sIns_eq x e,List.map_cons,List.map_cons,sIns_eq (f x) (by rw [Tre.map_rank,Tre.map_rank];exact e)];unfold skT;rw [lnk_map f hf,skw_map f hf];rfl
  ·rw [sIns_ne x e,List.map_cons,List.map_cons,sIns_ne (f x) (by rw [Tre.map_rank,Tre.map_rank];exact e)];rfl
theorem sInsN_map {α β : Type} (f : α → β) (h:List (Tre α)):sInsN (h.map (Tre.map f)) = sInsN h ∧ sInsM (h.map (Tre.map f)) = sInsM h:=by
 match h with
 | [] => exact ⟨rfl,rfl⟩
 | [g] => exact ⟨rfl,rfl⟩
 | g :: k :: r => simp only [List.map_cons,sInsN,sInsM,Tre.map_rank];exact ⟨trivial,trivial⟩
theorem sfold_map {α β : Type} [Key α] [Key β] (f : α → β) (hf:∀ a : α,Key.key (f a) = Key.key a):∀ (l:List α) (h:List (Tre α)),(l.map f).foldl sIns (h.map (Tre.map f)) = (l.foldl sIns h).map (Tre.map f) ∧ sPutN (h.map (Tre.map f)) (l.map f) = sPutN h l ∧ sPutM (h.map (Tre.map f)) (l.map f) = sPutM h l
 | [],_ => ⟨rfl,rfl,rfl⟩
 | x :: r,h => by
  have h1:=sfold_map f hf r (sIns h x);rw [← sIns_map f hf] at h1;have h2:=sInsN_map f h;simp only [List.map_cons,List.foldl_cons,sPutN,sPutM];rw [h1.1,h1.2.1,h1.2.2,h2.1,h2.2];exact ⟨rfl,rfl,rfl⟩
theorem rootAt_map {α β : Type} [Inhabited α] [Inhabited β] (f : α → β) {l:List (Tre α)} {i:Nat} (h:i < l.length):rootAt (l.map (Tre.map f)) i = f (rootAt l i):=by
 unfold rootAt;rw [List.getElem?_map,List.getElem?_eq_getElem h];rfl
theorem leastK_map {α β : Type} [Key α] [Key β] [Inhabited α] [Inhabited β] (f : α → β) (hf:∀ a : α,Key.key (f a) = Key.key a) (l:List (Tre α)):∀ k,k < l.length → leastK (l.map (Tre.map f)) k = leastK l k
 | 0,_ => rfl
 | k + 1,h => by
  have h1:=leastK_map f hf l k (by omega);have h2:=leastK_le l k;unfold leastK;rw [h1,rootAt_map f h,rootAt_map f (by omega),ltK_map f hf]
theorem leastI_map {α β : Type} [Key α] [Key β] [Inhabited α] [Inhabited β] (f : α → β) (hf:∀ a : α,Key.key (f a) = Key.key a) {l:List (Tre α)} (h:l ≠ []):leastI (l.map (Tre.map f)) = leastI l:=by
 unfold leastI;rw [List.length_map];exact leastK_map f hf l _ (by have:=List.length_pos_iff.2 h;omega)
theorem at_map {α β : Type} (f : α → β) (l:List (Tre α)) (i:Nat):kidsAt (l.map (Tre.map f)) i = (kidsAt l i).map (Tre.map f) ∧ besAt (l.map (Tre.map f)) i = (besAt l i).map f ∧ restAt (l.map (Tre.map f)) i = (restAt l i).map (Tre.map f):=by
 unfold kidsAt besAt restAt;rw [List.getElem?_map];refine ⟨?_,?_,?_⟩
 ·cases l[i]? with
  | none => rfl
  | some t => show (t.ks.map f).list.reverse = _;rw [Wood.map_list,List.map_reverse]
 ·cases l[i]? with
  | none => rfl
  | some t => rfl
 ·rw [List.map_append,List.map_take,List.map_drop]
theorem sBase_map {α β : Type} [Key α] [Key β] (f : α → β) (hf:∀ a : α,Key.key (f a) = Key.key a) (l:List (Tre α)) (i:Nat):sBase (l.map (Tre.map f)) i = (sBase l i).map (Tre.map f) ∧ sBaseN (l.map (Tre.map f)) i = sBaseN l i:=by
 obtain ⟨h1, -,h2⟩:=at_map f l i;have h3:=levT_map f hf (restAt l i);have h4:=bmeld_map f hf (kidsAt l i) (levT (restAt l i));unfold sBase sBaseN;rw [h1,h2,h3.1,h3.2,h4.1,h4.2];exact ⟨rfl,rfl⟩
theorem bMin_map {α β : Type} [Key α] [Key β] [Inhabited α] [Inhabited β] (f : α → β) (hf:∀ a : α,Key.key (f a) = Key.key a) {l:List (Tre α)} (h:l ≠ []):(bMin (l.map (Tre.map f))).1 = f (bMin l).1:=by
 match l,h with
 | t :: r,_ =>
  show rootAt ((t :: r).map (Tre.map f)) (leastI ((t :: r).map (Tre.map f))) = f (rootAt (t :: r) (leastI (t :: r)));rw [leastI_map f hf (by simp),rootAt_map f (leastI_lt (by simp))]
theorem sPop_map {α β : Type} [Key α] [Key β] [Inhabited α] [Inhabited β] (f : α → β) (hf:∀ a : α,Key.key (f a) = Key.key a) (l:List (Tre α)):sPop (l.map (Tre.map f)) = (sPop l).map (Tre.map f) ∧ sPopN (l.map (Tre.map f)) = sPopN l ∧ sPopM (l.map (Tre.map f)) = sPopM l:=by
 match l with
 | [] => exact ⟨rfl,rfl,rfl⟩
 | t :: r =>
  have hi:=leastI_map f hf (l:=t :: r) (by simp);have hb:=sBase_map f hf (t :: r) (leastI (t :: r));have hs:=(at_map f (t :: r) (leastI (t :: r))).2.1;have hp:=sfold_map f hf (besAt (t :: r) (leastI (t :: r))) (sBase (t :: r) (leastI (t :: r)));rw [← hb.1,← hs,← hi] at hp;refine ⟨?_,?_,?_⟩
  ·show (besAt ((t :: r).map (Tre.map f)) (leastI ((t :: r).map (Tre.map f)))).foldl sIns (sBase ((t :: r).map (Tre.map f)) (leastI ((t :: r).map (Tre.map f)))) = _;rw [hp.1,hi];rfl
  ·show sBaseN ((t :: r).map (Tre.map f)) (leastI ((t :: r).map (Tre.map f))) + sPutN (sBase ((t :: r).map (Tre.map f)) (leastI ((t :: r).map (Tre.map f)))) (besAt ((t :: r).map (Tre.map f)) (leastI ((t :: r).map (Tre.map f)))) = _;rw [hp.2.1,hi,hb.2];rfl
  ·show sBaseN ((t :: r).map (Tre.map f)) (leastI ((t :: r).map (Tre.map f))) + sPutM (sBase ((t :: r).map (Tre.map f)) (leastI ((t :: r).map (Tre.map f)))) (besAt ((t :: r).map (Tre.map f)) (leastI ((t :: r).map (Tre.map f)))) = _;rw [hp.2.2,hi,hb.2];rfl
end Go.Proofs.YtmeodbjlmjpnbaaGreat.U.Gn
namespace Go.Proofs.YtmeodbjlmjpnbaaGreat.U.Bo
open Go.Sort Go.RowKit Go.Proofs.YtmeodbjlmjpnbaaGreat.U.Gn
inductive Lh
 | nil
 | node (x:Int × Int) (q:List (Gn.Tre Lh))
def Lh.key:Lh → Int × Int
 | .nil => (0,0)
 | .node x _ => x
instance:Gn.Key Lh:=⟨Lh.key⟩
instance:Inhabited Lh:=⟨.nil⟩
theorem wood_small:∀ (w:Gn.Wood Lh) (b:Lh),b ∈ w.all → SizeOf.sizeOf b < SizeOf.sizeOf w
 | .nil,b,h => by simp [Gn.Wood.all] at h
 | .cons x bs ks r,b,h => by
  simp only [Gn.Wood.all] at h;simp only [Gn.Wood.cons.sizeOf_spec];rcases List.mem_append.1 h with h | h
  ·rcases List.mem_cons.1 h with rfl | h
   ·omega
   ·rcases List.mem_append.1 h with h | h
    ·have:=List.sizeOf_lt_of_mem h;omega
    ·have:=wood_small ks b h;omega
  ·have:=wood_small r b h;omega
theorem queue_small:∀ (q:List (Gn.Tre Lh)) (b:Lh),b ∈ Gn.bAll q → SizeOf.sizeOf b < SizeOf.sizeOf q
 | [],b,h => by simp [Gn.bAll] at h
 | t :: r,b,h => by
  simp only [Gn.bAll] at h;rw [List.cons.sizeOf_spec];rcases List.mem_append.1 h with h | h
  ·obtain ⟨x,bs,ks⟩:=t;rw [Gn.Tre.mk.sizeOf_spec];simp only [Gn.Tre.all] at h;rcases List.mem_cons.1 h with rfl | h
   ·omega
   ·rcases List.mem_append.1 h with h | h
    ·have:=List.sizeOf_lt_of_mem h;omega
    ·have:=wood_small ks b h;omega
  ·have:=queue_small r b h;omega
def Lh.els:Lh → List (Int × Int)
 | .nil => []
 | .node x q => x :: ((Gn.bAll q).attach.map fun b => b.1.els).flatten
termination_by h => SizeOf.sizeOf h
decreasing_by
 have:=queue_small q b.1 b.2;rw [Lh.node.sizeOf_spec];omega
def Lh.txt:Lh → List UInt8
 | .nil => [46]
 | .node x q => 91 :: (textOf x.1 x.2 ++ ((Gn.bAll q).attach.map fun b => 32 :: b.1.txt).flatten ++ [93])
termination_by h => SizeOf.sizeOf h
decreasing_by
 have:=queue_small q b.1 b.2;rw [Lh.node.sizeOf_spec];omega
def Lh.all:Lh → List (Int × Int)
 | .nil => []
 | .node x q => x :: (Gn.bAll q).flatMap Lh.els
def Lh.show:Lh → List UInt8
 | .nil => [46]
 | .node x q => 91 :: (textOf x.1 x.2 ++ ((Gn.bAll q).flatMap fun b => 32 :: b.txt) ++ [93])
def Lh.size:Lh → Nat
 | .nil => 0
 | .node _ q => ((Gn.bAll q).flatMap Lh.els).length + 1
theorem els_all (h:Lh):h.els = h.all:=by
 cases h with
 | nil => rw [Lh.els];rfl
 | node x q => rw [Lh.els,List.attach_map_val,← List.flatMap_def];rfl
theorem els_eq:Lh.els = Lh.all:=funext els_all
theorem all_nil:Lh.all .nil = []:=rfl
theorem all_node (x:Int × Int) (q:List (Gn.Tre Lh)):(Lh.node x q).all = x :: (Gn.bAll q).flatMap Lh.all:=by show x :: (Gn.bAll q).flatMap Lh.els = _;rw [els_eq]
theorem size_all (h:Lh):h.size = h.all.length:=by cases h <;> rfl
def Lh.min:Lh → (Int × Int) × Bool
 | .nil => ((0,0),false)
 | .node x _ => (x,true)
def Lh.some (h:Lh):Bool:=h.min.2
def Lh.one (x:Int × Int):Lh := .node x []
def meld:Lh → Lh → Lh
 | .nil,b => b
 | .node x o,.nil => .node x o
 | .node x o,.node y p => if ltE y x = true then .node y (Gn.sIns p (.node x o)) else .node x (Gn.sIns o (.node y p))
def meldC:Lh → Lh → Nat
 | .nil,_ => 0
 | .node _ _,.nil => 0
 | .node x o,.node y p => if ltE y x = true then Gn.sInsN p + 1 else Gn.sInsN o + 1
def meldM:Lh → Lh → Nat
 | .nil,_ => 0
 | .node _ _,.nil => 0
 | .node x o,.node y p => if ltE y x = true then Gn.sInsM p + 1 else Gn.sInsM o + 1
def Lh.insert (h:Lh) (x:Int × Int):Lh:=meld (.one x) h
def Lh.insC (h:Lh) (x:Int × Int):Nat:=meldC (.one x) h
def Lh.insM (h:Lh) (x:Int × Int):Nat:=meldM (.one x) h + 1
def least (q:List (Gn.Tre Lh)):Lh:=(Gn.bMin q).1
def Lh.queue:Lh → List (Gn.Tre Lh)
 | .nil => []
 | .node _ q => q
def Lh.pop:Lh → Lh
 | .nil => .nil
 | .node _ [] => .nil
 | .node _ (t :: r) => .node (least (t :: r)).key (Gn.smeld (least (t :: r)).queue (Gn.sPop (t :: r)))
def Lh.popC:Lh → Nat
 | .nil => 0
 | .node _ [] => 0
 | .node _ (t :: r) => r.length + (Gn.sPopN (t :: r) + r.length) + Gn.smeldN (least (t :: r)).queue (Gn.sPop (t :: r))
def Lh.popM:Lh → Nat
 | .nil => 0
 | .node _ [] => 0
 | .node _ (t :: r) => Gn.sPopM (t :: r) + Gn.smeldN (least (t :: r)).queue (Gn.sPop (t :: r)) + 1
def ofL (l:List (Int × Int)):Lh:=l.foldl Lh.insert .nil
def putC:Lh → List (Int × Int) → Nat
 | _,[] => 0
 | h,x :: r => h.insC x + putC (h.insert x) r
def putM:Lh → List (Int × Int) → Nat
 | _,[] => 0
 | h,x :: r => h.insM x + putM (h.insert x) r
theorem ltE_asym {x y:Int × Int} (h:ltE x y = true):ltE y x = false:=by
 rw [ltE_iff] at h;rw [ltE_not];omega
theorem meld_nil (b:Lh):meld .nil b = b:=rfl
theorem meld_right (a:Lh):meld a .nil = a:=by cases a <;> rfl
theorem meld_lt {x y:Int × Int} {o p:List (Gn.Tre Lh)} (h:ltE y x = true):meld (.node x o) (.node y p) = .node y (Gn.sIns p (.node x o)):=by show (if ltE y x = true then _ else _) = _;rw [if_pos h]
theorem meld_ge {x y:Int × Int} {o p:List (Gn.Tre Lh)} (h:ltE y x = false):meld (.node x o) (.node y p) = .node x (Gn.sIns o (.node y p)):=by show (if ltE y x = true then _ else _) = _;rw [if_neg (by rw [h];simp)]
theorem Lh.all_length (h:Lh):h.all.length = h.size:=(size_all h).symm
theorem one_all (x:Int × Int):(Lh.one x).all = [x]:=by rw [Lh.one,all_node];rfl
theorem one_size (x:Int × Int):(Lh.one x).size = 1:=by rw [size_all,one_all];rfl
theorem meld_all (a b:Lh):(meld a b).all.Perm (a.all ++ b.all):=by
 cases a with
 | nil => rw [meld_nil,all_nil];exact List.Perm.refl _
 | node x o =>
  cases b with
  | nil => rw [meld_right,all_nil,List.append_nil]
  | node y p =>
   by_cases hl:ltE y x = true
   ·rw [meld_lt hl,all_node y,all_node y];have h1:=(Gn.sIns_all p (.node x o)).flatMap_right Lh.all;rw [List.flatMap_cons] at h1;exact (List.Perm.cons y h1).trans List.perm_middle.symm
   ·rw [meld_ge (by simpa using hl),all_node x,all_node x];have h1:=(Gn.sIns_all o (.node y p)).flatMap_right Lh.all;rw [List.flatMap_cons] at h1;rw [List.cons_append];exact List.Perm.cons x (h1.trans List.perm_append_comm)
theorem insert_all (h:Lh) (x:Int × Int):(h.insert x).all.Perm (x :: h.all):=by
 have:=meld_all (.one x) h;rw [one_all] at this;exact this
theorem meld_size (a b:Lh):(meld a b).size = a.size + b.size:=by
 have:=(meld_all a b).length_eq;rwa [List.length_append,Lh.all_length,Lh.all_length,Lh.all_length] at this
theorem meld_le (a b:Lh):meldC a b ≤ 3 ∧ meldM a b ≤ 3:=by
 cases a with
 | nil => exact ⟨Nat.zero_le _,Nat.zero_le _⟩
 | node x o =>
  cases b with
  | nil => exact ⟨Nat.zero_le _,Nat.zero_le _⟩
  | node y p =>
   have h1:=Gn.sInsN_le o;have h2:=Gn.sInsN_le p;have h3:=(Gn.sInsM_le o).1;have h4:=(Gn.sInsM_le p).1;simp only [meldC,meldM];split <;> omega
theorem insC_le (h:Lh) (x:Int × Int):h.insC x ≤ 3:=(meld_le _ _).1
theorem insM_le (h:Lh) (x:Int × Int):h.insM x ≤ 4:=by have:=(meld_le (.one x) h).2;unfold Lh.insM;omega
theorem fold_all:∀ (l:List (Int × Int)) (h:Lh),(l.foldl Lh.insert h).all.Perm (h.all ++ l)
 | [],h => by simp
 | x :: r,h => by
  rw [List.foldl_cons];refine (fold_all r (h.insert x)).trans (((insert_all h x).append_right r).trans ?_);exact (List.perm_middle (a:=x) (l₁:=h.all) (l₂:=r)).symm
theorem ofL_all (l:List (Int × Int)):(ofL l).all.Perm l:=by have:=fold_all l .nil;rwa [all_nil] at this
theorem ofL_size (l:List (Int × Int)):(ofL l).size = l.length:=by rw [← Lh.all_length];exact (ofL_all l).length_eq
theorem ofL_snoc (l:List (Int × Int)) (x:Int × Int):ofL (l ++ [x]) = (ofL l).insert x:=by simp [ofL]
theorem putC_snoc:∀ (l:List (Int × Int)) (h:Lh) (x:Int × Int),putC h (l ++ [x]) = putC h l + (l.foldl Lh.insert h).insC x
 | [],h,x => by simp [putC]
 | y :: l,h,x => by simp only [List.cons_append,putC,List.foldl_cons];rw [putC_snoc l (h.insert y) x];omega
theorem putM_snoc:∀ (l:List (Int × Int)) (h:Lh) (x:Int × Int),putM h (l ++ [x]) = putM h l + (l.foldl Lh.insert h).insM x
 | [],h,x => by simp [putM]
 | y :: l,h,x => by simp only [List.cons_append,putM,List.foldl_cons];rw [putM_snoc l (h.insert y) x];omega
theorem put_le:∀ (l:List (Int × Int)) (h:Lh),putC h l ≤ 4 * l.length ∧ putM h l ≤ 4 * l.length
 | [],_ => ⟨Nat.le_refl _,Nat.le_refl _⟩
 | x :: r,h => by
  have h1:=put_le r (h.insert x);have h2:=insC_le h x;have h3:=insM_le h x;simp only [putC,putM,List.length_cons];omega
inductive Lh.ok:Lh → Prop
 | nil:Lh.ok .nil
 | node {x:Int × Int} {q:List (Gn.Tre Lh)} (hq:Gn.sOk q) (hb:∀ b ∈ Gn.bAll q,b.ok) (hn:∀ b ∈ Gn.bAll q,b.some = true ∧ ltE b.key x = false):Lh.ok (.node x q)
theorem ok_nil:Lh.ok .nil := .nil
theorem one_ok (x:Int × Int):(Lh.one x).ok := .node Gn.sok_nil (by intro b hb;cases hb) (by intro b hb;cases hb)
theorem meld_ok (a b:Lh) (ha:a.ok) (hb:b.ok):(meld a b).ok:=by
 cases a with
 | nil => exact hb
 | node x o =>
  cases b with
  | nil => exact ha
  | node y p =>
   by_cases hl:ltE y x = true
   ·rw [meld_lt hl]
    cases hb with | node p1 p2 p3 => ?_
    refine .node (Gn.sok_ins _ p1) (fun e he => ?_) fun e he => ?_
    ·rcases List.mem_cons.1 ((Gn.sIns_all p _).subset he) with rfl | h
     ·exact ha
     ·exact p2 e h
    ·rcases List.mem_cons.1 ((Gn.sIns_all p _).subset he) with rfl | h
     ·exact ⟨rfl,ltE_asym hl⟩
     ·exact p3 e h
   ·have hl':ltE y x = false:=by simpa using hl
    rw [meld_ge hl']
    cases ha with | node p1 p2 p3 => ?_
    refine .node (Gn.sok_ins _ p1) (fun e he => ?_) fun e he => ?_
    ·rcases List.mem_cons.1 ((Gn.sIns_all o _).subset he) with rfl | h
     ·exact hb
     ·exact p2 e h
    ·rcases List.mem_cons.1 ((Gn.sIns_all o _).subset he) with rfl | h
     ·exact ⟨rfl,hl'⟩
     ·exact p3 e h
theorem insert_ok {h:Lh} (x:Int × Int) (hk:h.ok):(h.insert x).ok:=meld_ok _ _ (one_ok x) hk
theorem fold_ok:∀ (l:List (Int × Int)) (h:Lh),h.ok → (l.foldl Lh.insert h).ok
 | [],_,hk => hk
 | x :: r,h,hk => fold_ok r (h.insert x) (insert_ok x hk)
theorem ofL_ok (l:List (Int × Int)):(ofL l).ok:=fold_ok l .nil ok_nil
theorem ok_le {h:Lh} (hk:h.ok):∀ e ∈ h.all,ltE e h.key = false:=by
 induction hk with
 | nil => intro e he;rw [all_nil] at he;cases he
 | node hq hb hn ih =>
  intro e he;rw [all_node] at he;rcases List.mem_cons.1 he with rfl | he
  ·exact swoE.irrefl _
  ·obtain ⟨b,h1,h2⟩:=List.mem_flatMap.1 he;exact swoE.ntrans _ _ _ (ih b h1 e h2) (hn b h1).2
theorem some_node {h:Lh} (hs:h.some = true):h = .node h.key h.queue:=by
 cases h with
 | nil => cases hs
 | node x q => rfl
theorem least_mem {t:Gn.Tre Lh} {r:List (Gn.Tre Lh)}:least (t :: r) ∈ Gn.bAll (t :: r):=(Gn.spop_all (h:=t :: r) (by simp)).symm.subset (List.mem_cons_self ..)
theorem left_mem {t:Gn.Tre Lh} {r:List (Gn.Tre Lh)} {b:Lh} (h:b ∈ Gn.bAll (Gn.sPop (t :: r))):b ∈ Gn.bAll (t :: r):=(Gn.spop_all (h:=t :: r) (by simp)).symm.subset (List.mem_cons_of_mem _ h)
theorem pop_ok {h:Lh} (hk:h.ok):h.pop.ok:=by
 cases h with
 | nil => exact hk
 | node x q =>
  cases q with
  | nil => exact ok_nil
  | cons t r =>
   cases hk with | node hq hb hn => ?_
   have hf:=hb _ (least_mem (t:=t) (r:=r));have hs:=some_node (hn _ (least_mem (t:=t) (r:=r))).1;have hf2:=hf;rw [hs] at hf2
   cases hf2 with | node f1 f2 f3 => ?_
   refine .node (Gn.sok_meld f1 (Gn.sok_pop hq)) (fun e he => ?_) fun e he => ?_
   ·rcases List.mem_append.1 ((Gn.smeld_all _ _).subset he) with h | h
    ·exact f2 e h
    ·exact hb e (left_mem h)
   ·rcases List.mem_append.1 ((Gn.smeld_all _ _).subset he) with h | h
    ·exact f3 e h
    ·exact ⟨(hn e (left_mem h)).1,Gn.bmin_least hq.hok (by simp) e (left_mem h)⟩
theorem pop_all {x:Int × Int} {q:List (Gn.Tre Lh)} (hk:(Lh.node x q).ok):((Gn.bAll q).flatMap Lh.all).Perm (Lh.node x q).pop.all:=by
 cases q with
 | nil => show List.Perm [] (Lh.all .nil);rw [all_nil]
 | cons t r =>
  cases hk with | node hq hb hn => ?_
  have hs:=some_node (hn _ (least_mem (t:=t) (r:=r))).1;have h1:=(Gn.spop_all (h:=t :: r) (by simp)).flatMap_right Lh.all;have h2:=(Gn.smeld_all (least (t :: r)).queue (Gn.sPop (t :: r))).flatMap_right Lh.all;rw [List.flatMap_append] at h2;rw [List.flatMap_cons,show (Gn.bMin (t :: r)).1 = least (t :: r) from rfl] at h1;refine h1.trans ?_;show List.Perm _ (Lh.node _ _).all;rw [all_node];refine List.Perm.trans ?_ (List.Perm.cons _ h2.symm);conv => lhs;rw [hs,all_node]
  exact List.Perm.refl _
theorem Lh.size_nil {h:Lh} (hz:h.size = 0):h = .nil:=by
 cases h with
 | nil => rfl
 | node x o => rw [size_all,all_node,List.length_cons] at hz;omega
theorem pop_size {h:Lh} (hk:h.ok):h.pop.size = h.size - 1:=by
 cases h with
 | nil => rfl
 | node x o =>
  have:=(pop_all hk).length_eq;rw [Lh.all_length] at this;rw [← this,size_all,all_node,List.length_cons];omega
structure Lh.good (h:Lh):Prop where
 ok:h.ok
 fit:fits h.all
theorem good_meld {a b:Lh} (ha:a.good) (hb:b.good):(meld a b).good:=⟨meld_ok _ _ ha.ok hb.ok,(ha.fit.join hb.fit).perm (meld_all a b).symm⟩
theorem good_insert {a:Lh} {x:Int × Int} (ha:a.good) (h:in64 x.1 ∧ in64 x.2):(a.insert x).good:=⟨insert_ok x ha.ok,(fits.more h ha.fit).perm (insert_all a x).symm⟩
theorem good_of {l:List (Int × Int)} (h:fits l):(ofL l).good:=⟨ofL_ok l,h.perm (ofL_all l).symm⟩
theorem good_pop {a:Lh} (ha:a.good):a.pop.good:=⟨pop_ok ha.ok,by
 cases a with
 | nil => show fits (Lh.all .nil);rw [all_nil];exact fits.nil
 | node x o =>
  have h:=ha.fit;rw [all_node] at h;exact h.cons.2.perm (pop_all ha.ok)⟩
theorem srt_meld (a b:Lh):srt (meld a b).all = srt (a.all ++ b.all):=srt_perm (meld_all a b)
theorem srt_insert (a:Lh) (x:Int × Int):srt (a.insert x).all = srt (x :: a.all):=srt_perm (insert_all a x)
theorem srt_of (l:List (Int × Int)):srt (ofL l).all = srt l:=srt_perm (ofL_all l)
theorem ok_srt {h:Lh} (hk:h.ok) (hne:h.min.2 = true):srt h.all = h.min.1 :: srt h.pop.all:=by
 cases h with
 | nil => cases hne
 | node x o =>
  rw [all_node];have h1:∀ e ∈ (Gn.bAll o).flatMap Lh.all,ltE e x = false:=fun e he => ok_le hk e (by rw [all_node];exact List.mem_cons_of_mem _ he);rw [srt_cons h1,srt_perm (pop_all hk)];rfl
theorem srt_pop {a:Lh} (h:a.ok):srt a.pop.all = (srt a.all).tail:=by
 cases a with
 | nil => show srt (Lh.all .nil) = (srt (Lh.all .nil)).tail;rw [all_nil];simp [srt_nil]
 | node x o => rw [ok_srt h rfl];rfl
theorem some_pos (t:Lh):t.some = decide (0 < t.size):=by
 cases t with
 | nil => rw [size_all,all_nil];rfl
 | node x o => rw [size_all,all_node];exact (decide_eq_true (Nat.succ_pos _)).symm
theorem min_some (t:Lh):t.min.2 = t.some:=rfl
theorem queue_le:∀ (l:List Lh),(∀ b ∈ l,b.some = true) → l.length ≤ (l.flatMap Lh.all).length
 | [],_ => Nat.le_refl _
 | b :: r,h => by
  have h1:=queue_le r fun e he => h e (List.mem_cons_of_mem _ he);have h2:=h b (List.mem_cons_self ..);rw [some_pos,size_all] at h2;have h3:0 < b.all.length:=of_decide_eq_true h2;rw [List.flatMap_cons,List.length_append,List.length_cons];omega
end Go.Proofs.YtmeodbjlmjpnbaaGreat.U.Bo
namespace Go.Proofs.YtmeodbjlmjpnbaaGreat.U.Bo
open Go.Sort Go.RowKit Go.Proofs.YtmeodbjlmjpnbaaGreat.U.Gn
end Go.Proofs.YtmeodbjlmjpnbaaGreat.U.Bo
namespace Go.Proofs.YtmeodbjlmjpnbaaGreat.U.Lt
open Go.Sort Go.RowKit
abbrev El:Type:=Option Addr
abbrev one (x:El):Value := .pointer x
abbrev zero:El:=none
abbrev lst (p:Option Addr) (n:Int):Value := .agg #[.pointer p,.int .i64 n]
theorem ch_new (p:Option Addr) (xs:List El) (x:El) (w w':World) (b:Nat) (h:Ch one 318 w p xs) (hb:Below w.heap.size w w') (h0:w'.heap[b]? = some (.cells #[one x,.pointer p] 318 (0,0))):Ch one 318 w' (some ⟨b,0,none⟩) (x :: xs) :=
 ⟨b,p,rfl,(Array.getElem?_eq_some_iff.1 h0).1,h0,h.stay hb⟩
theorem push_any (p:Option Addr) (xs:List El) (n:Int) (x:El) (w:World) (h:Ch one 318 w p xs) (h0:0 ≤ n) (h1:n < 4611686018427387904):Calls Tryz.prog 163 #[lst p n,one x] w fun e w' =>
  ∃ b,e = .returned (lst (some ⟨b,0,none⟩) (n + 1)) ∧ Ch one 318 w' (some ⟨b,0,none⟩) (x :: xs) ∧ Below w.heap.size w w':=by
 have H:=hdz h;clear h;go_enter Tryz.func163,Tryz.ntmps163
 go_wp2
 refine bodyPost_ret (v:=lst (some ⟨w.heap.size + 1 + 1,0,none⟩) (n + 1)) (by simp [results,Tryz.results163,go_sem]) rfl ⟨_,rfl,?_⟩;have hb:Below w.heap.size w (((w.alloc (.cells #[.pointer p,.int .i64 n] 255)).alloc (.cells #[.pointer (some ⟨w.heap.size + 1 + 1,0,none⟩),.int .i64 (n + 1)] 255)).alloc (.cells #[one x,.pointer p] 318)):=(((Below.refl _ w).alloc (Nat.le_refl _) _).alloc (by simp) _).alloc (by simp;omega) _;refine ⟨ch_new p xs x w _ _ H.out hb ?_,hb⟩;have:=World.alloc_heap_new ((w.alloc (.cells #[.pointer p,.int .i64 n] 255)).alloc (.cells #[.pointer (some ⟨w.heap.size + 1 + 1,0,none⟩),.int .i64 (n + 1)] 255)) (.cells #[one x,.pointer p] 318);simpa using this
theorem first_nil (n:Int) (w:World):Calls Tryz.prog 159 #[lst none n] w fun e w' =>
  e = .returned (.tuple #[one zero,.bool false]) ∧ Below w.heap.size w w':=by
 go_enter Tryz.func159,Tryz.ntmps159
 go_wp2
 go_ret2
 exact ⟨rfl,bqA _⟩
theorem first_cons (p:Option Addr) (x:El) (xs:List El) (n:Int) (w:World) (h:Ch one 318 w p (x :: xs)):Calls Tryz.prog 159 #[lst p n] w fun e w' =>
  e = .returned (.tuple #[one x,.bool true]) ∧ Below w.heap.size w w':=by
 obtain ⟨b,q,rfl,hb,hh, -⟩:=h;have hv:w.cell? ⟨b,0,none⟩ = some (one x):=by simp [World.cell?,hh]
 clear hh;have hv1:=((Below.refl w.heap.size w).alloc (Nat.le_refl _) (.cells #[.pointer (some ⟨b,0,none⟩),.int .i64 n] 255)).cell (p:=⟨b,0,none⟩) hb;rw [hv] at hv1;clear hv;go_enter Tryz.func159,Tryz.ntmps159
 go_wp2
 go_ret2
 exact ⟨rfl,bqA _⟩
theorem rest_nil (n:Int) (w:World):Calls Tryz.prog 160 #[lst none n] w fun e w' =>
  e = .returned (lst none n) ∧ Below w.heap.size w w':=by
 go_enter Tryz.func160,Tryz.ntmps160
 go_wp2
 refine bodyPost_ret (v:=lst none n) (by simp [results,Tryz.results160,go_sem]) rfl ⟨rfl,?_⟩;exact ((Below.refl _ w).alloc (Nat.le_refl _) _).alloc (by simp) _
theorem rest_cons (p:Option Addr) (x:El) (xs:List El) (n:Int) (w:World) (h:Ch one 318 w p (x :: xs)) (h0:0 < n) (h1:n < 4611686018427387904):Calls Tryz.prog 160 #[lst p n] w fun e w' =>
  ∃ q,e = .returned (lst q (n - 1)) ∧ Ch one 318 w' q xs ∧ Below w.heap.size w w':=by
 obtain ⟨b,q,rfl,hb,hh,hr⟩:=h;have hv:w.cell? ⟨b,1,none⟩ = some (.pointer q):=by simp [World.cell?,hh]
 clear hh;have HR:=hdz hr;clear hr;have hb':Below w.heap.size w ((w.alloc (.cells #[.pointer (some ⟨b,0,none⟩),.int .i64 n] 255)).alloc (.cells #[.pointer none,.int .i64 0] 255)):=((Below.refl w.heap.size w).alloc (Nat.le_refl _) _).alloc (by simp) _;have hv1:=hb'.cell (p:=⟨b,1,none⟩) hb;rw [hv] at hv1;clear hv;have HB:=hdz hb';clear hb';go_enter Tryz.func160,Tryz.ntmps160
 go_wp2
 go_region
 all_goals
  go_wp2
  refine bodyPost_ret (v:=lst q (n - 1)) (by simp [results,Tryz.results160,go_sem]) rfl ⟨_,rfl,?_⟩;have hb2:Below w.heap.size w ((w.alloc (.cells #[.pointer (some ⟨b,0,none⟩),.int .i64 n] 255)).alloc (.cells #[.pointer q,.int .i64 (n - 1)] 255)).drew:=(((Below.refl w.heap.size w).alloc (Nat.le_refl _) _).alloc (by simp) _).drew;exact ⟨Ch.stay HR.out hb2,hb2⟩
theorem rest_any (p:Option Addr) (xs:List El) (n:Nat) (w:World) (h:Ch one 318 w p xs) (hn:xs.length = n) (h1:n < 2147483648):Calls Tryz.prog 160 #[lst p n] w fun e w' =>
  ∃ q,e = .returned (lst q ((n - 1:Nat):Int)) ∧ Ch one 318 w' q xs.tail ∧ Below w.heap.size w w':=by
 cases xs with
 | nil =>
  obtain rfl:=h.nil;obtain rfl:n = 0:=hn.symm;exact (rest_nil _ w).mono fun e w' ⟨he,hb⟩ => ⟨none,he,rfl,hb⟩
 | cons x xs =>
  refine (rest_cons p x xs n w h (by simp at hn;omega) (by omega)).mono fun e w' ⟨q,he,hc,hb⟩ => ⟨q,?_,hc,hb⟩;rw [he,show ((n - 1:Nat):Int) = (n:Int) - 1 from by simp at hn;omega]
end Go.Proofs.YtmeodbjlmjpnbaaGreat.U.Lt
namespace Go.Proofs.YtmeodbjlmjpnbaaGreat.U.Lt
open Go.Sort Go.RowKit Go.Shelf
attribute [local go_sem] Oper.semAt_some
theorem each_tells (p:Option Addr) (xs:List El) (k:Int) (n:Nat) (hn:1 ≤ n) (m:Nat) (w:World) (hm:m ≤ w.heap.size) (h:Chain one 318 m w p xs) :
  Tells Fence.wide n Tryz.prog 257 #[lst p k] one m xs w:=fun l J W hW hJ hY h0 => by
 have hL:Chain one 318 m (W.alloc (.cells #[.pointer p,.int .i64 k] 255)) p xs:=Chain.below ((hW.mono hm).alloc (Nat.le_trans hm hW.size) _) h;have hJ1:=hJ _ _ (.cells #[.pointer p,.int .i64 k] 255) h0;refine callsIn_of_wp Tryz.func257 rfl trivial ?_ rfl;simp only [Tryz.ntmps257,List.size_toArray,List.length_cons,List.length_nil,Nat.reduceAdd,Nat.reduceSub,Array.replicate_succ,Array.replicate_zero,List.push_toArray,List.append_toArray,List.nil_append,List.cons_append];have HL:=hdz hL;have HJ:=hdz hJ1;have HY:=hdz hY;clear hL hJ1 hY h0 h hJ;gi_wp2
 gi_loopw [4] (fun c wr => ∃ (pre rest:List El) (q:Option Addr),c = .pointer q ∧ xs = pre ++ rest ∧ Chain one 318 m wr q rest ∧ J pre wr)
  (fun c wr => left one 318 m wr c)
 case atStart =>
  exact ⟨[],xs,p,rfl,rfl,HL.out,HJ.out⟩
 case round =>
  obtain ⟨pre,rest,q,rfl,hx,hl,hJs⟩:=hrel
  cases rest with
  | nil =>
   obtain rfl:q = none:=hl;gi_wp2
   go_end0
   rw [hx,List.append_nil];exact ⟨⟨_,rfl⟩,hJs⟩
  | cons x rest =>
   have hl':=hl;obtain ⟨b,q',rfl,hb,hh,hr⟩:=hl;have hv:wr.cell? ⟨b,0,none⟩ = some (one x):=by simp [World.cell?,hh]
   have hq:wr.cell? ⟨b,1,none⟩ = some (.pointer q'):=by simp [World.cell?,hh]
   obtain ⟨fn,tmps,assign,body,hy,hR⟩:=HY.out pre x wr hJs (by rw [hx];simp);gi_wp2
   refine hR.mono ?_;rintro e W3 ⟨rfl,hJ3,hk3⟩;have hq3:W3.cell? ⟨b,1,none⟩ = some (.pointer q'):=(hk3.cell (p:=⟨b,1,none⟩) hb).trans hq;gi_wp2
   go_roundw
   case rel => exact ⟨pre ++ [x],rest,q',rfl,by simp [hx],Chain.below hk3 hr,hJ3⟩
   case measure => rw [left_eq (Chain.below hk3 hr),left_eq hl'];simp
def OntoRel (w:World) (ys:List El) (k:Int) (pre:List El) (W:World):Prop :=
 ∃ q,Box2 W (w.heap.size + 1) 255 (.pointer q) (.int .i64 (k + pre.length)) ∧ Ch one 318 W q (pre.reverse ++ ys) ∧ Box2 W (w.heap.size + 1 + 1) 255 (.pointer none) (.int .i64 0) ∧ Below w.heap.size w W
theorem ontoRel_own (w:World) (ys:List El) (k:Int) (B:Nat) (hB:w.heap.size ≤ B):OwnFrom B (OntoRel w ys k):=by
 rintro s A C row ⟨q,h1,h2,h3,h4⟩ hg hr;refine ⟨q,h1.kept hg (fun r e => (hr r e).2),h2.own hg (fun r e => (hr r e).2),h3.kept hg (fun r e => (hr r e).2),h4.grown hg h4.size (fun r e => Nat.le_trans hB (hr r e).1)⟩
theorem onto_any (p q:Option Addr) (xs ys:List El) (j k:Int) (w:World) (hp:Ch one 318 w p xs) (hq:Ch one 318 w q ys) (h0:0 ≤ k) (h1:k < 2147483648) (h2:xs.length < 2147483648) :
  Calls Tryz.prog 329 #[lst p j,lst q k] w fun e w' =>
   ∃ r,e = .returned (lst r (k + xs.length)) ∧ Ch one 318 w' r (xs.reverse ++ ys) ∧ Below w.heap.size w w':=by
 refine (callsIn_wide (n:=3)).1 ?_;refine callsIn_of_wp_marks Tryz.func329 rfl trivial ?_ rfl;simp only [Tryz.ntmps329,List.size_toArray,List.length_cons,List.length_nil,Nat.reduceAdd,Nat.reduceSub,Array.replicate_succ,Array.replicate_zero,List.push_toArray,List.append_toArray,List.nil_append,List.cons_append];have HP:=hdz hp;have HQ:=hdz hq;clear hp hq;gi_wp2
 have hB0:Below w.heap.size w (((w.alloc (.cells #[.pointer p,.int .i64 j] 255)).alloc (.cells #[.pointer q,.int .i64 k] 255)).alloc (.cells #[.pointer none,.int .i64 0] 255)):=(((Below.refl _ w).alloc (Nat.le_refl _) _).alloc (by simp) _).alloc (by simp;omega) _;have bM:=(Box2.new (w.alloc (.cells #[.pointer p,.int .i64 j] 255)) 255 (.pointer q) (.int .i64 k)).alloc (.cells #[.pointer none,.int .i64 0] 255);have bR:=Box2.new ((w.alloc (.cells #[.pointer p,.int .i64 j] 255)).alloc (.cells #[.pointer q,.int .i64 k] 255)) 255 (.pointer none) (.int .i64 0);simp only [World.size_alloc] at bM bR;have HT:=each_tells p xs j (3 - 1) (by omega) w.heap.size _ hB0.size (Chain.below hB0 HP.out);have hcq:=HQ.out.stay hB0
 refine range_bound rfl (by omega) (gf := 257) (fs:=#[lst p j]) rfl trivial (enters_of Tryz.func257 (by kernel_rfl) rfl) HT hB0.size (OntoRel w ys k) (ontoRel_own w ys k _ hB0.size)
  ⟨q,by simpa using bM,by simpa using hcq,bR,hB0⟩
  (fun x => { tmps:=#[lst p j,lst q k,.pointer (some ⟨w.heap.size,0,none⟩),.pointer (some ⟨w.heap.size + 1,0,none⟩),.pointer (some ⟨w.heap.size + 1 + 1,0,none⟩),one x,lst p j,.func (.func 257) #[lst p j] #[],one x,undef,undef,undef,undef],defers:=[] }) ?assign ?body ?done
 case assign =>
  intro l x W K hK;gi_wp2
  exact hK
 case body =>
  rintro l pre x W ⟨r,hm,hc,hr,hb⟩ hlt;have c0:=hm.c0;have c1:=hm.c1;have HM:=hdz hm;have HC:=hdz hc;have HR:=hdz hr;have HB:=hdz hb;clear hm hc hr hb hcq HT bM bR hB0 HP HQ;gi_wp2_with (refine ⟨trivial,?_⟩;gi_at_call 163;refine (CallsIn.inRound l (callsIn_wide.2 (push_any r _ _ x _ HC.out (by omega) (by omega)))).mono ?_;rintro e w' ⟨b,rfl,hc2,hb2⟩;have d0:=(HM.out.stay hb2).c0;have d1:=(HM.out.stay hb2).c1;have e0:=(HM.out.stay hb2).z0;have e1:=(HM.out.stay hb2).z1)
  have hm2:=HM.out.stay hb2;refine ⟨(keeps_stay hb2).trans (keeps_set2 _ _ _ _ _),below_set2 (hb2.mono HB.out.size) (by omega) _ _,some ⟨b,0,none⟩,?_,?_,(HR.out.stay hb2).aside (by omega) _ _,below_set2 (HB.out.trans (hb2.mono HB.out.size)) (by omega) _ _⟩
  ·rw [show k + ((pre ++ [x]).length:Int) = k + pre.length + 1 by simp;omega];exact hm2.set _ _
  ·rw [show (pre ++ [x]).reverse ++ ys = x :: (pre.reverse ++ ys) by simp];exact hc2.set2 hm2 (by decide) _ _
 case done =>
  rintro D W hD ⟨r,hm,hc,hr,hb⟩ hK;have c0:=hm.c0;have c1:=hm.c1;have d0:=hr.c0;have d1:=hr.c1;have e0:=hr.z0;have e1:=hr.z1;gi_wp2
  have hK2:=(keeps_set2 0 (w.heap.size + 1 + 1) W (.pointer r) (.int .i64 (k + xs.length))).same D _ (Nat.zero_le _) hK rfl;have hr2:=(hr.set (.pointer r) (.int .i64 (k + xs.length))).put (.deferred none) hK2 rfl;have f0:=hr2.c0;have f1:=hr2.c1;refine ⟨by simp,.inl ⟨_,_,rfl,run_takeDeferred hK2,?_⟩⟩;refine ⟨lst r (k + xs.length),by simp [results,Tryz.results329,go_sem,f0,f1],r,rfl,?_,?_⟩
  ·exact (hc.set2 hr (by decide) _ _).own (grownBy_putObj' _ D _) (fun r e => by cases e;exact ⟨_,hK2,rfl⟩)
  ·exact (below_set2 hb (by omega) _ _).trans (belowK_b (w:=w) (Nat.le_refl _) _ D _ _ (by simp at hD;omega) hK2 rfl rfl)
theorem rev_any (p:Option Addr) (xs:List El) (n:Int) (w:World) (h:Ch one 318 w p xs) (h2:xs.length < 2147483648):Calls Tryz.prog 328 #[lst p n] w fun e w' =>
  ∃ q,e = .returned (lst q xs.length) ∧ Ch one 318 w' q xs.reverse ∧ Below w.heap.size w w':=by
 have H:=hdz h;clear h;go_enter Tryz.func328,Tryz.ntmps328
 go_wp2_with fail
 ((with_reducible refine (onto_any p none xs [] n 0 _ ((H.out.alloc _).alloc _) (Ch.none _) (by omega) (by omega) h2).mono ?_);rintro e w1 ⟨q,rfl,hc,hb⟩);have hr:=(Box2.new (w.alloc (.cells #[.pointer p,.int .i64 n] 255)) 255 (.pointer none) (.int .i64 0)).stay hb;rw [World.size_alloc] at hr;have hb1:Below w.heap.size w w1:=(((Below.refl w.heap.size w).alloc (Nat.le_refl _) _).alloc (by simp) _).trans (hb.mono (by simp;omega));rw [List.append_nil] at hc;rw [Int.zero_add];have HC:=hdz hc;have HB:=hdz hb1;have HR:=hdz hr;have d0:=hr.c0;have d1:=hr.c1;have e0:=hr.z0;have e1:=hr.z1;clear hc hb hb1 hr H;go_wp2
 have hr2:=HR.out.set (.pointer q) (.int .i64 xs.length);have f0:=hr2.c0;have f1:=hr2.c1;refine bodyPost_ret (v:=lst q xs.length) (by simp [results,Tryz.results328,go_sem,f0,f1]) rfl ⟨_,rfl,HC.out.set2 HR.out (by decide) _ _,below_set2 HB.out (by omega) _ _⟩
theorem join_any (p q:Option Addr) (xs ys:List El) (n:Int) (k:Int) (w:World) (hp:Ch one 318 w p xs) (hq:Ch one 318 w q ys) (h0:0 ≤ k) (h1:k < 2147483648) (h2:xs.length < 2147483648) :
  Calls Tryz.prog 326 #[lst p n,lst q k] w fun e w' =>
   ∃ r,e = .returned (lst r (k + xs.length)) ∧ Ch one 318 w' r (xs ++ ys) ∧ Below w.heap.size w w':=by
 have HP:=hdz hp;have HQ:=hdz hq;clear hp hq;go_enter Tryz.func326,Tryz.ntmps326
 go_wp2_with fail
 have hB0:Below w.heap.size w (((w.alloc (.cells #[.pointer p,.int .i64 n] 255)).alloc (.cells #[.pointer q,.int .i64 k] 255)).alloc (.cells #[.pointer none,.int .i64 0] 255)):=(((Below.refl _ w).alloc (Nat.le_refl _) _).alloc (by simp) _).alloc (by simp;omega) _;have bL:=((Box2.new w 255 (.pointer p) (.int .i64 n)).alloc (.cells #[.pointer q,.int .i64 k] 255)).alloc (.cells #[.pointer none,.int .i64 0] 255);have bM:=(Box2.new (w.alloc (.cells #[.pointer p,.int .i64 n] 255)) 255 (.pointer q) (.int .i64 k)).alloc (.cells #[.pointer none,.int .i64 0] 255);have bR:=Box2.new ((w.alloc (.cells #[.pointer p,.int .i64 n] 255)).alloc (.cells #[.pointer q,.int .i64 k] 255)) 255 (.pointer none) (.int .i64 0);simp only [World.size_alloc] at bM bR;generalize (((w.alloc (.cells #[.pointer p,.int .i64 n] 255)).alloc (.cells #[.pointer q,.int .i64 k] 255)).alloc (.cells #[.pointer none,.int .i64 0] 255)) = W3 at *;have HP3:=hdz (HP.out.stay hB0).drew;have HQ3:=hdz (HQ.out.stay hB0).drew;have HB3:=hdz hB0.drew;have BL:=hdz (show Box2 W3.drew _ _ _ _ from bL);have BM:=hdz (show Box2 W3.drew _ _ _ _ from bM);have BR:=hdz (show Box2 W3.drew _ _ _ _ from bR);have g0:=bL.c0;have g1:=bL.c1;have g2:=bM.c0;have g3:=bM.c1;clear hB0 bL bM bR HP HQ;generalize hx0:w.heap.size = m0 at *;generalize hx2:m0 + 1 + 1 = m2 at *;generalize hx1:m0 + 1 = m1 at *;have n02:m0 ≠ m2:=by omega
 have n12:m1 ≠ m2:=by omega
 have HM:=hdz (show m0 ≤ m2 by omega);have HX:=hdz hx0;clear hx0 hx1 hx2
 go_region_held3 (fun w' => w'.cell? ⟨m0,0,none⟩ = some (.pointer p) ∧ w'.cell? ⟨m0,1,none⟩ = some (.int .i64 n) ∧ w'.cell? ⟨m1,0,none⟩ = some (.pointer q) ∧ w'.cell? ⟨m1,1,none⟩ = some (.int .i64 k)) (first | go_keep | exact ⟨cell_aside n02 l0 _ _,cell_aside n02 l1 _ _,cell_aside n12 l2 _ _,cell_aside n12 l3 _ _⟩)
  (first | (go_at_call 328;((with_reducible refine (rev_any p xs n _ HP3.out h2).mono ?_);rintro e w4 ⟨r,rfl,hc4,hb4⟩;have HC4:=hdz hc4;have HB4:=hdz hb4;have k0:=(BL.out.stay hb4).c0;have k1:=(BL.out.stay hb4).c1;have k2:=(BM.out.stay hb4).c0;have k3:=(BM.out.stay hb4).c1;clear hc4 hb4)) | (go_at_call 329;((with_reducible refine (onto_any r q xs.reverse ys _ k _ HC4.out (HQ3.out.stay HB4.out) h0 h1 (by simpa using h2)).mono ?_);rintro e w5 ⟨r5,rfl,hc5,hb5⟩;have HC5:=hdz hc5;have HB5:=hdz hb5;have l0:=((BL.out.stay HB4.out).stay hb5).c0;have l1:=((BL.out.stay HB4.out).stay hb5).c1;have l2:=((BM.out.stay HB4.out).stay hb5).c0;have l3:=((BM.out.stay HB4.out).stay hb5).c1;have d0:=((BR.out.stay HB4.out).stay hb5).c0;have d1:=((BR.out.stay HB4.out).stay hb5).c1;have e0:=((BR.out.stay HB4.out).stay hb5).z0;have e1:=((BR.out.stay HB4.out).stay hb5).z1;clear hc5 hb5)))
 clear g0 g1 g2 g3 k0 k1 k2 k3 l0 l1 l2 l3 d0 d1 e0 e1;go_wp2
 have hr5:=(BR.out.stay HB4.out).stay HB5.out;have hr6:=hr5.set (.pointer r5) (.int .i64 (k + xs.length));have f0:=hr6.c0;have f1:=hr6.c1;have hc5:=HC5.out;rw [List.reverse_reverse] at hc5;refine bodyPost_ret (v:=lst r5 (k + xs.length)) (by simp [results,Tryz.results326,go_sem,f0,f1]) rfl ⟨r5,rfl,hc5.set2 hr5 (by decide) _ _,?_⟩;have hs:=HB3.out.size;have hs4:=HB4.out.size;rw [HX.out] at hs ⊢;exact below_set2 ((HB3.out.trans (HB4.out.mono hs)).trans (HB5.out.mono (Nat.le_trans hs hs4))) HM.out _ _
end Go.Proofs.YtmeodbjlmjpnbaaGreat.U.Lt
namespace Go.Proofs.YtmeodbjlmjpnbaaGreat.U.Lt
open Go.Sort Go.RowKit
def DropRel (w:World) (n:Int) (xs:List El) (m0 m1:Nat) (v:Value) (W:World):Prop :=
 ∃ (i L:Nat) (q:Option Addr),v = .int .i64 (n - i) ∧ L = xs.length - i ∧ i ≤ xs.length ∧ (0 < i → (i:Int) ≤ n) ∧ Box2 W m0 255 (.pointer q) (.int .i64 L) ∧ Ch one 318 W q (xs.drop i) ∧ Box2 W m1 255 (.pointer none) (.int .i64 0) ∧ Below w.heap.size w W
theorem drop_any (p:Option Addr) (xs:List El) (n:Int) (w:World) (h:Ch one 318 w p xs) (h2:xs.length < 2147483648) (hn0 : -9223372036854775808 ≤ n) (hn1:n < 9223372036854775808) :
  Calls Tryz.prog 162 #[lst p xs.length,.int .i64 n] w fun e w' =>
   ∃ q,e = .returned (lst q ((xs.length - n.toNat:Nat):Int)) ∧ Ch one 318 w' q (xs.drop n.toNat) ∧ Below w.heap.size w w':=by
 have H:=hdz h;clear h;go_enter Tryz.func162,Tryz.ntmps162
 go_wp2_with fail
 have hB0:Below w.heap.size w ((w.alloc (.cells #[.pointer p,.int .i64 xs.length] 255)).alloc (.cells #[.pointer none,.int .i64 0] 255)):=((Below.refl _ w).alloc (Nat.le_refl _) _).alloc (by simp) _;have bL:=(Box2.new w 255 (.pointer p) (.int .i64 xs.length)).alloc (.cells #[.pointer none,.int .i64 0] 255);have bR:=Box2.new (w.alloc (.cells #[.pointer p,.int .i64 xs.length] 255)) 255 (.pointer none) (.int .i64 0);simp only [World.size_alloc] at bR;have H0:=hdz (show DropRel w n xs w.heap.size (w.heap.size + 1) (.int .i64 n) _ from ⟨0,xs.length,p,by simp,by simp,Nat.zero_le _,by omega,bL,H.out.stay hB0,bR,hB0⟩);clear hB0 bL bR H;go_loopw [1] (fun v wr => DropRel w n xs w.heap.size (w.heap.size + 1) v wr) (fun v _ => (intOf v).toNat)
 case atStart => exact H0.out
 case round =>
  clear H0;obtain ⟨i,L,q,rfl,hL,hi,hin,hbl,hc,hbr,hb⟩:=hrel;have HL:=hdz hbl;have HR:=hdz hbr;have HC:=hdz hc;have HB:=hdz hb;have HN:=hdz hL;have c0:=hbl.c0;have c1:=hbl.c1;clear hbl hbr hc hb hL;by_cases hpos:0 < n - i
  ·have g1:decide (0 < n - (i:Int)) = true:=by simpa using hpos
   cases hd:xs.drop i with
   | nil =>
    have hc:=HC.out;rw [hd] at hc;obtain rfl:=hc.nil;have hlen:xs.length ≤ i:=by simpa using hd
    have d0:=HR.out.c0;have d1:=HR.out.c1;have e0:=HR.out.z0;have e1:=HR.out.z1;clear hc;go_wp2_with fail
    have hr2:=HR.out.set (.pointer none) (.int .i64 L);have f0:=hr2.c0;have f1:=hr2.c1;refine bodyPost_ret (v:=lst none L) (by simp [results,Tryz.results162,go_sem,f0,f1]) rfl ⟨none,?_,?_,below_set2 HB.out (by omega) _ _⟩
    ·rw [show L = xs.length - n.toNat from by have:=HN.out;omega]
    ·rw [List.drop_eq_nil_of_le (by omega:xs.length ≤ n.toNat)];exact Ch.none _
   | cons x rest =>
    have hc:=HC.out;rw [hd] at hc;obtain ⟨b,q',rfl, -⟩:=id hc
    have hlen:i < xs.length:=by
     have:=congrArg List.length hd;simp at this;omega
    have hrest:rest = xs.drop (i + 1):=by
     have:=congrArg List.tail hd;simpa using this.symm
    have HC2:=hdz hc;have HT:=hdz hrest;have HI:=hdz hin;have H1:=hdz hlen;clear hc hrest hin hlen hd;go_wp2_with fail
    ((with_reducible refine (rest_cons _ x rest L _ HC2.out (by have:=HN.out;have:=H1.out;omega) (by have:=HN.out;omega)).mono ?_);rintro e w2 ⟨q2,rfl,hc2,hb2⟩);have hl2:=HL.out.stay hb2;have d0:=hl2.c0;have d1:=hl2.c1;have e0:=hl2.z0;have e1:=hl2.z1;have HL2:=hdz hl2;have HC3:=hdz hc2;have HB2:=hdz hb2;clear hl2 hc2 hb2;go_wp2_with fail
    go_roundw
    case rel =>
     refine ⟨i + 1,L - 1,q2,by go_num,by have:=HN.out;omega,H1.out,fun _ => by omega,?_,?_,(HR.out.stay HB2.out).aside (by omega) _ _,below_set2 (HB.out.trans (HB2.out.mono HB.out.size)) (Nat.le_refl _) _ _⟩
     ·rw [show ((L - 1:Nat):Int) = (L:Int) - 1 from by have:=HN.out;have:=H1.out;omega];exact HL2.out.set _ _
     ·rw [← HT.out];exact HC3.out.set2 HL2.out (by decide) _ _
    case measure => simp [intOf];omega
  ·have g1:decide (0 < n - (i:Int)) = false:=by simpa using hpos
   have d0:=HR.out.c0;have d1:=HR.out.c1;have e0:=HR.out.z0;have e1:=HR.out.z1;go_wp2_with fail
   have hr2:=HR.out.set (.pointer q) (.int .i64 L);have f0:=hr2.c0;have f1:=hr2.c1;have hin2:i = n.toNat:=by omega
   refine bodyPost_ret (v:=lst q L) (by simp [results,Tryz.results162,go_sem,f0,f1]) rfl ⟨q,?_,?_,below_set2 HB.out (by omega) _ _⟩
   ·rw [show L = xs.length - n.toNat from by have:=HN.out;omega]
   ·rw [← hin2];exact HC.out.set2 HR.out (by decide) _ _
end Go.Proofs.YtmeodbjlmjpnbaaGreat.U.Lt
namespace Go.Proofs.YtmeodbjlmjpnbaaGreat.U.Lt
open Go.Sort Go.RowKit
def OfRel (w:World) (xs:List El) (m0 m1:Nat) (v:Value) (W:World):Prop :=
 ∃ (k L:Nat) (q:Option Addr),v = .int .i64 ((k:Int) - 1) ∧ k ≤ xs.length ∧ L = xs.length - k ∧ Box2 W m1 255 (.pointer q) (.int .i64 L) ∧ Ch one 318 W q (xs.drop k) ∧ Box2 W m0 255 (.pointer none) (.int .i64 0) ∧ Below w.heap.size w W
theorem below_drewn (w:World):Below w.heap.size w { w with drawn:=w.drawn + 1 }:=(Below.refl _ _).drew
theorem of_any (A:Option Addr) (xs:List El) (n c:Nat) (w:World) (hn:n = xs.length) (hr:Row1 one w A xs) (h2:xs.length < 2147483648) :
  Calls Tryz.prog 342 #[.slice A n c] w fun e w' =>
   ∃ q,e = .returned (lst q xs.length) ∧ Ch one 318 w' q xs ∧ Below w.heap.size w w':=by
 have HR:=hdz hr;have HN:=hdz hn;have hn2:n < 2147483648:=by omega
 clear hr hn h2;go_enter Tryz.func342,Tryz.ntmps342
 go_wp2_with fail
 have hB0:Below w.heap.size w ((w.alloc (.cells #[.pointer none,.int .i64 0] 255)).alloc (.cells #[.pointer none,.int .i64 0] 255)):=((Below.refl _ w).alloc (Nat.le_refl _) _).alloc (by simp) _;have bL:=(Box2.new w 255 (.pointer none) (.int .i64 0)).alloc (.cells #[.pointer none,.int .i64 0] 255);have bR:=Box2.new (w.alloc (.cells #[.pointer none,.int .i64 0] 255)) 255 (.pointer none) (.int .i64 0);simp only [World.size_alloc] at bR;have H0:=hdz (show OfRel w xs w.heap.size (w.heap.size + 1) (.int .i64 ((n:Int) - 1)) _ from ⟨n,0,none,rfl,by rw [HN.out];exact Nat.le_refl _,by rw [HN.out];simp,bR,by rw [HN.out,List.drop_length];exact Ch.none _,bL,hB0⟩);clear hB0 bL bR;go_loopw [4] (fun v wr => OfRel w xs w.heap.size (w.heap.size + 1) v wr) (fun v _ => (intOf v + 1).toNat)
 case atStart => exact H0.out
 case round =>
  clear H0;obtain ⟨k,L,q,rfl,hk,hL,hbl,hc,hbr,hb⟩:=hrel;have HK:=hdz hk;have HL:=hdz hbl;have HE:=hdz hbr;have HC:=hdz hc;have HB:=hdz hb;have HM:=hdz hL;have c0:=hbl.c0;have c1:=hbl.c1;have hkn:k ≤ n:=by rw [HN.out];exact hk
  clear hbl hbr hc hb hL hk
  cases k with
  | zero =>
   have d0:=HE.out.c0;have d1:=HE.out.c1;have e0:=HE.out.z0;have e1:=HE.out.z1;go_wp2_with fail
   have hr2:=HE.out.set (.pointer q) (.int .i64 L);have f0:=hr2.c0;have f1:=hr2.c1;refine bodyPost_ret (v:=lst q L) (by simp [results,Tryz.results342,go_sem,f0,f1]) rfl ⟨q,?_,?_,below_set2 HB.out (Nat.le_refl _) _ _⟩
   ·rw [show L = xs.length from by have:=HM.out;omega]
   ·have hc:=HC.out;rw [List.drop_zero] at hc;exact hc.set2 HE.out (by decide) _ _
  | succ k =>
   obtain ⟨b,o,rfl,hcell⟩:=HR.out (by have:=HK.out;omega);have hx:=hcell k HK.out;rw [← HB.out.cell (p:=⟨b,o + k,none⟩) (lt_of_cell hx)] at hx;clear hcell;generalize hxe:xs[k]'HK.out = x at hx;have HX:=hdz (show xs.drop k = x :: xs.drop (k + 1) from by rw [List.drop_eq_getElem_cons HK.out,hxe]);clear hxe;rw [show (((k + 1:Nat):Int) - 1) = (k:Int) from by omega];go_wp2_with fail
   have HP:=hdz (fun w h => push_any q (xs.drop (k + 1)) L x w h (by omega) (by have:=HM.out;have:=HN.out;omega));go_region_with (go_at_call 163;((with_reducible refine (HP.out _ HC.out.drew).mono ?_);rintro e w2 ⟨b2,rfl,hc2,hb2⟩;have HC2:=hdz hc2;have HB2:=hdz hb2;have hl2:=HL.out.stay (W':=w2) (below_drewn wr |>.trans hb2);have d0:=hl2.c0;have d1:=hl2.c1;have e0:=hl2.z0;have e1:=hl2.z1;have HL2:=hdz hl2;clear hc2 hb2 hl2))
   all_goals go_wp2_with fail
   all_goals
    have hb2:Below wr.heap.size wr w2:=(below_drewn wr).trans HB2.out;refine ⟨⟨k,L + 1,some ⟨b2,0,none⟩,rfl,by have:=HK.out;omega,by have:=HK.out;have:=HM.out;omega,HL2.out.set _ _,?_,(HE.out.stay hb2).aside (by omega) _ _,below_set2 (HB.out.trans (hb2.mono HB.out.size)) (by omega) _ _⟩,by simp [intOf]⟩;rw [HX.out];exact HC2.out.set2 HL2.out (by decide) _ _
end Go.Proofs.YtmeodbjlmjpnbaaGreat.U.Lt
namespace Go.Proofs.YtmeodbjlmjpnbaaGreat.U.Lt
open Go.Sort Go.RowKit Go.Shelf
attribute [local go_sem] Oper.semAt_some
theorem infoOne:(Tryz.prog.info? 297).map (fun i => (i.zero,i.size,i.bytes)) = some (some (one zero),1,8):=by kernel_rfl
def AllRel (w:World) (B m:Nat) (pre:List El) (W:World):Prop :=
 (∃ v,Boxed W B 390 v ∧ W.ownsRow m 297 1 v pre.length (pre.map one) ∧ True) ∧ Below w.heap.size w W
theorem all_any (p:Option Addr) (xs:List El) (w:World) (hp:Ch one 318 w p xs) (h2:xs.length < 2147483648) :
  Calls Tryz.prog 247 #[lst p xs.length] w fun e w' =>
   ∃ v,e = .returned v ∧ Mine one 297 w' w.heap.size v xs ∧ Below w.heap.size w w':=by
 obtain ⟨i0,hi,hz0,hz1,hz2⟩:=info_parts infoOne;refine (callsIn_wide (n:=3)).1 ?_;refine callsIn_of_wp_marks Tryz.func247 rfl trivial ?_ rfl;simp only [Tryz.ntmps247,List.size_toArray,List.length_cons,List.length_nil,Nat.reduceAdd,Nat.reduceSub,Array.replicate_succ,Array.replicate_zero,List.push_toArray,List.append_toArray,List.nil_append,List.cons_append];have HP:=hdz hp;clear hp;gi_wp2_with (refine wpListIn_make_own _ rfl _ _ 390 rfl w.heap.size 297 i0 (one zero) 1 Tryz.underlying390 hi hz0 hz1 .i64 .i64 (xs.length:Int) xs.length rfl rfl rfl (by rw [hz2];omega) (by unfold maxLen;omega) (by simp) ?_;intro w1 hown hgrow;have hb1:Below (w.alloc (.cells #[.pointer p,.int .i64 xs.length] 255)).heap.size (w.alloc (.cells #[.pointer p,.int .i64 xs.length] 255)) w1:=⟨hgrow.os,hgrow.tape,hgrow.output,hgrow.size,fun k hk => hgrow.block k hk (by simp)⟩;have bL:=((Box2.new w 255 (.pointer p) (.int .i64 xs.length)).stay hb1).alloc (.cells #[.slice (some ⟨w.heap.size + 1,0,none⟩) 0 xs.length] 390);have c0:=bL.c0;have c1:=bL.c1)
 have hs1:=hb1.size;simp only [World.size_alloc] at hs1 hown;have hB0:Below w.heap.size w (w1.alloc (.cells #[.slice (some ⟨w.heap.size + 1,0,none⟩) 0 xs.length] 390)):=(((Below.refl w.heap.size w).alloc (Nat.le_refl _) _).trans (hb1.mono (by simp))).alloc (by omega) _;have bV:=Boxed.new w1 390 (.slice (some ⟨w.heap.size + 1,0,none⟩) 0 xs.length);have HO:=hdz (hown.alloc (.cells #[.slice (some ⟨w.heap.size + 1,0,none⟩) 0 xs.length] 390));have HT:=each_tells p xs xs.length (3 - 1) (by omega) w.heap.size _ hB0.size (Chain.below hB0 HP.out);have HS:=hdz (show w.heap.size + 1 ≤ w1.heap.size from hs1);clear hown hgrow hb1 bL c0 c1 hs1
 refine range_bound rfl (by omega) (gf := 257) (fs:=#[lst p xs.length]) rfl trivial (enters_of Tryz.func257 (by kernel_rfl) rfl) HT hB0.size (AllRel w w1.heap.size w.heap.size)
  (OwnFrom.and (Own.from (holdsRow_own w.heap.size w1.heap.size 390 297 1 (fun pre:List El => pre.length) (fun pre => pre.map one) (fun _ _ => True)) _) (ownFrom_below (Nat.le_refl _) hB0.size))
  ⟨⟨_,bV,HO.out,trivial⟩,hB0⟩
  (fun x => { tmps:=#[lst p xs.length,.pointer (some ⟨w.heap.size,0,none⟩),.slice none 0 0,.pointer (some ⟨w1.heap.size,0,none⟩),one x,.pointer (some ⟨w.heap.size,1,none⟩),.int .i64 xs.length,.slice (some ⟨w.heap.size + 1,0,none⟩) 0 xs.length,lst p xs.length,.func (.func 257) #[lst p xs.length] #[],one x,undef,undef,undef,undef,undef],defers:=[] }) ?assign ?body ?done
 case assign =>
  intro l x W K hK;gi_wp2
  exact hK
 case body =>
  rintro l pre x W ⟨⟨v,hv,hrow, -⟩,hB⟩ hlt;have hc:=hv.cell;clear HT hB0 bV HO HP;gi_wp2_with (gi_at_builtin;refine wpListIn_append_own _ rfl _ _ 390 rfl w.heap.size 297 i0 (one zero) 1 8 Tryz.underlying390 hi hz0 hz1 hz2 rfl (by decide) _ _ _ rfl (hrow.alloc _) ⟨W.heap.size,0,none⟩ 1 1 [one x] rfl rfl (cell_one_new _ _ _) (by simp [Value.oneCell']) (by unfold maxLen;omega) (by omega) (by have:=hB.size;simp;omega) ?_;intro v' w2 hown' hgrow _;obtain ⟨g',cap',rfl⟩:=ownsRow_succ hown';obtain ⟨hv1,hv2,hr2,hk2,hb2⟩:=hv.appended (by decide) hrow hB.size (by have:=HS.out;omega) hown' hgrow;have hc1:=hv1.cell;have hf1:=hv1.frozen)
  exact ⟨hk2.from _,hb2,⟨_,hv2,by simpa using hr2,trivial⟩,hB.trans hb2⟩
 case done =>
  rintro D W hD ⟨⟨v,hv,hrow, -⟩,hB⟩ hK;have hc:=hv.cell;clear HT bV HO HP;gi_wp2
  refine ⟨by simp,.inl ⟨_,_,rfl,run_takeDeferred hK,?_⟩⟩;exact ⟨_,results_tmp rfl _ _ _,v,rfl,ownsRow_putObj hrow _ hK rfl,hB.trans (belowK_b (w:=w) (Nat.le_refl _) W D _ _ (Nat.le_trans hB0.size hD) hK rfl rfl)⟩
end Go.Proofs.YtmeodbjlmjpnbaaGreat.U.Lt
namespace Go.Proofs.YtmeodbjlmjpnbaaGreat.U.Lt
open Go.Sort Go.RowKit
def LL (W:World) (p:Option Addr) (n:Nat) (xs:List El):Prop:=Ch one 318 W p xs ∧ n = xs.length ∧ n < 2147483648
theorem LL.stay {A B:World} {p:Option Addr} {n:Nat} {xs:List El} (h:LL A p n xs) (hb:Below A.heap.size A B):LL B p n xs:=⟨h.1.stay hb,h.2⟩
theorem LL.alloc {A:World} {p:Option Addr} {n:Nat} {xs:List El} (h:LL A p n xs) (o:Obj):LL (A.alloc o) p n xs:=⟨h.1.alloc o,h.2⟩
theorem LL.ch {A:World} {p:Option Addr} {n:Nat} {xs:List El} (h:LL A p n xs):Ch one 318 A p xs:=h.1
theorem LL.len {A:World} {p:Option Addr} {n:Nat} {xs:List El} (h:LL A p n xs):n = xs.length:=h.2.1
theorem LL.lt {A:World} {p:Option Addr} {n:Nat} {xs:List El} (h:LL A p n xs):n < 2147483648:=h.2.2
theorem LL.none (A:World):LL A Option.none 0 []:=⟨Ch.none _,rfl,by decide⟩
def Gives (w:World) (xs:List El) (e:Ending) (w':World):Prop:=∃ q,∃ n:Nat,e = .returned (lst q n) ∧ LL w' q n xs ∧ Below w.heap.size w w'
theorem push_l {w:World} {p:Option Addr} {n:Nat} {xs:List El} (x:El) (h:LL w p n xs) (hn:n + 1 < 2147483648):Calls Tryz.prog 163 #[lst p n,one x] w (Gives w (x :: xs)) :=
 (push_any p xs n x w h.1 (by omega) (by omega)).mono fun e w' ⟨b,he,hc,hb⟩ => ⟨_,n + 1,by rw [he];simp,⟨hc,by rw [h.len];simp,hn⟩,hb⟩
theorem rest_l {w:World} {p:Option Addr} {n:Nat} {xs:List El} (h:LL w p n xs):Calls Tryz.prog 160 #[lst p n] w (Gives w xs.tail) :=
 (rest_any p xs n w h.1 h.len.symm h.lt).mono fun e w' ⟨q,he,hc,hb⟩ => ⟨q,n - 1,he,⟨hc,by rw [h.len];simp,by have:=h.lt;omega⟩,hb⟩
theorem rev_l {w:World} {p:Option Addr} {n:Nat} {xs:List El} (h:LL w p n xs):Calls Tryz.prog 328 #[lst p n] w (Gives w xs.reverse) :=
 (rev_any p xs n w h.1 (by rw [← h.len];exact h.lt)).mono fun e w' ⟨q,he,hc,hb⟩ => ⟨q,n,by rw [he,h.len],⟨hc,by rw [h.len];simp,h.lt⟩,hb⟩
theorem join_l {w:World} {p q:Option Addr} {n k:Nat} {xs ys:List El} (h:LL w p n xs) (h':LL w q k ys) (hk:n + k < 2147483648):Calls Tryz.prog 326 #[lst p n,lst q k] w (Gives w (xs ++ ys)) :=
 (join_any p q xs ys n k w h.1 h'.1 (by omega) (by have:=h'.lt;omega) (by rw [← h.len];exact h.lt)).mono fun e w' ⟨r,he,hc,hb⟩ => ⟨r,n + k,by rw [he,← h.len];simp;omega,⟨hc,by rw [h.len,h'.len];simp,hk⟩,hb⟩
theorem drop_l {w:World} {p:Option Addr} {n:Nat} {xs:List El} (z:Int) (h:LL w p n xs) (h0 : -9223372036854775808 ≤ z) (h1:z < 9223372036854775808):Calls Tryz.prog 162 #[lst p n,.int .i64 z] w (Gives w (xs.drop z.toNat)):=by
 have:=drop_any p xs z w h.1 (by rw [← h.len];exact h.lt) h0 h1;rw [← h.len] at this;exact this.mono fun e w' ⟨q,he,hc,hb⟩ => ⟨q,n - z.toNat,he,⟨hc,by rw [h.len];simp,by have:=h.lt;omega⟩,hb⟩
theorem of_l {w:World} {A:Option Addr} {n c:Nat} {xs:List El} (hn:n = xs.length) (hr:Row1 one w A xs) (h2:n < 2147483648):Calls Tryz.prog 342 #[.slice A n c] w (Gives w xs) :=
 (of_any A xs n c w hn hr (by omega)).mono fun e w' ⟨q,he,hc,hb⟩ => ⟨q,n,by rw [he,hn],⟨hc,hn,h2⟩,hb⟩
theorem all_l {w:World} {p:Option Addr} {n:Nat} {xs:List El} (h:LL w p n xs):Calls Tryz.prog 247 #[lst p n] w fun e w' =>
  ∃ A c,e = .returned (.slice A n c) ∧ Mine one 297 w' w.heap.size (.slice A n c) xs ∧ Row1 one w' A xs ∧ n ≤ c ∧ Below w.heap.size w w':=by
 have:=all_any p xs w h.1 (by rw [← h.len];exact h.lt);rw [← h.len] at this;refine this.mono fun e w' ⟨v,he,hm,hb⟩ => ?_;obtain ⟨A,c,rfl,hr,hc, -, -⟩:=hm.form;rw [← h.len] at he hm hc;exact ⟨A,c,he,hm,hr,hc,hb⟩
end Go.Proofs.YtmeodbjlmjpnbaaGreat.U.Lt
namespace Go.Proofs.YtmeodbjlmjpnbaaGreat.U
open Go.Sort Go.RowKit Go.Proofs.YtmeodbjlmjpnbaaGreat.U.Gn
structure Thing where
 h:Bo.Lh
 a:Nat
def Thing.key (x:Thing):Int × Int:=x.h.key
instance:Gn.Key Thing:=⟨Thing.key⟩
instance:Inhabited Thing:=⟨⟨.nil,0⟩⟩
abbrev Tre:=Gn.Tre Thing
abbrev Wood:=Gn.Wood Thing
def olnk:Option Tre → Option Tre → Option Tre
 | none,b => b
 | some a,none => some a
 | some a,some b => some (lnk a b)
def oskw (y:Thing) (a b:Option Tre):Option Tre:=match olnk a b with
 | none => some (leafT y)
 | some t => some (skw y t)
def lnkN:Option Tre → Option Tre → Nat
 | some _,some _ => 1
 | _,_ => 0
def osize:Option Tre → Nat
 | none => 0
 | some t => t.size
theorem olnk_size (a b:Option Tre):osize (olnk a b) = osize a + osize b:=by
 cases a <;> cases b <;> simp [olnk,osize,lnk_size]
structure Lh where
 ts:List Tre
def Lh.nil:Lh:=⟨[]⟩
def Lh.size (h:Lh):Nat:=bSize h.ts
def Lh.all (h:Lh):List Thing:=bAll h.ts
def Lh.min (h:Lh):Thing × Bool:=bMin h.ts
def Lh.some (h:Lh):Bool:=h.min.2
def Lh.one (x:Thing):Lh:=⟨[leafT x]⟩
def meld (a b:Lh):Lh:=⟨smeld a.ts b.ts⟩
def meldN (a b:Lh):Nat:=smeldN a.ts b.ts
def Lh.insert (h:Lh) (x:Thing):Lh:=⟨sIns h.ts x⟩
def Lh.insC (h:Lh):Nat:=sInsN h.ts
def Lh.insM (h:Lh):Nat:=sInsM h.ts
def Lh.pop (h:Lh):Lh:=⟨sPop h.ts⟩
def Lh.popC (h:Lh):Nat:=sPopN h.ts
def Lh.popM (h:Lh):Nat:=sPopM h.ts
def Lh.tellN (h:Lh):Nat:=h.ts.length - 1
def putC:Lh → List Thing → Nat
 | _,[] => 0
 | h,x :: r => h.insC + putC (h.insert x) r
def putM:Lh → List Thing → Nat
 | _,[] => 0
 | h,x :: r => h.insM + putM (h.insert x) r
theorem fold_ts:∀ (l:List Thing) (h:Lh),(l.foldl Lh.insert h).ts = l.foldl sIns h.ts
 | [],_ => rfl
 | x :: r,h => by rw [List.foldl_cons,List.foldl_cons,fold_ts r (h.insert x)];rfl
theorem Lh.all_length (h:Lh):h.all.length = h.size:=bAll_length _
theorem meld_all (a b:Lh):(meld a b).all.Perm (a.all ++ b.all):=smeld_all _ _
theorem insert_all (h:Lh) (x:Thing):(h.insert x).all.Perm (x :: h.all):=sIns_all _ _
theorem insert_size (h:Lh) (x:Thing):(h.insert x).size = h.size + 1:=sIns_size _ _
theorem insC_le (h:Lh):h.insC ≤ 2:=sInsN_le _
theorem insM_le (h:Lh):h.insM ≤ 2:=(sInsM_le h.ts).1
theorem putC_snoc:∀ (l:List Thing) (h:Lh) (x:Thing),putC h (l ++ [x]) = putC h l + (l.foldl Lh.insert h).insC
 | [],h,x => by simp [putC]
 | y :: l,h,x => by simp only [List.cons_append,putC,List.foldl_cons];rw [putC_snoc l (h.insert y) x];omega
theorem putM_snoc:∀ (l:List Thing) (h:Lh) (x:Thing),putM h (l ++ [x]) = putM h l + (l.foldl Lh.insert h).insM
 | [],h,x => by simp [putM]
 | y :: l,h,x => by simp only [List.cons_append,putM,List.foldl_cons];rw [putM_snoc l (h.insert y) x];omega
theorem put_le:∀ (l:List Thing) (h:Lh),putC h l ≤ 2 * l.length ∧ putM h l ≤ 2 * l.length
 | [],_ => ⟨Nat.le_refl _,Nat.le_refl _⟩
 | x :: r,h => by
  have h1:=put_le r (h.insert x);have h2:=insC_le h;have h3:=insM_le h;simp only [putC,putM,List.length_cons];omega
def Lh.ok (h:Lh):Prop:=sOk h.ts
theorem Lh.size_nil {h:Lh} (hz:h.size = 0):h = .nil:=by
 obtain ⟨l⟩:=h;have:l = []:=bSize_nil hz;subst this;rfl
theorem pop_size (h:Lh):h.pop.size = h.size - 1:=by
 by_cases hne:h.ts = []
 ·unfold Lh.pop Lh.size;rw [hne];rfl
 ·have:=spop_size hne;unfold Lh.pop Lh.size;show bSize (sPop h.ts) = bSize h.ts - 1;omega
theorem trees_size (h:Lh):h.ts.length ≤ h.size:=by
 obtain ⟨l⟩:=h;show l.length ≤ bSize l;induction l with
 | nil => exact Nat.le_refl _
 | cons t r ih => simp only [List.length_cons,bSize,Gn.Tre.size];omega
theorem meldN_size (a b:Lh):meldN a b ≤ a.size + b.size:=by
 have h1:=smeldN_le a.ts b.ts;have h2:=trees_size a;have h3:=trees_size b;unfold meldN;omega
theorem tellN_size (h:Lh):h.tellN ≤ h.size:=by have:=trees_size h;unfold Lh.tellN;omega
theorem pop_counts (h:Lh):h.popC ≤ 2 * h.size ∧ h.popM ≤ 2 * h.size:=by
 obtain ⟨l⟩:=h;match l with
 | [] => exact ⟨Nat.zero_le _,Nat.zero_le _⟩
 | t :: r =>
  have hl:=leastI_lt (l:=t :: r) (by simp);have hk:kidsAt (t :: r) (leastI (t :: r)) = ((t :: r)[leastI (t :: r)]).ks.list.reverse:=by unfold kidsAt;rw [List.getElem?_eq_getElem hl]
  have hb:besAt (t :: r) (leastI (t :: r)) = ((t :: r)[leastI (t :: r)]).bs:=by unfold besAt;rw [List.getElem?_eq_getElem hl]
  have h1:=levT_len (restAt (t :: r) (leastI (t :: r)));have h2:=bmeld_len (kidsAt (t :: r) (leastI (t :: r))) (levT (restAt (t :: r) (leastI (t :: r))));have h3:=trees_size ⟨restAt (t :: r) (leastI (t :: r))⟩;have h4:=(restAt_all hl).length_eq;rw [bAll_length,List.length_append,bAll_length,Gn.Tre.all_length] at h4;have h5:=((t :: r)[leastI (t :: r)]).ks.len_le;have h6:(kidsAt (t :: r) (leastI (t :: r))).length = ((t :: r)[leastI (t :: r)]).ks.len:=by rw [hk,List.length_reverse,Gn.Wood.list_len]
  have h7:=sPutN_le (besAt (t :: r) (leastI (t :: r))) (sBase (t :: r) (leastI (t :: r)));have h8:((t :: r)[leastI (t :: r)]).size = 1 + ((t :: r)[leastI (t :: r)]).bs.length + ((t :: r)[leastI (t :: r)]).ks.size:=rfl;rw [hb] at h7;simp only [Lh.size] at h3;show sPopN (t :: r) ≤ 2 * bSize (t :: r) ∧ sPopM (t :: r) ≤ 2 * bSize (t :: r);simp only [sPopN,sPopM,sBaseN];rw [hb];omega
end Go.Proofs.YtmeodbjlmjpnbaaGreat.U
namespace Go.Proofs.YtmeodbjlmjpnbaaGreat.U
open Go.Sort Go.RowKit Go.Proofs.YtmeodbjlmjpnbaaGreat.U.Gn
def TreeT (t:TypeId):Prop:=t = 322 ∨ t = 332 ∨ t = 334 ∨ t = 259
theorem tree_ne:¬ TreeT 89 := by unfold TreeT;decide
abbrev Kp (W W':World):Prop:=Kpt TreeT W W'
theorem Kp.below {W W':World} (h:Below W.heap.size W W'):Kp W W':=Kpt.below h
def KeyC (W:World) (x:Thing):Prop:=∃ q n z:Value,W.heap[x.a]? = some (.cells #[.int .i64 x.key.1,.int .i64 x.key.2,q,n,z] 259 (0,0))
def BAt (W:World):List Thing → Option Addr → Prop
 | [],p => p = none
 | x :: xs,p => ∃ (b:Nat) (q:Option Addr),p = some ⟨b,0,none⟩ ∧ W.heap[b]? = some (.cells #[.pointer (some ⟨x.a,0,none⟩),.pointer q] 332 (0,0)) ∧ KeyC W x ∧ BAt W xs q
def treeObj (x:Thing) (bp:Option Addr) (r:Int) (kp:Option Addr) (o:Int):Obj :=
 .cells #[.pointer (some ⟨x.a,0,none⟩),.pointer bp,.int .i64 r,.pointer kp,.int .i64 o] 322 (0,0)
def WAt (W:World):Wood → Option Addr → Prop
 | .nil,p => p = none
 | .cons x bs ks rest,p => ∃ (c b:Nat) (q bp kp:Option Addr),p = some ⟨c,0,none⟩ ∧ W.heap[c]? = some (.cells #[.pointer (some ⟨b,0,none⟩),.pointer q] 334 (0,0)) ∧
   W.heap[b]? = some (treeObj x bp ks.len kp (bs.length + ks.size:Nat)) ∧ KeyC W x ∧ BAt W bs bp ∧ WAt W ks kp ∧ WAt W rest q
def NAt (W:World) (b:Nat) (t:Tre):Prop:=∃ (bp kp:Option Addr),W.heap[b]? = some (treeObj t.x bp t.ks.len kp (t.bs.length + t.ks.size:Nat)) ∧ KeyC W t.x ∧ BAt W t.bs bp ∧ WAt W t.ks kp
def TAt (W:World) (p:Option Addr):Option Tre → Prop
 | none => p = none
 | some t => ∃ b,p = some ⟨b,0,none⟩ ∧ NAt W b t
section
variable {W W':World}
theorem KeyC.kp (h:Kp W W') {x:Thing} (hx:KeyC W x):KeyC W' x:=by obtain ⟨q,n,z,hb⟩:=hx;exact ⟨q,n,z,h _ _ _ (.inr (.inr (.inr rfl))) hb⟩
theorem BAt.kp (h:Kp W W'):∀ {xs:List Thing} {p:Option Addr},BAt W xs p → BAt W' xs p
 | [],_,hp => hp
 | _ :: _,_,⟨b,q,e,hb,hx,hr⟩ => ⟨b,q,e,h _ _ _ (.inr (.inl rfl)) hb,hx.kp h,BAt.kp h hr⟩
theorem WAt.kp (h:Kp W W'):∀ {ks:Wood} {p:Option Addr},WAt W ks p → WAt W' ks p
 | .nil,_,hp => hp
 | .cons _ _ _ _,_,⟨c,b,q,bp,kp,e,hc,hb,hx,h1,h2,h3⟩ => ⟨c,b,q,bp,kp,e,h _ _ _ (.inr (.inr (.inl rfl))) hc,h _ _ _ (.inl rfl) hb,hx.kp h,h1.kp h,WAt.kp h h2,WAt.kp h h3⟩
theorem NAt.kp (h:Kp W W') {b:Nat} {t:Tre} (hn:NAt W b t):NAt W' b t:=by
 obtain ⟨bp,kp,hb,hx,h1,h2⟩:=hn;exact ⟨bp,kp,h _ _ _ (.inl rfl) hb,hx.kp h,h1.kp h,h2.kp h⟩
theorem TAt.kp (h:Kp W W') {p:Option Addr} {t:Option Tre} (ht:TAt W p t):TAt W' p t:=by
 cases t with
 | none => exact ht
 | some t => obtain ⟨b,e,hn⟩:=ht;exact ⟨b,e,hn.kp h⟩
theorem NAt.stay {b:Nat} {t:Tre} (hn:NAt W b t) (h:Below W.heap.size W W'):NAt W' b t:=hn.kp (Kp.below h)
theorem TAt.stay {p:Option Addr} {t:Option Tre} (hn:TAt W p t) (h:Below W.heap.size W W'):TAt W' p t:=hn.kp (Kp.below h)
theorem BAt.stay {p:Option Addr} {t:List Thing} (hn:BAt W t p) (h:Below W.heap.size W W'):BAt W' t p:=hn.kp (Kp.below h)
theorem WAt.stay {p:Option Addr} {t:Wood} (hn:WAt W t p) (h:Below W.heap.size W W'):WAt W' t p:=hn.kp (Kp.below h)
theorem NAt.lt {b:Nat} {t:Tre} (hn:NAt W b t):b < W.heap.size:=by obtain ⟨bp,kp,hb, -⟩:=hn;exact lt_of_heap hb
structure Six (W:World) (b:Nat) (x:Thing) (bp:Option Addr) (r:Int) (kp:Option Addr) (o:Int):Prop where
 c0:W.cell? ⟨b,0,none⟩ = some (.pointer (some ⟨x.a,0,none⟩))
 c2:W.cell? ⟨b,1,none⟩ = some (.pointer bp)
 c3:W.cell? ⟨b,2,none⟩ = some (.int .i64 r)
 c4:W.cell? ⟨b,3,none⟩ = some (.pointer kp)
 c5:W.cell? ⟨b,4,none⟩ = some (.int .i64 o)
theorem six {b:Nat} {x:Thing} {bp kp:Option Addr} {r o:Int} (h:W.heap[b]? = some (treeObj x bp r kp o)):Six W b x bp r kp o:=by
 constructor <;> simp [World.cell?,h,treeObj]
theorem Six.below {B:Nat} {b:Nat} {x:Thing} {bp kp:Option Addr} {r o:Int} (h:Six W b x bp r kp o) (hb:Below B W W') (hB:b < B):Six W' b x bp r kp o :=
 ⟨(hb.cell (p:=⟨b,0,none⟩) hB).trans h.c0,(hb.cell (p:=⟨b,1,none⟩) hB).trans h.c2,(hb.cell (p:=⟨b,2,none⟩) hB).trans h.c3,(hb.cell (p:=⟨b,3,none⟩) hB).trans h.c4,(hb.cell (p:=⟨b,4,none⟩) hB).trans h.c5⟩
theorem KeyC.below {B:Nat} {x:Thing} (h:KeyC W x) (hb:Below B W W') (hB:x.a < B):KeyC W' x:=by obtain ⟨q,n,z,e⟩:=h;exact ⟨q,n,z,(hb.block x.a hB).trans e⟩
theorem KeyC.lt {x:Thing} (h:KeyC W x):x.a < W.heap.size:=by obtain ⟨q,n,z,e⟩:=h;exact lt_of_heap e
theorem KeyC.c0 {x:Thing} (h:KeyC W x):W.cell? ⟨x.a,0,none⟩ = some (.int .i64 x.key.1):=by obtain ⟨q,n,z,e⟩:=h;simp [World.cell?,e]
theorem KeyC.c1 {x:Thing} (h:KeyC W x):W.cell? ⟨x.a,1,none⟩ = some (.int .i64 x.key.2):=by obtain ⟨q,n,z,e⟩:=h;simp [World.cell?,e]
theorem KeyC.stay {x:Thing} (h:KeyC W x) (hb:Below W.heap.size W W'):KeyC W' x:=h.below hb h.lt
theorem NAt.key {b:Nat} {t:Tre} (hn:NAt W b t):KeyC W t.x:=by obtain ⟨bp,kp, -,hx, -⟩:=hn;exact hx
end
end Go.Proofs.YtmeodbjlmjpnbaaGreat.U
namespace Go.Proofs.YtmeodbjlmjpnbaaGreat.U
open Go.Sort Go.RowKit Go.Proofs.YtmeodbjlmjpnbaaGreat.U.Gn
abbrev hv (x:Thing):Value := .pointer (some ⟨x.a,0,none⟩)
theorem heapKey_any (x:Thing) (w:World) (hx:KeyC w x):Calls Tryz.prog 212 #[hv x] w fun e w' => e = .returned (el x.key) ∧ Below w.heap.size w w':=by
 have hb1:Below w.heap.size w (w.alloc (.cells #[.int .i64 0,.int .i64 0] 29)):=(Below.refl w.heap.size w).alloc (Nat.le_refl _) _;have h6:=hx.stay hb1;have c0:=h6.c0;have c1:=h6.c1;have HB:=hdz ((Below.refl w.heap.size w).alloc (Nat.le_refl _) (.cells #[.int .i64 x.key.1,.int .i64 x.key.2] 29));clear h6 hx hb1;go_enter Tryz.func212,Tryz.ntmps212
 go_wp2
 refine bodyPost_ret (v:=el x.key) (by simp [results,Tryz.results212,go_sem]) rfl ⟨rfl,?_⟩;exact HB.out
theorem idle (w:World):CallsD Tryz.prog 187 #[] .returning w fun e u' w' => e = .returned (.tuple #[]) ∧ u' = .returning ∧ w' = w:=by
 refine callsD_of_wpS Tryz.func187 rfl fun c₀ cs hu => ?_;apply wpS_region
 cases c₀
 simp_all [wpOpsS,go_sem,recoverD,bodyPostS,results,Tryz.ntmps187,Tryz.results187]
theorem key_any (x:Thing) (w:World) (hx:KeyC w x):Calls Tryz.prog 176 #[hv x] w fun e w' => e = .returned (el x.key) ∧ Below w.heap.size w w':=by
 have hm:∀ (n:Nat) (w:World),(method (n + 1) 125 (.pointer (some ⟨x.a,0,none⟩)) "Key").run Tryz.prog w = .ok (212,.pointer (some ⟨x.a,0,none⟩)) w:=fun _ _ => by kernel_rfl
 have hb0:Below w.heap.size w (w.alloc (.cells #[.int .i64 0,.int .i64 0] 29)):=(Below.refl w.heap.size w).alloc (Nat.le_refl _) _;have HX:=hdz (hx.stay hb0);have HB:=hdz hb0;obtain ⟨p,q,hk⟩:∃ p q,x.key = (p,q):=⟨_,_,rfl⟩;have HK:=hdz hk;clear hx hk hb0;go_enter_defers Tryz.func176,Tryz.ntmps176
 go_wp2_with fail
 ((with_reducible refine (heapKey_any x _ HX.out).mono ?_);rintro e w1 ⟨rfl,hb1⟩);rw [HK.out];have hp:=(PairAt.new w 0 0 29).below hb1 (by simp);have hb:=HB.out.trans (hb1.mono HB.out.size);have hs:=hp.set p q;obtain ⟨e0,e1,f0,f1, -⟩:=hp;clear hb1;clear HB HX;go_wp2_with fail
 refine leaves_cons (f := 187) (args:=#[]) (by simp) (by simp [go_sem]) ?_;refine (idle _).mono ?_;rintro e u' w'' ⟨rfl,rfl,rfl⟩;obtain ⟨k0,k1, -⟩:=hs;have hv:Below w.heap.size w ((w1.setCell ⟨w.heap.size,0,none⟩ (.int .i64 p)).setCell ⟨w.heap.size,1,none⟩ (.int .i64 q)):=(hb.setCell (Nat.le_refl _) _).setCell (Nat.le_refl _) _;simp [Leaves,settle,results,Tryz.results176,go_sem,k0,k1,hv,HK.out]
end Go.Proofs.YtmeodbjlmjpnbaaGreat.U
namespace Go.Proofs.YtmeodbjlmjpnbaaGreat.U
open Go.Sort Go.RowKit Go.Proofs.YtmeodbjlmjpnbaaGreat.U.Gn
def Gave (mo:Option Nat) (c m:Int) (t:Option Tre) (w:World) (e:Ending) (w':World):Prop:=∃ p,e = .returned (.pointer p) ∧ TAt w' p t ∧ MAt w' mo c m ∧ Bt mo w w'
theorem pushT_any (p q:Option Addr) (w:World):Calls Tryz.prog 185 #[.pointer p,.pointer q] w fun e w' =>
  e = .returned (.pointer (some ⟨w.heap.size,0,none⟩)) ∧ w' = w.alloc (.cells #[.pointer p,.pointer q] 334):=by
 go_enter Tryz.func185,Tryz.ntmps185
 go_wp2
 go_ret
 exact ⟨rfl,rfl⟩
theorem pushE_any (x:Thing) (q:Option Addr) (w:World):Calls Tryz.prog 177 #[hv x,.pointer q] w fun e w' =>
  ∃ b,e = .returned (.pointer (some ⟨b,0,none⟩)) ∧ w'.heap[b]? = some (.cells #[.pointer (some ⟨x.a,0,none⟩),.pointer q] 332 (0,0)) ∧ Below w.heap.size w w':=by
 go_enter Tryz.func177,Tryz.ntmps177
 go_wp2
 go_ret
 exact ⟨_,rfl,new_at rfl,bqA _⟩
theorem leaf_any (mo:Option Nat) (c m:Int) (x:Thing) (w:World) (hx:KeyC w x) (h:MAt w mo c m) (h0:0 ≤ m) (h1:m < 4611686018427387904):Calls Tryz.prog 165 #[mAddr mo,hv x] w
  (Gave mo c (m + 1) (some (leafT x)) w):=by
 have H:=hdz h;have HX:=hdz hx;clear h hx;go_enter Tryz.func165,Tryz.ntmps165
 go_wp2_with fail
 ((with_reducible refine (mMade mo c m _ H.out h0 h1).mono ?_);rintro e w1 ⟨rfl,hm,hb⟩);have HM:=hdz hm;have HB:=hdz hb;have HK:=hdz (HX.out.kp (hb.kpt H.out tree_ne));clear hm hb H HX;go_wp2
 go_ret
 exact ⟨_,rfl,⟨w1.heap.size,rfl,none,none,heap_alloc_new w1 _,HK.out.stay (bqA _),rfl,rfl⟩,HM.out.alloc _,HB.out.alloc _⟩
end Go.Proofs.YtmeodbjlmjpnbaaGreat.U
namespace Go.Proofs.YtmeodbjlmjpnbaaGreat.U
open Go.Sort Go.RowKit Go.Proofs.YtmeodbjlmjpnbaaGreat.U.Gn
theorem size_at {b:Nat} {x:Thing} {bp kp:Option Addr} {r o:Int} (w:World) (h:Six w b x bp r kp o) (h0:0 ≤ o) (h1:o < 1073741824) :
  Calls Tryz.prog 186 #[.pointer (some ⟨b,0,none⟩)] w fun e w' => e = .returned (.int .i64 (o + 1)) ∧ w' = w:=by
 have c5:=h.c5;clear h;go_enter Tryz.func186,Tryz.ntmps186
 go_wp2
 go_ret
 exact ⟨rfl,rfl⟩
def orank:Option Tre → Int
 | none => -1
 | some t => t.ks.len
theorem rank_any (p:Option Addr) (t:Option Tre) (w:World) (h:TAt w p t):Calls Tryz.prog 161 #[.pointer p] w fun e w' => e = .returned (.int .i64 (orank t)) ∧ w' = w:=by
 cases t with
 | none =>
  obtain rfl:=h;go_enter Tryz.func161,Tryz.ntmps161
  go_wp2
  go_ret
  exact ⟨rfl,rfl⟩
 | some t =>
  obtain ⟨b,rfl,bp,kp,hb, -⟩:=h;have c3:=(six hb).c3;clear hb;go_enter Tryz.func161,Tryz.ntmps161
  go_wp2
  go_ret
  exact ⟨rfl,rfl⟩
def rootV:Option Tre → Value
 | none => .tuple #[.pointer none,.bool false]
 | some t => .tuple #[hv t.x,.bool true]
theorem root_any (p:Option Addr) (t:Option Tre) (w:World) (h:TAt w p t):Calls Tryz.prog 341 #[.pointer p] w fun e w' => e = .returned (rootV t) ∧ Below w.heap.size w w':=by
 cases t with
 | none =>
  obtain rfl:=h;go_enter Tryz.func341,Tryz.ntmps341
  go_wp2
  refine bodyPost_ret (v:=rootV none) (by simp [results,Tryz.results341,go_sem,rootV]) rfl ⟨rfl,?_⟩;exact Below.refl _ _
 | some t =>
  obtain ⟨b,rfl,bp,kp,hb, -⟩:=h;obtain ⟨x,bs,ks⟩:=t;have h6:=six hb;have c0:=h6.c0;clear hb h6;go_enter Tryz.func341,Tryz.ntmps341
  go_wp2
  refine bodyPost_ret (v:=rootV (some ⟨x,bs,ks⟩)) (by simp [results,Tryz.results341,go_sem,rootV]) rfl ⟨rfl,?_⟩;exact Below.refl _ _
end Go.Proofs.YtmeodbjlmjpnbaaGreat.U
namespace Go.Proofs.YtmeodbjlmjpnbaaGreat.U
open Go.Sort Go.RowKit Go.Proofs.YtmeodbjlmjpnbaaGreat.U.Gn
def one0 (x:Thing):Value := .pointer (some ⟨x.a,0,none⟩)
abbrev OwnT (w:World) (base:Nat) (v:Value) (xs:List Thing):Prop:=Mine one0 125 w base v xs
theorem infoH:(Tryz.prog.info? 125).map (fun i => (i.zero,i.size,i.bytes)) = some (some (.pointer none),1,8):=by kernel_rfl
theorem append_thing (w:World) (base:Nat) (v:Value) (xs:List Thing) (x:Thing) (hown:OwnT w base v xs) (hlen:xs.length < 1073741824) (hb:base ≤ w.heap.size) :
  ∃ v' w',(Builtin.append_ #[382, 382] 382 #[v,.slice (some ⟨w.heap.size,0,none⟩) 1 1]).run Tryz.prog (w.alloc (.cells #[.pointer (some ⟨x.a,0,none⟩)] 125)) = .ok v' w' ∧ OwnT w' base v' (xs ++ [x]) ∧ Below base w w':=by
 obtain ⟨i0,hi,hz0,hz1,hz2⟩:=info_parts infoH;have hown':(w.alloc (.cells #[.pointer (some ⟨x.a,0,none⟩)] 125)).ownsRow base 125 1 v xs.length (xs.map one0):=World.ownsRow.alloc hown _
 obtain ⟨g,c,w',h1,h2,h3, -, -⟩:=run_append_lies (P:=Tryz.prog) (w:=w.alloc (.cells #[.pointer (some ⟨x.a,0,none⟩)] 125)) 382 382 base 125 i0 _ 1 8 Tryz.underlying382 hi hz0 hz1 hz2 rfl (by omega)
  _ xs.length (xs.map one0) hown' ⟨w.heap.size,0,none⟩ 1 1 [.pointer (some ⟨x.a,0,none⟩)] rfl
  (fun j u hu => by
   rw [add_flat];have e1:(w.alloc (.cells #[.pointer (some ⟨x.a,0,none⟩)] 125)).heap[w.heap.size]? = some (.cells #[.pointer (some ⟨x.a,0,none⟩)] 125 (0,0)):=new_at rfl;unfold World.cell?;rw [e1];simpa using hu) (by intro u hu;simp at hu;subst hu;rfl) (by omega) (by unfold maxLen;omega) (by omega) (by simp;omega) _ rfl
 refine ⟨_,w',h1,?_,below_grown ((Below.refl _ _).alloc hb _) h3 (by simp;omega) (fun g hg => hown.block g hg)⟩;unfold OwnT Mine;rw [List.length_append,List.map_append];exact h2
def PutT (base:Nat) (xs:List Thing) (w:World) (e:Ending) (w':World):Prop:=∃ v,e = .returned v ∧ OwnT w' base v xs ∧ Below base w w'
theorem rowOnto_any (w0:World) (bs:List Thing) (p:Option Addr) (hp:BAt w0 bs p) (base:Nat) (hb0:w0.heap.size ≤ base) (v:Value) (ys:List Thing) (w:World) (hW:Below w0.heap.size w0 w) (hbw:base ≤ w.heap.size) (hv:OwnT w base v ys) (hl:ys.length + bs.length < 1073741824) :
  Calls Tryz.prog 264 #[.pointer p,v] w (PutT base (ys ++ bs) w):=by
 go_enter Tryz.func264,Tryz.ntmps264
 go_wp2_with fail
 have H:=hdz (anz hp (anz hv (anz hW hl)));clear hp hv hW hl;go_loopg [0,1] bs.length (fun k c u wr => ∃ (pre rest:List Thing) (q:Option Addr),c = .pointer q ∧ bs = pre ++ rest ∧ k = rest.length ∧ BAt w0 rest q ∧ OwnT wr base u (ys ++ pre) ∧ Below base w wr)
 case atStart => exact ⟨[],bs,p,rfl,rfl,rfl,H.out.1,by rw [List.append_nil];exact H.out.2.1,Below.refl _ _⟩
 case round =>
  obtain ⟨pre,rest,q,rfl,hx,hk,hr,hown,hbe⟩:=hrel;have hbw2:base ≤ wr.heap.size:=Nat.le_trans hbw hbe.size
  cases rest with
  | nil =>
   obtain rfl:=hr;have A:=hdz (anz hx (anz hown hbe));clear hx hown hbe hk;go_wp2_with fail
   go_ret
   obtain ⟨hx,hown,hbe⟩:=A.out;rw [List.append_nil] at hx;exact ⟨_,rfl,by rw [hx];exact hown,hbe⟩
  | cons x rest =>
   obtain ⟨b,q',rfl,hh, -,hr'⟩:=hr;have hb0':Below w0.heap.size w0 wr:=H.out.2.2.1.trans (hbe.mono hb0);have hlt:=lt_of_heap hh;have hh1:=(hb0'.block b hlt).trans hh;have c0:wr.cell? ⟨b,0,none⟩ = some (.pointer (some ⟨x.a,0,none⟩)):=by simp [World.cell?,hh1]
   have hlen:(ys ++ pre).length < 1073741824:=by
    have h1:=congrArg List.length hx;have h2:=H.out.2.2.2;simp only [List.length_append,List.length_cons] at h1 ⊢;omega
   obtain ⟨u',w2,hrun,hown2,hb2⟩:=append_thing wr base _ (ys ++ pre) x hown hlen hbw2;have hb2':Below w0.heap.size w0 w2:=hb0'.trans (hb2.mono hb0);have hh2:=(hb2'.block b hlt).trans hh;have c2:w2.cell? ⟨b,1,none⟩ = some (.pointer q'):=by simp [World.cell?,hh2]
   have A:=hdz (anz hx (anz hown2 (anz (hbe.trans hb2) (anz hr' hk))));clear hx hown hbe hown2 hb2 hb2' hr' hh hh1 hh2 hb0' hk hlen;go_wp2_with (at_builtin;refine wpList_append_run rfl _ _ _ rfl _ _ _ _ rfl rfl hrun ?_)
   obtain ⟨hx,hown2,hbe,hr',hk⟩:=A.out;go_roundg rest.length
   case measure => rw [hk];simp
   case rel => exact ⟨pre ++ [x],rest,q',rfl,by rw [hx];simp,rfl,hr',by rw [← List.append_assoc];exact hown2,hbe⟩
end Go.Proofs.YtmeodbjlmjpnbaaGreat.U
namespace Go.Proofs.YtmeodbjlmjpnbaaGreat.U
open Go.Sort Go.RowKit Go.Proofs.YtmeodbjlmjpnbaaGreat.U.Gn
theorem link_left (mo:Option Nat) (q:Option Addr) (w:World):Calls Tryz.prog 175 #[mAddr mo,.pointer none,.pointer q] w fun e w' => e = .returned (.pointer q) ∧ w' = w:=by
 go_enter Tryz.func175,Tryz.ntmps175
 go_wp2_with fail
 go_ret
 exact ⟨rfl,rfl⟩
theorem link_right (mo:Option Nat) (b:Nat) (w:World):Calls Tryz.prog 175 #[mAddr mo,.pointer (some ⟨b,0,none⟩),.pointer none] w fun e w' => e = .returned (.pointer (some ⟨b,0,none⟩)) ∧ w' = w:=by
 go_enter Tryz.func175,Tryz.ntmps175
 go_wp2_with fail
 go_ret
 exact ⟨rfl,rfl⟩
theorem six_kp {W W':World} {b:Nat} {x:Thing} {bp kp:Option Addr} {r o:Int} (h:W.heap[b]? = some (treeObj x bp r kp o)) (hk:Kp W W'):Six W' b x bp r kp o:=six (hk b _ _ (.inl rfl) h)
structure Tkk (mo:Option Nat) (w:World) (c m:Int) (w':World):Prop where
 bt:Bt mo w w'
 mt:MAt w' mo c m
 kp:Kp w w'
section
variable {mo:Option Nat} {w w' w'':World} {c m c' m':Int}
theorem Tkk.refl (h:MAt w mo c m):Tkk mo w c m w:=⟨Bt.refl _ _,h,Kpt.refl _⟩
theorem Tkk.stay (h:Tkk mo w c m w') (hb:Below w'.heap.size w' w''):Tkk mo w c m w'':=⟨h.bt.trans (Bt.ofBelow hb),h.mt.stay hb,h.kp.trans (Kp.below hb)⟩
theorem Tkk.alloc (h:Tkk mo w c m w') (o:Obj):Tkk mo w c m (w'.alloc o):=h.stay (bqA o)
theorem Tkk.drew (h:Tkk mo w c m w'):Tkk mo w c m w'.drew:=h.stay ((Below.refl _ _).drew)
theorem Tkk.turn (h:Tkk mo w c m w') (hm:MAt w'' mo c' m') (hb:Bt mo w' w''):Tkk mo w c' m' w'':=⟨h.bt.trans hb,hm,h.kp.trans (hb.kpt h.mt tree_ne)⟩
end
theorem link_true (mo:Option Nat) (c m:Int) (a b:Nat) (x y:Thing) (aas bbs:List Thing) (aks bks:Wood) (w:World) (hv:ltE y.key x.key = true) (hm:MAt w mo c m) (h0:0 ≤ c) (h1:c < 2305843009213693952) (h2:0 ≤ m) (h3:m < 2305843009213693952)
  (ha:NAt w a ⟨x,aas,aks⟩) (hb:NAt w b ⟨y,bbs,bks⟩) (ka:1 + aas.length + aks.size < 536870912) (kb:1 + bbs.length + bks.size < 536870912) :
  Calls Tryz.prog 175 #[mAddr mo,.pointer (some ⟨a,0,none⟩),.pointer (some ⟨b,0,none⟩)] w (Gave mo (c + 1) (m + 1) (some ⟨y,bbs,.cons x aas aks bks⟩) w):=by
 obtain ⟨ap,akp,hah,hax,hab,haw⟩:=ha;obtain ⟨bp,bkp,hbh,hbx,hbb,hbw⟩:=hb;have h6:=six_kp hah (Kpt.refl w);have g6:=six_kp hbh (Kpt.refl w);have a0:=h6.c0;have b0:=g6.c0;have HM:=hdz hm;have HA:=hdz hah;have HB:=hdz hbh;have HX:=hdz (anz hax hbx);have HL:=hdz (anz hab (anz haw (anz hbb hbw)));have HV:=hdz hv;have HK:=hdz (anz ka kb);have HR:=hdz (anz aks.len_le bks.len_le);clear hm hah hbh hax hbx hab haw hbb hbw h6 g6 hv ka kb;go_enter Tryz.func175,Tryz.ntmps175
 go_wp2_with fail
 go_region_held3 (fun w' => w'.cell? ⟨a,0,none⟩ = some (.pointer (some ⟨x.a,0,none⟩)) ∧ w'.cell? ⟨b,0,none⟩ = some (.pointer (some ⟨y.a,0,none⟩))) (go_keep)
  (first | (go_at_call 140;((with_reducible refine (mLess mo c m y.key x.key _ K2.out.mt h0 (by omega)).mono ?_);rintro e w3 ⟨rfl,hm3,hb3⟩;rw [HV.out];have K3:=hdz (K2.out.turn hm3 hb3);have f0:=(six_kp HA.out K3.out.kp).c0;have f2:=(six_kp HB.out K3.out.kp).c0;clear hm3 hb3)) | (go_at_call 176;((with_reducible refine (key_any y _ (HX.out.2.stay ((Below.refl _ _).drew))).mono ?_);rintro e w1 ⟨rfl,hb1⟩;have K1:=hdz ((Tkk.refl HM.out).drew.stay hb1);have d0:=(six_kp HA.out K1.out.kp).c0;have d2:=(six_kp HB.out K1.out.kp).c0;clear hb1)) | (go_at_call 176;((with_reducible refine (key_any x _ (HX.out.1.kp K1.out.kp)).mono ?_);rintro e w2 ⟨rfl,hb2⟩;have K2:=hdz (K1.out.stay hb2);have e0:=(six_kp HA.out K2.out.kp).c0;have e2:=(six_kp HB.out K2.out.kp).c0;clear hb2)))
 clear a0 b0 d0 d2 e0 e2 f0 f2 K1 K2 HM;go_wp2_with fail
 ((with_reducible refine (mMade mo (c + 1) m _ K3.out.mt h2 (by omega)).mono ?_);rintro e w4 ⟨rfl,hm4,hb4⟩);have K4:=hdz (K3.out.turn hm4 hb4);clear hm4 hb4 K3;have s6:=six_kp HB.out K4.out.kp;have c0:=s6.c0;have c2:=s6.c2;have c3:=s6.c3;have c4:=s6.c4;have c5:=s6.c5;clear s6;go_wp2_with fail
 go_region_held3 (fun w' => w'.cell? ⟨b,0,none⟩ = some (.pointer (some ⟨y.a,0,none⟩)) ∧ w'.cell? ⟨b,1,none⟩ = some (.pointer bp) ∧ w'.cell? ⟨b,2,none⟩ = some (.int .i64 (bks.len:Int)) ∧ w'.cell? ⟨b,3,none⟩ = some (.pointer bkp) ∧ w'.cell? ⟨b,4,none⟩ = some (.int .i64 (bbs.length + bks.size:Nat))) (go_keep)
  (first | (go_at_call 185;((with_reducible refine (pushT_any (some ⟨a,0,none⟩) bkp _).mono ?_);rintro e w5 ⟨rfl,hw5⟩;have P5:=hdz (show w5.heap[w4.drew.heap.size]? = some (.cells #[.pointer (some ⟨a,0,none⟩),.pointer bkp] 334 (0,0)) by rw [hw5];exact new_at rfl);have K5:=hdz (show Tkk mo w (c + 1) (m + 1) w5 by rw [hw5];exact K4.out.drew.alloc _);have s6:=six_kp HB.out K5.out.kp;have d0:=s6.c0;have d2:=s6.c2;have d3:=s6.c3;have d4:=s6.c4;have d5:=s6.c5;clear hw5 s6)) | (go_at_call 186;((with_reducible refine (size_at _ (six_kp HA.out K5.out.kp) (by omega) (by have:=HK.out;omega)).mono ?_);rintro e w6 ⟨rfl,rfl⟩)))
 clear c0 c2 c3 c4 c5 d0 d2 d3 d4 d5;go_wp2_with fail
 go_ret
 obtain ⟨ka,kb⟩:=HK.out;obtain ⟨ra,rb⟩:=HR.out;have e1:IntKind.i64.wrap ((bks.len:Int) + 1) = ((Gn.Wood.cons x aas aks bks).len:Int):=by rw [IntKind.wrap_i64];simp only [Gn.Wood.len];omega
 have e2:IntKind.i64.wrap ((bbs.length:Int) + bks.size + ((aas.length:Int) + aks.size + 1)) = ((bbs.length + (Gn.Wood.cons x aas aks bks).size:Nat):Int):=by rw [IntKind.wrap_i64];simp only [Gn.Wood.size];omega
 rw [e1,e2];obtain ⟨hab,haw,hbb,hbw⟩:=HL.out;have hk:=(K5.out.alloc (treeObj y bp ((Gn.Wood.cons x aas aks bks).len:Int) (some ⟨w4.heap.size,0,none⟩) ((bbs.length + (Gn.Wood.cons x aas aks bks).size:Nat):Int)));refine ⟨_,rfl,⟨w6.heap.size,rfl,bp,some ⟨w4.heap.size,0,none⟩,new_at rfl,HX.out.2.kp hk.kp,(hbb).kp hk.kp,⟨w4.heap.size,a,bkp,ap,akp,rfl,?_,hk.kp _ _ _ (.inl rfl) HA.out,HX.out.1.kp hk.kp,(hab).kp hk.kp,(haw).kp hk.kp,(hbw).kp hk.kp⟩⟩,hk.mt,hk.bt⟩;exact (Kp.below (bqA _)) _ _ _ (.inr (.inr (.inl rfl))) P5.out
theorem link_false (mo:Option Nat) (c m:Int) (a b:Nat) (x y:Thing) (aas bbs:List Thing) (aks bks:Wood) (w:World) (hv:ltE y.key x.key = false) (hm:MAt w mo c m) (h0:0 ≤ c) (h1:c < 2305843009213693952) (h2:0 ≤ m) (h3:m < 2305843009213693952)
  (ha:NAt w a ⟨x,aas,aks⟩) (hb:NAt w b ⟨y,bbs,bks⟩) (ka:1 + aas.length + aks.size < 536870912) (kb:1 + bbs.length + bks.size < 536870912) :
  Calls Tryz.prog 175 #[mAddr mo,.pointer (some ⟨a,0,none⟩),.pointer (some ⟨b,0,none⟩)] w (Gave mo (c + 1) (m + 1) (some ⟨x,aas,.cons y bbs bks aks⟩) w):=by
 obtain ⟨ap,akp,hah,hax,hab,haw⟩:=ha;obtain ⟨bp,bkp,hbh,hbx,hbb,hbw⟩:=hb;have h6:=six_kp hah (Kpt.refl w);have g6:=six_kp hbh (Kpt.refl w);have a0:=h6.c0;have b0:=g6.c0;have HM:=hdz hm;have HA:=hdz hah;have HB:=hdz hbh;have HX:=hdz (anz hax hbx);have HL:=hdz (anz hab (anz haw (anz hbb hbw)));have HV:=hdz hv;have HK:=hdz (anz ka kb);have HR:=hdz (anz aks.len_le bks.len_le);clear hm hah hbh hax hbx hab haw hbb hbw h6 g6 hv ka kb;go_enter Tryz.func175,Tryz.ntmps175
 go_wp2_with fail
 go_region_held3 (fun w' => w'.cell? ⟨a,0,none⟩ = some (.pointer (some ⟨x.a,0,none⟩)) ∧ w'.cell? ⟨b,0,none⟩ = some (.pointer (some ⟨y.a,0,none⟩))) (go_keep)
  (first | (go_at_call 140;((with_reducible refine (mLess mo c m y.key x.key _ K2.out.mt h0 (by omega)).mono ?_);rintro e w3 ⟨rfl,hm3,hb3⟩;rw [HV.out];have K3:=hdz (K2.out.turn hm3 hb3);have f0:=(six_kp HA.out K3.out.kp).c0;have f2:=(six_kp HB.out K3.out.kp).c0;clear hm3 hb3)) | (go_at_call 176;((with_reducible refine (key_any y _ (HX.out.2.stay ((Below.refl _ _).drew))).mono ?_);rintro e w1 ⟨rfl,hb1⟩;have K1:=hdz ((Tkk.refl HM.out).drew.stay hb1);have d0:=(six_kp HA.out K1.out.kp).c0;have d2:=(six_kp HB.out K1.out.kp).c0;clear hb1)) | (go_at_call 176;((with_reducible refine (key_any x _ (HX.out.1.kp K1.out.kp)).mono ?_);rintro e w2 ⟨rfl,hb2⟩;have K2:=hdz (K1.out.stay hb2);have e0:=(six_kp HA.out K2.out.kp).c0;have e2:=(six_kp HB.out K2.out.kp).c0;clear hb2)))
 clear a0 b0 d0 d2 e0 e2 f0 f2 K1 K2 HM;go_wp2_with fail
 ((with_reducible refine (mMade mo (c + 1) m _ K3.out.mt h2 (by omega)).mono ?_);rintro e w4 ⟨rfl,hm4,hb4⟩);have K4:=hdz (K3.out.turn hm4 hb4);clear hm4 hb4 K3;have s6:=six_kp HA.out K4.out.kp;have c0:=s6.c0;have c2:=s6.c2;have c3:=s6.c3;have c4:=s6.c4;have c5:=s6.c5;clear s6;go_wp2_with fail
 go_region_held3 (fun w' => w'.cell? ⟨a,0,none⟩ = some (.pointer (some ⟨x.a,0,none⟩)) ∧ w'.cell? ⟨a,1,none⟩ = some (.pointer ap) ∧ w'.cell? ⟨a,2,none⟩ = some (.int .i64 (aks.len:Int)) ∧ w'.cell? ⟨a,3,none⟩ = some (.pointer akp) ∧ w'.cell? ⟨a,4,none⟩ = some (.int .i64 (aas.length + aks.size:Nat))) (go_keep)
  (first | (go_at_call 185;((with_reducible refine (pushT_any (some ⟨b,0,none⟩) akp _).mono ?_);rintro e w5 ⟨rfl,hw5⟩;have P5:=hdz (show w5.heap[w4.drew.heap.size]? = some (.cells #[.pointer (some ⟨b,0,none⟩),.pointer akp] 334 (0,0)) by rw [hw5];exact new_at rfl);have K5:=hdz (show Tkk mo w (c + 1) (m + 1) w5 by rw [hw5];exact K4.out.drew.alloc _);have s6:=six_kp HA.out K5.out.kp;have d0:=s6.c0;have d2:=s6.c2;have d3:=s6.c3;have d4:=s6.c4;have d5:=s6.c5;clear hw5 s6)) | (go_at_call 186;((with_reducible refine (size_at _ (six_kp HB.out K5.out.kp) (by omega) (by have:=HK.out;omega)).mono ?_);rintro e w6 ⟨rfl,rfl⟩)))
 clear c0 c2 c3 c4 c5 d0 d2 d3 d4 d5;go_wp2_with fail
 go_ret
 obtain ⟨ka,kb⟩:=HK.out;obtain ⟨ra,rb⟩:=HR.out;have e1:IntKind.i64.wrap ((aks.len:Int) + 1) = ((Gn.Wood.cons y bbs bks aks).len:Int):=by rw [IntKind.wrap_i64];simp only [Gn.Wood.len];omega
 have e2:IntKind.i64.wrap ((aas.length:Int) + aks.size + ((bbs.length:Int) + bks.size + 1)) = ((aas.length + (Gn.Wood.cons y bbs bks aks).size:Nat):Int):=by rw [IntKind.wrap_i64];simp only [Gn.Wood.size];omega
 rw [e1,e2];obtain ⟨hab,haw,hbb,hbw⟩:=HL.out;have hk:=(K5.out.alloc (treeObj x ap ((Gn.Wood.cons y bbs bks aks).len:Int) (some ⟨w4.heap.size,0,none⟩) ((aas.length + (Gn.Wood.cons y bbs bks aks).size:Nat):Int)));refine ⟨_,rfl,⟨w6.heap.size,rfl,ap,some ⟨w4.heap.size,0,none⟩,new_at rfl,HX.out.1.kp hk.kp,(hab).kp hk.kp,⟨w4.heap.size,b,akp,bp,bkp,rfl,?_,hk.kp _ _ _ (.inl rfl) HB.out,HX.out.2.kp hk.kp,(hbb).kp hk.kp,(hbw).kp hk.kp,(haw).kp hk.kp⟩⟩,hk.mt,hk.bt⟩;exact (Kp.below (bqA _)) _ _ _ (.inr (.inr (.inl rfl))) P5.out
theorem link_two (mo:Option Nat) (c m:Int) (a b:Nat) (ta tb:Tre) (w:World) (hm:MAt w mo c m) (h0:0 ≤ c) (h1:c < 2305843009213693952) (h2:0 ≤ m) (h3:m < 2305843009213693952)
  (ha:NAt w a ta) (hb:NAt w b tb) (ka:ta.size < 536870912) (kb:tb.size < 536870912) :
  Calls Tryz.prog 175 #[mAddr mo,.pointer (some ⟨a,0,none⟩),.pointer (some ⟨b,0,none⟩)] w (Gave mo (c + 1) (m + 1) (some (lnk ta tb)) w):=by
 obtain ⟨x,aas,aks⟩:=ta;obtain ⟨y,bbs,bks⟩:=tb
 cases hv:ltE y.key x.key with
 | true =>
  rw [show lnk ⟨x,aas,aks⟩ ⟨y,bbs,bks⟩ = ⟨y,bbs,.cons x aas aks bks⟩ from lnk_lt hv];exact link_true mo c m a b x y aas bbs aks bks w hv hm h0 h1 h2 h3 ha hb ka kb
 | false =>
  rw [show lnk ⟨x,aas,aks⟩ ⟨y,bbs,bks⟩ = ⟨x,aas,.cons y bbs bks aks⟩ from lnk_ge hv];exact link_false mo c m a b x y aas bbs aks bks w hv hm h0 h1 h2 h3 ha hb ka kb
theorem link_any (mo:Option Nat) (c m:Int) (p q:Option Addr) (ta tb:Option Tre) (w:World) (hm:MAt w mo c m) (h0:0 ≤ c) (h1:c < 2305843009213693952) (h2:0 ≤ m) (h3:m < 2305843009213693952)
  (ha:TAt w p ta) (hb:TAt w q tb) (ka:osize ta < 536870912) (kb:osize tb < 536870912) :
  Calls Tryz.prog 175 #[mAddr mo,.pointer p,.pointer q] w (Gave mo (c + lnkN ta tb) (m + lnkN ta tb) (olnk ta tb) w):=by
 cases ta with
 | none =>
  obtain rfl:=ha;refine (link_left mo q w).mono fun e w' ⟨he,hw⟩ => ⟨q,he,?_,?_,?_⟩
  ·rw [hw];exact hb
  ·rw [hw];simpa [lnkN] using hm
  ·rw [hw];exact Bt.refl _ _
 | some ta =>
  obtain ⟨a,rfl,ha⟩:=ha
  cases tb with
  | none =>
   obtain rfl:=hb;refine (link_right mo a w).mono fun e w' ⟨he,hw⟩ => ⟨_,he,?_,?_,?_⟩
   ·rw [hw];exact ⟨a,rfl,ha⟩
   ·rw [hw];simpa [lnkN] using hm
   ·rw [hw];exact Bt.refl _ _
  | some tb =>
   obtain ⟨b,rfl,hb⟩:=hb;exact link_two mo c m a b ta tb w hm h0 h1 h2 h3 ha hb ka kb
end Go.Proofs.YtmeodbjlmjpnbaaGreat.U
namespace Go.Proofs.YtmeodbjlmjpnbaaGreat.U
open Go.Sort Go.RowKit Go.Proofs.YtmeodbjlmjpnbaaGreat.U.Gn
def obeside:Option Tre → List Thing
 | none => []
 | some t => t.bs
theorem beside_any (p:Option Addr) (t:Option Tre) (w:World) (h:TAt w p t) (h1:osize t < 1073741824):Calls Tryz.prog 344 #[.pointer p] w (PutT w.heap.size (obeside t) w):=by
 cases t with
 | none =>
  obtain rfl:=h;go_enter Tryz.func344,Tryz.ntmps344
  go_wp2_with fail
  go_ret
  exact ⟨_,rfl,Mine.none _ _ _,Below.refl _ _⟩
 | some t =>
  obtain ⟨b,rfl,bp,kp,hb, -,hB, -⟩:=h;have c2:=(six hb).c2;have H:=hdz (rowOnto_any w t.bs bp hB w.heap.size (Nat.le_refl _) (.slice none 0 0) [] w (Below.refl _ _) (Nat.le_refl _) (Mine.none _ _ _) (by simp only [osize,Gn.Tre.size] at h1;simp only [List.length_nil];omega));clear hb hB h1;go_enter Tryz.func344,Tryz.ntmps344
  go_wp2_with fail
  ((with_reducible refine H.out.mono ?_);rintro e w1 ⟨v,rfl,hown,hb⟩);have A:=hdz (anz hown hb);clear hown hb H;go_wp2_with fail
  go_ret
  exact ⟨_,rfl,A.out.1,A.out.2⟩
end Go.Proofs.YtmeodbjlmjpnbaaGreat.U
namespace Go.Proofs.YtmeodbjlmjpnbaaGreat.U
open Go.Sort Go.RowKit Go.Proofs.YtmeodbjlmjpnbaaGreat.U.Gn
def ptr1 (p:Option Addr):Value := .pointer p
def KAt (W:World):Wood → List (Option Addr) → Prop
 | .nil,ps => ps = []
 | .cons x bs ks r,ps => ∃ b ps',ps = some ⟨b,0,none⟩ :: ps' ∧ NAt W b ⟨x,bs,ks⟩ ∧ KAt W r ps'
theorem KAt.length {W:World}:∀ {ks:Wood} {ps:List (Option Addr)},KAt W ks ps → ps.length = ks.len
 | .nil,_,h => by rw [h];rfl
 | .cons _ _ _ _,_,⟨_,_,e,_,h⟩ => by rw [e,List.length_cons,h.length];rfl
abbrev OwnP (w:World) (base:Nat) (v:Value) (ps:List (Option Addr)):Prop:=Mine ptr1 297 w base v ps
theorem infoPtr:(Tryz.prog.info? 297).map (fun i => (i.zero,i.size,i.bytes)) = some (some (.pointer none),1,8):=by kernel_rfl
theorem append_ptr (w:World) (base:Nat) (v:Value) (ps:List (Option Addr)) (p:Option Addr) (hown:OwnP w base v ps) (hlen:ps.length < 1073741824) (hb:base ≤ w.heap.size) :
  ∃ v' w',(Builtin.append_ #[390, 390] 390 #[v,.slice (some ⟨w.heap.size,0,none⟩) 1 1]).run Tryz.prog (w.alloc (.cells #[.pointer p] 297)) = .ok v' w' ∧ OwnP w' base v' (ps ++ [p]) ∧
   (w.alloc (.cells #[.pointer p] 297)).grownBy w' v.ownBlock ∧ Below base w w':=by
 obtain ⟨i0,hi,hz0,hz1,hz2⟩:=info_parts infoPtr;have hown':(w.alloc (.cells #[.pointer p] 297)).ownsRow base 297 1 v ps.length (ps.map ptr1):=World.ownsRow.alloc hown _
 obtain ⟨g,c,w',h1,h2,h3, -, -⟩:=run_append_lies (P:=Tryz.prog) (w:=w.alloc (.cells #[.pointer p] 297)) 390 390 base 297 i0 _ 1 8 Tryz.underlying390 hi hz0 hz1 hz2 rfl (by omega)
  _ ps.length (ps.map ptr1) hown' ⟨w.heap.size,0,none⟩ 1 1 [.pointer p] rfl
  (fun j u hu => by
   rw [add_flat];have e1:(w.alloc (.cells #[.pointer p] 297)).heap[w.heap.size]? = some (.cells #[.pointer p] 297 (0,0)):=new_at rfl;unfold World.cell?;rw [e1];simpa using hu) (by intro u hu;simp at hu;subst hu;rfl) (by omega) (by unfold maxLen;omega) (by omega) (by simp;omega) _ rfl
 refine ⟨_,w',h1,?_,h3,below_grown ((Below.refl _ _).alloc hb _) h3 (by simp;omega) (fun g hg => hown.block g hg)⟩;unfold OwnP Mine;rw [List.length_append,List.map_append];exact h2
def PutK (w0:World) (ks:Wood) (base:Nat) (w:World) (e:Ending) (w':World):Prop:=∃ v ps,e = .returned v ∧ KAt w0 ks ps ∧ OwnP w' base v ps ∧ Below base w w'
theorem KAt.put {W:World}:∀ {pre:List (Option Addr)} {ks rest:Wood} {x:Thing} {bs:List Thing} {b:Nat} {aks:Wood},(∀ qs,KAt W (.cons x bs ks rest) qs → KAt W aks (pre ++ qs)) → NAt W b ⟨x,bs,ks⟩ → ∀ qs,KAt W rest qs → KAt W aks ((pre ++ [some ⟨b,0,none⟩]) ++ qs) :=
 fun h hn qs hq => by rw [List.append_assoc];exact h _ ⟨_,qs,rfl,hn,hq⟩
theorem rowTrees_any (w:World) (ks:Wood) (p:Option Addr) (hp:WAt w ks p) (hl:ks.size < 1073741824) :
  Calls Tryz.prog 347 #[.pointer p,.slice none 0 0] w (PutK w ks w.heap.size w):=by
 have hlen:=ks.len_le;go_enter Tryz.func347,Tryz.ntmps347
 go_wp2_with fail
 have H:=hdz (anz hp (anz hl hlen));clear hp hl hlen;go_loopg [0,1] ks.len (fun k c u wr => ∃ (pre:List (Option Addr)) (rest:Wood) (q:Option Addr),c = .pointer q ∧ pre.length + rest.len = ks.len ∧ k = rest.len ∧ WAt w rest q ∧ (∀ qs,KAt w rest qs → KAt w ks (pre ++ qs)) ∧ OwnP wr w.heap.size u pre ∧ Below w.heap.size w wr)
 case atStart => exact ⟨[],ks,p,rfl,by simp,rfl,H.out.1,fun qs h => h,Mine.none _ _ _,Below.refl _ _⟩
 case round =>
  obtain ⟨pre,rest,q,rfl,hx,hk,hr,hq,hown,hbe⟩:=hrel
  cases rest with
  | nil =>
   obtain rfl:=hr;have A:=hdz (anz hq (anz hown hbe));clear hx hown hbe hk hq;go_wp2_with fail
   go_ret
   obtain ⟨hq,hown,hbe⟩:=A.out;exact ⟨_,pre,rfl,by simpa using hq [] rfl,hown,hbe⟩
  | cons y cs cks rest =>
   obtain ⟨c,bk,q',bp',kp',rfl,hc,hbk,hx1,h1,h2,h3⟩:=hr;have hc1:=(hbe.block c (lt_of_heap hc)).trans hc;have c0:wr.cell? ⟨c,0,none⟩ = some (.pointer (some ⟨bk,0,none⟩)):=by simp [World.cell?,hc1]
   obtain ⟨u',w2,hrun,hown2, -,hb2⟩:=append_ptr wr w.heap.size _ pre (some ⟨bk,0,none⟩) hown (by have:=H.out.2;simp only [Gn.Wood.len] at hx;omega) hbe.size;have hc2:=((hbe.trans hb2).block c (lt_of_heap hc)).trans hc;have c1:w2.cell? ⟨c,1,none⟩ = some (.pointer q'):=by simp [World.cell?,hc2]
   have A:=hdz (anz hx (anz hown2 (anz (hbe.trans hb2) (anz h3 (anz hk (KAt.put hq ⟨bp',kp',hbk,hx1,h1,h2⟩))))));clear hx hown hbe hown2 hb2 hc hc1 hc2 hbk hx1 h1 h2 h3 hk hq;go_wp2_with (at_builtin;refine wpList_append_run rfl _ _ _ rfl _ _ _ _ rfl rfl hrun ?_)
   obtain ⟨hx,hown2,hbe,h3,hk,hq⟩:=A.out;go_roundg rest.len
   case measure => rw [hk];simp [Gn.Wood.len]
   case rel => exact ⟨pre ++ [some ⟨bk,0,none⟩],rest,q',rfl,by simp only [Gn.Wood.len] at hx;simp;omega,rfl,h3,hq,hown2,hbe⟩
def okids:Option Tre → Wood
 | none => .nil
 | some t => t.ks
theorem kids_any (p:Option Addr) (t:Option Tre) (w:World) (h:TAt w p t) (h1:osize t < 1073741824):Calls Tryz.prog 343 #[.pointer p] w (PutK w (okids t) w.heap.size w):=by
 cases t with
 | none =>
  obtain rfl:=h;go_enter Tryz.func343,Tryz.ntmps343
  go_wp2_with fail
  go_ret
  exact ⟨_,[],rfl,rfl,Mine.none _ _ _,Below.refl _ _⟩
 | some t =>
  obtain ⟨b,rfl,bp,kp,hb, -, -,hK⟩:=h;have c4:=(six hb).c4;have H:=hdz (rowTrees_any w t.ks kp hK (by simp only [osize,Gn.Tre.size] at h1;omega));clear hb hK h1;go_enter Tryz.func343,Tryz.ntmps343
  go_wp2_with fail
  ((with_reducible refine H.out.mono ?_);rintro e w1 ⟨v,ps,rfl,hk,hown,hb⟩);have A:=hdz (anz hk (anz hown hb));clear hk hown hb H;go_wp2_with fail
  go_ret
  exact ⟨_,ps,rfl,A.out.1,A.out.2.1,A.out.2.2⟩
end Go.Proofs.YtmeodbjlmjpnbaaGreat.U
namespace Go.Proofs.YtmeodbjlmjpnbaaGreat.U
open Go.Sort Go.RowKit Go.Proofs.YtmeodbjlmjpnbaaGreat.U.Gn
theorem tree_kp {W W':World} {b:Nat} {x:Thing} {bp kp:Option Addr} {r o:Int} (h:W.heap[b]? = some (treeObj x bp r kp o)) (hk:Kp W W'):W'.heap[b]? = some (treeObj x bp r kp o):=hk b _ _ (.inl rfl) h
theorem skew_none (mo:Option Nat) (c m:Int) (y:Thing) (w:World) (hy:KeyC w y) (hm:MAt w mo c m) (h2:0 ≤ m) (h3:m < 1152921504606846976) :
  Calls Tryz.prog 164 #[mAddr mo,hv y,.pointer none,.pointer none] w (Gave mo c (m + 1) (some (leafT y)) w):=by
 have HY:=hdz hy;have HM:=hdz hm;clear hm hy;go_enter Tryz.func164,Tryz.ntmps164
 go_wp2_with fail
 ((with_reducible refine (link_left mo none _).mono ?_);rintro e w1 ⟨rfl,rfl⟩);go_wp2_with fail
 ((with_reducible refine (leaf_any mo c m y _ HY.out HM.out h2 (by omega)).mono ?_);rintro e w1 ⟨p,rfl,ht,hm1,hb1⟩);have H:=hdz (anz ht (anz hm1 hb1));clear ht hm1 hb1;go_wp2_with fail
 go_ret
 exact ⟨_,rfl,H.out.1,H.out.2.1,H.out.2.2⟩
theorem skew_true (mo:Option Nat) (c m:Int) (y:Thing) (p q:Option Addr) (ta tb:Option Tre) (x:Thing) (bs:List Thing) (ks:Wood) (ht:olnk ta tb = some ⟨x,bs,ks⟩) (w:World) (hy:KeyC w y) (hm:MAt w mo c m) (h0:0 ≤ c) (h1:c < 1152921504606846976) (h2:0 ≤ m) (h3:m < 1152921504606846976)
  (ha:TAt w p ta) (hb:TAt w q tb) (ka:osize ta < 268435456) (kb:osize tb < 268435456) (hv:ltE x.key y.key = true) :
  Calls Tryz.prog 164 #[mAddr mo,.pointer (some ⟨y.a,0,none⟩),.pointer p,.pointer q] w (Gave mo (c + lnkN ta tb + 1) (m + lnkN ta tb + 1) (some ⟨x,y :: bs,ks⟩) w):=by
 have hsz:1 + bs.length + ks.size < 536870912:=by have:=olnk_size ta tb;rw [ht] at this;simp only [osize,Gn.Tre.size] at this ka kb;omega
 have hN:(lnkN ta tb:Int) ≤ 1 ∧ 0 ≤ (lnkN ta tb:Int):=by cases ta <;> cases tb <;> simp [lnkN]
 have HLink:=hdz (fun W (h:MAt W mo c m) ha hb => link_any mo c m p q ta tb W h h0 (by omega) h2 (by omega) ha hb (by omega) (by omega));generalize (lnkN ta tb:Int) = n at *;rw [ht] at HLink;have HM:=hdz hm;have HT:=hdz (anz ha hb);have HV:=hdz hv;have HS:=hdz hsz;have HY:=hdz hy;clear hm ha hb hv hsz hy ht ka kb;go_enter Tryz.func164,Tryz.ntmps164
 go_wp2_with fail
 ((with_reducible refine (HLink.out w HM.out HT.out.1 HT.out.2).mono ?_);rintro e w1 ⟨pt,rfl,⟨t,rfl,tbp,tkp,hh,hhx,hhb,hhk⟩,hm1,hb1⟩);have K1:=hdz ((Tkk.refl HM.out).turn hm1 hb1);have HH:=hdz hh;have HL:=hdz (anz hhb (anz hhk (anz hhx (HY.out.kp (hb1.kpt HM.out tree_ne)))));have c0:=(six_kp hh (Kpt.refl w1)).c0;clear hh hhx hhb hhk HY hm1 hb1 HM HT HLink;go_wp2_with fail
 go_region
 have K2:=hdz K1.out.drew;have kk:=Kp.below ((Below.refl w1.heap.size w1).drew);have HH2:=hdz (tree_kp HH.out kk);have HL2:=hdz (anz (HL.out.1.kp kk) (anz (HL.out.2.1.kp kk) (anz (HL.out.2.2.1.kp kk) (HL.out.2.2.2.kp kk))));clear c0 kk HH HL K1;generalize w1.drew = w2 at *;have c0:=(six_kp HH2.out (Kpt.refl w2)).c0;go_wp2_with fail
 ((with_reducible refine (key_any x w2 HL2.out.2.2.1).mono ?_);rintro e w3 ⟨rfl,hb3⟩);have K3:=hdz (anz (K2.out.stay hb3) (Kp.below hb3));clear hb3 c0;go_wp2_with fail
 ((with_reducible refine (key_any y w3 (HL2.out.2.2.2.kp K3.out.2)).mono ?_);rintro e w4 ⟨rfl,hb4⟩);have K4:=hdz (anz (K3.out.1.stay hb4) (K3.out.2.trans (Kp.below hb4)));clear hb4 K2 K3;go_wp2_with fail
 ((with_reducible refine (mLess mo (c + n) (m + n) x.key y.key w4 K4.out.1.mt (by omega) (by omega)).mono ?_);rintro e w5 ⟨rfl,hm5,hb5⟩);rw [HV.out];have K5:=hdz (anz (K4.out.1.turn hm5 hb5) (K4.out.2.trans (hb5.kpt K4.out.1.mt tree_ne)));have c0:=(six_kp HH2.out K5.out.2).c0;clear hm5 hb5 K4;go_wp2_with fail
 ((with_reducible refine (mMade mo (c + n + 1) (m + n) w5 K5.out.1.mt (by omega) (by omega)).mono ?_);rintro e w6 ⟨rfl,hm6,hb6⟩);have K6:=hdz (anz (K5.out.1.turn hm6 hb6) (K5.out.2.trans (hb6.kpt K5.out.1.mt tree_ne)));clear hm6 hb6 K5 c0;have s6:=six_kp HH2.out K6.out.2;have c2:=s6.c2;have c3:=s6.c3;have c4:=s6.c4;have c5:=s6.c5;clear s6;go_wp2_with fail
 go_region_held3 (fun w' => w'.cell? ⟨t,1,none⟩ = some (.pointer tbp) ∧ w'.cell? ⟨t,2,none⟩ = some (.int .i64 (ks.len:Int)) ∧ w'.cell? ⟨t,3,none⟩ = some (.pointer tkp) ∧ w'.cell? ⟨t,4,none⟩ = some (.int .i64 (bs.length + ks.size:Nat))) (go_keep)
  (first | (go_at_call 177;((with_reducible refine (pushE_any y tbp _).mono ?_);rintro e w8 ⟨nb,rfl,hn8,hb8⟩;have T8:=hdz (K6.out.1.drew.stay hb8);have P8:=hdz hn8;have K8:=hdz (K6.out.2.trans (Kpt.trans (Kp.below (Below.refl _ w6).drew) (Kp.below hb8)));have s6:=six_kp HH2.out K8.out;have f2:=s6.c2;have f3:=s6.c3;have f4:=s6.c4;have f5:=s6.c5;clear hb8 hn8 s6)))
 clear c2 c3 c4 c5 f2 f3 f4 f5;go_wp2_with fail
 go_ret
 have hs:=HS.out;have e2:IntKind.i64.wrap (((bs.length:Int) + ks.size) + 1) = ((y :: bs).length + ks.size:Nat):=by rw [IntKind.wrap_i64];simp only [List.length_cons];omega
 rw [e2];have hk:=(T8.out.alloc (treeObj x (some ⟨nb,0,none⟩) (ks.len:Int) tkp ((y :: bs).length + ks.size:Nat)));have hk8:=K8.out.trans (Kp.below ((Below.refl _ w8).alloc (Nat.le_refl _) (treeObj x (some ⟨nb,0,none⟩) (ks.len:Int) tkp ((y :: bs).length + ks.size:Nat))));refine ⟨_,rfl,⟨w8.heap.size,rfl,some ⟨nb,0,none⟩,tkp,new_at rfl,HL2.out.2.2.1.kp hk8,⟨nb,tbp,rfl,?_,HL2.out.2.2.2.kp hk8,HL2.out.1.kp hk8⟩,HL2.out.2.1.kp hk8⟩,hk.mt,hk.bt⟩;exact (Kp.below ((Below.refl _ w8).alloc (Nat.le_refl _) _)) _ _ _ (.inr (.inl rfl)) P8.out
theorem skew_false (mo:Option Nat) (c m:Int) (y:Thing) (p q:Option Addr) (ta tb:Option Tre) (x:Thing) (bs:List Thing) (ks:Wood) (ht:olnk ta tb = some ⟨x,bs,ks⟩) (w:World) (hy:KeyC w y) (hm:MAt w mo c m) (h0:0 ≤ c) (h1:c < 1152921504606846976) (h2:0 ≤ m) (h3:m < 1152921504606846976)
  (ha:TAt w p ta) (hb:TAt w q tb) (ka:osize ta < 268435456) (kb:osize tb < 268435456) (hv:ltE x.key y.key = false) :
  Calls Tryz.prog 164 #[mAddr mo,.pointer (some ⟨y.a,0,none⟩),.pointer p,.pointer q] w (Gave mo (c + lnkN ta tb + 1) (m + lnkN ta tb + 1) (some ⟨y,x :: bs,ks⟩) w):=by
 have hsz:1 + bs.length + ks.size < 536870912:=by have:=olnk_size ta tb;rw [ht] at this;simp only [osize,Gn.Tre.size] at this ka kb;omega
 have hN:(lnkN ta tb:Int) ≤ 1 ∧ 0 ≤ (lnkN ta tb:Int):=by cases ta <;> cases tb <;> simp [lnkN]
 have HLink:=hdz (fun W (h:MAt W mo c m) ha hb => link_any mo c m p q ta tb W h h0 (by omega) h2 (by omega) ha hb (by omega) (by omega));generalize (lnkN ta tb:Int) = n at *;rw [ht] at HLink;have HM:=hdz hm;have HT:=hdz (anz ha hb);have HV:=hdz hv;have HS:=hdz hsz;have HY:=hdz hy;clear hm ha hb hv hsz hy ht ka kb;go_enter Tryz.func164,Tryz.ntmps164
 go_wp2_with fail
 ((with_reducible refine (HLink.out w HM.out HT.out.1 HT.out.2).mono ?_);rintro e w1 ⟨pt,rfl,⟨t,rfl,tbp,tkp,hh,hhx,hhb,hhk⟩,hm1,hb1⟩);have K1:=hdz ((Tkk.refl HM.out).turn hm1 hb1);have HH:=hdz hh;have HL:=hdz (anz hhb (anz hhk (anz hhx (HY.out.kp (hb1.kpt HM.out tree_ne)))));have c0:=(six_kp hh (Kpt.refl w1)).c0;clear hh hhx hhb hhk HY hm1 hb1 HM HT HLink;go_wp2_with fail
 go_region
 have K2:=hdz K1.out.drew;have kk:=Kp.below ((Below.refl w1.heap.size w1).drew);have HH2:=hdz (tree_kp HH.out kk);have HL2:=hdz (anz (HL.out.1.kp kk) (anz (HL.out.2.1.kp kk) (anz (HL.out.2.2.1.kp kk) (HL.out.2.2.2.kp kk))));clear c0 kk HH HL K1;generalize w1.drew = w2 at *;have c0:=(six_kp HH2.out (Kpt.refl w2)).c0;go_wp2_with fail
 ((with_reducible refine (key_any x w2 HL2.out.2.2.1).mono ?_);rintro e w3 ⟨rfl,hb3⟩);have K3:=hdz (anz (K2.out.stay hb3) (Kp.below hb3));clear hb3 c0;go_wp2_with fail
 ((with_reducible refine (key_any y w3 (HL2.out.2.2.2.kp K3.out.2)).mono ?_);rintro e w4 ⟨rfl,hb4⟩);have K4:=hdz (anz (K3.out.1.stay hb4) (K3.out.2.trans (Kp.below hb4)));clear hb4 K2 K3;go_wp2_with fail
 ((with_reducible refine (mLess mo (c + n) (m + n) x.key y.key w4 K4.out.1.mt (by omega) (by omega)).mono ?_);rintro e w5 ⟨rfl,hm5,hb5⟩);rw [HV.out];have K5:=hdz (anz (K4.out.1.turn hm5 hb5) (K4.out.2.trans (hb5.kpt K4.out.1.mt tree_ne)));have c0:=(six_kp HH2.out K5.out.2).c0;clear hm5 hb5 K4;go_wp2_with fail
 ((with_reducible refine (mMade mo (c + n + 1) (m + n) w5 K5.out.1.mt (by omega) (by omega)).mono ?_);rintro e w6 ⟨rfl,hm6,hb6⟩);have K6:=hdz (anz (K5.out.1.turn hm6 hb6) (K5.out.2.trans (hb6.kpt K5.out.1.mt tree_ne)));clear hm6 hb6 K5 c0;have s6:=six_kp HH2.out K6.out.2;have c2:=s6.c2;have c3:=s6.c3;have c4:=s6.c4;have c5:=s6.c5;clear s6;go_wp2_with fail
 go_region_held3 (fun w' => w'.cell? ⟨t,1,none⟩ = some (.pointer tbp) ∧ w'.cell? ⟨t,2,none⟩ = some (.int .i64 (ks.len:Int)) ∧ w'.cell? ⟨t,3,none⟩ = some (.pointer tkp) ∧ w'.cell? ⟨t,4,none⟩ = some (.int .i64 (bs.length + ks.size:Nat))) (go_keep)
  (first | (go_at_call 177;((with_reducible refine (pushE_any x tbp _).mono ?_);rintro e w8 ⟨nb,rfl,hn8,hb8⟩;have T8:=hdz (K6.out.1.drew.stay hb8);have P8:=hdz hn8;have K8:=hdz (K6.out.2.trans (Kpt.trans (Kp.below (Below.refl _ w6).drew) (Kp.below hb8)));have s6:=six_kp HH2.out K8.out;have f2:=s6.c2;have f3:=s6.c3;have f4:=s6.c4;have f5:=s6.c5;clear hb8 hn8 s6)))
 clear c2 c3 c4 c5 f2 f3 f4 f5;go_wp2_with fail
 go_ret
 have hs:=HS.out;have e2:IntKind.i64.wrap (((bs.length:Int) + ks.size) + 1) = ((x :: bs).length + ks.size:Nat):=by rw [IntKind.wrap_i64];simp only [List.length_cons];omega
 rw [e2];have hk:=(T8.out.alloc (treeObj y (some ⟨nb,0,none⟩) (ks.len:Int) tkp ((x :: bs).length + ks.size:Nat)));have hk8:=K8.out.trans (Kp.below ((Below.refl _ w8).alloc (Nat.le_refl _) (treeObj y (some ⟨nb,0,none⟩) (ks.len:Int) tkp ((x :: bs).length + ks.size:Nat))));refine ⟨_,rfl,⟨w8.heap.size,rfl,some ⟨nb,0,none⟩,tkp,new_at rfl,HL2.out.2.2.2.kp hk8,⟨nb,tbp,rfl,?_,HL2.out.2.2.1.kp hk8,HL2.out.1.kp hk8⟩,HL2.out.2.1.kp hk8⟩,hk.mt,hk.bt⟩;exact (Kp.below ((Below.refl _ w8).alloc (Nat.le_refl _) _)) _ _ _ (.inr (.inl rfl)) P8.out
end Go.Proofs.YtmeodbjlmjpnbaaGreat.U
namespace Go.Proofs.YtmeodbjlmjpnbaaGreat.U
open Go.Sort Go.RowKit Go.Proofs.YtmeodbjlmjpnbaaGreat.U.Gn
def skwN:Option Tre → Option Tre → Nat
 | none,none => 0
 | _,_ => 1
theorem skew_any (mo:Option Nat) (c m:Int) (y:Thing) (p q:Option Addr) (ta tb:Option Tre) (w:World) (hy:KeyC w y) (hm:MAt w mo c m) (h0:0 ≤ c) (h1:c < 1152921504606846976) (h2:0 ≤ m) (h3:m < 1152921504606846976)
  (ha:TAt w p ta) (hb:TAt w q tb) (ka:osize ta < 268435456) (kb:osize tb < 268435456) :
  Calls Tryz.prog 164 #[mAddr mo,hv y,.pointer p,.pointer q] w (Gave mo (c + lnkN ta tb + skwN ta tb) (m + lnkN ta tb + 1) (oskw y ta tb) w):=by
 cases hl:olnk ta tb with
 | none =>
  have hn:ta = none ∧ tb = none:=by cases ta <;> cases tb <;> simp_all [olnk]
  obtain ⟨rfl,rfl⟩:=hn;obtain rfl:=ha;obtain rfl:=hb;have:=skew_none mo c m y w hy hm h2 h3;simpa [lnkN,skwN,oskw,olnk] using this
 | some t =>
  have hn:(skwN ta tb:Int) = 1:=by cases ta <;> cases tb <;> simp_all [olnk,skwN]
  rw [hn];obtain ⟨x,bs,ks⟩:=t;unfold oskw;rw [hl];show Calls Tryz.prog 164 _ w (Gave mo _ _ (some (skw y ⟨x,bs,ks⟩)) w)
  cases hv:ltE x.key y.key with
  | true =>
   rw [show skw y ⟨x,bs,ks⟩ = ⟨x,y :: bs,ks⟩ from skw_lt hv];exact skew_true mo c m y p q ta tb x bs ks hl w hy hm h0 h1 h2 h3 ha hb ka kb hv
  | false =>
   rw [show skw y ⟨x,bs,ks⟩ = ⟨y,x :: bs,ks⟩ from skw_ge hv];exact skew_false mo c m y p q ta tb x bs ks hl w hy hm h0 h1 h2 h3 ha hb ka kb hv
end Go.Proofs.YtmeodbjlmjpnbaaGreat.U
